import PyProof.Rows.All
import Wide.All
import OpenK.AllK
import Wide.FinOn
import HandS.ForMost
import HandS.WideBits
import HandS.Exc
import HandS.ExcInit
import HandS.ExcOwn
import HandS.ExcField
import HandS.ExcIs
import HandS.IsInst
import HandS.Flow
import HandS.Codes
import HandS.Style
import HandS.TryOnly
import HandS.WordsExc
import KE.KExcIs
import HandS.FStr
import PySem.Challenge.RW_farhaul_k45_errors_are_apart
set_option Elab.async false
set_option linter.all false
set_option maxRecDepth 100000
set_option maxHeartbeats 4000000
/-! Operators on numbers that are not negative. -/
namespace NB
open PySem PySem.Spec PyProof.Rows L2
def rNN (g : Nat → Nat → V) : R2 := fun x y H Q => ∃ m n : Nat, x = .int m ∧ y = .int n ∧ Q (g m n) H
def rNNC (C : Nat → Nat → Prop) (g : Nat → Nat → V) : R2 := fun x y H Q => ∃ m n : Nat, x = .int m ∧ y = .int n ∧ C m n ∧ Q (g m n) H
theorem op_of {X : Cx} {f : Value → Value → Sem Value} {r r' : R2} (h : OpR X f r) (k : ∀ x y H Q, r' x y H Q → r x y H Q) : OpR X f r' := by
  intro pins s σ H x y u v Q I rx ry q
  exact h pins s σ H x y u v Q I rx ry (k _ _ _ _ q)
theorem xor_nn (m n : Nat) : Builtin.bitXor (m : Int) (n : Int) = ((m ^^^ n : Nat) : Int) := by
  rw [Bits.bitXor_pp (Int.natCast_nonneg _) (Int.natCast_nonneg _)]; simp
theorem or_nn (m n : Nat) : Builtin.bitOr (m : Int) (n : Int) = ((m ||| n : Nat) : Int) := by
  rw [Bits.bitOr_pp (Int.natCast_nonneg _) (Int.natCast_nonneg _)]; simp
theorem and_nn (m n : Nat) : Builtin.bitAnd (m : Int) (n : Int) = ((m &&& n : Nat) : Int) := by
  rw [bitAnd_pp (Int.natCast_nonneg _) (Int.natCast_nonneg _)]; simp
theorem shl_nn (m n : Nat) : (m : Int) * 2 ^ (n : Int).toNat = ((2 ^ n * m : Nat) : Int) := by
  rw [Int.toNat_natCast, L2.cast_parts]
theorem shr_nn (m n : Nat) : (m : Int) / 2 ^ (n : Int).toNat = ((m / 2 ^ n : Nat) : Int) := by
  rw [Int.toNat_natCast, Int.natCast_ediv, Int.natCast_pow]; rfl
abbrev rXorN : R2 := rNN fun m n => .int ((m ^^^ n : Nat) : Int)
abbrev rOrN : R2 := rNN fun m n => .int ((m ||| n : Nat) : Int)
abbrev rAndN : R2 := rNN fun m n => .int ((m &&& n : Nat) : Int)
abbrev rShlN : R2 := rNNC (fun m n => m < 2 ^ 64 ∧ n ≤ 1000000) fun m n => .int ((2 ^ n * m : Nat) : Int)
abbrev rShrN : R2 := rNN fun m n => .int ((m / 2 ^ n : Nat) : Int)
section
variable {X : Cx}
theorem of_xor {r : R2} (e : ∀ x y H Q, r x y H Q → (rI0 fun i j => .int (Builtin.bitXor i j)) x y H Q) : True := trivial
theorem k_xor : ∀ x y H Q, rXorN x y H Q → (rI0 fun i j => .int (Builtin.bitXor i j)) x y H Q := fun _ _ _ _ ⟨m, n, a, b, q⟩ => ⟨m, n, a, b, by show _; dsimp only; rw [xor_nn]; exact q⟩
theorem k_or : ∀ x y H Q, rOrN x y H Q → (rI0 fun i j => .int (Builtin.bitOr i j)) x y H Q := fun _ _ _ _ ⟨m, n, a, b, q⟩ => ⟨m, n, a, b, by dsimp only; rw [or_nn]; exact q⟩
theorem k_and : ∀ x y H Q, rAndN x y H Q → (rI0 fun i j => .int (Builtin.bitAnd i j)) x y H Q := fun _ _ _ _ ⟨m, n, a, b, q⟩ => ⟨m, n, a, b, by dsimp only; rw [and_nn]; exact q⟩
theorem k_shl : ∀ x y H Q, rShlN x y H Q → (rI CPow fun i j => .int (i * 2 ^ j.toNat)) x y H Q := fun _ _ _ _ ⟨m, n, a, b, ⟨c1, c2⟩, q⟩ =>
  ⟨m, n, a, b, ⟨by omega, by omega, by simpa using c1⟩, by dsimp only; rw [shl_nn]; exact q⟩
theorem k_shr : ∀ x y H Q, rShrN x y H Q → (rI (fun _ j => 0 ≤ j) fun i j => .int (i / 2 ^ j.toNat)) x y H Q := fun _ _ _ _ ⟨m, n, a, b, q⟩ =>
  ⟨m, n, a, b, by omega, by dsimp only; rw [shr_nn]; exact q⟩
theorem nb_xor : OpR X (binaryOp .BitXor) rXorN := op_of op_xor k_xor
theorem nb_or : OpR X (binaryOp .BitOr) rOrN := op_of op_or k_or
theorem nb_and : OpR X (binaryOp .BitAnd) rAndN := op_of op_and k_and
theorem nb_shl : OpR X (binaryOp .LShift) rShlN := op_of op_shl k_shl
theorem nb_shr : OpR X (binaryOp .RShift) rShrN := op_of op_shr k_shr
theorem nbi_xor : PIp X .BitXor rXorN := op_of iop_xor k_xor
theorem nbi_or : PIp X .BitOr rOrN := op_of iop_or k_or
theorem nbi_shr : PIp X .RShift rShrN := op_of iop_shr k_shr
/-- bit_length -/
def tBitsN (to : TE) : TE := fun σ H Q => to σ H fun x H1 => ∃ m : Nat, x = .int m ∧ Q (.int ((if m = 0 then 0 else m.log2 + 1 : Nat) : Int)) H1
theorem pe_of {e : Expr} {t t' : TE} (h : PE X e t) (k : ∀ σ H Q, t' σ H Q → t σ H Q) : PE X e t' := ⟨fun pins s σ H Q I q => h.run pins s σ H Q I (k σ H Q q)⟩
end


end NB
namespace NB
open PySem PySem.Spec PyProof.Rows L2
/-- the number of bits -/
def bits (m : Nat) : Nat := if m = 0 then 0 else m.log2 + 1
theorem intBits_nat (m : Nat) : Builtin.Int.intBits (m : Int) = bits m := by
  unfold Builtin.Int.intBits bits
  by_cases h : m = 0
  · subst h; rfl
  · have : ¬ ((m : Int) == 0) = true := by simp; omega
    rw [if_neg this, if_neg h]; simp
section
variable {X : Cx}
def tBitsM (to : TE) : TE := fun σ H Q => to σ H fun x H1 => ∃ m : Nat, x = .int m ∧ Q (.int ((bits m : Nat) : Int)) H1
theorem TE.mono_id {t : TE} {σ : L2.St} {H : Hp} {Q Q' : VK} (e : Q = Q') (h : t σ H Q) : t σ H Q' := e ▸ h
end
/-! numbers written in the text -/
theorem pe_nat {X : Cx} (n : Nat) {j pos} {i : Int} (h : i = (n : Int) := by rfl) : PE X (.Constant (.int i) j pos) (tC (.int (n : Int))) := by subst h; exact pe_int
def rLtN : R2 := rNN fun m n => .bl (decide (m < n))
/-- a for over range(n), n a number that is not negative -/
theorem for_rangeN {lo n : Nat} {g : TG} {tb : TS} {D : Ends} {σ : L2.St} {H : Hp} (Pv : Nat → L2.St → Hp → Prop) (h0 : Pv 0 σ H)
    (hs : ∀ i σ H, i < n → Pv i σ H → g (.int ((lo + i : Nat) : Int)) σ H fun σ2 H2 => tb { D with nx := Pv (i + 1), ct := Pv (i + 1), bk := D.nx } σ2 H2) (hd : ∀ σ H, Pv n σ H → D.nx σ H) :
    ∃ W : Nat → Nat → L2.St → Hp → Prop, (∃ m, W 0 m σ H) ∧ ∀ i m σ H, W i m σ H →
      ((Itr (lo : Int) n).stop i H ∧ D.nx σ H) ∨ ((Itr (lo : Int) n).go i H ∧ ∃ N : L2.St → Hp → Prop, (∀ σ' H', N σ' H' → ∃ m', m' < m ∧ W (i + 1) m' σ' H') ∧ ∀ x H', (Itr (lo : Int) n).yld i H x H' → g x σ H' fun σ2 H2 => tb { D with nx := N, ct := N, bk := D.nx } σ2 H2) :=
  for_range (lo := (lo : Int)) (n := n) Pv h0 (fun i σ H hi p => by
    have e : ((lo : Int) + (i : Int)) = ((lo + i : Nat) : Int) := by omega
    rw [e]
    exact hs i σ H hi p) hd
end NB
namespace NB
open PySem PySem.Spec PyProof.Rows L2
section
variable {X : Cx}
theorem nb_add : OpR X (binaryOp .Add) (rNN fun m n => .int ((m + n : Nat) : Int)) := op_of op_add fun _ _ _ _ ⟨m, n, a, b, q⟩ => ⟨m, n, a, b, by dsimp only; rw [← Int.natCast_add]; exact q⟩
theorem nbi_add : PIp X .Add (rNN fun m n => .int ((m + n : Nat) : Int)) := op_of iop_add fun _ _ _ _ ⟨m, n, a, b, q⟩ => ⟨m, n, a, b, by dsimp only; rw [← Int.natCast_add]; exact q⟩
theorem nb_sub : OpR X (binaryOp .Sub) (rNNC (fun m n => n ≤ m) fun m n => .int ((m - n : Nat) : Int)) := op_of op_sub fun _ _ _ _ ⟨m, n, a, b, c, q⟩ => ⟨m, n, a, b, by dsimp only; rw [← Int.natCast_sub c]; exact q⟩
theorem nb_mul : OpR X (binaryOp .Mult) (rNNC (fun m n => m < 2 ^ 64 ∨ n < 2 ^ 64) fun m n => .int ((m * n : Nat) : Int)) := op_of op_mul fun _ _ _ _ ⟨m, n, a, b, c, q⟩ => ⟨m, n, a, b, by
  rcases c with c | c
  · exact .inl ⟨by omega, by omega⟩
  · exact .inr ⟨by omega, by omega⟩, by dsimp only; rw [← Int.natCast_mul]; exact q⟩
theorem nb_mod : OpR X (binaryOp .Mod) (rNNC (fun _ n => 0 < n) fun m n => .int ((m % n : Nat) : Int)) := op_of op_mod fun _ _ _ _ ⟨m, n, a, b, c, q⟩ => ⟨m, n, a, b, by omega, by dsimp only; rw [← Int.natCast_emod]; exact q⟩
theorem nb_fdiv : OpR X (binaryOp .FloorDiv) (rNNC (fun _ n => 0 < n ∧ n < 1073741824) fun m n => .int ((m / n : Nat) : Int)) := op_of op_fdiv fun _ _ _ _ ⟨m, n, a, b, c, q⟩ => ⟨m, n, a, b, ⟨by omega, by omega⟩, by dsimp only; rw [← Int.natCast_ediv]; exact q⟩
theorem nb_pow : OpR X (binaryOp .Pow) (rNNC (fun m n => n ≤ 1000000 ∧ m < 2 ^ 64) fun m n => .int ((m ^ n : Nat) : Int)) := op_of op_pow fun _ _ _ _ ⟨m, n, a, b, c, q⟩ => ⟨m, n, a, b, ⟨by omega, by omega, by simpa using c.2⟩, by dsimp only; rw [Int.toNat_natCast, ← Int.natCast_pow]; exact q⟩
/-- an int's rest by a number -/
def rModI : R2 := fun x y H Q => ∃ (i : Int) (n : Nat), x = .int i ∧ y = .int n ∧ 0 < n ∧ Q (.int (((i % (n : Int)).toNat : Nat) : Int)) H
theorem nb_modI : OpR X (binaryOp .Mod) rModI := op_of op_mod fun _ _ _ _ ⟨m, n, a, b, c, q⟩ => ⟨m, n, a, b, by omega, by dsimp only; rw [Int.toNat_of_nonneg (Int.emod_nonneg _ (by omega))] at q; exact q⟩
theorem call_absN : CallR X (.builtin "abs") (fun xs H Q => ∃ i : Int, xs = [.int i] ∧ Q (.int ((i.natAbs : Nat) : Int)) H) := by
  intro pins s σ H xs us Q I r ⟨i, e, q⟩
  refine call_abs pins s σ H xs us Q I r ⟨i, e, ?_⟩
  have : (if i < 0 then -i else i) = ((i.natAbs : Nat) : Int) := by split <;> omega
  rw [this]; exact q
end
/-! ### lists of numbers -/
def NL (ns : List Nat) : List V := ns.map fun (n : Nat) => V.int ((n : Nat) : Int)
theorem NL_len (ns : List Nat) : (NL ns).length = ns.length := List.length_map _
theorem NL_get {ns : List Nat} {i n : Nat} (h : ns[i]? = some n) : (NL ns)[i]? = some (.int (n : Int)) := by unfold NL; rw [List.getElem?_map, h]; rfl
theorem NL_set (ns : List Nat) (i n : Nat) : (NL ns).set i (.int (n : Int)) = NL (ns.set i n) := by unfold NL; rw [List.map_set]
theorem NL_app (ns : List Nat) (n : Nat) : NL ns ++ [.int (n : Int)] = NL (ns ++ [n]) := by unfold NL; simp
theorem NL_app2 (ns ms : List Nat) : NL ns ++ NL ms = NL (ns ++ ms) := by unfold NL; simp
theorem NL_nil : NL [] = [] := rfl
theorem NL_cons (n : Nat) (ns : List Nat) : NL (n :: ns) = .int (n : Int) :: NL ns := rfl
theorem NL_at {ns : List Nat} {i : Nat} (h : i < ns.length) : atI (NL ns) (i : Int) = some (.int ((ns[i] : Nat) : Int)) := atI_nat (NL_get (List.getElem?_eq_getElem h))
theorem NL_at0 {ns : List Nat} {i n : Nat} (h : ns[i]? = some n) : atI (NL ns) (i : Int) = some (.int (n : Int)) := atI_nat (NL_get h)
theorem ixN_nat {n j : Nat} (h : j < n) : ixN n (j : Int) = some j := by
  unfold ixN
  rw [if_pos (by omega), if_pos (by omega)]; simp
theorem cut_to (xs : List V) (k : Nat) : cutV xs none (some (k : Int)) = xs.take k := by
  unfold cutV
  have e : HT.sIx xs.length 0 none = 0 := by rfl
  rw [e, HT.sIx_nat, List.drop_zero, Nat.sub_zero]
  by_cases h : k ≤ xs.length
  · rw [Nat.min_eq_left h]
  · rw [Nat.min_eq_right (by omega), List.take_of_length_le (by omega), List.take_of_length_le (by omega)]
theorem cut_last (xs : List V) : cutV xs none (some (-1)) = xs.dropLast := by
  unfold cutV
  have e : HT.sIx xs.length 0 none = 0 := by rfl
  have e2 : HT.sIx xs.length xs.length (some (-1)) = xs.length - 1 := by
    show (if (-1 : Int) < 0 then ((-1 : Int) + (xs.length : Int)).toNat else min (-1 : Int).toNat xs.length) = _
    rw [if_pos (by decide)]; omega
  rw [e, e2, List.drop_zero, List.dropLast_eq_take]
  rfl
end NB

namespace NB
open PySem PySem.Spec L2
/-- a def of the text: where it stands, how its arguments bind -/
structure Df (K : PySem.W.Frag) (mg : Str → Option Value) (x : Str) (ps : List Str) (st : Stmt) (f : Addr) (fd : FuncData) : Prop where
  F : Fun K x x st f fd
  g : mg x = some (.ref f)
  b : Binds K fd ps []
/-- built-in names that the top leaves alone -/
structure Bl (mg : Str → Option Value) : Prop where
  range : mg "range" = none
  len : mg "len" = none
  abs : mg "abs" = none
  int : mg "int" = none
  max : mg "max" = none
  min : mg "min" = none
  sum : mg "sum" = none
  list : mg "list" = none
  isinstance : mg "isinstance" = none
  enumerate : mg "enumerate" = none
  zip : mg "zip" = none
  reversed : mg "reversed" = none
  any : mg "any" = none
  all : mg "all" = none
  ValueError : mg "ValueError" = none
theorem iteD {c A B : Prop} [Decidable c] (h1 : c → A) (h2 : ¬ c → B) : if decide c = true then A else B := by
  by_cases h : c
  · rw [if_pos (decide_eq_true h)]; exact h1 h
  · rw [if_neg (by rw [decide_eq_false h]; exact Bool.false_ne_true)]; exact h2 h
theorem iteN {c A B : Prop} [Decidable c] (h1 : ¬ c → A) (h2 : c → B) : if (!decide c) = true then A else B := by
  by_cases h : c
  · rw [decide_eq_true h]; exact iteF (h2 h)
  · rw [decide_eq_false h]; exact iteT (h1 h)
theorem iteY {c A B : Prop} [Decidable c] (hc : c) (h : A) : if decide c = true then A else B := by rw [if_pos (decide_eq_true hc)]; exact h
theorem iteX {c A B : Prop} [Decidable c] (hc : ¬ c) (h : B) : if decide c = true then A else B := by rw [decide_eq_false hc]; exact iteF h
theorem iteB {b : Bool} {A B : Prop} (h1 : b = true → A) (h2 : b = false → B) : if b = true then A else B := by
  cases b with
  | true => exact iteT (h1 rfl)
  | false => exact iteF (h2 rfl)
/-- the truth of a number -/
theorem iteZ {n : Nat} {A B : Prop} (h1 : n ≠ 0 → A) (h2 : n = 0 → B) : if (((n : Nat) : Int) != 0) = true then A else B := by
  by_cases h : n = 0
  · subst h; exact iteF (h2 rfl)
  · have : (((n : Nat) : Int) != 0) = true := by simp; omega
    rw [if_pos this]; exact h1 h
theorem same_upd {H : Hp} {p : Addr} {o : HO} (h : H p = none) : Same H (upd H p o) := fun b u e => by rw [upd_ne (ne_of_none e h)]; exact e
theorem same_upd2 {H H' : Hp} {p : Addr} {o : HO} (e : Same H H') (h : H p = none) : Same H (upd H' p o) := fun b u ha => by rw [upd_ne (ne_of_none ha h)]; exact e b u ha
theorem same_new {H H' : Hp} {p : Addr} {o : HO} (e : Same H H') (h : H' p = none) : Same H (upd H' p o) := same_upd2 e (e.free h)
end NB
namespace NB
open PySem PySem.Spec L2
/-- a comprehension over range(lo, ..) of numbers -/
theorem lc_rangeN {lo n : Nat} {g : TG} {tt : TT} {te : TE} {vs : List Nat} {σ : L2.St} {H1 : Hp} {D : Addr} {Qd : Hp → Prop} (Pv : Nat → Hp → Prop) (h0 : Pv 0 (upd H1 D (.lst [])))
    (hs : ∀ i H, i < n → Pv i H → g (.int ((lo + i : Nat) : Int)) (wipe σ vs) H fun σ2 H2 => wipe σ2 vs = wipe σ vs ∧ tt σ2 H2 fun b H3 =>
      if b = true then te σ2 H3 fun y H4 => ∃ acc, H4 D = some (.lst acc) ∧ acc.length < sizeLine ∧ Pv (i + 1) (upd H4 D (.lst (acc ++ [y]))) else Pv (i + 1) H3) (hd : ∀ H, Pv n H → Qd H) :
    ∃ W : Nat → Nat → Hp → Prop, (∃ m, W 0 m (upd H1 D (.lst []))) ∧ ∀ i m H, W i m H →
      ((Itr (lo : Int) n).stop i H ∧ Qd H) ∨ ((Itr (lo : Int) n).go i H ∧ ∃ Nx : Hp → Prop, (∀ H', Nx H' → ∃ m', m' < m ∧ W (i + 1) m' H') ∧ ∀ x H', (Itr (lo : Int) n).yld i H x H' → g x (wipe σ vs) H' fun σ2 H2 => wipe σ2 vs = wipe σ vs ∧ tt σ2 H2 fun b H3 =>
        if b = true then te σ2 H3 fun y H4 => ∃ acc, H4 D = some (.lst acc) ∧ acc.length < sizeLine ∧ Nx (upd H4 D (.lst (acc ++ [y]))) else Nx H3) :=
  lc_range (lo := (lo : Int)) (n := n) Pv h0 (fun i H hi p => by
    have e : ((lo : Int) + (i : Int)) = ((lo + i : Nat) : Int) := by omega
    rw [e]
    exact hs i H hi p) hd
end NB
/-! Errors of the program: one class with an __init__, the others below it. -/
namespace ER
open PySem PySem.Spec PyProof.Rows L2 NB
/-- what the top says of an error class, named x, at C; its __init__ is the function at fI -/
structure XC (K : PySem.W.Frag) (mg : Str → Option Value) (x : Str) (C fI CH : Addr) : Prop where
  oex : OexC K C
  ga : PySem.W.findIn K (.ref C) "__getattribute__" = some (some (.builtin "BaseException.__getattribute__"))
  gg : PySem.W.findIn K (.ref C) "__getattr__" = some none
  hd : PySem.W.hasDictIn K C = true
  cl : PySem.W.findIn K (.ref C) "__class__" = some (some (.builtin "object.__class__"))
  sp : PySem.W.specialIn K (.builtin "object.__class__") "__get__" = some (some (.builtin "getset_descriptor.__get__"))
  tk : PySem.W.takesIn K (.builtin "object.__class__") = some true
  mo : PySem.W.mroIn K C (.type "object") = some true
  no : PySem.W.findIn K (.ref C) "at" = some none
  g : mg x = some (.ref C)
  iC : PySem.W.findIn K (.ref C) "__init__" = some (some (.ref fI))
  tI : PySem.W.typeIn K (.ref fI) = some (.type "function")
  te : PySem.W.exmOne K (.ref C) (.ref CH) = some true
def sp_init (K : PySem.W.Frag) : Sp := fun vs H Q _ => ∃ (a C : Addr) (i : Int), vs = [.ref a, .int i] ∧ (∃ mg x fI CH, XC K mg x C fI CH) ∧ H a = some (exo a C none) ∧ i.natAbs.log2 < 1920 ∧
  ∀ dx, H dx = none → dx ≠ a → Q .non (upd (upd H dx (exd dx [("at", .int i)])) a (exo a C (some dx)))
theorem len_app (a b : Str) : (a ++ b).length = a.length + b.length := by
  show (⟨a.cps ++ b.cps⟩ : Str).cps.size = _
  simp [Array.size_append]; rfl
theorem upd_raise {H : Hp} {a d C : Addr} {fs : List (Str × V)} {o : HO} (ha : H a = none) (hd : H d = none) (n : d ≠ a) :
    upd (L2.del (upd (upd (upd H a (exo a C none)) d (exd d fs)) a (exo a C (some d))) a) d o = upd H d o := by
  funext b
  by_cases h1 : b = d
  · subst h1; rw [upd_same, upd_same]
  · rw [upd_ne h1, upd_ne h1]
    by_cases h2 : b = a
    · subst h2; rw [del_same, ha]
    · rw [del_ne h2, upd_ne h2, upd_ne h1, upd_ne h2]
/-- raise x(e) -/
def tRaise (C : Addr) (W : WX) (ta : TA) : TS := fun _ σ H => ta σ H fun vs H1 => ∃ i : Int, vs = [.int i] ∧ i.natAbs.log2 < 1920 ∧ ∀ d, H1 d = none → W (.ref C) (some d) σ (upd H1 d (.xd [("at", .int i)]))
theorem ps_of {X : Cx} {st : Stmt} {t t' : TS} (h : PS X st t) (k : ∀ D σ H, t' D σ H → t D σ H) : PS X st t' := ⟨fun pins s σ H D I q => h.run pins s σ H D I (k D σ H q)⟩
def tMono (ta : TA) : TA := fun σ H Q => ∃ R : List V → Hp → Prop, ta σ H R ∧ ∀ vs H1, R vs H1 → Q vs H1
theorem pa_mono {X : Cx} {es : List Expr} {ta : TA} (h : PA X es ta) : PA X es (tMono ta) := ⟨fun pos pins s σ H Q I ⟨R, q, k⟩ =>
  thn (h.run pos pins s σ H R I q) fun us s1 ⟨vs, H1, I1, r, q1⟩ => ⟨vs, H1, I1, r, k _ _ q1⟩⟩
theorem ps_err {X : Cx} {CX : CXT} {x : Str} {C fI CH : Addr} {k : Nat} {fd : FuncData} {e : Expr} {ta : TA} {W : WX} {p pos pos2 : Pos} (hc : X.calm = true) (T : XC X.K X.mg x C fI CH)
    (G : FnOk X.prog X.w X.K X.mg X.base CX k fI fd ["self", "at"] (sp_init X.K)) (hr : Room (k + 1) X.A) (hb : Binds X.K fd ["self", "at"] []) (hx : Passes CX X (fun _ _ _ => False)) (tk : Takes X W) (ha : PA X [e] ta) (hg : Gl X x := by rfl)
    (hdb : (x == ("__debug__" : Str)) = false := by decide) (he : starEach (e :: []) X.env = (false, eval e X.env) :: starEach [] X.env := by rfl) (hpl : (backTo pos (starEach [] X.env)).any (·.1) = false := by rfl) :
    PS X (.Raise (some (.Call (.Name x p) [e] [] pos)) none pos2) (tRaise C W ta) := by
  refine ps_of (ps_raise hc tk (pmk_oex (dvs := []) T.oex T.iC T.tI G hr hb .nil hx hg T.g (pa_mono ha) hdb he hpl)) fun D σ H q => ?_
  refine ⟨_, q, fun vs H1 ⟨i, ev, hi, k⟩ => ?_⟩
  subst ev
  refine ⟨by simp, fun a na => ?_⟩
  refine ⟨a, C, i, rfl, ⟨_, _, _, _, T⟩, upd_same, hi, fun dx nx ne => ?_⟩
  rw [upd_ne ne] at nx
  refine ⟨rfl, dx, [("at", .int i)], upd_same, ?_, nx, ?_⟩
  · rw [upd_ne ne, upd_same]
  · rw [upd_raise na nx ne]
    exact k dx nx
/-! ### the caught error -/
/-- isinstance(e, c), e the error that the suite holds at a, of the class at D, its dict d -/
def rIsE (K : PySem.W.Frag) (a : Addr) (cls : Value) (d : Option Addr) : List V → Hp → VK → Prop := fun xs H Q => ∃ (D : Addr) (c : V) (cv : Value) (b : Bool) (dd : Addr) (fs : List (Str × V)), xs = [.ref a, c] ∧ cls = .ref D ∧ (∃ mg x fI CH, XC K mg x D fI CH) ∧ d = some dd ∧ H dd = some (.xd fs) ∧
  (∀ u, RelV c u → u = cv) ∧ PySem.W.kitOne K (.ref D) cv = some b ∧ Q (.bl b) H
theorem call_isE {X : Cx} {a : Addr} {oe : Obj} {cls : Value} {d : Option Addr} {pn : List (Addr × Obj)} (hz : Zc cls d oe) (hf : ∃ vs, oe.data = .fields vs) : CallR (X.suite a ((a, oe) :: pn)) (.builtin "isinstance") (rIsE X.K a cls d) := by
  intro pins s σ H xs us Q I r h
  obtain ⟨D, c, cv, b, dd, fs, rfl, rfl, ⟨mg, x, fI, CH, T⟩, rfl, hd, hcv, e, q⟩ := h
  cases r with
  | cons rx rr =>
    cases rr with
    | cons rt rr =>
      cases rr
      cases rx
      have ec := hcv _ rt
      subst ec
      obtain ⟨hget, _⟩ := I.pin (a, oe) (List.mem_append.mpr (.inl List.mem_cons_self))
      obtain ⟨vs, hv⟩ := hf
      have hx : ObjOk X.prog X.w H s.heap dd (.xd fs) := I.hok dd _ hd
      obtain ⟨mA, hns, hrel⟩ := hx
      obtain ⟨od, ho, hl⟩ := lookIn_ns hns
      have J : PySem.W.InstAt s.heap a oe D (some od) := ⟨hget, hz.1, by unfold PySem.W.notCls; rw [hv] <;> rfl, by rw [hz.2]; exact ho⟩
      have hcl : (PySem.W.clsIn X.K D).isSome = true := by
        obtain ⟨nm, q, N, bs, bm, sn, sub, ab, col, dd', k0, k1, k2, k3, k5, hC, hbm⟩ := T.oex.cls
        unfold PySem.W.clsIn; rw [hC] <;> rfl
      exact PySem.W.kia_one (PySem.W.kitx_exc hcl T.ga T.gg T.oex.exC T.cl T.sp T.tk T.mo) I.kIn J e (fun z => nomatch z) fun tk => ⟨.bl b, H, I.kept (t' := tk) fun _ _ z => z, rfl, q⟩
/-- e.at -/
def tAt (K : PySem.W.Frag) (a : Addr) (cls : Value) (d : Option Addr) (te : TE) : TE := fun σ H Q => te σ H fun x H1 => ∃ (C dd : Addr) (i : Int), x = .ref a ∧ cls = .ref C ∧ (∃ mg x fI CH, XC K mg x C fI CH) ∧ d = some dd ∧ H1 dd = some (.xd [("at", .int i)]) ∧ Q (.int i) H1
theorem pe_at {X : Cx} {a : Addr} {oe : Obj} {cls : Value} {d : Option Addr} {pn : List (Addr × Obj)} {e : Expr} {te : TE} {pos : Pos} (hz : Zc cls d oe) (hf : ∃ vs, oe.data = .fields vs) (he : PE (X.suite a ((a, oe) :: pn)) e te)
    (hb : attributeBase e "at" X.env (eval e X.env) = eval e X.env := by rfl) :
    PE (X.suite a ((a, oe) :: pn)) (.Attribute e "at" pos) (tAt X.K a cls d te) := by
  refine ⟨fun pins s σ H Q I h => ?_⟩
  refine attr_of hb (thn (he.run pins s σ H _ I h) fun u s1 hh => ?_)
  obtain ⟨x, H1, I1, rx, C, dd, i, ex, ec, ⟨mg, x', fI, CH, T⟩, ed, ea, q⟩ := hh
  subst ex
  obtain rfl : u = Value.ref a := rx
  subst ec
  subst ed
  obtain ⟨ha, _⟩ := I1.pin (a, oe) (List.mem_append_left _ List.mem_cons_self)
  obtain ⟨vs, hd⟩ := hf
  have hx : ObjOk X.prog X.w H1 s1.heap dd (.xd [("at", .int i)]) := I1.hok dd _ ea
  obtain ⟨mA, hns, hr⟩ := hx
  obtain ⟨od, ho, hl⟩ := lookIn_ns hns
  have l : List.lookup ("at" : Str) [(("at" : Str), V.int i)] = some (V.int i) := by simp [List.lookup]
  obtain ⟨u, hu, ru⟩ := RelO.some_of (v := V.int i) (o := mA "at") (by rw [← l]; exact hr "at")
  have J : PySem.W.InstAt s1.heap a oe C (some od) := ⟨ha, hz.1, by unfold PySem.W.notCls; rw [hd] <;> rfl, by rw [hz.2]; exact ho⟩
  exact HandSPX.exc_get I1.kIn J T.ga T.gg T.oex.exC (PySem.W.findObj_own T.hd T.no rfl (by rw [hl, hu])) (handed_of ru) ⟨V.int i, H1, I1.tok _, ru, q⟩
theorem at_len {i : Int} (hi : i.natAbs.log2 < 1920) : (Str.empty ++ Str.ofString "at " ++ Str.ofString (toString i)).length ≤ sizeLine := by
  have e := int_text_length_le (k := 1920) (by decide) hi
  rw [ER.len_app, ER.len_app, PySem.ofString_length (toString i), sizeLine_eq]
  have h1 : (Str.empty).length = 0 := by rfl
  have h2 : (Str.ofString "at ").length = 3 := by decide +kernel
  omega
/-- try: .. except x as n: .. -/
def tTry (K : PySem.W.Frag) (c : Value) (i : Nat) (tb : WX → TS) (ts : Addr → Value → Option Addr → TS) (Wout : WX) : TS := fun D σ H => tb (wAs K c i ts Wout D) D σ H
theorem ps_tryE {X : Cx} {x n : Str} {c : Value} {i : Nat} {body suite : List Stmt} {b0 : Stmt} {np pos pos' : Pos} {tb : WX → TS} {ts : Addr → Value → Option Addr → TS} {Wout : WX}
    (hs : X.stack = X.env :: X.outer) (hf : X.env.frame = some X.env.locals) (hN : X.N.Nodup) (hi : X.N[i]? = some n) (hln : X.env.kindOf n = some .local) (hc : Names X x c) (tk : Takes X Wout)
    (hb : ∀ (W : WX) (pn : List (Addr × Obj)) (xe : Value → Shared → Prop), Takes (X.tr pn xe) W → PassesOwn (model X.prog X.w) X.A X.env xe → PSs (X.tr pn xe) body (tb W))
    (hsu : ∀ (a : Addr) (oe : Obj) (cls : Value) (d : Option Addr) (pn : List (Addr × Obj)), Zc cls d oe → (∃ vs, oe.data = .fields vs) → PSs (X.suite a ((a, oe) :: pn)) (b0 :: suite) (ts a cls d)) :
    PS X (.Try body [.ExceptHandler (some (.Name x np)) (some n) (b0 :: suite) pos'] [] [] pos) (tTry X.K c i tb ts Wout) := ps_try_as hs hf hN hi hln hc tk hb hsu
end ER
/-! Errors of the program that are held as values: made, their at, isinstance of them. -/
namespace EV
open PySem PySem.Spec PyProof.Rows L2 NB ER
/-- an error of the class at C stands at a; its at is i -/
def EAt (H : Hp) (a C : Addr) (i : Int) : Prop := ∃ dx, H a = some (exo a C (some dx)) ∧ H dx = some (exd dx [("at", .int i)])
theorem EAt.mono {H H' : Hp} {a C : Addr} {i : Int} (h : EAt H a C i) (s : Same H H') : EAt H' a C i := by
  obtain ⟨dx, h1, h2⟩ := h
  exact ⟨dx, s _ _ h1, s _ _ h2⟩
/-- x(e), a value -/
def tExV (C : Addr) (ta : TA) : TE := fun σ H Q => ta σ H fun vs H1 => ∃ i : Int, vs = [.int i] ∧ i.natAbs.log2 < 1920 ∧ ∀ a H2, Same H1 H2 → EAt H2 a C i → Q (.ref a) H2
theorem pe_exV {X : Cx} {CX : CXT} {x : Str} {C fI CH : Addr} {k : Nat} {fd : FuncData} {e : Expr} {ta : TA} {p pos : Pos} (T : XC X.K X.mg x C fI CH)
    (G : FnOk X.prog X.w X.K X.mg X.base CX k fI fd ["self", "at"] (sp_init X.K)) (hr : Room (k + 1) X.A) (hb : Binds X.K fd ["self", "at"] []) (hx : Passes CX X (fun _ _ _ => False)) (ha : PA X [e] ta) (hg : Gl X x := by rfl)
    (hdb : (x == ("__debug__" : Str)) = false := by decide) (he : starEach (e :: []) X.env = (false, eval e X.env) :: starEach [] X.env := by rfl) (hpl : (backTo pos (starEach [] X.env)).any (·.1) = false := by rfl) :
    PE X (.Call (.Name x p) [e] [] pos) (tExV C ta) := by
  refine ⟨fun pins s σ H Q I h => ?_⟩
  obtain ⟨nm, q, N, bs, bm, sn, sub, ab, col, dd, k0, k1, k2, k3, k5, hC, hbm⟩ := T.oex.cls
  refine wpAny_Call_Name_kw (ld_glob I hg T.g ?_ hdb)
  refine PySem.W.callWith_K (h₀ := X.base) I.ok.mod.kin T.oex.kC (thn (ha.run pos pins s σ H _ I h) fun us s1 ⟨vs, H1, I1, r1, i, ev, hi, q1⟩ => ⟨I1.kIn, ?_⟩) he hpl
  subst ev
  show wpAny _ _ (call (.ref C) us) _ _ _
  obtain ⟨hb0, gs, dn, tt, oo⟩ := s1
  let a0 : Addr := hb0.objs.size + 1
  let hb1 : Heap := (hb0.push (PySem.W.kdv_tup us)).push (PySem.HandSPX.excO C hb0.objs.size)
  have na : H1 a0 = none := I1.hok.fresh (Nat.le_succ _)
  have keepB : ∀ b o, hb0.get? b = some o → hb1.get? b = some o := fun b o z => Heap.get?_push_of_some _ (Heap.get?_push_of_some _ z)
  have atA : hb1.get? a0 = some (PySem.HandSPX.excO C hb0.objs.size) := by
    show ((hb0.push _).push _).get? (hb0.objs.size + 1) = _
    heap_get
  have J : Inv X pins σ (upd H1 a0 (exo a0 C none)) ⟨hb1, gs, dn, tt, oo⟩ := I1.laid (t' := tt) (a := a0) (o := exo a0 C none) (h' := hb1) keepB (Nat.le_succ _) (exo_ok atA)
  have vals : Vals [V.ref a0, .int i] (Value.ref a0 :: us) := .cons rfl r1
  have pre : sp_init X.K [V.ref a0, .int i] (upd H1 a0 (exo a0 C none)) (fun v H2 => v = .non ∧ Q (.ref a0) H2) (fun _ _ _ => False) := by
    refine ⟨_, C, i, rfl, ⟨_, _, _, _, T⟩, upd_same, hi, fun dx nx ne => ⟨rfl, ?_⟩⟩
    rw [upd_ne ne] at nx
    refine q1 _ _ (fun b o z => ?_) ⟨dx, upd_same, ?_⟩
    · rw [upd_ne (ne_of_none z na), upd_ne (ne_of_none z nx), upd_ne (ne_of_none z na)]; exact z
    · rw [upd_ne ne, upd_same]
  have len2 : (Value.ref a0 :: us).length = (["self", "at"] : List Str).length := vals.length.symm
  have few : us.length ≤ sizeLine := by rw [← Paired.length r1, sizeLine_eq]; show 1 ≤ 16777216; decide
  have bind : BindsTo ⟨hb1, gs, dn, tt, oo⟩ fd ⟨Value.ref a0 :: us, []⟩ ((["self", "at"] : List Str).zip (Value.ref a0 :: us)) := by
    have z := hb ⟨hb1, gs, dn, tt, oo⟩ (Value.ref a0 :: us) J.kIn (by rw [List.append_nil]; exact len2)
    rw [List.append_nil] at z
    exact z
  have run := G.run _ X.stack _ _ ⟨Value.ref a0 :: us, []⟩ (Value.ref a0 :: us) _ _ (fun _ _ _ => False) (hr.make C us []) (J.env0.make C us []) bind vals pre
  refine wpAny_call (PySem.HandSPX.call_own F.excBase_ValueError (fun Y => PySem.HandSPX.refsVE_contains Y bm hbm) (I1.kIn _ _ hC) (PySem.W.looks_findIn I1.kIn T.iC) (fun self => PySem.W.bind_fn I1.kIn self T.tI) few (codeAny_mono run fun r s' done => ?_))
  match r, done with
  | .error er, done => exact hx pins σ _ _ er s' J done
  | .ok (.ret u), done =>
    obtain ⟨v, H2, I3, rv, ev, q2⟩ := J.after done
    subst ev
    exact ⟨rv, .ref a0, H2, I3, rfl, q2⟩
  | .ok .next, done => exact done.elim
  | .ok .brk, done => exact done.elim
  | .ok .cont, done => exact done.elim
/-- e.at of such a value -/
def tAtV (K : PySem.W.Frag) (te : TE) : TE := fun σ H Q => te σ H fun x H1 => ∃ (a C : Addr) (i : Int), x = .ref a ∧ (∃ mg x fI CH, XC K mg x C fI CH) ∧ EAt H1 a C i ∧ Q (.int i) H1
theorem inst_of {X : Cx} {pins : List (Addr × Obj)} {σ : L2.St} {H : Hp} {s : Shared} {a C : Addr} {i : Int} (I : Inv X pins σ H s) (h : EAt H a C i) :
    ∃ (oe od : Obj) (u : Value), PySem.W.InstAt s.heap a oe C (some od) ∧ PySem.W.lookIn "at" od = some (some u) ∧ RelV (.int i) u := by
  obtain ⟨dx, h1, h2⟩ := h
  obtain ⟨t1, ho⟩ := exo_at I.hok h1
  obtain ⟨mA, hns, hr⟩ := exd_at I.hok h2
  obtain ⟨od, hod, hl⟩ := lookIn_ns hns
  have l : List.lookup ("at" : Str) [(("at" : Str), V.int i)] = some (V.int i) := by simp [List.lookup]
  obtain ⟨u, hu, ru⟩ := RelO.some_of (v := V.int i) (o := mA "at") (by rw [← l]; exact hr "at")
  exact ⟨_, od, u, ⟨ho, rfl, by unfold PySem.W.notCls; rfl, hod⟩, by rw [hl, hu], ru⟩
theorem pe_atV {X : Cx} {e : Expr} {te : TE} {pos : Pos} (he : PE X e te) (hb : attributeBase e "at" X.env (eval e X.env) = eval e X.env := by rfl) : PE X (.Attribute e "at" pos) (tAtV X.K te) := by
  refine ⟨fun pins s σ H Q I h => ?_⟩
  refine attr_of hb (thn (he.run pins s σ H _ I h) fun u s1 hh => ?_)
  obtain ⟨x, H1, I1, rx, a, C, i, ex, ⟨mg, x', fI, CH, T⟩, ea, q⟩ := hh
  subst ex
  obtain rfl : u = Value.ref a := rx
  obtain ⟨oe, od, u, J, hu, ru⟩ := inst_of I1 ea
  exact HandSPX.exc_get I1.kIn J T.ga T.gg T.oex.exC (PySem.W.findObj_own T.hd T.no rfl hu) (handed_of ru) ⟨V.int i, H1, I1.tok _, ru, q⟩
/-- isinstance(e, c), e such a value -/
def rIsV (K : PySem.W.Frag) : List V → Hp → VK → Prop := fun xs H Q => ∃ (a D : Addr) (i : Int) (c : V) (cv : Value) (b : Bool), xs = [.ref a, c] ∧ (∃ mg x fI CH, XC K mg x D fI CH) ∧ EAt H a D i ∧
  ClsV c cv ∧ PySem.W.kitOne K (.ref D) cv = some b ∧ Q (.bl b) H
theorem call_isV {X : Cx} : CallR X (.builtin "isinstance") (rIsV X.K) := by
  intro pins s σ H xs us Q I r h
  obtain ⟨a, D, i, c, cv, b, rfl, ⟨mg, x, fI, CH, T⟩, ea, kc, e, q⟩ := h
  obtain ⟨u1, u2, rfl, r1, r2⟩ := vals2 r
  obtain rfl : u1 = Value.ref a := r1
  have ec := kc.eq r2
  subst ec
  obtain ⟨oe, od, u, J, hu, ru⟩ := inst_of I ea
  have hcl : (PySem.W.clsIn X.K D).isSome = true := by
    obtain ⟨nm, q, N, bs, bm, sn, sub, ab, col, dd', k0, k1, k2, k3, k5, hC, hbm⟩ := T.oex.cls
    unfold PySem.W.clsIn; rw [hC] <;> rfl
  exact PySem.W.kia_one (PySem.W.kitx_exc hcl T.ga T.gg T.oex.exC T.cl T.sp T.tk T.mo) I.kIn J e (fun z => nomatch z) fun tk => ⟨.bl b, H, I.kept (t' := tk) fun _ _ z => z, rfl, q⟩
end EV
namespace K45
open PySem PySem.Spec L2 NB ER EV
def top (i : Nat) : Stmt := PySem.Challenge.pw_farhaul_k45_errors_are_apart.main.body.getD i (.Pass ⟨0, 0, 0, 0⟩)
abbrev s_init : Stmt := inClass (top 1) 0
theorem sc_init : FnScope ["self", "at"] ["self", "at"] (defScope s_init) := ⟨rfl, rfl, rfl, by decide +kernel, rfl, by decide +kernel, by decide +kernel⟩
section
variable {P : Program} {w : World} {K : PySem.W.Frag} {mg : Str → Option Value} {base : Heap}
theorem ok_init {f : Addr} {fd : FuncData} (F : Fun K "__init__" "HaulError.__init__" s_init f fd) (mv : mg "ValueError" = none) (vV : PySem.W.findCls K (.type "ValueError") (.type "type") "__init__" = some (.val (.builtin "ValueError.__init__"))) :
    FnOk P w K mg base CX0 1 f fd ["self", "at"] (sp_init K) := by
  refine F.ok sc_init (fun vs H Q E h => ?_) (fun cdv A outer s H vs Q E hr h => ?_)
  · obtain ⟨a, C, i, rfl, _⟩ := h; rfl
  · obtain ⟨a, C, i, rfl, ⟨mg', x, fI, CH, T⟩, ha, hi, k⟩ := h
    refine ⟨_, pss_cons (ps_expr (pe_veinit rfl mv vV (pa_cons (pv 0) (pa_cons (pe_joined (.cons pe_str (.cons (pe_fmt (pv 1)) .nil))) pa_nil))))
      (pss_one (ps_ost (pv 0) (pv 1))), ?_⟩
    refine ⟨_, rfl, _, rfl, ?_, _, rfl, .inr ⟨i, rfl, hi, _, rfl, at_len hi, a, C, _, rfl, by simp, T.oex, ha, ?_⟩⟩
    · decide +kernel
    · refine ⟨_, rfl, _, rfl, a, C, rfl, T.oex, T.no, .inl ⟨ha, fun dx nx ne => k dx nx ne⟩⟩
end
abbrev s__law_made : Stmt := top 22
theorem sc__law_made : FnScope ["kind", "at"] ["kind", "at"] (defScope s__law_made) := ⟨rfl, rfl, rfl, by decide +kernel, rfl, by decide +kernel, by decide +kernel⟩
abbrev s__law_further : Stmt := top 23
theorem sc__law_further : FnScope ["kind", "at"] ["kind", "at"] (defScope s__law_further) := ⟨rfl, rfl, rfl, by decide +kernel, rfl, by decide +kernel, by decide +kernel⟩
abbrev s__law_kinds : Stmt := top 24
theorem sc__law_kinds : FnScope ["error"] ["error"] (defScope s__law_kinds) := ⟨rfl, rfl, rfl, by decide +kernel, rfl, by decide +kernel, by decide +kernel⟩
abbrev s_law : Stmt := top 25
theorem sc_law : FnScope ["script", "cells", "kind", "at", "error", "other", "cell", "k"] ["script"] (defScope s_law) := ⟨rfl, rfl, rfl, by decide +kernel, rfl, by decide +kernel, by decide +kernel⟩
theorem all19 {P : Nat → Prop} (h0 : P 0) (h1 : P 1) (h2 : P 2) (h3 : P 3) (h4 : P 4) (h5 : P 5) (h6 : P 6) (h7 : P 7) (h8 : P 8) (h9 : P 9) (h10 : P 10) (h11 : P 11) (h12 : P 12) (h13 : P 13) (h14 : P 14) (h15 : P 15) (h16 : P 16) (h17 : P 17) (h18 : P 18) : ∀ j, j < 19 → P j
  | 0, _ => h0
  | 1, _ => h1
  | 2, _ => h2
  | 3, _ => h3
  | 4, _ => h4
  | 5, _ => h5
  | 6, _ => h6
  | 7, _ => h7
  | 8, _ => h8
  | 9, _ => h9
  | 10, _ => h10
  | 11, _ => h11
  | 12, _ => h12
  | 13, _ => h13
  | 14, _ => h14
  | 15, _ => h15
  | 16, _ => h16
  | 17, _ => h17
  | 18, _ => h18
  | n + 19, h => absurd h (by omega)
theorem all20 {P : Nat → Prop} (h0 : P 0) (h1 : P 1) (h2 : P 2) (h3 : P 3) (h4 : P 4) (h5 : P 5) (h6 : P 6) (h7 : P 7) (h8 : P 8) (h9 : P 9) (h10 : P 10) (h11 : P 11) (h12 : P 12) (h13 : P 13) (h14 : P 14) (h15 : P 15) (h16 : P 16) (h17 : P 17) (h18 : P 18) (h19 : P 19) : ∀ j, j < 20 → P j
  | 0, _ => h0
  | 1, _ => h1
  | 2, _ => h2
  | 3, _ => h3
  | 4, _ => h4
  | 5, _ => h5
  | 6, _ => h6
  | 7, _ => h7
  | 8, _ => h8
  | 9, _ => h9
  | 10, _ => h10
  | 11, _ => h11
  | 12, _ => h12
  | 13, _ => h13
  | 14, _ => h14
  | 15, _ => h15
  | 16, _ => h16
  | 17, _ => h17
  | 18, _ => h18
  | 19, _ => h19
  | n + 20, h => absurd h (by omega)
section
variable {P : Program} {w : World} {K : PySem.W.Frag} {mg : Str → Option Value} {base : Heap}
/-- the kinds of error: C i the class of the i-th, C 19 the one above them -/
structure Er (K : PySem.W.Frag) (mg : Str → Option Value) (fI : Addr) (C : Nat → Addr) : Prop where
  x0 : XC K mg "OutOfRange" (C 0) fI (C 19)
  x1 : XC K mg "NotIrreducible" (C 1) fI (C 19)
  x2 : XC K mg "NoInverse" (C 2) fI (C 19)
  x3 : XC K mg "NoDivisor" (C 3) fI (C 19)
  x4 : XC K mg "SamePoint" (C 4) fI (C 19)
  x5 : XC K mg "BadTaps" (C 5) fI (C 19)
  x6 : XC K mg "BadPattern" (C 6) fI (C 19)
  x7 : XC K mg "BadRow" (C 7) fI (C 19)
  x8 : XC K mg "NoPath" (C 8) fI (C 19)
  x9 : XC K mg "WrongSize" (C 9) fI (C 19)
  x10 : XC K mg "WrongPlace" (C 10) fI (C 19)
  x11 : XC K mg "WrongCorrection" (C 11) fI (C 19)
  x12 : XC K mg "TooSmall" (C 12) fI (C 19)
  x13 : XC K mg "TooLarge" (C 13) fI (C 19)
  x14 : XC K mg "BadByte" (C 14) fI (C 19)
  x15 : XC K mg "HasRegister" (C 15) fI (C 19)
  x16 : XC K mg "BadSeal" (C 16) fI (C 19)
  x17 : XC K mg "BadVote" (C 17) fI (C 19)
  x18 : XC K mg "TooFar" (C 18) fI (C 19)
  x19 : XC K mg "HaulError" (C 19) fI (C 19)
  kit : ∀ i, i < 20 → ∀ j, j < 19 → PySem.W.kitOne K (.ref (C i)) (.ref (C j)) = some (decide (i = j))
  haul : ∀ i, i < 20 → PySem.W.kitOne K (.ref (C i)) (.ref (C 19)) = some true
  ve : ∀ i, i < 20 → PySem.W.kitOne K (.ref (C i)) (.type "ValueError") = some true
theorem Er.xc {fI : Addr} {C : Nat → Addr} (R : Er K mg fI C) : ∀ i, i < 20 → ∃ mg x fI CH, XC K mg x (C i) fI CH :=
  all20 (P := fun i => ∃ mg x fI CH, XC K mg x (C i) fI CH) ⟨_, _, _, _, R.x0⟩ ⟨_, _, _, _, R.x1⟩ ⟨_, _, _, _, R.x2⟩ ⟨_, _, _, _, R.x3⟩ ⟨_, _, _, _, R.x4⟩ ⟨_, _, _, _, R.x5⟩ ⟨_, _, _, _, R.x6⟩ ⟨_, _, _, _, R.x7⟩ ⟨_, _, _, _, R.x8⟩ ⟨_, _, _, _, R.x9⟩ ⟨_, _, _, _, R.x10⟩ ⟨_, _, _, _, R.x11⟩ ⟨_, _, _, _, R.x12⟩ ⟨_, _, _, _, R.x13⟩ ⟨_, _, _, _, R.x14⟩ ⟨_, _, _, _, R.x15⟩ ⟨_, _, _, _, R.x16⟩ ⟨_, _, _, _, R.x17⟩ ⟨_, _, _, _, R.x18⟩ ⟨_, _, _, _, R.x19⟩
def sp_made (C : Nat → Addr) (lo : Nat) : Sp := fun vs H Q _ => ∃ (kind : Nat) (z : Int), vs = [.int (kind : Int), .int z] ∧ lo ≤ kind ∧ kind < 20 ∧ z.natAbs.log2 < 1920 ∧ ∀ a H', Same H H' → EAt H' a (C kind) z → Q (.ref a) H'
theorem ok__law_further {f f_init : Addr} {fd fd_init : FuncData} {C : Nat → Addr} (D : Df K mg "_law_further" ["kind", "at"] s__law_further f fd) (R : Er K mg f_init C)
    (G_init : FnOk P w K mg base CX0 1 f_init fd_init ["self", "at"] (sp_init K)) (b_init : Binds K fd_init ["self", "at"] []) : FnOk P w K mg base CX0 3 f fd ["kind", "at"] (sp_made C 10) := by
  have X_OutOfRange := R.x0
  have X_NotIrreducible := R.x1
  have X_NoInverse := R.x2
  have X_NoDivisor := R.x3
  have X_SamePoint := R.x4
  have X_BadTaps := R.x5
  have X_BadPattern := R.x6
  have X_BadRow := R.x7
  have X_NoPath := R.x8
  have X_WrongSize := R.x9
  have X_WrongPlace := R.x10
  have X_WrongCorrection := R.x11
  have X_TooSmall := R.x12
  have X_TooLarge := R.x13
  have X_BadByte := R.x14
  have X_HasRegister := R.x15
  have X_BadSeal := R.x16
  have X_BadVote := R.x17
  have X_TooFar := R.x18
  have X_HaulError := R.x19
  refine D.F.ok sc__law_further (fun vs H Q E h => ?_) (fun cdv A outer s H vs Q E hr h => ?_)
  · obtain ⟨kind, z, rfl, _⟩ := h; rfl
  · obtain ⟨kind, z, rfl, h10, h20, hz, k⟩ := h
    refine ⟨_, (pss_cons (ps_if (pt_cmpR op_eq (pv 0) (pe_nat 10) (nomark _)) (pss_one (ps_ret (pe_exV X_WrongPlace G_init (hr.mono (by decide)) b_init pass0 (pa_cons (pv 1) pa_nil)))) pss_nil)
      (pss_cons (ps_if (pt_cmpR op_eq (pv 0) (pe_nat 11) (nomark _)) (pss_one (ps_ret (pe_exV X_WrongCorrection G_init (hr.mono (by decide)) b_init pass0 (pa_cons (pv 1) pa_nil)))) pss_nil)
      (pss_cons (ps_if (pt_cmpR op_eq (pv 0) (pe_nat 12) (nomark _)) (pss_one (ps_ret (pe_exV X_TooSmall G_init (hr.mono (by decide)) b_init pass0 (pa_cons (pv 1) pa_nil)))) pss_nil)
      (pss_cons (ps_if (pt_cmpR op_eq (pv 0) (pe_nat 13) (nomark _)) (pss_one (ps_ret (pe_exV X_TooLarge G_init (hr.mono (by decide)) b_init pass0 (pa_cons (pv 1) pa_nil)))) pss_nil)
      (pss_cons (ps_if (pt_cmpR op_eq (pv 0) (pe_nat 14) (nomark _)) (pss_one (ps_ret (pe_exV X_BadByte G_init (hr.mono (by decide)) b_init pass0 (pa_cons (pv 1) pa_nil)))) pss_nil)
      (pss_cons (ps_if (pt_cmpR op_eq (pv 0) (pe_nat 15) (nomark _)) (pss_one (ps_ret (pe_exV X_HasRegister G_init (hr.mono (by decide)) b_init pass0 (pa_cons (pv 1) pa_nil)))) pss_nil)
      (pss_cons (ps_if (pt_cmpR op_eq (pv 0) (pe_nat 16) (nomark _)) (pss_one (ps_ret (pe_exV X_BadSeal G_init (hr.mono (by decide)) b_init pass0 (pa_cons (pv 1) pa_nil)))) pss_nil)
      (pss_cons (ps_if (pt_cmpR op_eq (pv 0) (pe_nat 17) (nomark _)) (pss_one (ps_ret (pe_exV X_BadVote G_init (hr.mono (by decide)) b_init pass0 (pa_cons (pv 1) pa_nil)))) pss_nil)
      (pss_cons (ps_if (pt_cmpR op_eq (pv 0) (pe_nat 18) (nomark _)) (pss_one (ps_ret (pe_exV X_TooFar G_init (hr.mono (by decide)) b_init pass0 (pa_cons (pv 1) pa_nil)))) pss_nil)
      (pss_one (ps_ret (pe_exV X_HaulError G_init (hr.mono (by decide)) b_init pass0 (pa_cons (pv 1) pa_nil))))))))))))), ?_⟩
    refine ⟨_, rfl, rfl, _, rfl, iteD (fun c => ?_) (fun c => ?_)⟩
    · have e : kind = 10 := by have := V.int.inj c; omega
      subst e
      exact ⟨_, rfl, z, rfl, hz, fun a H2 s2 ea => k a H2 s2 ea⟩
    have n10 : kind ≠ 10 := fun e => c (by rw [e])
    refine ⟨_, rfl, rfl, _, rfl, iteD (fun c => ?_) (fun c => ?_)⟩
    · have e : kind = 11 := by have := V.int.inj c; omega
      subst e
      exact ⟨_, rfl, z, rfl, hz, fun a H2 s2 ea => k a H2 s2 ea⟩
    have n11 : kind ≠ 11 := fun e => c (by rw [e])
    refine ⟨_, rfl, rfl, _, rfl, iteD (fun c => ?_) (fun c => ?_)⟩
    · have e : kind = 12 := by have := V.int.inj c; omega
      subst e
      exact ⟨_, rfl, z, rfl, hz, fun a H2 s2 ea => k a H2 s2 ea⟩
    have n12 : kind ≠ 12 := fun e => c (by rw [e])
    refine ⟨_, rfl, rfl, _, rfl, iteD (fun c => ?_) (fun c => ?_)⟩
    · have e : kind = 13 := by have := V.int.inj c; omega
      subst e
      exact ⟨_, rfl, z, rfl, hz, fun a H2 s2 ea => k a H2 s2 ea⟩
    have n13 : kind ≠ 13 := fun e => c (by rw [e])
    refine ⟨_, rfl, rfl, _, rfl, iteD (fun c => ?_) (fun c => ?_)⟩
    · have e : kind = 14 := by have := V.int.inj c; omega
      subst e
      exact ⟨_, rfl, z, rfl, hz, fun a H2 s2 ea => k a H2 s2 ea⟩
    have n14 : kind ≠ 14 := fun e => c (by rw [e])
    refine ⟨_, rfl, rfl, _, rfl, iteD (fun c => ?_) (fun c => ?_)⟩
    · have e : kind = 15 := by have := V.int.inj c; omega
      subst e
      exact ⟨_, rfl, z, rfl, hz, fun a H2 s2 ea => k a H2 s2 ea⟩
    have n15 : kind ≠ 15 := fun e => c (by rw [e])
    refine ⟨_, rfl, rfl, _, rfl, iteD (fun c => ?_) (fun c => ?_)⟩
    · have e : kind = 16 := by have := V.int.inj c; omega
      subst e
      exact ⟨_, rfl, z, rfl, hz, fun a H2 s2 ea => k a H2 s2 ea⟩
    have n16 : kind ≠ 16 := fun e => c (by rw [e])
    refine ⟨_, rfl, rfl, _, rfl, iteD (fun c => ?_) (fun c => ?_)⟩
    · have e : kind = 17 := by have := V.int.inj c; omega
      subst e
      exact ⟨_, rfl, z, rfl, hz, fun a H2 s2 ea => k a H2 s2 ea⟩
    have n17 : kind ≠ 17 := fun e => c (by rw [e])
    refine ⟨_, rfl, rfl, _, rfl, iteD (fun c => ?_) (fun c => ?_)⟩
    · have e : kind = 18 := by have := V.int.inj c; omega
      subst e
      exact ⟨_, rfl, z, rfl, hz, fun a H2 s2 ea => k a H2 s2 ea⟩
    have n18 : kind ≠ 18 := fun e => c (by rw [e])
    have e : kind = 19 := by omega
    subst e
    exact ⟨_, rfl, z, rfl, hz, fun a H2 s2 ea => k a H2 s2 ea⟩
theorem ok__law_made {f f_init f__law_further : Addr} {fd fd_init fd__law_further : FuncData} {C : Nat → Addr} (D : Df K mg "_law_made" ["kind", "at"] s__law_made f fd) (R : Er K mg f_init C)
    (D__law_further : Df K mg "_law_further" ["kind", "at"] s__law_further f__law_further fd__law_further) (G__law_further : FnOk P w K mg base CX0 3 f__law_further fd__law_further ["kind", "at"] (sp_made C 10))
    (G_init : FnOk P w K mg base CX0 1 f_init fd_init ["self", "at"] (sp_init K)) (b_init : Binds K fd_init ["self", "at"] []) : FnOk P w K mg base CX0 4 f fd ["kind", "at"] (sp_made C 0) := by
  have X_OutOfRange := R.x0
  have X_NotIrreducible := R.x1
  have X_NoInverse := R.x2
  have X_NoDivisor := R.x3
  have X_SamePoint := R.x4
  have X_BadTaps := R.x5
  have X_BadPattern := R.x6
  have X_BadRow := R.x7
  have X_NoPath := R.x8
  have X_WrongSize := R.x9
  have X_WrongPlace := R.x10
  have X_WrongCorrection := R.x11
  have X_TooSmall := R.x12
  have X_TooLarge := R.x13
  have X_BadByte := R.x14
  have X_HasRegister := R.x15
  have X_BadSeal := R.x16
  have X_BadVote := R.x17
  have X_TooFar := R.x18
  have X_HaulError := R.x19
  refine D.F.ok sc__law_made (fun vs H Q E h => ?_) (fun cdv A outer s H vs Q E hr h => ?_)
  · obtain ⟨kind, z, rfl, _⟩ := h; rfl
  · obtain ⟨kind, z, rfl, _, h20, hz, k⟩ := h
    refine ⟨_, (pss_cons (ps_if (pt_cmpR op_eq (pv 0) (pe_nat 0) (nomark _)) (pss_one (ps_ret (pe_exV X_OutOfRange G_init (hr.mono (by decide)) b_init pass0 (pa_cons (pv 1) pa_nil)))) pss_nil)
      (pss_cons (ps_if (pt_cmpR op_eq (pv 0) (pe_nat 1) (nomark _)) (pss_one (ps_ret (pe_exV X_NotIrreducible G_init (hr.mono (by decide)) b_init pass0 (pa_cons (pv 1) pa_nil)))) pss_nil)
      (pss_cons (ps_if (pt_cmpR op_eq (pv 0) (pe_nat 2) (nomark _)) (pss_one (ps_ret (pe_exV X_NoInverse G_init (hr.mono (by decide)) b_init pass0 (pa_cons (pv 1) pa_nil)))) pss_nil)
      (pss_cons (ps_if (pt_cmpR op_eq (pv 0) (pe_nat 3) (nomark _)) (pss_one (ps_ret (pe_exV X_NoDivisor G_init (hr.mono (by decide)) b_init pass0 (pa_cons (pv 1) pa_nil)))) pss_nil)
      (pss_cons (ps_if (pt_cmpR op_eq (pv 0) (pe_nat 4) (nomark _)) (pss_one (ps_ret (pe_exV X_SamePoint G_init (hr.mono (by decide)) b_init pass0 (pa_cons (pv 1) pa_nil)))) pss_nil)
      (pss_cons (ps_if (pt_cmpR op_eq (pv 0) (pe_nat 5) (nomark _)) (pss_one (ps_ret (pe_exV X_BadTaps G_init (hr.mono (by decide)) b_init pass0 (pa_cons (pv 1) pa_nil)))) pss_nil)
      (pss_cons (ps_if (pt_cmpR op_eq (pv 0) (pe_nat 6) (nomark _)) (pss_one (ps_ret (pe_exV X_BadPattern G_init (hr.mono (by decide)) b_init pass0 (pa_cons (pv 1) pa_nil)))) pss_nil)
      (pss_cons (ps_if (pt_cmpR op_eq (pv 0) (pe_nat 7) (nomark _)) (pss_one (ps_ret (pe_exV X_BadRow G_init (hr.mono (by decide)) b_init pass0 (pa_cons (pv 1) pa_nil)))) pss_nil)
      (pss_cons (ps_if (pt_cmpR op_eq (pv 0) (pe_nat 8) (nomark _)) (pss_one (ps_ret (pe_exV X_NoPath G_init (hr.mono (by decide)) b_init pass0 (pa_cons (pv 1) pa_nil)))) pss_nil)
      (pss_cons (ps_if (pt_cmpR op_eq (pv 0) (pe_nat 9) (nomark _)) (pss_one (ps_ret (pe_exV X_WrongSize G_init (hr.mono (by decide)) b_init pass0 (pa_cons (pv 1) pa_nil)))) pss_nil)
      (pss_one (ps_ret (pe_call G__law_further (hr.mono (by decide)) rfl D__law_further.g D__law_further.F.kp D__law_further.b .nil pass0 (pa_cons (pv 0) (pa_cons (pv 1) pa_nil))))))))))))))), ?_⟩
    refine ⟨_, rfl, rfl, _, rfl, iteD (fun c => ?_) (fun c => ?_)⟩
    · have e : kind = 0 := by have := V.int.inj c; omega
      subst e
      exact ⟨_, rfl, z, rfl, hz, fun a H2 s2 ea => k a H2 s2 ea⟩
    have n0 : kind ≠ 0 := fun e => c (by rw [e])
    refine ⟨_, rfl, rfl, _, rfl, iteD (fun c => ?_) (fun c => ?_)⟩
    · have e : kind = 1 := by have := V.int.inj c; omega
      subst e
      exact ⟨_, rfl, z, rfl, hz, fun a H2 s2 ea => k a H2 s2 ea⟩
    have n1 : kind ≠ 1 := fun e => c (by rw [e])
    refine ⟨_, rfl, rfl, _, rfl, iteD (fun c => ?_) (fun c => ?_)⟩
    · have e : kind = 2 := by have := V.int.inj c; omega
      subst e
      exact ⟨_, rfl, z, rfl, hz, fun a H2 s2 ea => k a H2 s2 ea⟩
    have n2 : kind ≠ 2 := fun e => c (by rw [e])
    refine ⟨_, rfl, rfl, _, rfl, iteD (fun c => ?_) (fun c => ?_)⟩
    · have e : kind = 3 := by have := V.int.inj c; omega
      subst e
      exact ⟨_, rfl, z, rfl, hz, fun a H2 s2 ea => k a H2 s2 ea⟩
    have n3 : kind ≠ 3 := fun e => c (by rw [e])
    refine ⟨_, rfl, rfl, _, rfl, iteD (fun c => ?_) (fun c => ?_)⟩
    · have e : kind = 4 := by have := V.int.inj c; omega
      subst e
      exact ⟨_, rfl, z, rfl, hz, fun a H2 s2 ea => k a H2 s2 ea⟩
    have n4 : kind ≠ 4 := fun e => c (by rw [e])
    refine ⟨_, rfl, rfl, _, rfl, iteD (fun c => ?_) (fun c => ?_)⟩
    · have e : kind = 5 := by have := V.int.inj c; omega
      subst e
      exact ⟨_, rfl, z, rfl, hz, fun a H2 s2 ea => k a H2 s2 ea⟩
    have n5 : kind ≠ 5 := fun e => c (by rw [e])
    refine ⟨_, rfl, rfl, _, rfl, iteD (fun c => ?_) (fun c => ?_)⟩
    · have e : kind = 6 := by have := V.int.inj c; omega
      subst e
      exact ⟨_, rfl, z, rfl, hz, fun a H2 s2 ea => k a H2 s2 ea⟩
    have n6 : kind ≠ 6 := fun e => c (by rw [e])
    refine ⟨_, rfl, rfl, _, rfl, iteD (fun c => ?_) (fun c => ?_)⟩
    · have e : kind = 7 := by have := V.int.inj c; omega
      subst e
      exact ⟨_, rfl, z, rfl, hz, fun a H2 s2 ea => k a H2 s2 ea⟩
    have n7 : kind ≠ 7 := fun e => c (by rw [e])
    refine ⟨_, rfl, rfl, _, rfl, iteD (fun c => ?_) (fun c => ?_)⟩
    · have e : kind = 8 := by have := V.int.inj c; omega
      subst e
      exact ⟨_, rfl, z, rfl, hz, fun a H2 s2 ea => k a H2 s2 ea⟩
    have n8 : kind ≠ 8 := fun e => c (by rw [e])
    refine ⟨_, rfl, rfl, _, rfl, iteD (fun c => ?_) (fun c => ?_)⟩
    · have e : kind = 9 := by have := V.int.inj c; omega
      subst e
      exact ⟨_, rfl, z, rfl, hz, fun a H2 s2 ea => k a H2 s2 ea⟩
    have n9 : kind ≠ 9 := fun e => c (by rw [e])
    exact ⟨_, rfl, _, rfl, kind, z, rfl, by omega, h20, hz, k⟩
def kindsOf (i : Nat) : List Bool := (List.range 19).map fun j => decide (i = j)
def sp_kinds (C : Nat → Addr) : Sp := fun vs H Q _ => ∃ (a : Addr) (i : Nat) (z : Int), vs = [.ref a] ∧ EAt H a (C i) z ∧ i < 20 ∧ ∀ l H', Same H H' → H' l = some (.lst ((kindsOf i).map V.bl)) → Q (.ref l) H'
theorem ok__law_kinds {f f_init : Addr} {fd : FuncData} {C : Nat → Addr} (D : Df K mg "_law_kinds" ["error"] s__law_kinds f fd) (B : Bl mg) (R : Er K mg f_init C) : FnOk P w K mg base CX0 1 f fd ["error"] (sp_kinds C) := by
  have X_OutOfRange := R.x0
  have X_NotIrreducible := R.x1
  have X_NoInverse := R.x2
  have X_NoDivisor := R.x3
  have X_SamePoint := R.x4
  have X_BadTaps := R.x5
  have X_BadPattern := R.x6
  have X_BadRow := R.x7
  have X_NoPath := R.x8
  have X_WrongSize := R.x9
  have X_WrongPlace := R.x10
  have X_WrongCorrection := R.x11
  have X_TooSmall := R.x12
  have X_TooLarge := R.x13
  have X_BadByte := R.x14
  have X_HasRegister := R.x15
  have X_BadSeal := R.x16
  have X_BadVote := R.x17
  have X_TooFar := R.x18
  have X_HaulError := R.x19
  refine D.F.ok sc__law_kinds (fun vs H Q E h => ?_) (fun cdv A outer s H vs Q E hr h => ?_)
  · obtain ⟨a, i, z, rfl, _⟩ := h; rfl
  · obtain ⟨a, i, z, rfl, ea, hi, k⟩ := h
    refine ⟨_, (pss_one (ps_ret (pe_lst (pa_cons (pe_callB call_isV (by rfl) B.isinstance (by decide +kernel) (pa_cons (pv 0) (pa_cons (pe_glob (v := .ref _) rfl X_OutOfRange.g rfl) pa_nil))) (pa_cons (pe_callB call_isV (by rfl) B.isinstance (by decide +kernel) (pa_cons (pv 0) (pa_cons (pe_glob (v := .ref _) rfl X_NotIrreducible.g rfl) pa_nil))) (pa_cons (pe_callB call_isV (by rfl) B.isinstance (by decide +kernel) (pa_cons (pv 0) (pa_cons (pe_glob (v := .ref _) rfl X_NoInverse.g rfl) pa_nil))) (pa_cons (pe_callB call_isV (by rfl) B.isinstance (by decide +kernel) (pa_cons (pv 0) (pa_cons (pe_glob (v := .ref _) rfl X_NoDivisor.g rfl) pa_nil))) (pa_cons (pe_callB call_isV (by rfl) B.isinstance (by decide +kernel) (pa_cons (pv 0) (pa_cons (pe_glob (v := .ref _) rfl X_SamePoint.g rfl) pa_nil))) (pa_cons (pe_callB call_isV (by rfl) B.isinstance (by decide +kernel) (pa_cons (pv 0) (pa_cons (pe_glob (v := .ref _) rfl X_BadTaps.g rfl) pa_nil))) (pa_cons (pe_callB call_isV (by rfl) B.isinstance (by decide +kernel) (pa_cons (pv 0) (pa_cons (pe_glob (v := .ref _) rfl X_BadPattern.g rfl) pa_nil))) (pa_cons (pe_callB call_isV (by rfl) B.isinstance (by decide +kernel) (pa_cons (pv 0) (pa_cons (pe_glob (v := .ref _) rfl X_BadRow.g rfl) pa_nil))) (pa_cons (pe_callB call_isV (by rfl) B.isinstance (by decide +kernel) (pa_cons (pv 0) (pa_cons (pe_glob (v := .ref _) rfl X_NoPath.g rfl) pa_nil))) (pa_cons (pe_callB call_isV (by rfl) B.isinstance (by decide +kernel) (pa_cons (pv 0) (pa_cons (pe_glob (v := .ref _) rfl X_WrongSize.g rfl) pa_nil))) (pa_cons (pe_callB call_isV (by rfl) B.isinstance (by decide +kernel) (pa_cons (pv 0) (pa_cons (pe_glob (v := .ref _) rfl X_WrongPlace.g rfl) pa_nil))) (pa_cons (pe_callB call_isV (by rfl) B.isinstance (by decide +kernel) (pa_cons (pv 0) (pa_cons (pe_glob (v := .ref _) rfl X_WrongCorrection.g rfl) pa_nil))) (pa_cons (pe_callB call_isV (by rfl) B.isinstance (by decide +kernel) (pa_cons (pv 0) (pa_cons (pe_glob (v := .ref _) rfl X_TooSmall.g rfl) pa_nil))) (pa_cons (pe_callB call_isV (by rfl) B.isinstance (by decide +kernel) (pa_cons (pv 0) (pa_cons (pe_glob (v := .ref _) rfl X_TooLarge.g rfl) pa_nil))) (pa_cons (pe_callB call_isV (by rfl) B.isinstance (by decide +kernel) (pa_cons (pv 0) (pa_cons (pe_glob (v := .ref _) rfl X_BadByte.g rfl) pa_nil))) (pa_cons (pe_callB call_isV (by rfl) B.isinstance (by decide +kernel) (pa_cons (pv 0) (pa_cons (pe_glob (v := .ref _) rfl X_HasRegister.g rfl) pa_nil))) (pa_cons (pe_callB call_isV (by rfl) B.isinstance (by decide +kernel) (pa_cons (pv 0) (pa_cons (pe_glob (v := .ref _) rfl X_BadSeal.g rfl) pa_nil))) (pa_cons (pe_callB call_isV (by rfl) B.isinstance (by decide +kernel) (pa_cons (pv 0) (pa_cons (pe_glob (v := .ref _) rfl X_BadVote.g rfl) pa_nil))) (pa_cons (pe_callB call_isV (by rfl) B.isinstance (by decide +kernel) (pa_cons (pv 0) (pa_cons (pe_glob (v := .ref _) rfl X_TooFar.g rfl) pa_nil))) pa_nil)))))))))))))))))))))), ?_⟩
    refine ⟨_, rfl, a, _, z, _, _, _, rfl, R.xc i hi, ea, .own _, R.kit i hi 0 (by decide), ?_⟩
    refine ⟨_, rfl, a, _, z, _, _, _, rfl, R.xc i hi, ea, .own _, R.kit i hi 1 (by decide), ?_⟩
    refine ⟨_, rfl, a, _, z, _, _, _, rfl, R.xc i hi, ea, .own _, R.kit i hi 2 (by decide), ?_⟩
    refine ⟨_, rfl, a, _, z, _, _, _, rfl, R.xc i hi, ea, .own _, R.kit i hi 3 (by decide), ?_⟩
    refine ⟨_, rfl, a, _, z, _, _, _, rfl, R.xc i hi, ea, .own _, R.kit i hi 4 (by decide), ?_⟩
    refine ⟨_, rfl, a, _, z, _, _, _, rfl, R.xc i hi, ea, .own _, R.kit i hi 5 (by decide), ?_⟩
    refine ⟨_, rfl, a, _, z, _, _, _, rfl, R.xc i hi, ea, .own _, R.kit i hi 6 (by decide), ?_⟩
    refine ⟨_, rfl, a, _, z, _, _, _, rfl, R.xc i hi, ea, .own _, R.kit i hi 7 (by decide), ?_⟩
    refine ⟨_, rfl, a, _, z, _, _, _, rfl, R.xc i hi, ea, .own _, R.kit i hi 8 (by decide), ?_⟩
    refine ⟨_, rfl, a, _, z, _, _, _, rfl, R.xc i hi, ea, .own _, R.kit i hi 9 (by decide), ?_⟩
    refine ⟨_, rfl, a, _, z, _, _, _, rfl, R.xc i hi, ea, .own _, R.kit i hi 10 (by decide), ?_⟩
    refine ⟨_, rfl, a, _, z, _, _, _, rfl, R.xc i hi, ea, .own _, R.kit i hi 11 (by decide), ?_⟩
    refine ⟨_, rfl, a, _, z, _, _, _, rfl, R.xc i hi, ea, .own _, R.kit i hi 12 (by decide), ?_⟩
    refine ⟨_, rfl, a, _, z, _, _, _, rfl, R.xc i hi, ea, .own _, R.kit i hi 13 (by decide), ?_⟩
    refine ⟨_, rfl, a, _, z, _, _, _, rfl, R.xc i hi, ea, .own _, R.kit i hi 14 (by decide), ?_⟩
    refine ⟨_, rfl, a, _, z, _, _, _, rfl, R.xc i hi, ea, .own _, R.kit i hi 15 (by decide), ?_⟩
    refine ⟨_, rfl, a, _, z, _, _, _, rfl, R.xc i hi, ea, .own _, R.kit i hi 16 (by decide), ?_⟩
    refine ⟨_, rfl, a, _, z, _, _, _, rfl, R.xc i hi, ea, .own _, R.kit i hi 17 (by decide), ?_⟩
    refine ⟨_, rfl, a, _, z, _, _, _, rfl, R.xc i hi, ea, .own _, R.kit i hi 18 (by decide), ?_⟩
    refine ⟨(by show 19 ≤ sizeLine; decide), fun l nl => k l _ (same_upd nl) ?_⟩
    rw [upd_same]
    rfl
end
end K45
namespace K45
open PySem PySem.Spec L2 NB ER EV
theorem dps_bl {K : PySem.W.Frag} {H : Hp} : ∀ bs : List Bool, DpAll K H (bs.map V.bl) (bs.map PyData.bool)
  | [] => .nil
  | b :: bs => .cons (.bl b) (dps_bl bs)
theorem eqv_bls : ∀ bs : List Bool, PyData.eqvAll (bs.map PyData.bool) (bs.map PyData.bool) = true
  | [] => by simp [PyData.eqvAll]
  | b :: bs => by
    have := eqv_bls bs
    simp [PyData.eqvAll, PyData.eqv, this]
theorem map_get_int {ns : List Int} {i : Nat} {x : V} (h : (ns.map V.int)[i]? = some x) : ∃ z, ns[i]? = some z ∧ x = .int z := by
  rw [List.getElem?_map] at h
  cases e : ns[i]? with
  | none => rw [e] at h; cases h
  | some z => rw [e] at h; exact ⟨z, rfl, (Option.some.inj h).symm⟩
theorem log_small3 {m : Int} (h : m.natAbs < 2 ^ 64) : m.natAbs.log2 < 1920 := by
  by_cases h0 : m.natAbs = 0
  · rw [h0]; decide
  · exact Nat.lt_of_lt_of_le ((Nat.log2_lt (k := 64) h0).mpr h) (by decide)
section
variable {P : Program} {w : World} {K : PySem.W.Frag} {mg : Str → Option Value} {base : Heap}
def sp_law (K : PySem.W.Frag) : Sp := fun vs H Q _ => ∃ (a : Addr) (ns : List Int), vs = [.ref a] ∧ SqL K H a (ns.map V.int) ∧ ns.length ≤ 63 ∧ ∀ H', Q (.bl true) H'
theorem ok_law {f f_init f__law_made f__law_kinds : Addr} {fd fd__law_made fd__law_kinds : FuncData} {C : Nat → Addr} (D : Df K mg "law" ["script"] s_law f fd) (B : Bl mg) (z_bool : mg "bool" = none) (R : Er K mg f_init C)
    (D__law_made : Df K mg "_law_made" ["kind", "at"] s__law_made f__law_made fd__law_made) (G__law_made : FnOk P w K mg base CX0 4 f__law_made fd__law_made ["kind", "at"] (sp_made C 0))
    (D__law_kinds : Df K mg "_law_kinds" ["error"] s__law_kinds f__law_kinds fd__law_kinds) (G__law_kinds : FnOk P w K mg base CX0 1 f__law_kinds fd__law_kinds ["error"] (sp_kinds C)) :
    FnOk P w K mg base CX0 5 f fd ["script"] (sp_law K) := by
  have X_HaulError := R.x19
  refine D.F.ok sc_law (fun vs H Q E h => ?_) (fun cdv A outer s H vs Q E hr h => ?_)
  · obtain ⟨a, ns, rfl, _⟩ := h; rfl
  · obtain ⟨a, ns, rfl, hS, hl, k⟩ := h
    refine ⟨_, (pss_cons (ps_set (i := 1) sc_law.nd rfl (Or.inl rfl) (pe_op op_cat (pe_lc (own := [("cell", 6)]) rfl sc_law.nd (pi_list (pe_slice sl_list (pv 0) po_none (po_some (pe_nat 60)))) (blkOk_by (own := [("cell", 6)]) (N := ["script", "cells", "kind", "at", "error", "other", "cell", "k"]) (sc := defScope s_law) (by decide +kernel)) (fun _ _ _ _ _ => (pg_name (i := 6) sc_law.nd rfl (Or.inl rfl) (Or.inr rfl))) (fun _ _ _ _ _ => pts_nil) (fun _ _ _ _ _ => (pe_op op_sub (pe_op nb_modI (pe_callTy call_int1 (by rfl) B.int (by decide +kernel) (pa_cons (pv 6) pa_nil)) (pe_op nb_pow (pe_nat 10) (pe_nat 12))) (pe_op nb_pow (pe_nat 10) (pe_nat 11))))) (pe_lst (pa_cons (pe_nat 0) (pa_cons (pe_un un_neg (pe_nat 1)) (pa_cons (pe_nat 4) pa_nil))))))
      (pss_cons (ps_for PassesOwn.never rfl (pi_range1 rfl B.range (pa_cons (pe_nat 20) pa_nil)) (pg_name (i := 2) sc_law.nd rfl (Or.inr rfl))
        (pss_cons (ps_set (i := 3) sc_law.nd rfl (Or.inl rfl) (pe_ix ix_list (pv 1) (pe_op nb_mod (pe_callTy call_int1 (by rfl) B.int (by decide +kernel) (pa_cons (pv 2) pa_nil)) (pe_callB call_len_seq (by rfl) B.len PySem.boot_len (pa_cons (pv 1) pa_nil))) (fun _ _ => rfl)))
        (pss_cons (ps_set (i := 4) sc_law.nd rfl (Or.inl rfl) (pe_call G__law_made (hr.mono (by decide)) rfl D__law_made.g D__law_made.F.kp D__law_made.b .nil pass0 (pa_cons (pv 2) (pa_cons (pv 3) pa_nil))))
        (pss_cons (ps_set (i := 5) sc_law.nd rfl (Or.inl rfl) (pe_call G__law_made (hr.mono (by decide)) rfl D__law_made.g D__law_made.F.kp D__law_made.b .nil pass0 (pa_cons (pv 2) (pa_cons (pe_op op_add (pe_op op_add (pv 3) (pe_nat 1)) (pv 2)) pa_nil))))
        (pss_cons (ps_if (PW.pt (pw_or (pt_cmpR op_ne (pe_atV (pv 4)) (pv 3) (nomark _)) (pw_or (pt_cmpR op_ne (pe_atV (pv 5)) (pe_op op_add (pe_op op_add (pv 3) (pe_nat 1)) (pv 2)) (nomark _)) (pw_or1 (pt_val (pe_callB call_isi (by rfl) B.isinstance (by decide +kernel) (pa_cons (pe_atV (pv 4)) (pa_cons (pe_bltn (v := .ty "bool") (by rfl) z_bool (by decide +kernel) rfl) pa_nil)))))))) (pss_one (ps_ret pe_bl)) pss_nil)
        (pss_cons (ps_if (PW.pt (pw_or (pt_not (pt_val (pe_callB call_isV (by rfl) B.isinstance (by decide +kernel) (pa_cons (pv 4) (pa_cons (pe_glob (v := .ref _) rfl X_HaulError.g rfl) pa_nil))))) (pw_or1 (pt_not (pt_val (pe_callB call_isV (by rfl) B.isinstance (by decide +kernel) (pa_cons (pv 4) (pa_cons (pe_bltn (v := .ty "ValueError") (by rfl) B.ValueError (by decide +kernel) rfl) pa_nil)))))))) (pss_one (ps_ret pe_bl)) pss_nil)
        (pss_one (ps_if (pt_cmpR (op_neD hr.units) (pe_call G__law_kinds (hr.mono (by decide)) rfl D__law_kinds.g D__law_kinds.F.kp D__law_kinds.b .nil pass0 (pa_cons (pv 4) pa_nil)) (pe_lc (own := [("k", 7)]) rfl sc_law.nd (pi_range1 rfl B.range (pa_cons (pe_nat 19) pa_nil)) (blkOk_by (own := [("k", 7)]) (N := ["script", "cells", "kind", "at", "error", "other", "cell", "k"]) (sc := defScope s_law) (by decide +kernel)) (fun _ _ _ _ _ => (pg_name (i := 7) sc_law.nd rfl (Or.inl rfl) (Or.inr rfl))) (fun _ _ _ _ _ => pts_nil) (fun _ _ _ _ _ => (pe_cmpR op_eq (pv 2) (pv 7) (nomark _)))) (nomark _)) (pss_one (ps_ret pe_bl)) pss_nil))))))))
      (pss_one (ps_ret pe_bl)))), ?_⟩
    refine ⟨_, rfl, 60, rfl, a, _, rfl, hS, fun c nc => ⟨c, rfl, ⟨_, SqL.of upd_same⟩, fun D0 nD => ?_⟩⟩
    have ecut : cutV (ns.map V.int) none (some ((60 : Nat) : Int)) = (ns.take 60).map V.int := by
      rw [cut_to, List.map_take]
    have ncD : c ≠ D0 := fun z => by rw [z, upd_same] at nD; cases nD
    have nD' : H D0 = none := by rw [upd_ne (Ne.symm ncD)] at nD; exact nD
    refine lc_list (K := K) (a := c) (xs := (ns.take 60).map V.int) (fun i H' => ∃ M : List Int, H' c = some (.lst ((ns.take 60).map V.int)) ∧ H' D0 = some (.lst (M.map V.int)) ∧ M.length ≤ i ∧ (∀ z ∈ M, z.natAbs < 2 ^ 62) ∧ Same H H') ⟨[], ?_, ?_, Nat.le_refl _, (fun z hz => nomatch hz), ?_⟩ (fun i H' _ h => by obtain ⟨M, h1, _⟩ := h; exact SqL.of h1) ?_ ?_
    · rw [upd_ne ncD, upd_same]; exact congrArg (fun l => some (HO.lst l)) ecut
    · rw [upd_same]; rfl
    · exact same_new (same_upd nc) nD
    · rintro i x H' hi ⟨M, h1, h2, hM, hb, sm⟩
      obtain ⟨z, hz, rfl⟩ := map_get_int hi
      have hil : i < (ns.take 60).length := (List.getElem?_eq_some_iff.mp hz).1
      rw [List.length_take] at hil
      refine ⟨rfl, ?_⟩
      have hp12 : (0 : Nat) < 10 ^ 12 := by decide
      refine ⟨_, rfl, .inl ⟨z, rfl, _, _, rfl, rfl, ⟨by decide, by decide⟩, z, 10 ^ 12, rfl, rfl, hp12, _, _, rfl, rfl, ⟨by decide, by decide⟩, _, _, rfl, rfl, ?_⟩⟩
      have hr0 := Int.emod_nonneg z (show ((10 ^ 12 : Nat) : Int) ≠ 0 by decide)
      have hr1 := Int.emod_lt_of_pos z (show (0 : Int) < ((10 ^ 12 : Nat) : Int) by decide)
      have e12 : ((10 ^ 12 : Nat) : Int) = 1000000000000 := by decide
      have e11 : ((10 ^ 11 : Nat) : Int) = 100000000000 := by decide
      refine ⟨_, h2, ?_, M ++ [((z % ((10 ^ 12 : Nat) : Int)).toNat : Int) - ((10 ^ 11 : Nat) : Int)], ?_, ?_, ?_, ?_, ?_⟩
      · rw [List.length_map]; exact small1000 (by omega)
      · rw [upd_ne ncD]; exact h1
      · rw [upd_same, List.map_append]; rfl
      · rw [List.length_append]; show M.length + 1 ≤ i + 1; omega
      · intro y hy
        rcases List.mem_append.mp hy with h | h
        · exact hb y h
        · rw [List.mem_singleton] at h
          subst h
          have : (2 : Nat) ^ 62 = 4611686018427387904 := by decide
          omega
      · exact same_upd2 sm nD'
    · rintro H1 ⟨M, h1, h2, hM, hb, sm⟩
      rw [List.length_map, List.length_take] at hM
      refine ⟨_, rfl, (by show 3 ≤ sizeLine; decide), fun z nz => ?_⟩
      have nDz : D0 ≠ z := ne_of_none h2 nz
      refine ⟨D0, z, _, _, rfl, rfl, (by rw [upd_ne nDz]; exact h2), upd_same, ?_, fun r nr => ?_⟩
      · rw [List.length_map]; exact Nat.le_of_lt (small1000 (by show M.length + 3 ≤ 1000; omega))
      have e0 : M.map V.int ++ [V.int ((0 : Nat) : Int), V.int (-((1 : Nat) : Int)), V.int ((4 : Nat) : Int)] = (M ++ [0, -1, 4]).map V.int := by rw [List.map_append]; rfl
      have sm2 := same_new (o := HO.lst ((M ++ [0, -1, 4]).map V.int)) (same_new (o := HO.lst [V.int ((0 : Nat) : Int), V.int (-((1 : Nat) : Int)), V.int ((4 : Nat) : Int)]) sm nz) nr
      have hb2 : ∀ y ∈ M ++ [0, -1, 4], y.natAbs < 2 ^ 62 := by
        intro y hy
        rcases List.mem_append.mp hy with h | h
        · exact hb y h
        · simp at h
          have : (2 : Nat) ^ 62 = 4611686018427387904 := by decide
          omega
      have hlen : 0 < (M ++ [0, -1, 4]).length := by simp
      rw [e0]
      generalize M ++ [0, -1, 4] = L at sm2 hb2 hlen ⊢
      generalize hH2 : upd (upd H1 z (.lst [V.int ((0 : Nat) : Int), V.int (-((1 : Nat) : Int)), V.int ((4 : Nat) : Int)])) r (.lst (L.map V.int)) = H2 at sm2 ⊢
      have hr2 : H2 r = some (.lst (L.map V.int)) := by rw [← hH2, upd_same]
      refine ⟨_, rfl, by omega, by omega, ?_⟩
      refine for_rangeN (lo := 0) (n := 20) (fun i σ H' => ∃ v2 v3 v4 v5 v6 v7 : Option V, σ = [some (.ref a), some (.ref r), v2, v3, v4, v5, v6, v7] ∧ Same H2 H') ⟨_, _, _, _, _, _, rfl, Same.refl _⟩ ?_ ?_
      · rintro i σ H3 hi ⟨v2, v3, v4, v5, v6, v7, rfl, s3⟩
        rw [Nat.zero_add]
        have hL : ∀ {H4 : Hp}, Same H2 H4 → SqL K H4 r (L.map V.int) := fun e => e.seq (SqL.of hr2)
        obtain ⟨y, hy⟩ : ∃ y, L[i % L.length]? = some y := ⟨_, List.getElem?_eq_getElem (Nat.mod_lt _ hlen)⟩
        have hyb := hb2 y (List.mem_of_getElem? hy)
        have hy2 : atI (L.map V.int) ((i % L.length : Nat) : Int) = some (.int y) := atI_nat (by rw [List.getElem?_map, hy]; rfl)
        refine ⟨_, rfl, _, rfl, .inl ⟨_, rfl, _, rfl, r, _, rfl, .inl (hL s3), i, _, rfl, rfl, by rw [List.length_map]; exact hlen, r, _, _, _, rfl, rfl, hL s3, by rw [List.length_map]; exact hy2, ?_⟩⟩
        refine ⟨_, rfl, _, rfl, i, y, rfl, Nat.zero_le _, hi, log_small3 (by omega), fun e1 H4 s4 E1 => ?_⟩
        refine ⟨_, rfl, _, rfl, _, _, rfl, rfl, _, rfl, _, _, rfl, rfl, i, y + ((1 : Nat) : Int) + (i : Int), rfl, Nat.zero_le _, hi, log_small3 (by omega), fun e2 H5 s5 E2 => ?_⟩
        have E1' := E1.mono s5
        refine ⟨_, rfl, e1, _, y, rfl, R.xc i hi, E1', _, rfl, rfl, _, rfl, iteNS rfl ?_⟩
        refine ⟨_, rfl, e2, _, _, rfl, R.xc i hi, E2, _, rfl, _, _, rfl, rfl, _, rfl, _, _, rfl, rfl, rfl, _, rfl, iteNS rfl ?_⟩
        refine ⟨_, rfl, e1, _, y, rfl, R.xc i hi, E1', .int y, .ty "bool", .type "int", .type "bool", false, rfl, .ty _, .base (.int _), kit_ty (by decide +kernel), false, rfl, iteF ?_⟩
        refine ⟨_, rfl, e1, C i, y, .ref (C 19), .ref (C 19), true, rfl, R.xc i hi, E1', .own _, R.haul i hi, true, rfl, iteF ⟨_, rfl, e1, C i, y, .ty "ValueError", .type "ValueError", true, rfl, R.xc i hi, E1', .ty _, R.ve i hi, true, rfl, iteF ?_⟩⟩
        refine ⟨_, rfl, e1, i, y, rfl, E1', hi, fun l H6 s6 hl => ?_⟩
        refine ⟨_, rfl, by omega, by omega, fun D1 nD1 => ?_⟩
        have hlD : l ≠ D1 := ne_of_none hl nD1
        have s06 := (s3.trans (s4.trans s5)).trans s6
        refine lc_rangeN (lo := 0) (n := 19) (fun j H' => H' l = some (.lst ((kindsOf i).map V.bl)) ∧ H' D1 = some (.lst (((List.range j).map fun j => decide (i = j)).map V.bl)) ∧ Same H2 H') ⟨?_, ?_, ?_⟩ ?_ ?_
        · rw [upd_ne hlD]; exact hl
        · rw [upd_same]; rfl
        · exact same_new s06 nD1
        · rintro j H7 hj ⟨g1, g2, g3⟩
          rw [Nat.zero_add]
          refine ⟨rfl, ?_⟩
          refine ⟨_, rfl, _, rfl, rfl, _, g2, ?_, ?_, ?_, ?_⟩
          · rw [List.length_map, List.length_map, List.length_range]; exact small1000 (by omega)
          · rw [upd_ne hlD]; exact g1
          · rw [upd_same, List.range_succ, List.map_append, List.map_append]
            refine congrArg (fun b => some (HO.lst (((List.range j).map fun j => decide (i = j)).map V.bl ++ [V.bl b]))) ?_
            show decide (V.int (i : Int) = V.int (j : Int)) = decide (i = j)
            exact decide_eq_decide.mpr ⟨fun w => by have := V.int.inj w; omega, fun w => by rw [w]⟩
          · exact same_upd2 g3 (s06.free nD1)
        · rintro H7 ⟨g1, g2, g3⟩
          refine ⟨.list ((kindsOf i).map PyData.bool), .list ((kindsOf i).map PyData.bool), .lst (SqL.of g1) (dps_bl _), .lst (SqL.of g2) (dps_bl _), rfl, rfl, false, congrArg V.bl (by simp [PyData.eqv, eqv_bls]), iteF ⟨_, _, _, _, _, _, rfl, g3⟩⟩
      · rintro σ H3 ⟨v2, v3, v4, v5, v6, v7, rfl, s3⟩
        exact k H3
end
end K45
namespace K45
open PySem PySem.Spec L2 NB ER EV
theorem kit_self {K : PySem.W.Frag} {D : Addr} : PySem.W.kitOne K (.ref D) (.ref D) = some true := by unfold PySem.W.kitOne; rw [if_pos (by simp)]
theorem all_mk {l : PySem.W.OpenLaw} {w : World} {K : PySem.W.Frag} {h : Heap} {mg : Str → Option Value} {fa : Addr} (X : K.In h) (G : h.Ns mainGlobals mg) (hfa : mg "law" = some (.ref fa))
    {f__law_made : Addr} {od__law_made an__law_made : Option Addr} {sl__law_made : Array (Option Value)} {oc__law_made kV__law_made dc__law_made pm__law_made cd__law_made ct__law_made : Value}
    {f__law_further : Addr} {od__law_further an__law_further : Option Addr} {sl__law_further : Array (Option Value)} {oc__law_further kV__law_further dc__law_further pm__law_further cd__law_further ct__law_further : Value}
    {f__law_kinds : Addr} {od__law_kinds an__law_kinds : Option Addr} {sl__law_kinds : Array (Option Value)} {oc__law_kinds kV__law_kinds dc__law_kinds pm__law_kinds cd__law_kinds ct__law_kinds : Value}
    {f_law : Addr} {od_law an_law : Option Addr} {sl_law : Array (Option Value)} {oc_law kV_law dc_law pm_law cd_law ct_law : Value}
    {f_init : Addr} {od_init an_init : Option Addr} {sl_init : Array (Option Value)} {oc_init kV_init dc_init pm_init cd_init ct_init : Value}
    {C_HaulError C_OutOfRange C_NotIrreducible C_NoInverse C_NoDivisor C_SamePoint C_BadTaps C_BadPattern C_BadRow C_NoPath C_WrongSize C_WrongPlace C_WrongCorrection C_TooSmall C_TooLarge C_BadByte C_HasRegister C_BadSeal C_BadVote C_TooFar : Addr}
    {nm_HaulError q_HaulError : Str} {N_HaulError : Addr} {bs_HaulError bm_HaulError : List Value} {sn_HaulError : List Str} {sub_HaulError : List Value} {ab_HaulError : Bool} {col_HaulError : Option Bool} {dd_HaulError : Option Addr} {k0_HaulError k1_HaulError k2_HaulError k3_HaulError k5_HaulError : Option Value}
    {nm_OutOfRange q_OutOfRange : Str} {N_OutOfRange : Addr} {bs_OutOfRange bm_OutOfRange : List Value} {sn_OutOfRange : List Str} {sub_OutOfRange : List Value} {ab_OutOfRange : Bool} {col_OutOfRange : Option Bool} {dd_OutOfRange : Option Addr} {k0_OutOfRange k1_OutOfRange k2_OutOfRange k3_OutOfRange k5_OutOfRange : Option Value}
    {nm_NotIrreducible q_NotIrreducible : Str} {N_NotIrreducible : Addr} {bs_NotIrreducible bm_NotIrreducible : List Value} {sn_NotIrreducible : List Str} {sub_NotIrreducible : List Value} {ab_NotIrreducible : Bool} {col_NotIrreducible : Option Bool} {dd_NotIrreducible : Option Addr} {k0_NotIrreducible k1_NotIrreducible k2_NotIrreducible k3_NotIrreducible k5_NotIrreducible : Option Value}
    {nm_NoInverse q_NoInverse : Str} {N_NoInverse : Addr} {bs_NoInverse bm_NoInverse : List Value} {sn_NoInverse : List Str} {sub_NoInverse : List Value} {ab_NoInverse : Bool} {col_NoInverse : Option Bool} {dd_NoInverse : Option Addr} {k0_NoInverse k1_NoInverse k2_NoInverse k3_NoInverse k5_NoInverse : Option Value}
    {nm_NoDivisor q_NoDivisor : Str} {N_NoDivisor : Addr} {bs_NoDivisor bm_NoDivisor : List Value} {sn_NoDivisor : List Str} {sub_NoDivisor : List Value} {ab_NoDivisor : Bool} {col_NoDivisor : Option Bool} {dd_NoDivisor : Option Addr} {k0_NoDivisor k1_NoDivisor k2_NoDivisor k3_NoDivisor k5_NoDivisor : Option Value}
    {nm_SamePoint q_SamePoint : Str} {N_SamePoint : Addr} {bs_SamePoint bm_SamePoint : List Value} {sn_SamePoint : List Str} {sub_SamePoint : List Value} {ab_SamePoint : Bool} {col_SamePoint : Option Bool} {dd_SamePoint : Option Addr} {k0_SamePoint k1_SamePoint k2_SamePoint k3_SamePoint k5_SamePoint : Option Value}
    {nm_BadTaps q_BadTaps : Str} {N_BadTaps : Addr} {bs_BadTaps bm_BadTaps : List Value} {sn_BadTaps : List Str} {sub_BadTaps : List Value} {ab_BadTaps : Bool} {col_BadTaps : Option Bool} {dd_BadTaps : Option Addr} {k0_BadTaps k1_BadTaps k2_BadTaps k3_BadTaps k5_BadTaps : Option Value}
    {nm_BadPattern q_BadPattern : Str} {N_BadPattern : Addr} {bs_BadPattern bm_BadPattern : List Value} {sn_BadPattern : List Str} {sub_BadPattern : List Value} {ab_BadPattern : Bool} {col_BadPattern : Option Bool} {dd_BadPattern : Option Addr} {k0_BadPattern k1_BadPattern k2_BadPattern k3_BadPattern k5_BadPattern : Option Value}
    {nm_BadRow q_BadRow : Str} {N_BadRow : Addr} {bs_BadRow bm_BadRow : List Value} {sn_BadRow : List Str} {sub_BadRow : List Value} {ab_BadRow : Bool} {col_BadRow : Option Bool} {dd_BadRow : Option Addr} {k0_BadRow k1_BadRow k2_BadRow k3_BadRow k5_BadRow : Option Value}
    {nm_NoPath q_NoPath : Str} {N_NoPath : Addr} {bs_NoPath bm_NoPath : List Value} {sn_NoPath : List Str} {sub_NoPath : List Value} {ab_NoPath : Bool} {col_NoPath : Option Bool} {dd_NoPath : Option Addr} {k0_NoPath k1_NoPath k2_NoPath k3_NoPath k5_NoPath : Option Value}
    {nm_WrongSize q_WrongSize : Str} {N_WrongSize : Addr} {bs_WrongSize bm_WrongSize : List Value} {sn_WrongSize : List Str} {sub_WrongSize : List Value} {ab_WrongSize : Bool} {col_WrongSize : Option Bool} {dd_WrongSize : Option Addr} {k0_WrongSize k1_WrongSize k2_WrongSize k3_WrongSize k5_WrongSize : Option Value}
    {nm_WrongPlace q_WrongPlace : Str} {N_WrongPlace : Addr} {bs_WrongPlace bm_WrongPlace : List Value} {sn_WrongPlace : List Str} {sub_WrongPlace : List Value} {ab_WrongPlace : Bool} {col_WrongPlace : Option Bool} {dd_WrongPlace : Option Addr} {k0_WrongPlace k1_WrongPlace k2_WrongPlace k3_WrongPlace k5_WrongPlace : Option Value}
    {nm_WrongCorrection q_WrongCorrection : Str} {N_WrongCorrection : Addr} {bs_WrongCorrection bm_WrongCorrection : List Value} {sn_WrongCorrection : List Str} {sub_WrongCorrection : List Value} {ab_WrongCorrection : Bool} {col_WrongCorrection : Option Bool} {dd_WrongCorrection : Option Addr} {k0_WrongCorrection k1_WrongCorrection k2_WrongCorrection k3_WrongCorrection k5_WrongCorrection : Option Value}
    {nm_TooSmall q_TooSmall : Str} {N_TooSmall : Addr} {bs_TooSmall bm_TooSmall : List Value} {sn_TooSmall : List Str} {sub_TooSmall : List Value} {ab_TooSmall : Bool} {col_TooSmall : Option Bool} {dd_TooSmall : Option Addr} {k0_TooSmall k1_TooSmall k2_TooSmall k3_TooSmall k5_TooSmall : Option Value}
    {nm_TooLarge q_TooLarge : Str} {N_TooLarge : Addr} {bs_TooLarge bm_TooLarge : List Value} {sn_TooLarge : List Str} {sub_TooLarge : List Value} {ab_TooLarge : Bool} {col_TooLarge : Option Bool} {dd_TooLarge : Option Addr} {k0_TooLarge k1_TooLarge k2_TooLarge k3_TooLarge k5_TooLarge : Option Value}
    {nm_BadByte q_BadByte : Str} {N_BadByte : Addr} {bs_BadByte bm_BadByte : List Value} {sn_BadByte : List Str} {sub_BadByte : List Value} {ab_BadByte : Bool} {col_BadByte : Option Bool} {dd_BadByte : Option Addr} {k0_BadByte k1_BadByte k2_BadByte k3_BadByte k5_BadByte : Option Value}
    {nm_HasRegister q_HasRegister : Str} {N_HasRegister : Addr} {bs_HasRegister bm_HasRegister : List Value} {sn_HasRegister : List Str} {sub_HasRegister : List Value} {ab_HasRegister : Bool} {col_HasRegister : Option Bool} {dd_HasRegister : Option Addr} {k0_HasRegister k1_HasRegister k2_HasRegister k3_HasRegister k5_HasRegister : Option Value}
    {nm_BadSeal q_BadSeal : Str} {N_BadSeal : Addr} {bs_BadSeal bm_BadSeal : List Value} {sn_BadSeal : List Str} {sub_BadSeal : List Value} {ab_BadSeal : Bool} {col_BadSeal : Option Bool} {dd_BadSeal : Option Addr} {k0_BadSeal k1_BadSeal k2_BadSeal k3_BadSeal k5_BadSeal : Option Value}
    {nm_BadVote q_BadVote : Str} {N_BadVote : Addr} {bs_BadVote bm_BadVote : List Value} {sn_BadVote : List Str} {sub_BadVote : List Value} {ab_BadVote : Bool} {col_BadVote : Option Bool} {dd_BadVote : Option Addr} {k0_BadVote k1_BadVote k2_BadVote k3_BadVote k5_BadVote : Option Value}
    {nm_TooFar q_TooFar : Str} {N_TooFar : Addr} {bs_TooFar bm_TooFar : List Value} {sn_TooFar : List Str} {sub_TooFar : List Value} {ab_TooFar : Bool} {col_TooFar : Option Bool} {dd_TooFar : Option Addr} {k0_TooFar k1_TooFar k2_TooFar k3_TooFar k5_TooFar : Option Value}
    (a_HaulError : PySem.W.nsIn K mainGlobals "HaulError" = some (some (.ref C_HaulError)))
    (a_OutOfRange : PySem.W.nsIn K mainGlobals "OutOfRange" = some (some (.ref C_OutOfRange)))
    (a_NotIrreducible : PySem.W.nsIn K mainGlobals "NotIrreducible" = some (some (.ref C_NotIrreducible)))
    (a_NoInverse : PySem.W.nsIn K mainGlobals "NoInverse" = some (some (.ref C_NoInverse)))
    (a_NoDivisor : PySem.W.nsIn K mainGlobals "NoDivisor" = some (some (.ref C_NoDivisor)))
    (a_SamePoint : PySem.W.nsIn K mainGlobals "SamePoint" = some (some (.ref C_SamePoint)))
    (a_BadTaps : PySem.W.nsIn K mainGlobals "BadTaps" = some (some (.ref C_BadTaps)))
    (a_BadPattern : PySem.W.nsIn K mainGlobals "BadPattern" = some (some (.ref C_BadPattern)))
    (a_BadRow : PySem.W.nsIn K mainGlobals "BadRow" = some (some (.ref C_BadRow)))
    (a_NoPath : PySem.W.nsIn K mainGlobals "NoPath" = some (some (.ref C_NoPath)))
    (a_WrongSize : PySem.W.nsIn K mainGlobals "WrongSize" = some (some (.ref C_WrongSize)))
    (a_WrongPlace : PySem.W.nsIn K mainGlobals "WrongPlace" = some (some (.ref C_WrongPlace)))
    (a_WrongCorrection : PySem.W.nsIn K mainGlobals "WrongCorrection" = some (some (.ref C_WrongCorrection)))
    (a_TooSmall : PySem.W.nsIn K mainGlobals "TooSmall" = some (some (.ref C_TooSmall)))
    (a_TooLarge : PySem.W.nsIn K mainGlobals "TooLarge" = some (some (.ref C_TooLarge)))
    (a_BadByte : PySem.W.nsIn K mainGlobals "BadByte" = some (some (.ref C_BadByte)))
    (a_HasRegister : PySem.W.nsIn K mainGlobals "HasRegister" = some (some (.ref C_HasRegister)))
    (a_BadSeal : PySem.W.nsIn K mainGlobals "BadSeal" = some (some (.ref C_BadSeal)))
    (a_BadVote : PySem.W.nsIn K mainGlobals "BadVote" = some (some (.ref C_BadVote)))
    (a_TooFar : PySem.W.nsIn K mainGlobals "TooFar" = some (some (.ref C_TooFar)))
    (i_init : PySem.W.findIn K (.ref C_HaulError) "__init__" = some (some (.ref f_init)))
    (ti_init : PySem.W.typeIn K (.ref f_init) = some (.type "function"))
    (l_init : K.lookup f_init = some ⟨oc_init, od_init, .func (PySem.W.fnOf "__init__" "HaulError.__init__" (defArgs s_init) (defBody s_init) (defScope s_init) .none kV_init dc_init pm_init an_init cd_init ct_init), sl_init⟩)
    (c_init : PySem.W.codeIn K cd_init "HaulError.__init__" = true)
    (k_init : PySem.W.keepIn K (.ref f_init) = true)
    (v_init : PySem.W.findCls K (.type "ValueError") (.type "type") "__init__" = some (.val (.builtin "ValueError.__init__")))
    (sp_cls : PySem.W.specialIn K (.builtin "object.__class__") "__get__" = some (some (.builtin "getset_descriptor.__get__")))
    (tk_cls : PySem.W.takesIn K (.builtin "object.__class__") = some true)
    (x_HaulError : K.lookup C_HaulError = some (excClassObj nm_HaulError q_HaulError C_HaulError N_HaulError bs_HaulError bm_HaulError true sn_HaulError sub_HaulError ab_HaulError col_HaulError dd_HaulError k0_HaulError k1_HaulError k2_HaulError k3_HaulError k5_HaulError "ValueError.__new__"))
    (r_HaulError : PySem.HandSPX.refsVE bm_HaulError = true)
    (sa_HaulError : PySem.W.findIn K (.ref C_HaulError) "__setattr__" = some (some (.builtin "object.__setattr__")))
    (ga_HaulError : PySem.W.findIn K (.ref C_HaulError) "__getattribute__" = some (some (.builtin "BaseException.__getattribute__")))
    (gg_HaulError : PySem.W.findIn K (.ref C_HaulError) "__getattr__" = some none)
    (cl_HaulError : PySem.W.findIn K (.ref C_HaulError) "__class__" = some (some (.builtin "object.__class__")))
    (no_HaulError : PySem.W.findIn K (.ref C_HaulError) "at" = some none)
    (e_HaulError : PySem.W.subIn K (.ref C_HaulError) (.type "BaseException") = some true)
    (ty_HaulError : PySem.W.typeIn K (.ref C_HaulError) = some (.type "type"))
    (kc_HaulError : PySem.W.keepIn K (.ref C_HaulError) = true)
    (hd_HaulError : PySem.W.hasDictIn K C_HaulError = true)
    (mo_HaulError : PySem.W.mroIn K C_HaulError (.type "object") = some true)
    (su_HaulError : PySem.W.subIn K (.ref C_HaulError) (.ref C_HaulError) = some true)
    (x_OutOfRange : K.lookup C_OutOfRange = some (excClassObj nm_OutOfRange q_OutOfRange C_OutOfRange N_OutOfRange bs_OutOfRange bm_OutOfRange true sn_OutOfRange sub_OutOfRange ab_OutOfRange col_OutOfRange dd_OutOfRange k0_OutOfRange k1_OutOfRange k2_OutOfRange k3_OutOfRange k5_OutOfRange "ValueError.__new__"))
    (r_OutOfRange : PySem.HandSPX.refsVE bm_OutOfRange = true)
    (sa_OutOfRange : PySem.W.findIn K (.ref C_OutOfRange) "__setattr__" = some (some (.builtin "object.__setattr__")))
    (ga_OutOfRange : PySem.W.findIn K (.ref C_OutOfRange) "__getattribute__" = some (some (.builtin "BaseException.__getattribute__")))
    (gg_OutOfRange : PySem.W.findIn K (.ref C_OutOfRange) "__getattr__" = some none)
    (cl_OutOfRange : PySem.W.findIn K (.ref C_OutOfRange) "__class__" = some (some (.builtin "object.__class__")))
    (no_OutOfRange : PySem.W.findIn K (.ref C_OutOfRange) "at" = some none)
    (ii_OutOfRange : PySem.W.findIn K (.ref C_OutOfRange) "__init__" = some (some (.ref f_init)))
    (e_OutOfRange : PySem.W.subIn K (.ref C_OutOfRange) (.type "BaseException") = some true)
    (ty_OutOfRange : PySem.W.typeIn K (.ref C_OutOfRange) = some (.type "type"))
    (kc_OutOfRange : PySem.W.keepIn K (.ref C_OutOfRange) = true)
    (hd_OutOfRange : PySem.W.hasDictIn K C_OutOfRange = true)
    (mo_OutOfRange : PySem.W.mroIn K C_OutOfRange (.type "object") = some true)
    (su_OutOfRange : PySem.W.subIn K (.ref C_OutOfRange) (.ref C_HaulError) = some true)
    (x_NotIrreducible : K.lookup C_NotIrreducible = some (excClassObj nm_NotIrreducible q_NotIrreducible C_NotIrreducible N_NotIrreducible bs_NotIrreducible bm_NotIrreducible true sn_NotIrreducible sub_NotIrreducible ab_NotIrreducible col_NotIrreducible dd_NotIrreducible k0_NotIrreducible k1_NotIrreducible k2_NotIrreducible k3_NotIrreducible k5_NotIrreducible "ValueError.__new__"))
    (r_NotIrreducible : PySem.HandSPX.refsVE bm_NotIrreducible = true)
    (sa_NotIrreducible : PySem.W.findIn K (.ref C_NotIrreducible) "__setattr__" = some (some (.builtin "object.__setattr__")))
    (ga_NotIrreducible : PySem.W.findIn K (.ref C_NotIrreducible) "__getattribute__" = some (some (.builtin "BaseException.__getattribute__")))
    (gg_NotIrreducible : PySem.W.findIn K (.ref C_NotIrreducible) "__getattr__" = some none)
    (cl_NotIrreducible : PySem.W.findIn K (.ref C_NotIrreducible) "__class__" = some (some (.builtin "object.__class__")))
    (no_NotIrreducible : PySem.W.findIn K (.ref C_NotIrreducible) "at" = some none)
    (ii_NotIrreducible : PySem.W.findIn K (.ref C_NotIrreducible) "__init__" = some (some (.ref f_init)))
    (e_NotIrreducible : PySem.W.subIn K (.ref C_NotIrreducible) (.type "BaseException") = some true)
    (ty_NotIrreducible : PySem.W.typeIn K (.ref C_NotIrreducible) = some (.type "type"))
    (kc_NotIrreducible : PySem.W.keepIn K (.ref C_NotIrreducible) = true)
    (hd_NotIrreducible : PySem.W.hasDictIn K C_NotIrreducible = true)
    (mo_NotIrreducible : PySem.W.mroIn K C_NotIrreducible (.type "object") = some true)
    (su_NotIrreducible : PySem.W.subIn K (.ref C_NotIrreducible) (.ref C_HaulError) = some true)
    (x_NoInverse : K.lookup C_NoInverse = some (excClassObj nm_NoInverse q_NoInverse C_NoInverse N_NoInverse bs_NoInverse bm_NoInverse true sn_NoInverse sub_NoInverse ab_NoInverse col_NoInverse dd_NoInverse k0_NoInverse k1_NoInverse k2_NoInverse k3_NoInverse k5_NoInverse "ValueError.__new__"))
    (r_NoInverse : PySem.HandSPX.refsVE bm_NoInverse = true)
    (sa_NoInverse : PySem.W.findIn K (.ref C_NoInverse) "__setattr__" = some (some (.builtin "object.__setattr__")))
    (ga_NoInverse : PySem.W.findIn K (.ref C_NoInverse) "__getattribute__" = some (some (.builtin "BaseException.__getattribute__")))
    (gg_NoInverse : PySem.W.findIn K (.ref C_NoInverse) "__getattr__" = some none)
    (cl_NoInverse : PySem.W.findIn K (.ref C_NoInverse) "__class__" = some (some (.builtin "object.__class__")))
    (no_NoInverse : PySem.W.findIn K (.ref C_NoInverse) "at" = some none)
    (ii_NoInverse : PySem.W.findIn K (.ref C_NoInverse) "__init__" = some (some (.ref f_init)))
    (e_NoInverse : PySem.W.subIn K (.ref C_NoInverse) (.type "BaseException") = some true)
    (ty_NoInverse : PySem.W.typeIn K (.ref C_NoInverse) = some (.type "type"))
    (kc_NoInverse : PySem.W.keepIn K (.ref C_NoInverse) = true)
    (hd_NoInverse : PySem.W.hasDictIn K C_NoInverse = true)
    (mo_NoInverse : PySem.W.mroIn K C_NoInverse (.type "object") = some true)
    (su_NoInverse : PySem.W.subIn K (.ref C_NoInverse) (.ref C_HaulError) = some true)
    (x_NoDivisor : K.lookup C_NoDivisor = some (excClassObj nm_NoDivisor q_NoDivisor C_NoDivisor N_NoDivisor bs_NoDivisor bm_NoDivisor true sn_NoDivisor sub_NoDivisor ab_NoDivisor col_NoDivisor dd_NoDivisor k0_NoDivisor k1_NoDivisor k2_NoDivisor k3_NoDivisor k5_NoDivisor "ValueError.__new__"))
    (r_NoDivisor : PySem.HandSPX.refsVE bm_NoDivisor = true)
    (sa_NoDivisor : PySem.W.findIn K (.ref C_NoDivisor) "__setattr__" = some (some (.builtin "object.__setattr__")))
    (ga_NoDivisor : PySem.W.findIn K (.ref C_NoDivisor) "__getattribute__" = some (some (.builtin "BaseException.__getattribute__")))
    (gg_NoDivisor : PySem.W.findIn K (.ref C_NoDivisor) "__getattr__" = some none)
    (cl_NoDivisor : PySem.W.findIn K (.ref C_NoDivisor) "__class__" = some (some (.builtin "object.__class__")))
    (no_NoDivisor : PySem.W.findIn K (.ref C_NoDivisor) "at" = some none)
    (ii_NoDivisor : PySem.W.findIn K (.ref C_NoDivisor) "__init__" = some (some (.ref f_init)))
    (e_NoDivisor : PySem.W.subIn K (.ref C_NoDivisor) (.type "BaseException") = some true)
    (ty_NoDivisor : PySem.W.typeIn K (.ref C_NoDivisor) = some (.type "type"))
    (kc_NoDivisor : PySem.W.keepIn K (.ref C_NoDivisor) = true)
    (hd_NoDivisor : PySem.W.hasDictIn K C_NoDivisor = true)
    (mo_NoDivisor : PySem.W.mroIn K C_NoDivisor (.type "object") = some true)
    (su_NoDivisor : PySem.W.subIn K (.ref C_NoDivisor) (.ref C_HaulError) = some true)
    (x_SamePoint : K.lookup C_SamePoint = some (excClassObj nm_SamePoint q_SamePoint C_SamePoint N_SamePoint bs_SamePoint bm_SamePoint true sn_SamePoint sub_SamePoint ab_SamePoint col_SamePoint dd_SamePoint k0_SamePoint k1_SamePoint k2_SamePoint k3_SamePoint k5_SamePoint "ValueError.__new__"))
    (r_SamePoint : PySem.HandSPX.refsVE bm_SamePoint = true)
    (sa_SamePoint : PySem.W.findIn K (.ref C_SamePoint) "__setattr__" = some (some (.builtin "object.__setattr__")))
    (ga_SamePoint : PySem.W.findIn K (.ref C_SamePoint) "__getattribute__" = some (some (.builtin "BaseException.__getattribute__")))
    (gg_SamePoint : PySem.W.findIn K (.ref C_SamePoint) "__getattr__" = some none)
    (cl_SamePoint : PySem.W.findIn K (.ref C_SamePoint) "__class__" = some (some (.builtin "object.__class__")))
    (no_SamePoint : PySem.W.findIn K (.ref C_SamePoint) "at" = some none)
    (ii_SamePoint : PySem.W.findIn K (.ref C_SamePoint) "__init__" = some (some (.ref f_init)))
    (e_SamePoint : PySem.W.subIn K (.ref C_SamePoint) (.type "BaseException") = some true)
    (ty_SamePoint : PySem.W.typeIn K (.ref C_SamePoint) = some (.type "type"))
    (kc_SamePoint : PySem.W.keepIn K (.ref C_SamePoint) = true)
    (hd_SamePoint : PySem.W.hasDictIn K C_SamePoint = true)
    (mo_SamePoint : PySem.W.mroIn K C_SamePoint (.type "object") = some true)
    (su_SamePoint : PySem.W.subIn K (.ref C_SamePoint) (.ref C_HaulError) = some true)
    (x_BadTaps : K.lookup C_BadTaps = some (excClassObj nm_BadTaps q_BadTaps C_BadTaps N_BadTaps bs_BadTaps bm_BadTaps true sn_BadTaps sub_BadTaps ab_BadTaps col_BadTaps dd_BadTaps k0_BadTaps k1_BadTaps k2_BadTaps k3_BadTaps k5_BadTaps "ValueError.__new__"))
    (r_BadTaps : PySem.HandSPX.refsVE bm_BadTaps = true)
    (sa_BadTaps : PySem.W.findIn K (.ref C_BadTaps) "__setattr__" = some (some (.builtin "object.__setattr__")))
    (ga_BadTaps : PySem.W.findIn K (.ref C_BadTaps) "__getattribute__" = some (some (.builtin "BaseException.__getattribute__")))
    (gg_BadTaps : PySem.W.findIn K (.ref C_BadTaps) "__getattr__" = some none)
    (cl_BadTaps : PySem.W.findIn K (.ref C_BadTaps) "__class__" = some (some (.builtin "object.__class__")))
    (no_BadTaps : PySem.W.findIn K (.ref C_BadTaps) "at" = some none)
    (ii_BadTaps : PySem.W.findIn K (.ref C_BadTaps) "__init__" = some (some (.ref f_init)))
    (e_BadTaps : PySem.W.subIn K (.ref C_BadTaps) (.type "BaseException") = some true)
    (ty_BadTaps : PySem.W.typeIn K (.ref C_BadTaps) = some (.type "type"))
    (kc_BadTaps : PySem.W.keepIn K (.ref C_BadTaps) = true)
    (hd_BadTaps : PySem.W.hasDictIn K C_BadTaps = true)
    (mo_BadTaps : PySem.W.mroIn K C_BadTaps (.type "object") = some true)
    (su_BadTaps : PySem.W.subIn K (.ref C_BadTaps) (.ref C_HaulError) = some true)
    (x_BadPattern : K.lookup C_BadPattern = some (excClassObj nm_BadPattern q_BadPattern C_BadPattern N_BadPattern bs_BadPattern bm_BadPattern true sn_BadPattern sub_BadPattern ab_BadPattern col_BadPattern dd_BadPattern k0_BadPattern k1_BadPattern k2_BadPattern k3_BadPattern k5_BadPattern "ValueError.__new__"))
    (r_BadPattern : PySem.HandSPX.refsVE bm_BadPattern = true)
    (sa_BadPattern : PySem.W.findIn K (.ref C_BadPattern) "__setattr__" = some (some (.builtin "object.__setattr__")))
    (ga_BadPattern : PySem.W.findIn K (.ref C_BadPattern) "__getattribute__" = some (some (.builtin "BaseException.__getattribute__")))
    (gg_BadPattern : PySem.W.findIn K (.ref C_BadPattern) "__getattr__" = some none)
    (cl_BadPattern : PySem.W.findIn K (.ref C_BadPattern) "__class__" = some (some (.builtin "object.__class__")))
    (no_BadPattern : PySem.W.findIn K (.ref C_BadPattern) "at" = some none)
    (ii_BadPattern : PySem.W.findIn K (.ref C_BadPattern) "__init__" = some (some (.ref f_init)))
    (e_BadPattern : PySem.W.subIn K (.ref C_BadPattern) (.type "BaseException") = some true)
    (ty_BadPattern : PySem.W.typeIn K (.ref C_BadPattern) = some (.type "type"))
    (kc_BadPattern : PySem.W.keepIn K (.ref C_BadPattern) = true)
    (hd_BadPattern : PySem.W.hasDictIn K C_BadPattern = true)
    (mo_BadPattern : PySem.W.mroIn K C_BadPattern (.type "object") = some true)
    (su_BadPattern : PySem.W.subIn K (.ref C_BadPattern) (.ref C_HaulError) = some true)
    (x_BadRow : K.lookup C_BadRow = some (excClassObj nm_BadRow q_BadRow C_BadRow N_BadRow bs_BadRow bm_BadRow true sn_BadRow sub_BadRow ab_BadRow col_BadRow dd_BadRow k0_BadRow k1_BadRow k2_BadRow k3_BadRow k5_BadRow "ValueError.__new__"))
    (r_BadRow : PySem.HandSPX.refsVE bm_BadRow = true)
    (sa_BadRow : PySem.W.findIn K (.ref C_BadRow) "__setattr__" = some (some (.builtin "object.__setattr__")))
    (ga_BadRow : PySem.W.findIn K (.ref C_BadRow) "__getattribute__" = some (some (.builtin "BaseException.__getattribute__")))
    (gg_BadRow : PySem.W.findIn K (.ref C_BadRow) "__getattr__" = some none)
    (cl_BadRow : PySem.W.findIn K (.ref C_BadRow) "__class__" = some (some (.builtin "object.__class__")))
    (no_BadRow : PySem.W.findIn K (.ref C_BadRow) "at" = some none)
    (ii_BadRow : PySem.W.findIn K (.ref C_BadRow) "__init__" = some (some (.ref f_init)))
    (e_BadRow : PySem.W.subIn K (.ref C_BadRow) (.type "BaseException") = some true)
    (ty_BadRow : PySem.W.typeIn K (.ref C_BadRow) = some (.type "type"))
    (kc_BadRow : PySem.W.keepIn K (.ref C_BadRow) = true)
    (hd_BadRow : PySem.W.hasDictIn K C_BadRow = true)
    (mo_BadRow : PySem.W.mroIn K C_BadRow (.type "object") = some true)
    (su_BadRow : PySem.W.subIn K (.ref C_BadRow) (.ref C_HaulError) = some true)
    (x_NoPath : K.lookup C_NoPath = some (excClassObj nm_NoPath q_NoPath C_NoPath N_NoPath bs_NoPath bm_NoPath true sn_NoPath sub_NoPath ab_NoPath col_NoPath dd_NoPath k0_NoPath k1_NoPath k2_NoPath k3_NoPath k5_NoPath "ValueError.__new__"))
    (r_NoPath : PySem.HandSPX.refsVE bm_NoPath = true)
    (sa_NoPath : PySem.W.findIn K (.ref C_NoPath) "__setattr__" = some (some (.builtin "object.__setattr__")))
    (ga_NoPath : PySem.W.findIn K (.ref C_NoPath) "__getattribute__" = some (some (.builtin "BaseException.__getattribute__")))
    (gg_NoPath : PySem.W.findIn K (.ref C_NoPath) "__getattr__" = some none)
    (cl_NoPath : PySem.W.findIn K (.ref C_NoPath) "__class__" = some (some (.builtin "object.__class__")))
    (no_NoPath : PySem.W.findIn K (.ref C_NoPath) "at" = some none)
    (ii_NoPath : PySem.W.findIn K (.ref C_NoPath) "__init__" = some (some (.ref f_init)))
    (e_NoPath : PySem.W.subIn K (.ref C_NoPath) (.type "BaseException") = some true)
    (ty_NoPath : PySem.W.typeIn K (.ref C_NoPath) = some (.type "type"))
    (kc_NoPath : PySem.W.keepIn K (.ref C_NoPath) = true)
    (hd_NoPath : PySem.W.hasDictIn K C_NoPath = true)
    (mo_NoPath : PySem.W.mroIn K C_NoPath (.type "object") = some true)
    (su_NoPath : PySem.W.subIn K (.ref C_NoPath) (.ref C_HaulError) = some true)
    (x_WrongSize : K.lookup C_WrongSize = some (excClassObj nm_WrongSize q_WrongSize C_WrongSize N_WrongSize bs_WrongSize bm_WrongSize true sn_WrongSize sub_WrongSize ab_WrongSize col_WrongSize dd_WrongSize k0_WrongSize k1_WrongSize k2_WrongSize k3_WrongSize k5_WrongSize "ValueError.__new__"))
    (r_WrongSize : PySem.HandSPX.refsVE bm_WrongSize = true)
    (sa_WrongSize : PySem.W.findIn K (.ref C_WrongSize) "__setattr__" = some (some (.builtin "object.__setattr__")))
    (ga_WrongSize : PySem.W.findIn K (.ref C_WrongSize) "__getattribute__" = some (some (.builtin "BaseException.__getattribute__")))
    (gg_WrongSize : PySem.W.findIn K (.ref C_WrongSize) "__getattr__" = some none)
    (cl_WrongSize : PySem.W.findIn K (.ref C_WrongSize) "__class__" = some (some (.builtin "object.__class__")))
    (no_WrongSize : PySem.W.findIn K (.ref C_WrongSize) "at" = some none)
    (ii_WrongSize : PySem.W.findIn K (.ref C_WrongSize) "__init__" = some (some (.ref f_init)))
    (e_WrongSize : PySem.W.subIn K (.ref C_WrongSize) (.type "BaseException") = some true)
    (ty_WrongSize : PySem.W.typeIn K (.ref C_WrongSize) = some (.type "type"))
    (kc_WrongSize : PySem.W.keepIn K (.ref C_WrongSize) = true)
    (hd_WrongSize : PySem.W.hasDictIn K C_WrongSize = true)
    (mo_WrongSize : PySem.W.mroIn K C_WrongSize (.type "object") = some true)
    (su_WrongSize : PySem.W.subIn K (.ref C_WrongSize) (.ref C_HaulError) = some true)
    (x_WrongPlace : K.lookup C_WrongPlace = some (excClassObj nm_WrongPlace q_WrongPlace C_WrongPlace N_WrongPlace bs_WrongPlace bm_WrongPlace true sn_WrongPlace sub_WrongPlace ab_WrongPlace col_WrongPlace dd_WrongPlace k0_WrongPlace k1_WrongPlace k2_WrongPlace k3_WrongPlace k5_WrongPlace "ValueError.__new__"))
    (r_WrongPlace : PySem.HandSPX.refsVE bm_WrongPlace = true)
    (sa_WrongPlace : PySem.W.findIn K (.ref C_WrongPlace) "__setattr__" = some (some (.builtin "object.__setattr__")))
    (ga_WrongPlace : PySem.W.findIn K (.ref C_WrongPlace) "__getattribute__" = some (some (.builtin "BaseException.__getattribute__")))
    (gg_WrongPlace : PySem.W.findIn K (.ref C_WrongPlace) "__getattr__" = some none)
    (cl_WrongPlace : PySem.W.findIn K (.ref C_WrongPlace) "__class__" = some (some (.builtin "object.__class__")))
    (no_WrongPlace : PySem.W.findIn K (.ref C_WrongPlace) "at" = some none)
    (ii_WrongPlace : PySem.W.findIn K (.ref C_WrongPlace) "__init__" = some (some (.ref f_init)))
    (e_WrongPlace : PySem.W.subIn K (.ref C_WrongPlace) (.type "BaseException") = some true)
    (ty_WrongPlace : PySem.W.typeIn K (.ref C_WrongPlace) = some (.type "type"))
    (kc_WrongPlace : PySem.W.keepIn K (.ref C_WrongPlace) = true)
    (hd_WrongPlace : PySem.W.hasDictIn K C_WrongPlace = true)
    (mo_WrongPlace : PySem.W.mroIn K C_WrongPlace (.type "object") = some true)
    (su_WrongPlace : PySem.W.subIn K (.ref C_WrongPlace) (.ref C_HaulError) = some true)
    (x_WrongCorrection : K.lookup C_WrongCorrection = some (excClassObj nm_WrongCorrection q_WrongCorrection C_WrongCorrection N_WrongCorrection bs_WrongCorrection bm_WrongCorrection true sn_WrongCorrection sub_WrongCorrection ab_WrongCorrection col_WrongCorrection dd_WrongCorrection k0_WrongCorrection k1_WrongCorrection k2_WrongCorrection k3_WrongCorrection k5_WrongCorrection "ValueError.__new__"))
    (r_WrongCorrection : PySem.HandSPX.refsVE bm_WrongCorrection = true)
    (sa_WrongCorrection : PySem.W.findIn K (.ref C_WrongCorrection) "__setattr__" = some (some (.builtin "object.__setattr__")))
    (ga_WrongCorrection : PySem.W.findIn K (.ref C_WrongCorrection) "__getattribute__" = some (some (.builtin "BaseException.__getattribute__")))
    (gg_WrongCorrection : PySem.W.findIn K (.ref C_WrongCorrection) "__getattr__" = some none)
    (cl_WrongCorrection : PySem.W.findIn K (.ref C_WrongCorrection) "__class__" = some (some (.builtin "object.__class__")))
    (no_WrongCorrection : PySem.W.findIn K (.ref C_WrongCorrection) "at" = some none)
    (ii_WrongCorrection : PySem.W.findIn K (.ref C_WrongCorrection) "__init__" = some (some (.ref f_init)))
    (e_WrongCorrection : PySem.W.subIn K (.ref C_WrongCorrection) (.type "BaseException") = some true)
    (ty_WrongCorrection : PySem.W.typeIn K (.ref C_WrongCorrection) = some (.type "type"))
    (kc_WrongCorrection : PySem.W.keepIn K (.ref C_WrongCorrection) = true)
    (hd_WrongCorrection : PySem.W.hasDictIn K C_WrongCorrection = true)
    (mo_WrongCorrection : PySem.W.mroIn K C_WrongCorrection (.type "object") = some true)
    (su_WrongCorrection : PySem.W.subIn K (.ref C_WrongCorrection) (.ref C_HaulError) = some true)
    (x_TooSmall : K.lookup C_TooSmall = some (excClassObj nm_TooSmall q_TooSmall C_TooSmall N_TooSmall bs_TooSmall bm_TooSmall true sn_TooSmall sub_TooSmall ab_TooSmall col_TooSmall dd_TooSmall k0_TooSmall k1_TooSmall k2_TooSmall k3_TooSmall k5_TooSmall "ValueError.__new__"))
    (r_TooSmall : PySem.HandSPX.refsVE bm_TooSmall = true)
    (sa_TooSmall : PySem.W.findIn K (.ref C_TooSmall) "__setattr__" = some (some (.builtin "object.__setattr__")))
    (ga_TooSmall : PySem.W.findIn K (.ref C_TooSmall) "__getattribute__" = some (some (.builtin "BaseException.__getattribute__")))
    (gg_TooSmall : PySem.W.findIn K (.ref C_TooSmall) "__getattr__" = some none)
    (cl_TooSmall : PySem.W.findIn K (.ref C_TooSmall) "__class__" = some (some (.builtin "object.__class__")))
    (no_TooSmall : PySem.W.findIn K (.ref C_TooSmall) "at" = some none)
    (ii_TooSmall : PySem.W.findIn K (.ref C_TooSmall) "__init__" = some (some (.ref f_init)))
    (e_TooSmall : PySem.W.subIn K (.ref C_TooSmall) (.type "BaseException") = some true)
    (ty_TooSmall : PySem.W.typeIn K (.ref C_TooSmall) = some (.type "type"))
    (kc_TooSmall : PySem.W.keepIn K (.ref C_TooSmall) = true)
    (hd_TooSmall : PySem.W.hasDictIn K C_TooSmall = true)
    (mo_TooSmall : PySem.W.mroIn K C_TooSmall (.type "object") = some true)
    (su_TooSmall : PySem.W.subIn K (.ref C_TooSmall) (.ref C_HaulError) = some true)
    (x_TooLarge : K.lookup C_TooLarge = some (excClassObj nm_TooLarge q_TooLarge C_TooLarge N_TooLarge bs_TooLarge bm_TooLarge true sn_TooLarge sub_TooLarge ab_TooLarge col_TooLarge dd_TooLarge k0_TooLarge k1_TooLarge k2_TooLarge k3_TooLarge k5_TooLarge "ValueError.__new__"))
    (r_TooLarge : PySem.HandSPX.refsVE bm_TooLarge = true)
    (sa_TooLarge : PySem.W.findIn K (.ref C_TooLarge) "__setattr__" = some (some (.builtin "object.__setattr__")))
    (ga_TooLarge : PySem.W.findIn K (.ref C_TooLarge) "__getattribute__" = some (some (.builtin "BaseException.__getattribute__")))
    (gg_TooLarge : PySem.W.findIn K (.ref C_TooLarge) "__getattr__" = some none)
    (cl_TooLarge : PySem.W.findIn K (.ref C_TooLarge) "__class__" = some (some (.builtin "object.__class__")))
    (no_TooLarge : PySem.W.findIn K (.ref C_TooLarge) "at" = some none)
    (ii_TooLarge : PySem.W.findIn K (.ref C_TooLarge) "__init__" = some (some (.ref f_init)))
    (e_TooLarge : PySem.W.subIn K (.ref C_TooLarge) (.type "BaseException") = some true)
    (ty_TooLarge : PySem.W.typeIn K (.ref C_TooLarge) = some (.type "type"))
    (kc_TooLarge : PySem.W.keepIn K (.ref C_TooLarge) = true)
    (hd_TooLarge : PySem.W.hasDictIn K C_TooLarge = true)
    (mo_TooLarge : PySem.W.mroIn K C_TooLarge (.type "object") = some true)
    (su_TooLarge : PySem.W.subIn K (.ref C_TooLarge) (.ref C_HaulError) = some true)
    (x_BadByte : K.lookup C_BadByte = some (excClassObj nm_BadByte q_BadByte C_BadByte N_BadByte bs_BadByte bm_BadByte true sn_BadByte sub_BadByte ab_BadByte col_BadByte dd_BadByte k0_BadByte k1_BadByte k2_BadByte k3_BadByte k5_BadByte "ValueError.__new__"))
    (r_BadByte : PySem.HandSPX.refsVE bm_BadByte = true)
    (sa_BadByte : PySem.W.findIn K (.ref C_BadByte) "__setattr__" = some (some (.builtin "object.__setattr__")))
    (ga_BadByte : PySem.W.findIn K (.ref C_BadByte) "__getattribute__" = some (some (.builtin "BaseException.__getattribute__")))
    (gg_BadByte : PySem.W.findIn K (.ref C_BadByte) "__getattr__" = some none)
    (cl_BadByte : PySem.W.findIn K (.ref C_BadByte) "__class__" = some (some (.builtin "object.__class__")))
    (no_BadByte : PySem.W.findIn K (.ref C_BadByte) "at" = some none)
    (ii_BadByte : PySem.W.findIn K (.ref C_BadByte) "__init__" = some (some (.ref f_init)))
    (e_BadByte : PySem.W.subIn K (.ref C_BadByte) (.type "BaseException") = some true)
    (ty_BadByte : PySem.W.typeIn K (.ref C_BadByte) = some (.type "type"))
    (kc_BadByte : PySem.W.keepIn K (.ref C_BadByte) = true)
    (hd_BadByte : PySem.W.hasDictIn K C_BadByte = true)
    (mo_BadByte : PySem.W.mroIn K C_BadByte (.type "object") = some true)
    (su_BadByte : PySem.W.subIn K (.ref C_BadByte) (.ref C_HaulError) = some true)
    (x_HasRegister : K.lookup C_HasRegister = some (excClassObj nm_HasRegister q_HasRegister C_HasRegister N_HasRegister bs_HasRegister bm_HasRegister true sn_HasRegister sub_HasRegister ab_HasRegister col_HasRegister dd_HasRegister k0_HasRegister k1_HasRegister k2_HasRegister k3_HasRegister k5_HasRegister "ValueError.__new__"))
    (r_HasRegister : PySem.HandSPX.refsVE bm_HasRegister = true)
    (sa_HasRegister : PySem.W.findIn K (.ref C_HasRegister) "__setattr__" = some (some (.builtin "object.__setattr__")))
    (ga_HasRegister : PySem.W.findIn K (.ref C_HasRegister) "__getattribute__" = some (some (.builtin "BaseException.__getattribute__")))
    (gg_HasRegister : PySem.W.findIn K (.ref C_HasRegister) "__getattr__" = some none)
    (cl_HasRegister : PySem.W.findIn K (.ref C_HasRegister) "__class__" = some (some (.builtin "object.__class__")))
    (no_HasRegister : PySem.W.findIn K (.ref C_HasRegister) "at" = some none)
    (ii_HasRegister : PySem.W.findIn K (.ref C_HasRegister) "__init__" = some (some (.ref f_init)))
    (e_HasRegister : PySem.W.subIn K (.ref C_HasRegister) (.type "BaseException") = some true)
    (ty_HasRegister : PySem.W.typeIn K (.ref C_HasRegister) = some (.type "type"))
    (kc_HasRegister : PySem.W.keepIn K (.ref C_HasRegister) = true)
    (hd_HasRegister : PySem.W.hasDictIn K C_HasRegister = true)
    (mo_HasRegister : PySem.W.mroIn K C_HasRegister (.type "object") = some true)
    (su_HasRegister : PySem.W.subIn K (.ref C_HasRegister) (.ref C_HaulError) = some true)
    (x_BadSeal : K.lookup C_BadSeal = some (excClassObj nm_BadSeal q_BadSeal C_BadSeal N_BadSeal bs_BadSeal bm_BadSeal true sn_BadSeal sub_BadSeal ab_BadSeal col_BadSeal dd_BadSeal k0_BadSeal k1_BadSeal k2_BadSeal k3_BadSeal k5_BadSeal "ValueError.__new__"))
    (r_BadSeal : PySem.HandSPX.refsVE bm_BadSeal = true)
    (sa_BadSeal : PySem.W.findIn K (.ref C_BadSeal) "__setattr__" = some (some (.builtin "object.__setattr__")))
    (ga_BadSeal : PySem.W.findIn K (.ref C_BadSeal) "__getattribute__" = some (some (.builtin "BaseException.__getattribute__")))
    (gg_BadSeal : PySem.W.findIn K (.ref C_BadSeal) "__getattr__" = some none)
    (cl_BadSeal : PySem.W.findIn K (.ref C_BadSeal) "__class__" = some (some (.builtin "object.__class__")))
    (no_BadSeal : PySem.W.findIn K (.ref C_BadSeal) "at" = some none)
    (ii_BadSeal : PySem.W.findIn K (.ref C_BadSeal) "__init__" = some (some (.ref f_init)))
    (e_BadSeal : PySem.W.subIn K (.ref C_BadSeal) (.type "BaseException") = some true)
    (ty_BadSeal : PySem.W.typeIn K (.ref C_BadSeal) = some (.type "type"))
    (kc_BadSeal : PySem.W.keepIn K (.ref C_BadSeal) = true)
    (hd_BadSeal : PySem.W.hasDictIn K C_BadSeal = true)
    (mo_BadSeal : PySem.W.mroIn K C_BadSeal (.type "object") = some true)
    (su_BadSeal : PySem.W.subIn K (.ref C_BadSeal) (.ref C_HaulError) = some true)
    (x_BadVote : K.lookup C_BadVote = some (excClassObj nm_BadVote q_BadVote C_BadVote N_BadVote bs_BadVote bm_BadVote true sn_BadVote sub_BadVote ab_BadVote col_BadVote dd_BadVote k0_BadVote k1_BadVote k2_BadVote k3_BadVote k5_BadVote "ValueError.__new__"))
    (r_BadVote : PySem.HandSPX.refsVE bm_BadVote = true)
    (sa_BadVote : PySem.W.findIn K (.ref C_BadVote) "__setattr__" = some (some (.builtin "object.__setattr__")))
    (ga_BadVote : PySem.W.findIn K (.ref C_BadVote) "__getattribute__" = some (some (.builtin "BaseException.__getattribute__")))
    (gg_BadVote : PySem.W.findIn K (.ref C_BadVote) "__getattr__" = some none)
    (cl_BadVote : PySem.W.findIn K (.ref C_BadVote) "__class__" = some (some (.builtin "object.__class__")))
    (no_BadVote : PySem.W.findIn K (.ref C_BadVote) "at" = some none)
    (ii_BadVote : PySem.W.findIn K (.ref C_BadVote) "__init__" = some (some (.ref f_init)))
    (e_BadVote : PySem.W.subIn K (.ref C_BadVote) (.type "BaseException") = some true)
    (ty_BadVote : PySem.W.typeIn K (.ref C_BadVote) = some (.type "type"))
    (kc_BadVote : PySem.W.keepIn K (.ref C_BadVote) = true)
    (hd_BadVote : PySem.W.hasDictIn K C_BadVote = true)
    (mo_BadVote : PySem.W.mroIn K C_BadVote (.type "object") = some true)
    (su_BadVote : PySem.W.subIn K (.ref C_BadVote) (.ref C_HaulError) = some true)
    (x_TooFar : K.lookup C_TooFar = some (excClassObj nm_TooFar q_TooFar C_TooFar N_TooFar bs_TooFar bm_TooFar true sn_TooFar sub_TooFar ab_TooFar col_TooFar dd_TooFar k0_TooFar k1_TooFar k2_TooFar k3_TooFar k5_TooFar "ValueError.__new__"))
    (r_TooFar : PySem.HandSPX.refsVE bm_TooFar = true)
    (sa_TooFar : PySem.W.findIn K (.ref C_TooFar) "__setattr__" = some (some (.builtin "object.__setattr__")))
    (ga_TooFar : PySem.W.findIn K (.ref C_TooFar) "__getattribute__" = some (some (.builtin "BaseException.__getattribute__")))
    (gg_TooFar : PySem.W.findIn K (.ref C_TooFar) "__getattr__" = some none)
    (cl_TooFar : PySem.W.findIn K (.ref C_TooFar) "__class__" = some (some (.builtin "object.__class__")))
    (no_TooFar : PySem.W.findIn K (.ref C_TooFar) "at" = some none)
    (ii_TooFar : PySem.W.findIn K (.ref C_TooFar) "__init__" = some (some (.ref f_init)))
    (e_TooFar : PySem.W.subIn K (.ref C_TooFar) (.type "BaseException") = some true)
    (ty_TooFar : PySem.W.typeIn K (.ref C_TooFar) = some (.type "type"))
    (kc_TooFar : PySem.W.keepIn K (.ref C_TooFar) = true)
    (hd_TooFar : PySem.W.hasDictIn K C_TooFar = true)
    (mo_TooFar : PySem.W.mroIn K C_TooFar (.type "object") = some true)
    (su_TooFar : PySem.W.subIn K (.ref C_TooFar) (.ref C_HaulError) = some true)
    (a__law_made : PySem.W.nsIn K mainGlobals "_law_made" = some (some (.ref f__law_made)))
    (l__law_made : K.lookup f__law_made = some ⟨oc__law_made, od__law_made, .func (PySem.W.fnOf "_law_made" "_law_made" (defArgs s__law_made) (defBody s__law_made) (defScope s__law_made) .none kV__law_made dc__law_made pm__law_made an__law_made cd__law_made ct__law_made), sl__law_made⟩)
    (c__law_made : PySem.W.codeIn K cd__law_made "_law_made" = true)
    (k__law_made : PySem.W.keepIn K (.ref f__law_made) = true)
    (a__law_further : PySem.W.nsIn K mainGlobals "_law_further" = some (some (.ref f__law_further)))
    (l__law_further : K.lookup f__law_further = some ⟨oc__law_further, od__law_further, .func (PySem.W.fnOf "_law_further" "_law_further" (defArgs s__law_further) (defBody s__law_further) (defScope s__law_further) .none kV__law_further dc__law_further pm__law_further an__law_further cd__law_further ct__law_further), sl__law_further⟩)
    (c__law_further : PySem.W.codeIn K cd__law_further "_law_further" = true)
    (k__law_further : PySem.W.keepIn K (.ref f__law_further) = true)
    (a__law_kinds : PySem.W.nsIn K mainGlobals "_law_kinds" = some (some (.ref f__law_kinds)))
    (l__law_kinds : K.lookup f__law_kinds = some ⟨oc__law_kinds, od__law_kinds, .func (PySem.W.fnOf "_law_kinds" "_law_kinds" (defArgs s__law_kinds) (defBody s__law_kinds) (defScope s__law_kinds) .none kV__law_kinds dc__law_kinds pm__law_kinds an__law_kinds cd__law_kinds ct__law_kinds), sl__law_kinds⟩)
    (c__law_kinds : PySem.W.codeIn K cd__law_kinds "_law_kinds" = true)
    (k__law_kinds : PySem.W.keepIn K (.ref f__law_kinds) = true)
    (a_law : PySem.W.nsIn K mainGlobals "law" = some (some (.ref f_law)))
    (l_law : K.lookup f_law = some ⟨oc_law, od_law, .func (PySem.W.fnOf "law" "law" (defArgs s_law) (defBody s_law) (defScope s_law) .none kV_law dc_law pm_law an_law cd_law ct_law), sl_law⟩)
    (c_law : PySem.W.codeIn K cd_law "law" = true)
    (k_law : PySem.W.keepIn K (.ref f_law) = true)
    (kk_0_1 : PySem.W.kitOne K (.ref C_OutOfRange) (.ref C_NotIrreducible) = some false)
    (kk_0_2 : PySem.W.kitOne K (.ref C_OutOfRange) (.ref C_NoInverse) = some false)
    (kk_0_3 : PySem.W.kitOne K (.ref C_OutOfRange) (.ref C_NoDivisor) = some false)
    (kk_0_4 : PySem.W.kitOne K (.ref C_OutOfRange) (.ref C_SamePoint) = some false)
    (kk_0_5 : PySem.W.kitOne K (.ref C_OutOfRange) (.ref C_BadTaps) = some false)
    (kk_0_6 : PySem.W.kitOne K (.ref C_OutOfRange) (.ref C_BadPattern) = some false)
    (kk_0_7 : PySem.W.kitOne K (.ref C_OutOfRange) (.ref C_BadRow) = some false)
    (kk_0_8 : PySem.W.kitOne K (.ref C_OutOfRange) (.ref C_NoPath) = some false)
    (kk_0_9 : PySem.W.kitOne K (.ref C_OutOfRange) (.ref C_WrongSize) = some false)
    (kk_0_10 : PySem.W.kitOne K (.ref C_OutOfRange) (.ref C_WrongPlace) = some false)
    (kk_0_11 : PySem.W.kitOne K (.ref C_OutOfRange) (.ref C_WrongCorrection) = some false)
    (kk_0_12 : PySem.W.kitOne K (.ref C_OutOfRange) (.ref C_TooSmall) = some false)
    (kk_0_13 : PySem.W.kitOne K (.ref C_OutOfRange) (.ref C_TooLarge) = some false)
    (kk_0_14 : PySem.W.kitOne K (.ref C_OutOfRange) (.ref C_BadByte) = some false)
    (kk_0_15 : PySem.W.kitOne K (.ref C_OutOfRange) (.ref C_HasRegister) = some false)
    (kk_0_16 : PySem.W.kitOne K (.ref C_OutOfRange) (.ref C_BadSeal) = some false)
    (kk_0_17 : PySem.W.kitOne K (.ref C_OutOfRange) (.ref C_BadVote) = some false)
    (kk_0_18 : PySem.W.kitOne K (.ref C_OutOfRange) (.ref C_TooFar) = some false)
    (kh_0 : PySem.W.kitOne K (.ref C_OutOfRange) (.ref C_HaulError) = some true)
    (kv_0 : PySem.W.kitOne K (.ref C_OutOfRange) (.type "ValueError") = some true)
    (kk_1_0 : PySem.W.kitOne K (.ref C_NotIrreducible) (.ref C_OutOfRange) = some false)
    (kk_1_2 : PySem.W.kitOne K (.ref C_NotIrreducible) (.ref C_NoInverse) = some false)
    (kk_1_3 : PySem.W.kitOne K (.ref C_NotIrreducible) (.ref C_NoDivisor) = some false)
    (kk_1_4 : PySem.W.kitOne K (.ref C_NotIrreducible) (.ref C_SamePoint) = some false)
    (kk_1_5 : PySem.W.kitOne K (.ref C_NotIrreducible) (.ref C_BadTaps) = some false)
    (kk_1_6 : PySem.W.kitOne K (.ref C_NotIrreducible) (.ref C_BadPattern) = some false)
    (kk_1_7 : PySem.W.kitOne K (.ref C_NotIrreducible) (.ref C_BadRow) = some false)
    (kk_1_8 : PySem.W.kitOne K (.ref C_NotIrreducible) (.ref C_NoPath) = some false)
    (kk_1_9 : PySem.W.kitOne K (.ref C_NotIrreducible) (.ref C_WrongSize) = some false)
    (kk_1_10 : PySem.W.kitOne K (.ref C_NotIrreducible) (.ref C_WrongPlace) = some false)
    (kk_1_11 : PySem.W.kitOne K (.ref C_NotIrreducible) (.ref C_WrongCorrection) = some false)
    (kk_1_12 : PySem.W.kitOne K (.ref C_NotIrreducible) (.ref C_TooSmall) = some false)
    (kk_1_13 : PySem.W.kitOne K (.ref C_NotIrreducible) (.ref C_TooLarge) = some false)
    (kk_1_14 : PySem.W.kitOne K (.ref C_NotIrreducible) (.ref C_BadByte) = some false)
    (kk_1_15 : PySem.W.kitOne K (.ref C_NotIrreducible) (.ref C_HasRegister) = some false)
    (kk_1_16 : PySem.W.kitOne K (.ref C_NotIrreducible) (.ref C_BadSeal) = some false)
    (kk_1_17 : PySem.W.kitOne K (.ref C_NotIrreducible) (.ref C_BadVote) = some false)
    (kk_1_18 : PySem.W.kitOne K (.ref C_NotIrreducible) (.ref C_TooFar) = some false)
    (kh_1 : PySem.W.kitOne K (.ref C_NotIrreducible) (.ref C_HaulError) = some true)
    (kv_1 : PySem.W.kitOne K (.ref C_NotIrreducible) (.type "ValueError") = some true)
    (kk_2_0 : PySem.W.kitOne K (.ref C_NoInverse) (.ref C_OutOfRange) = some false)
    (kk_2_1 : PySem.W.kitOne K (.ref C_NoInverse) (.ref C_NotIrreducible) = some false)
    (kk_2_3 : PySem.W.kitOne K (.ref C_NoInverse) (.ref C_NoDivisor) = some false)
    (kk_2_4 : PySem.W.kitOne K (.ref C_NoInverse) (.ref C_SamePoint) = some false)
    (kk_2_5 : PySem.W.kitOne K (.ref C_NoInverse) (.ref C_BadTaps) = some false)
    (kk_2_6 : PySem.W.kitOne K (.ref C_NoInverse) (.ref C_BadPattern) = some false)
    (kk_2_7 : PySem.W.kitOne K (.ref C_NoInverse) (.ref C_BadRow) = some false)
    (kk_2_8 : PySem.W.kitOne K (.ref C_NoInverse) (.ref C_NoPath) = some false)
    (kk_2_9 : PySem.W.kitOne K (.ref C_NoInverse) (.ref C_WrongSize) = some false)
    (kk_2_10 : PySem.W.kitOne K (.ref C_NoInverse) (.ref C_WrongPlace) = some false)
    (kk_2_11 : PySem.W.kitOne K (.ref C_NoInverse) (.ref C_WrongCorrection) = some false)
    (kk_2_12 : PySem.W.kitOne K (.ref C_NoInverse) (.ref C_TooSmall) = some false)
    (kk_2_13 : PySem.W.kitOne K (.ref C_NoInverse) (.ref C_TooLarge) = some false)
    (kk_2_14 : PySem.W.kitOne K (.ref C_NoInverse) (.ref C_BadByte) = some false)
    (kk_2_15 : PySem.W.kitOne K (.ref C_NoInverse) (.ref C_HasRegister) = some false)
    (kk_2_16 : PySem.W.kitOne K (.ref C_NoInverse) (.ref C_BadSeal) = some false)
    (kk_2_17 : PySem.W.kitOne K (.ref C_NoInverse) (.ref C_BadVote) = some false)
    (kk_2_18 : PySem.W.kitOne K (.ref C_NoInverse) (.ref C_TooFar) = some false)
    (kh_2 : PySem.W.kitOne K (.ref C_NoInverse) (.ref C_HaulError) = some true)
    (kv_2 : PySem.W.kitOne K (.ref C_NoInverse) (.type "ValueError") = some true)
    (kk_3_0 : PySem.W.kitOne K (.ref C_NoDivisor) (.ref C_OutOfRange) = some false)
    (kk_3_1 : PySem.W.kitOne K (.ref C_NoDivisor) (.ref C_NotIrreducible) = some false)
    (kk_3_2 : PySem.W.kitOne K (.ref C_NoDivisor) (.ref C_NoInverse) = some false)
    (kk_3_4 : PySem.W.kitOne K (.ref C_NoDivisor) (.ref C_SamePoint) = some false)
    (kk_3_5 : PySem.W.kitOne K (.ref C_NoDivisor) (.ref C_BadTaps) = some false)
    (kk_3_6 : PySem.W.kitOne K (.ref C_NoDivisor) (.ref C_BadPattern) = some false)
    (kk_3_7 : PySem.W.kitOne K (.ref C_NoDivisor) (.ref C_BadRow) = some false)
    (kk_3_8 : PySem.W.kitOne K (.ref C_NoDivisor) (.ref C_NoPath) = some false)
    (kk_3_9 : PySem.W.kitOne K (.ref C_NoDivisor) (.ref C_WrongSize) = some false)
    (kk_3_10 : PySem.W.kitOne K (.ref C_NoDivisor) (.ref C_WrongPlace) = some false)
    (kk_3_11 : PySem.W.kitOne K (.ref C_NoDivisor) (.ref C_WrongCorrection) = some false)
    (kk_3_12 : PySem.W.kitOne K (.ref C_NoDivisor) (.ref C_TooSmall) = some false)
    (kk_3_13 : PySem.W.kitOne K (.ref C_NoDivisor) (.ref C_TooLarge) = some false)
    (kk_3_14 : PySem.W.kitOne K (.ref C_NoDivisor) (.ref C_BadByte) = some false)
    (kk_3_15 : PySem.W.kitOne K (.ref C_NoDivisor) (.ref C_HasRegister) = some false)
    (kk_3_16 : PySem.W.kitOne K (.ref C_NoDivisor) (.ref C_BadSeal) = some false)
    (kk_3_17 : PySem.W.kitOne K (.ref C_NoDivisor) (.ref C_BadVote) = some false)
    (kk_3_18 : PySem.W.kitOne K (.ref C_NoDivisor) (.ref C_TooFar) = some false)
    (kh_3 : PySem.W.kitOne K (.ref C_NoDivisor) (.ref C_HaulError) = some true)
    (kv_3 : PySem.W.kitOne K (.ref C_NoDivisor) (.type "ValueError") = some true)
    (kk_4_0 : PySem.W.kitOne K (.ref C_SamePoint) (.ref C_OutOfRange) = some false)
    (kk_4_1 : PySem.W.kitOne K (.ref C_SamePoint) (.ref C_NotIrreducible) = some false)
    (kk_4_2 : PySem.W.kitOne K (.ref C_SamePoint) (.ref C_NoInverse) = some false)
    (kk_4_3 : PySem.W.kitOne K (.ref C_SamePoint) (.ref C_NoDivisor) = some false)
    (kk_4_5 : PySem.W.kitOne K (.ref C_SamePoint) (.ref C_BadTaps) = some false)
    (kk_4_6 : PySem.W.kitOne K (.ref C_SamePoint) (.ref C_BadPattern) = some false)
    (kk_4_7 : PySem.W.kitOne K (.ref C_SamePoint) (.ref C_BadRow) = some false)
    (kk_4_8 : PySem.W.kitOne K (.ref C_SamePoint) (.ref C_NoPath) = some false)
    (kk_4_9 : PySem.W.kitOne K (.ref C_SamePoint) (.ref C_WrongSize) = some false)
    (kk_4_10 : PySem.W.kitOne K (.ref C_SamePoint) (.ref C_WrongPlace) = some false)
    (kk_4_11 : PySem.W.kitOne K (.ref C_SamePoint) (.ref C_WrongCorrection) = some false)
    (kk_4_12 : PySem.W.kitOne K (.ref C_SamePoint) (.ref C_TooSmall) = some false)
    (kk_4_13 : PySem.W.kitOne K (.ref C_SamePoint) (.ref C_TooLarge) = some false)
    (kk_4_14 : PySem.W.kitOne K (.ref C_SamePoint) (.ref C_BadByte) = some false)
    (kk_4_15 : PySem.W.kitOne K (.ref C_SamePoint) (.ref C_HasRegister) = some false)
    (kk_4_16 : PySem.W.kitOne K (.ref C_SamePoint) (.ref C_BadSeal) = some false)
    (kk_4_17 : PySem.W.kitOne K (.ref C_SamePoint) (.ref C_BadVote) = some false)
    (kk_4_18 : PySem.W.kitOne K (.ref C_SamePoint) (.ref C_TooFar) = some false)
    (kh_4 : PySem.W.kitOne K (.ref C_SamePoint) (.ref C_HaulError) = some true)
    (kv_4 : PySem.W.kitOne K (.ref C_SamePoint) (.type "ValueError") = some true)
    (kk_5_0 : PySem.W.kitOne K (.ref C_BadTaps) (.ref C_OutOfRange) = some false)
    (kk_5_1 : PySem.W.kitOne K (.ref C_BadTaps) (.ref C_NotIrreducible) = some false)
    (kk_5_2 : PySem.W.kitOne K (.ref C_BadTaps) (.ref C_NoInverse) = some false)
    (kk_5_3 : PySem.W.kitOne K (.ref C_BadTaps) (.ref C_NoDivisor) = some false)
    (kk_5_4 : PySem.W.kitOne K (.ref C_BadTaps) (.ref C_SamePoint) = some false)
    (kk_5_6 : PySem.W.kitOne K (.ref C_BadTaps) (.ref C_BadPattern) = some false)
    (kk_5_7 : PySem.W.kitOne K (.ref C_BadTaps) (.ref C_BadRow) = some false)
    (kk_5_8 : PySem.W.kitOne K (.ref C_BadTaps) (.ref C_NoPath) = some false)
    (kk_5_9 : PySem.W.kitOne K (.ref C_BadTaps) (.ref C_WrongSize) = some false)
    (kk_5_10 : PySem.W.kitOne K (.ref C_BadTaps) (.ref C_WrongPlace) = some false)
    (kk_5_11 : PySem.W.kitOne K (.ref C_BadTaps) (.ref C_WrongCorrection) = some false)
    (kk_5_12 : PySem.W.kitOne K (.ref C_BadTaps) (.ref C_TooSmall) = some false)
    (kk_5_13 : PySem.W.kitOne K (.ref C_BadTaps) (.ref C_TooLarge) = some false)
    (kk_5_14 : PySem.W.kitOne K (.ref C_BadTaps) (.ref C_BadByte) = some false)
    (kk_5_15 : PySem.W.kitOne K (.ref C_BadTaps) (.ref C_HasRegister) = some false)
    (kk_5_16 : PySem.W.kitOne K (.ref C_BadTaps) (.ref C_BadSeal) = some false)
    (kk_5_17 : PySem.W.kitOne K (.ref C_BadTaps) (.ref C_BadVote) = some false)
    (kk_5_18 : PySem.W.kitOne K (.ref C_BadTaps) (.ref C_TooFar) = some false)
    (kh_5 : PySem.W.kitOne K (.ref C_BadTaps) (.ref C_HaulError) = some true)
    (kv_5 : PySem.W.kitOne K (.ref C_BadTaps) (.type "ValueError") = some true)
    (kk_6_0 : PySem.W.kitOne K (.ref C_BadPattern) (.ref C_OutOfRange) = some false)
    (kk_6_1 : PySem.W.kitOne K (.ref C_BadPattern) (.ref C_NotIrreducible) = some false)
    (kk_6_2 : PySem.W.kitOne K (.ref C_BadPattern) (.ref C_NoInverse) = some false)
    (kk_6_3 : PySem.W.kitOne K (.ref C_BadPattern) (.ref C_NoDivisor) = some false)
    (kk_6_4 : PySem.W.kitOne K (.ref C_BadPattern) (.ref C_SamePoint) = some false)
    (kk_6_5 : PySem.W.kitOne K (.ref C_BadPattern) (.ref C_BadTaps) = some false)
    (kk_6_7 : PySem.W.kitOne K (.ref C_BadPattern) (.ref C_BadRow) = some false)
    (kk_6_8 : PySem.W.kitOne K (.ref C_BadPattern) (.ref C_NoPath) = some false)
    (kk_6_9 : PySem.W.kitOne K (.ref C_BadPattern) (.ref C_WrongSize) = some false)
    (kk_6_10 : PySem.W.kitOne K (.ref C_BadPattern) (.ref C_WrongPlace) = some false)
    (kk_6_11 : PySem.W.kitOne K (.ref C_BadPattern) (.ref C_WrongCorrection) = some false)
    (kk_6_12 : PySem.W.kitOne K (.ref C_BadPattern) (.ref C_TooSmall) = some false)
    (kk_6_13 : PySem.W.kitOne K (.ref C_BadPattern) (.ref C_TooLarge) = some false)
    (kk_6_14 : PySem.W.kitOne K (.ref C_BadPattern) (.ref C_BadByte) = some false)
    (kk_6_15 : PySem.W.kitOne K (.ref C_BadPattern) (.ref C_HasRegister) = some false)
    (kk_6_16 : PySem.W.kitOne K (.ref C_BadPattern) (.ref C_BadSeal) = some false)
    (kk_6_17 : PySem.W.kitOne K (.ref C_BadPattern) (.ref C_BadVote) = some false)
    (kk_6_18 : PySem.W.kitOne K (.ref C_BadPattern) (.ref C_TooFar) = some false)
    (kh_6 : PySem.W.kitOne K (.ref C_BadPattern) (.ref C_HaulError) = some true)
    (kv_6 : PySem.W.kitOne K (.ref C_BadPattern) (.type "ValueError") = some true)
    (kk_7_0 : PySem.W.kitOne K (.ref C_BadRow) (.ref C_OutOfRange) = some false)
    (kk_7_1 : PySem.W.kitOne K (.ref C_BadRow) (.ref C_NotIrreducible) = some false)
    (kk_7_2 : PySem.W.kitOne K (.ref C_BadRow) (.ref C_NoInverse) = some false)
    (kk_7_3 : PySem.W.kitOne K (.ref C_BadRow) (.ref C_NoDivisor) = some false)
    (kk_7_4 : PySem.W.kitOne K (.ref C_BadRow) (.ref C_SamePoint) = some false)
    (kk_7_5 : PySem.W.kitOne K (.ref C_BadRow) (.ref C_BadTaps) = some false)
    (kk_7_6 : PySem.W.kitOne K (.ref C_BadRow) (.ref C_BadPattern) = some false)
    (kk_7_8 : PySem.W.kitOne K (.ref C_BadRow) (.ref C_NoPath) = some false)
    (kk_7_9 : PySem.W.kitOne K (.ref C_BadRow) (.ref C_WrongSize) = some false)
    (kk_7_10 : PySem.W.kitOne K (.ref C_BadRow) (.ref C_WrongPlace) = some false)
    (kk_7_11 : PySem.W.kitOne K (.ref C_BadRow) (.ref C_WrongCorrection) = some false)
    (kk_7_12 : PySem.W.kitOne K (.ref C_BadRow) (.ref C_TooSmall) = some false)
    (kk_7_13 : PySem.W.kitOne K (.ref C_BadRow) (.ref C_TooLarge) = some false)
    (kk_7_14 : PySem.W.kitOne K (.ref C_BadRow) (.ref C_BadByte) = some false)
    (kk_7_15 : PySem.W.kitOne K (.ref C_BadRow) (.ref C_HasRegister) = some false)
    (kk_7_16 : PySem.W.kitOne K (.ref C_BadRow) (.ref C_BadSeal) = some false)
    (kk_7_17 : PySem.W.kitOne K (.ref C_BadRow) (.ref C_BadVote) = some false)
    (kk_7_18 : PySem.W.kitOne K (.ref C_BadRow) (.ref C_TooFar) = some false)
    (kh_7 : PySem.W.kitOne K (.ref C_BadRow) (.ref C_HaulError) = some true)
    (kv_7 : PySem.W.kitOne K (.ref C_BadRow) (.type "ValueError") = some true)
    (kk_8_0 : PySem.W.kitOne K (.ref C_NoPath) (.ref C_OutOfRange) = some false)
    (kk_8_1 : PySem.W.kitOne K (.ref C_NoPath) (.ref C_NotIrreducible) = some false)
    (kk_8_2 : PySem.W.kitOne K (.ref C_NoPath) (.ref C_NoInverse) = some false)
    (kk_8_3 : PySem.W.kitOne K (.ref C_NoPath) (.ref C_NoDivisor) = some false)
    (kk_8_4 : PySem.W.kitOne K (.ref C_NoPath) (.ref C_SamePoint) = some false)
    (kk_8_5 : PySem.W.kitOne K (.ref C_NoPath) (.ref C_BadTaps) = some false)
    (kk_8_6 : PySem.W.kitOne K (.ref C_NoPath) (.ref C_BadPattern) = some false)
    (kk_8_7 : PySem.W.kitOne K (.ref C_NoPath) (.ref C_BadRow) = some false)
    (kk_8_9 : PySem.W.kitOne K (.ref C_NoPath) (.ref C_WrongSize) = some false)
    (kk_8_10 : PySem.W.kitOne K (.ref C_NoPath) (.ref C_WrongPlace) = some false)
    (kk_8_11 : PySem.W.kitOne K (.ref C_NoPath) (.ref C_WrongCorrection) = some false)
    (kk_8_12 : PySem.W.kitOne K (.ref C_NoPath) (.ref C_TooSmall) = some false)
    (kk_8_13 : PySem.W.kitOne K (.ref C_NoPath) (.ref C_TooLarge) = some false)
    (kk_8_14 : PySem.W.kitOne K (.ref C_NoPath) (.ref C_BadByte) = some false)
    (kk_8_15 : PySem.W.kitOne K (.ref C_NoPath) (.ref C_HasRegister) = some false)
    (kk_8_16 : PySem.W.kitOne K (.ref C_NoPath) (.ref C_BadSeal) = some false)
    (kk_8_17 : PySem.W.kitOne K (.ref C_NoPath) (.ref C_BadVote) = some false)
    (kk_8_18 : PySem.W.kitOne K (.ref C_NoPath) (.ref C_TooFar) = some false)
    (kh_8 : PySem.W.kitOne K (.ref C_NoPath) (.ref C_HaulError) = some true)
    (kv_8 : PySem.W.kitOne K (.ref C_NoPath) (.type "ValueError") = some true)
    (kk_9_0 : PySem.W.kitOne K (.ref C_WrongSize) (.ref C_OutOfRange) = some false)
    (kk_9_1 : PySem.W.kitOne K (.ref C_WrongSize) (.ref C_NotIrreducible) = some false)
    (kk_9_2 : PySem.W.kitOne K (.ref C_WrongSize) (.ref C_NoInverse) = some false)
    (kk_9_3 : PySem.W.kitOne K (.ref C_WrongSize) (.ref C_NoDivisor) = some false)
    (kk_9_4 : PySem.W.kitOne K (.ref C_WrongSize) (.ref C_SamePoint) = some false)
    (kk_9_5 : PySem.W.kitOne K (.ref C_WrongSize) (.ref C_BadTaps) = some false)
    (kk_9_6 : PySem.W.kitOne K (.ref C_WrongSize) (.ref C_BadPattern) = some false)
    (kk_9_7 : PySem.W.kitOne K (.ref C_WrongSize) (.ref C_BadRow) = some false)
    (kk_9_8 : PySem.W.kitOne K (.ref C_WrongSize) (.ref C_NoPath) = some false)
    (kk_9_10 : PySem.W.kitOne K (.ref C_WrongSize) (.ref C_WrongPlace) = some false)
    (kk_9_11 : PySem.W.kitOne K (.ref C_WrongSize) (.ref C_WrongCorrection) = some false)
    (kk_9_12 : PySem.W.kitOne K (.ref C_WrongSize) (.ref C_TooSmall) = some false)
    (kk_9_13 : PySem.W.kitOne K (.ref C_WrongSize) (.ref C_TooLarge) = some false)
    (kk_9_14 : PySem.W.kitOne K (.ref C_WrongSize) (.ref C_BadByte) = some false)
    (kk_9_15 : PySem.W.kitOne K (.ref C_WrongSize) (.ref C_HasRegister) = some false)
    (kk_9_16 : PySem.W.kitOne K (.ref C_WrongSize) (.ref C_BadSeal) = some false)
    (kk_9_17 : PySem.W.kitOne K (.ref C_WrongSize) (.ref C_BadVote) = some false)
    (kk_9_18 : PySem.W.kitOne K (.ref C_WrongSize) (.ref C_TooFar) = some false)
    (kh_9 : PySem.W.kitOne K (.ref C_WrongSize) (.ref C_HaulError) = some true)
    (kv_9 : PySem.W.kitOne K (.ref C_WrongSize) (.type "ValueError") = some true)
    (kk_10_0 : PySem.W.kitOne K (.ref C_WrongPlace) (.ref C_OutOfRange) = some false)
    (kk_10_1 : PySem.W.kitOne K (.ref C_WrongPlace) (.ref C_NotIrreducible) = some false)
    (kk_10_2 : PySem.W.kitOne K (.ref C_WrongPlace) (.ref C_NoInverse) = some false)
    (kk_10_3 : PySem.W.kitOne K (.ref C_WrongPlace) (.ref C_NoDivisor) = some false)
    (kk_10_4 : PySem.W.kitOne K (.ref C_WrongPlace) (.ref C_SamePoint) = some false)
    (kk_10_5 : PySem.W.kitOne K (.ref C_WrongPlace) (.ref C_BadTaps) = some false)
    (kk_10_6 : PySem.W.kitOne K (.ref C_WrongPlace) (.ref C_BadPattern) = some false)
    (kk_10_7 : PySem.W.kitOne K (.ref C_WrongPlace) (.ref C_BadRow) = some false)
    (kk_10_8 : PySem.W.kitOne K (.ref C_WrongPlace) (.ref C_NoPath) = some false)
    (kk_10_9 : PySem.W.kitOne K (.ref C_WrongPlace) (.ref C_WrongSize) = some false)
    (kk_10_11 : PySem.W.kitOne K (.ref C_WrongPlace) (.ref C_WrongCorrection) = some false)
    (kk_10_12 : PySem.W.kitOne K (.ref C_WrongPlace) (.ref C_TooSmall) = some false)
    (kk_10_13 : PySem.W.kitOne K (.ref C_WrongPlace) (.ref C_TooLarge) = some false)
    (kk_10_14 : PySem.W.kitOne K (.ref C_WrongPlace) (.ref C_BadByte) = some false)
    (kk_10_15 : PySem.W.kitOne K (.ref C_WrongPlace) (.ref C_HasRegister) = some false)
    (kk_10_16 : PySem.W.kitOne K (.ref C_WrongPlace) (.ref C_BadSeal) = some false)
    (kk_10_17 : PySem.W.kitOne K (.ref C_WrongPlace) (.ref C_BadVote) = some false)
    (kk_10_18 : PySem.W.kitOne K (.ref C_WrongPlace) (.ref C_TooFar) = some false)
    (kh_10 : PySem.W.kitOne K (.ref C_WrongPlace) (.ref C_HaulError) = some true)
    (kv_10 : PySem.W.kitOne K (.ref C_WrongPlace) (.type "ValueError") = some true)
    (kk_11_0 : PySem.W.kitOne K (.ref C_WrongCorrection) (.ref C_OutOfRange) = some false)
    (kk_11_1 : PySem.W.kitOne K (.ref C_WrongCorrection) (.ref C_NotIrreducible) = some false)
    (kk_11_2 : PySem.W.kitOne K (.ref C_WrongCorrection) (.ref C_NoInverse) = some false)
    (kk_11_3 : PySem.W.kitOne K (.ref C_WrongCorrection) (.ref C_NoDivisor) = some false)
    (kk_11_4 : PySem.W.kitOne K (.ref C_WrongCorrection) (.ref C_SamePoint) = some false)
    (kk_11_5 : PySem.W.kitOne K (.ref C_WrongCorrection) (.ref C_BadTaps) = some false)
    (kk_11_6 : PySem.W.kitOne K (.ref C_WrongCorrection) (.ref C_BadPattern) = some false)
    (kk_11_7 : PySem.W.kitOne K (.ref C_WrongCorrection) (.ref C_BadRow) = some false)
    (kk_11_8 : PySem.W.kitOne K (.ref C_WrongCorrection) (.ref C_NoPath) = some false)
    (kk_11_9 : PySem.W.kitOne K (.ref C_WrongCorrection) (.ref C_WrongSize) = some false)
    (kk_11_10 : PySem.W.kitOne K (.ref C_WrongCorrection) (.ref C_WrongPlace) = some false)
    (kk_11_12 : PySem.W.kitOne K (.ref C_WrongCorrection) (.ref C_TooSmall) = some false)
    (kk_11_13 : PySem.W.kitOne K (.ref C_WrongCorrection) (.ref C_TooLarge) = some false)
    (kk_11_14 : PySem.W.kitOne K (.ref C_WrongCorrection) (.ref C_BadByte) = some false)
    (kk_11_15 : PySem.W.kitOne K (.ref C_WrongCorrection) (.ref C_HasRegister) = some false)
    (kk_11_16 : PySem.W.kitOne K (.ref C_WrongCorrection) (.ref C_BadSeal) = some false)
    (kk_11_17 : PySem.W.kitOne K (.ref C_WrongCorrection) (.ref C_BadVote) = some false)
    (kk_11_18 : PySem.W.kitOne K (.ref C_WrongCorrection) (.ref C_TooFar) = some false)
    (kh_11 : PySem.W.kitOne K (.ref C_WrongCorrection) (.ref C_HaulError) = some true)
    (kv_11 : PySem.W.kitOne K (.ref C_WrongCorrection) (.type "ValueError") = some true)
    (kk_12_0 : PySem.W.kitOne K (.ref C_TooSmall) (.ref C_OutOfRange) = some false)
    (kk_12_1 : PySem.W.kitOne K (.ref C_TooSmall) (.ref C_NotIrreducible) = some false)
    (kk_12_2 : PySem.W.kitOne K (.ref C_TooSmall) (.ref C_NoInverse) = some false)
    (kk_12_3 : PySem.W.kitOne K (.ref C_TooSmall) (.ref C_NoDivisor) = some false)
    (kk_12_4 : PySem.W.kitOne K (.ref C_TooSmall) (.ref C_SamePoint) = some false)
    (kk_12_5 : PySem.W.kitOne K (.ref C_TooSmall) (.ref C_BadTaps) = some false)
    (kk_12_6 : PySem.W.kitOne K (.ref C_TooSmall) (.ref C_BadPattern) = some false)
    (kk_12_7 : PySem.W.kitOne K (.ref C_TooSmall) (.ref C_BadRow) = some false)
    (kk_12_8 : PySem.W.kitOne K (.ref C_TooSmall) (.ref C_NoPath) = some false)
    (kk_12_9 : PySem.W.kitOne K (.ref C_TooSmall) (.ref C_WrongSize) = some false)
    (kk_12_10 : PySem.W.kitOne K (.ref C_TooSmall) (.ref C_WrongPlace) = some false)
    (kk_12_11 : PySem.W.kitOne K (.ref C_TooSmall) (.ref C_WrongCorrection) = some false)
    (kk_12_13 : PySem.W.kitOne K (.ref C_TooSmall) (.ref C_TooLarge) = some false)
    (kk_12_14 : PySem.W.kitOne K (.ref C_TooSmall) (.ref C_BadByte) = some false)
    (kk_12_15 : PySem.W.kitOne K (.ref C_TooSmall) (.ref C_HasRegister) = some false)
    (kk_12_16 : PySem.W.kitOne K (.ref C_TooSmall) (.ref C_BadSeal) = some false)
    (kk_12_17 : PySem.W.kitOne K (.ref C_TooSmall) (.ref C_BadVote) = some false)
    (kk_12_18 : PySem.W.kitOne K (.ref C_TooSmall) (.ref C_TooFar) = some false)
    (kh_12 : PySem.W.kitOne K (.ref C_TooSmall) (.ref C_HaulError) = some true)
    (kv_12 : PySem.W.kitOne K (.ref C_TooSmall) (.type "ValueError") = some true)
    (kk_13_0 : PySem.W.kitOne K (.ref C_TooLarge) (.ref C_OutOfRange) = some false)
    (kk_13_1 : PySem.W.kitOne K (.ref C_TooLarge) (.ref C_NotIrreducible) = some false)
    (kk_13_2 : PySem.W.kitOne K (.ref C_TooLarge) (.ref C_NoInverse) = some false)
    (kk_13_3 : PySem.W.kitOne K (.ref C_TooLarge) (.ref C_NoDivisor) = some false)
    (kk_13_4 : PySem.W.kitOne K (.ref C_TooLarge) (.ref C_SamePoint) = some false)
    (kk_13_5 : PySem.W.kitOne K (.ref C_TooLarge) (.ref C_BadTaps) = some false)
    (kk_13_6 : PySem.W.kitOne K (.ref C_TooLarge) (.ref C_BadPattern) = some false)
    (kk_13_7 : PySem.W.kitOne K (.ref C_TooLarge) (.ref C_BadRow) = some false)
    (kk_13_8 : PySem.W.kitOne K (.ref C_TooLarge) (.ref C_NoPath) = some false)
    (kk_13_9 : PySem.W.kitOne K (.ref C_TooLarge) (.ref C_WrongSize) = some false)
    (kk_13_10 : PySem.W.kitOne K (.ref C_TooLarge) (.ref C_WrongPlace) = some false)
    (kk_13_11 : PySem.W.kitOne K (.ref C_TooLarge) (.ref C_WrongCorrection) = some false)
    (kk_13_12 : PySem.W.kitOne K (.ref C_TooLarge) (.ref C_TooSmall) = some false)
    (kk_13_14 : PySem.W.kitOne K (.ref C_TooLarge) (.ref C_BadByte) = some false)
    (kk_13_15 : PySem.W.kitOne K (.ref C_TooLarge) (.ref C_HasRegister) = some false)
    (kk_13_16 : PySem.W.kitOne K (.ref C_TooLarge) (.ref C_BadSeal) = some false)
    (kk_13_17 : PySem.W.kitOne K (.ref C_TooLarge) (.ref C_BadVote) = some false)
    (kk_13_18 : PySem.W.kitOne K (.ref C_TooLarge) (.ref C_TooFar) = some false)
    (kh_13 : PySem.W.kitOne K (.ref C_TooLarge) (.ref C_HaulError) = some true)
    (kv_13 : PySem.W.kitOne K (.ref C_TooLarge) (.type "ValueError") = some true)
    (kk_14_0 : PySem.W.kitOne K (.ref C_BadByte) (.ref C_OutOfRange) = some false)
    (kk_14_1 : PySem.W.kitOne K (.ref C_BadByte) (.ref C_NotIrreducible) = some false)
    (kk_14_2 : PySem.W.kitOne K (.ref C_BadByte) (.ref C_NoInverse) = some false)
    (kk_14_3 : PySem.W.kitOne K (.ref C_BadByte) (.ref C_NoDivisor) = some false)
    (kk_14_4 : PySem.W.kitOne K (.ref C_BadByte) (.ref C_SamePoint) = some false)
    (kk_14_5 : PySem.W.kitOne K (.ref C_BadByte) (.ref C_BadTaps) = some false)
    (kk_14_6 : PySem.W.kitOne K (.ref C_BadByte) (.ref C_BadPattern) = some false)
    (kk_14_7 : PySem.W.kitOne K (.ref C_BadByte) (.ref C_BadRow) = some false)
    (kk_14_8 : PySem.W.kitOne K (.ref C_BadByte) (.ref C_NoPath) = some false)
    (kk_14_9 : PySem.W.kitOne K (.ref C_BadByte) (.ref C_WrongSize) = some false)
    (kk_14_10 : PySem.W.kitOne K (.ref C_BadByte) (.ref C_WrongPlace) = some false)
    (kk_14_11 : PySem.W.kitOne K (.ref C_BadByte) (.ref C_WrongCorrection) = some false)
    (kk_14_12 : PySem.W.kitOne K (.ref C_BadByte) (.ref C_TooSmall) = some false)
    (kk_14_13 : PySem.W.kitOne K (.ref C_BadByte) (.ref C_TooLarge) = some false)
    (kk_14_15 : PySem.W.kitOne K (.ref C_BadByte) (.ref C_HasRegister) = some false)
    (kk_14_16 : PySem.W.kitOne K (.ref C_BadByte) (.ref C_BadSeal) = some false)
    (kk_14_17 : PySem.W.kitOne K (.ref C_BadByte) (.ref C_BadVote) = some false)
    (kk_14_18 : PySem.W.kitOne K (.ref C_BadByte) (.ref C_TooFar) = some false)
    (kh_14 : PySem.W.kitOne K (.ref C_BadByte) (.ref C_HaulError) = some true)
    (kv_14 : PySem.W.kitOne K (.ref C_BadByte) (.type "ValueError") = some true)
    (kk_15_0 : PySem.W.kitOne K (.ref C_HasRegister) (.ref C_OutOfRange) = some false)
    (kk_15_1 : PySem.W.kitOne K (.ref C_HasRegister) (.ref C_NotIrreducible) = some false)
    (kk_15_2 : PySem.W.kitOne K (.ref C_HasRegister) (.ref C_NoInverse) = some false)
    (kk_15_3 : PySem.W.kitOne K (.ref C_HasRegister) (.ref C_NoDivisor) = some false)
    (kk_15_4 : PySem.W.kitOne K (.ref C_HasRegister) (.ref C_SamePoint) = some false)
    (kk_15_5 : PySem.W.kitOne K (.ref C_HasRegister) (.ref C_BadTaps) = some false)
    (kk_15_6 : PySem.W.kitOne K (.ref C_HasRegister) (.ref C_BadPattern) = some false)
    (kk_15_7 : PySem.W.kitOne K (.ref C_HasRegister) (.ref C_BadRow) = some false)
    (kk_15_8 : PySem.W.kitOne K (.ref C_HasRegister) (.ref C_NoPath) = some false)
    (kk_15_9 : PySem.W.kitOne K (.ref C_HasRegister) (.ref C_WrongSize) = some false)
    (kk_15_10 : PySem.W.kitOne K (.ref C_HasRegister) (.ref C_WrongPlace) = some false)
    (kk_15_11 : PySem.W.kitOne K (.ref C_HasRegister) (.ref C_WrongCorrection) = some false)
    (kk_15_12 : PySem.W.kitOne K (.ref C_HasRegister) (.ref C_TooSmall) = some false)
    (kk_15_13 : PySem.W.kitOne K (.ref C_HasRegister) (.ref C_TooLarge) = some false)
    (kk_15_14 : PySem.W.kitOne K (.ref C_HasRegister) (.ref C_BadByte) = some false)
    (kk_15_16 : PySem.W.kitOne K (.ref C_HasRegister) (.ref C_BadSeal) = some false)
    (kk_15_17 : PySem.W.kitOne K (.ref C_HasRegister) (.ref C_BadVote) = some false)
    (kk_15_18 : PySem.W.kitOne K (.ref C_HasRegister) (.ref C_TooFar) = some false)
    (kh_15 : PySem.W.kitOne K (.ref C_HasRegister) (.ref C_HaulError) = some true)
    (kv_15 : PySem.W.kitOne K (.ref C_HasRegister) (.type "ValueError") = some true)
    (kk_16_0 : PySem.W.kitOne K (.ref C_BadSeal) (.ref C_OutOfRange) = some false)
    (kk_16_1 : PySem.W.kitOne K (.ref C_BadSeal) (.ref C_NotIrreducible) = some false)
    (kk_16_2 : PySem.W.kitOne K (.ref C_BadSeal) (.ref C_NoInverse) = some false)
    (kk_16_3 : PySem.W.kitOne K (.ref C_BadSeal) (.ref C_NoDivisor) = some false)
    (kk_16_4 : PySem.W.kitOne K (.ref C_BadSeal) (.ref C_SamePoint) = some false)
    (kk_16_5 : PySem.W.kitOne K (.ref C_BadSeal) (.ref C_BadTaps) = some false)
    (kk_16_6 : PySem.W.kitOne K (.ref C_BadSeal) (.ref C_BadPattern) = some false)
    (kk_16_7 : PySem.W.kitOne K (.ref C_BadSeal) (.ref C_BadRow) = some false)
    (kk_16_8 : PySem.W.kitOne K (.ref C_BadSeal) (.ref C_NoPath) = some false)
    (kk_16_9 : PySem.W.kitOne K (.ref C_BadSeal) (.ref C_WrongSize) = some false)
    (kk_16_10 : PySem.W.kitOne K (.ref C_BadSeal) (.ref C_WrongPlace) = some false)
    (kk_16_11 : PySem.W.kitOne K (.ref C_BadSeal) (.ref C_WrongCorrection) = some false)
    (kk_16_12 : PySem.W.kitOne K (.ref C_BadSeal) (.ref C_TooSmall) = some false)
    (kk_16_13 : PySem.W.kitOne K (.ref C_BadSeal) (.ref C_TooLarge) = some false)
    (kk_16_14 : PySem.W.kitOne K (.ref C_BadSeal) (.ref C_BadByte) = some false)
    (kk_16_15 : PySem.W.kitOne K (.ref C_BadSeal) (.ref C_HasRegister) = some false)
    (kk_16_17 : PySem.W.kitOne K (.ref C_BadSeal) (.ref C_BadVote) = some false)
    (kk_16_18 : PySem.W.kitOne K (.ref C_BadSeal) (.ref C_TooFar) = some false)
    (kh_16 : PySem.W.kitOne K (.ref C_BadSeal) (.ref C_HaulError) = some true)
    (kv_16 : PySem.W.kitOne K (.ref C_BadSeal) (.type "ValueError") = some true)
    (kk_17_0 : PySem.W.kitOne K (.ref C_BadVote) (.ref C_OutOfRange) = some false)
    (kk_17_1 : PySem.W.kitOne K (.ref C_BadVote) (.ref C_NotIrreducible) = some false)
    (kk_17_2 : PySem.W.kitOne K (.ref C_BadVote) (.ref C_NoInverse) = some false)
    (kk_17_3 : PySem.W.kitOne K (.ref C_BadVote) (.ref C_NoDivisor) = some false)
    (kk_17_4 : PySem.W.kitOne K (.ref C_BadVote) (.ref C_SamePoint) = some false)
    (kk_17_5 : PySem.W.kitOne K (.ref C_BadVote) (.ref C_BadTaps) = some false)
    (kk_17_6 : PySem.W.kitOne K (.ref C_BadVote) (.ref C_BadPattern) = some false)
    (kk_17_7 : PySem.W.kitOne K (.ref C_BadVote) (.ref C_BadRow) = some false)
    (kk_17_8 : PySem.W.kitOne K (.ref C_BadVote) (.ref C_NoPath) = some false)
    (kk_17_9 : PySem.W.kitOne K (.ref C_BadVote) (.ref C_WrongSize) = some false)
    (kk_17_10 : PySem.W.kitOne K (.ref C_BadVote) (.ref C_WrongPlace) = some false)
    (kk_17_11 : PySem.W.kitOne K (.ref C_BadVote) (.ref C_WrongCorrection) = some false)
    (kk_17_12 : PySem.W.kitOne K (.ref C_BadVote) (.ref C_TooSmall) = some false)
    (kk_17_13 : PySem.W.kitOne K (.ref C_BadVote) (.ref C_TooLarge) = some false)
    (kk_17_14 : PySem.W.kitOne K (.ref C_BadVote) (.ref C_BadByte) = some false)
    (kk_17_15 : PySem.W.kitOne K (.ref C_BadVote) (.ref C_HasRegister) = some false)
    (kk_17_16 : PySem.W.kitOne K (.ref C_BadVote) (.ref C_BadSeal) = some false)
    (kk_17_18 : PySem.W.kitOne K (.ref C_BadVote) (.ref C_TooFar) = some false)
    (kh_17 : PySem.W.kitOne K (.ref C_BadVote) (.ref C_HaulError) = some true)
    (kv_17 : PySem.W.kitOne K (.ref C_BadVote) (.type "ValueError") = some true)
    (kk_18_0 : PySem.W.kitOne K (.ref C_TooFar) (.ref C_OutOfRange) = some false)
    (kk_18_1 : PySem.W.kitOne K (.ref C_TooFar) (.ref C_NotIrreducible) = some false)
    (kk_18_2 : PySem.W.kitOne K (.ref C_TooFar) (.ref C_NoInverse) = some false)
    (kk_18_3 : PySem.W.kitOne K (.ref C_TooFar) (.ref C_NoDivisor) = some false)
    (kk_18_4 : PySem.W.kitOne K (.ref C_TooFar) (.ref C_SamePoint) = some false)
    (kk_18_5 : PySem.W.kitOne K (.ref C_TooFar) (.ref C_BadTaps) = some false)
    (kk_18_6 : PySem.W.kitOne K (.ref C_TooFar) (.ref C_BadPattern) = some false)
    (kk_18_7 : PySem.W.kitOne K (.ref C_TooFar) (.ref C_BadRow) = some false)
    (kk_18_8 : PySem.W.kitOne K (.ref C_TooFar) (.ref C_NoPath) = some false)
    (kk_18_9 : PySem.W.kitOne K (.ref C_TooFar) (.ref C_WrongSize) = some false)
    (kk_18_10 : PySem.W.kitOne K (.ref C_TooFar) (.ref C_WrongPlace) = some false)
    (kk_18_11 : PySem.W.kitOne K (.ref C_TooFar) (.ref C_WrongCorrection) = some false)
    (kk_18_12 : PySem.W.kitOne K (.ref C_TooFar) (.ref C_TooSmall) = some false)
    (kk_18_13 : PySem.W.kitOne K (.ref C_TooFar) (.ref C_TooLarge) = some false)
    (kk_18_14 : PySem.W.kitOne K (.ref C_TooFar) (.ref C_BadByte) = some false)
    (kk_18_15 : PySem.W.kitOne K (.ref C_TooFar) (.ref C_HasRegister) = some false)
    (kk_18_16 : PySem.W.kitOne K (.ref C_TooFar) (.ref C_BadSeal) = some false)
    (kk_18_17 : PySem.W.kitOne K (.ref C_TooFar) (.ref C_BadVote) = some false)
    (kh_18 : PySem.W.kitOne K (.ref C_TooFar) (.ref C_HaulError) = some true)
    (kv_18 : PySem.W.kitOne K (.ref C_TooFar) (.type "ValueError") = some true)
    (kk_19_0 : PySem.W.kitOne K (.ref C_HaulError) (.ref C_OutOfRange) = some false)
    (kk_19_1 : PySem.W.kitOne K (.ref C_HaulError) (.ref C_NotIrreducible) = some false)
    (kk_19_2 : PySem.W.kitOne K (.ref C_HaulError) (.ref C_NoInverse) = some false)
    (kk_19_3 : PySem.W.kitOne K (.ref C_HaulError) (.ref C_NoDivisor) = some false)
    (kk_19_4 : PySem.W.kitOne K (.ref C_HaulError) (.ref C_SamePoint) = some false)
    (kk_19_5 : PySem.W.kitOne K (.ref C_HaulError) (.ref C_BadTaps) = some false)
    (kk_19_6 : PySem.W.kitOne K (.ref C_HaulError) (.ref C_BadPattern) = some false)
    (kk_19_7 : PySem.W.kitOne K (.ref C_HaulError) (.ref C_BadRow) = some false)
    (kk_19_8 : PySem.W.kitOne K (.ref C_HaulError) (.ref C_NoPath) = some false)
    (kk_19_9 : PySem.W.kitOne K (.ref C_HaulError) (.ref C_WrongSize) = some false)
    (kk_19_10 : PySem.W.kitOne K (.ref C_HaulError) (.ref C_WrongPlace) = some false)
    (kk_19_11 : PySem.W.kitOne K (.ref C_HaulError) (.ref C_WrongCorrection) = some false)
    (kk_19_12 : PySem.W.kitOne K (.ref C_HaulError) (.ref C_TooSmall) = some false)
    (kk_19_13 : PySem.W.kitOne K (.ref C_HaulError) (.ref C_TooLarge) = some false)
    (kk_19_14 : PySem.W.kitOne K (.ref C_HaulError) (.ref C_BadByte) = some false)
    (kk_19_15 : PySem.W.kitOne K (.ref C_HaulError) (.ref C_HasRegister) = some false)
    (kk_19_16 : PySem.W.kitOne K (.ref C_HaulError) (.ref C_BadSeal) = some false)
    (kk_19_17 : PySem.W.kitOne K (.ref C_HaulError) (.ref C_BadVote) = some false)
    (kk_19_18 : PySem.W.kitOne K (.ref C_HaulError) (.ref C_TooFar) = some false)
    (kv_19 : PySem.W.kitOne K (.ref C_HaulError) (.type "ValueError") = some true)
    (z_bool : PySem.W.nsIn K mainGlobals "bool" = some none)
    (z_range : PySem.W.nsIn K mainGlobals "range" = some none)
    (z_len : PySem.W.nsIn K mainGlobals "len" = some none)
    (z_abs : PySem.W.nsIn K mainGlobals "abs" = some none)
    (z_int : PySem.W.nsIn K mainGlobals "int" = some none)
    (z_max : PySem.W.nsIn K mainGlobals "max" = some none)
    (z_min : PySem.W.nsIn K mainGlobals "min" = some none)
    (z_sum : PySem.W.nsIn K mainGlobals "sum" = some none)
    (z_list : PySem.W.nsIn K mainGlobals "list" = some none)
    (z_isinstance : PySem.W.nsIn K mainGlobals "isinstance" = some none)
    (z_enumerate : PySem.W.nsIn K mainGlobals "enumerate" = some none)
    (z_zip : PySem.W.nsIn K mainGlobals "zip" = some none)
    (z_reversed : PySem.W.nsIn K mainGlobals "reversed" = some none)
    (z_any : PySem.W.nsIn K mainGlobals "any" = some none)
    (z_all : PySem.W.nsIn K mainGlobals "all" = some none)
    (z_ValueError : PySem.W.nsIn K mainGlobals "ValueError" = some none)
    : ∃ fd : FuncData, (∀ (s : Shared) (v : Value), BindsTo s fd ⟨[v], []⟩ [("script", v)]) ∧ ∀ base : Heap, K.In base → base.Ns mainGlobals mg → FnOk l.prog w K mg base CX0 5 fa fd ["script"] (sp_law K) := by
  have e := hfa.symm.trans (PySem.W.mg_of X G a_law)
  cases e
  have B : Bl mg := ⟨PySem.W.mg_none_of X G z_range, PySem.W.mg_none_of X G z_len, PySem.W.mg_none_of X G z_abs, PySem.W.mg_none_of X G z_int, PySem.W.mg_none_of X G z_max, PySem.W.mg_none_of X G z_min, PySem.W.mg_none_of X G z_sum, PySem.W.mg_none_of X G z_list, PySem.W.mg_none_of X G z_isinstance, PySem.W.mg_none_of X G z_enumerate, PySem.W.mg_none_of X G z_zip, PySem.W.mg_none_of X G z_reversed, PySem.W.mg_none_of X G z_any, PySem.W.mg_none_of X G z_all, PySem.W.mg_none_of X G z_ValueError⟩
  have F__law_made := fun_mk (st := s__law_made) l__law_made c__law_made k__law_made
  have D__law_made : Df K mg "_law_made" ["kind", "at"] s__law_made _ _ := ⟨F__law_made, PySem.W.mg_of X G a__law_made, F__law_made.binds (ps := ["kind", "at"]) fun _ _ _ _ _ _ us hl => match us, hl with | [_, _], _ => rfl⟩
  have F__law_further := fun_mk (st := s__law_further) l__law_further c__law_further k__law_further
  have D__law_further : Df K mg "_law_further" ["kind", "at"] s__law_further _ _ := ⟨F__law_further, PySem.W.mg_of X G a__law_further, F__law_further.binds (ps := ["kind", "at"]) fun _ _ _ _ _ _ us hl => match us, hl with | [_, _], _ => rfl⟩
  have F__law_kinds := fun_mk (st := s__law_kinds) l__law_kinds c__law_kinds k__law_kinds
  have D__law_kinds : Df K mg "_law_kinds" ["error"] s__law_kinds _ _ := ⟨F__law_kinds, PySem.W.mg_of X G a__law_kinds, F__law_kinds.binds (ps := ["error"]) fun _ _ _ _ _ _ us hl => match us, hl with | [_], _ => rfl⟩
  have F_law := fun_mk (st := s_law) l_law c_law k_law
  have D_law : Df K mg "law" ["script"] s_law _ _ := ⟨F_law, PySem.W.mg_of X G a_law, F_law.binds (ps := ["script"]) fun _ _ _ _ _ _ us hl => match us, hl with | [_], _ => rfl⟩
  have F_init := fun_mk (st := s_init) l_init c_init k_init
  have b_init := F_init.binds (ps := ["self", "at"]) fun _ _ _ _ _ _ us hl => match us, hl with | [_, _], _ => rfl
  have X_HaulError : XC K mg "HaulError" C_HaulError f_init C_HaulError := ⟨⟨⟨nm_HaulError, q_HaulError, N_HaulError, bs_HaulError, bm_HaulError, sn_HaulError, sub_HaulError, ab_HaulError, col_HaulError, dd_HaulError, k0_HaulError, k1_HaulError, k2_HaulError, k3_HaulError, k5_HaulError, x_HaulError, r_HaulError⟩, sa_HaulError, e_HaulError, ty_HaulError, kc_HaulError⟩, ga_HaulError, gg_HaulError, hd_HaulError, cl_HaulError, sp_cls, tk_cls, mo_HaulError, no_HaulError, PySem.W.mg_of X G a_HaulError, i_init, ti_init, PySem.W.exm_ref e_HaulError hd_HaulError ty_HaulError su_HaulError⟩
  have X_OutOfRange : XC K mg "OutOfRange" C_OutOfRange f_init C_HaulError := ⟨⟨⟨nm_OutOfRange, q_OutOfRange, N_OutOfRange, bs_OutOfRange, bm_OutOfRange, sn_OutOfRange, sub_OutOfRange, ab_OutOfRange, col_OutOfRange, dd_OutOfRange, k0_OutOfRange, k1_OutOfRange, k2_OutOfRange, k3_OutOfRange, k5_OutOfRange, x_OutOfRange, r_OutOfRange⟩, sa_OutOfRange, e_OutOfRange, ty_OutOfRange, kc_OutOfRange⟩, ga_OutOfRange, gg_OutOfRange, hd_OutOfRange, cl_OutOfRange, sp_cls, tk_cls, mo_OutOfRange, no_OutOfRange, PySem.W.mg_of X G a_OutOfRange, ii_OutOfRange, ti_init, PySem.W.exm_ref e_HaulError hd_HaulError ty_HaulError su_OutOfRange⟩
  have X_NotIrreducible : XC K mg "NotIrreducible" C_NotIrreducible f_init C_HaulError := ⟨⟨⟨nm_NotIrreducible, q_NotIrreducible, N_NotIrreducible, bs_NotIrreducible, bm_NotIrreducible, sn_NotIrreducible, sub_NotIrreducible, ab_NotIrreducible, col_NotIrreducible, dd_NotIrreducible, k0_NotIrreducible, k1_NotIrreducible, k2_NotIrreducible, k3_NotIrreducible, k5_NotIrreducible, x_NotIrreducible, r_NotIrreducible⟩, sa_NotIrreducible, e_NotIrreducible, ty_NotIrreducible, kc_NotIrreducible⟩, ga_NotIrreducible, gg_NotIrreducible, hd_NotIrreducible, cl_NotIrreducible, sp_cls, tk_cls, mo_NotIrreducible, no_NotIrreducible, PySem.W.mg_of X G a_NotIrreducible, ii_NotIrreducible, ti_init, PySem.W.exm_ref e_HaulError hd_HaulError ty_HaulError su_NotIrreducible⟩
  have X_NoInverse : XC K mg "NoInverse" C_NoInverse f_init C_HaulError := ⟨⟨⟨nm_NoInverse, q_NoInverse, N_NoInverse, bs_NoInverse, bm_NoInverse, sn_NoInverse, sub_NoInverse, ab_NoInverse, col_NoInverse, dd_NoInverse, k0_NoInverse, k1_NoInverse, k2_NoInverse, k3_NoInverse, k5_NoInverse, x_NoInverse, r_NoInverse⟩, sa_NoInverse, e_NoInverse, ty_NoInverse, kc_NoInverse⟩, ga_NoInverse, gg_NoInverse, hd_NoInverse, cl_NoInverse, sp_cls, tk_cls, mo_NoInverse, no_NoInverse, PySem.W.mg_of X G a_NoInverse, ii_NoInverse, ti_init, PySem.W.exm_ref e_HaulError hd_HaulError ty_HaulError su_NoInverse⟩
  have X_NoDivisor : XC K mg "NoDivisor" C_NoDivisor f_init C_HaulError := ⟨⟨⟨nm_NoDivisor, q_NoDivisor, N_NoDivisor, bs_NoDivisor, bm_NoDivisor, sn_NoDivisor, sub_NoDivisor, ab_NoDivisor, col_NoDivisor, dd_NoDivisor, k0_NoDivisor, k1_NoDivisor, k2_NoDivisor, k3_NoDivisor, k5_NoDivisor, x_NoDivisor, r_NoDivisor⟩, sa_NoDivisor, e_NoDivisor, ty_NoDivisor, kc_NoDivisor⟩, ga_NoDivisor, gg_NoDivisor, hd_NoDivisor, cl_NoDivisor, sp_cls, tk_cls, mo_NoDivisor, no_NoDivisor, PySem.W.mg_of X G a_NoDivisor, ii_NoDivisor, ti_init, PySem.W.exm_ref e_HaulError hd_HaulError ty_HaulError su_NoDivisor⟩
  have X_SamePoint : XC K mg "SamePoint" C_SamePoint f_init C_HaulError := ⟨⟨⟨nm_SamePoint, q_SamePoint, N_SamePoint, bs_SamePoint, bm_SamePoint, sn_SamePoint, sub_SamePoint, ab_SamePoint, col_SamePoint, dd_SamePoint, k0_SamePoint, k1_SamePoint, k2_SamePoint, k3_SamePoint, k5_SamePoint, x_SamePoint, r_SamePoint⟩, sa_SamePoint, e_SamePoint, ty_SamePoint, kc_SamePoint⟩, ga_SamePoint, gg_SamePoint, hd_SamePoint, cl_SamePoint, sp_cls, tk_cls, mo_SamePoint, no_SamePoint, PySem.W.mg_of X G a_SamePoint, ii_SamePoint, ti_init, PySem.W.exm_ref e_HaulError hd_HaulError ty_HaulError su_SamePoint⟩
  have X_BadTaps : XC K mg "BadTaps" C_BadTaps f_init C_HaulError := ⟨⟨⟨nm_BadTaps, q_BadTaps, N_BadTaps, bs_BadTaps, bm_BadTaps, sn_BadTaps, sub_BadTaps, ab_BadTaps, col_BadTaps, dd_BadTaps, k0_BadTaps, k1_BadTaps, k2_BadTaps, k3_BadTaps, k5_BadTaps, x_BadTaps, r_BadTaps⟩, sa_BadTaps, e_BadTaps, ty_BadTaps, kc_BadTaps⟩, ga_BadTaps, gg_BadTaps, hd_BadTaps, cl_BadTaps, sp_cls, tk_cls, mo_BadTaps, no_BadTaps, PySem.W.mg_of X G a_BadTaps, ii_BadTaps, ti_init, PySem.W.exm_ref e_HaulError hd_HaulError ty_HaulError su_BadTaps⟩
  have X_BadPattern : XC K mg "BadPattern" C_BadPattern f_init C_HaulError := ⟨⟨⟨nm_BadPattern, q_BadPattern, N_BadPattern, bs_BadPattern, bm_BadPattern, sn_BadPattern, sub_BadPattern, ab_BadPattern, col_BadPattern, dd_BadPattern, k0_BadPattern, k1_BadPattern, k2_BadPattern, k3_BadPattern, k5_BadPattern, x_BadPattern, r_BadPattern⟩, sa_BadPattern, e_BadPattern, ty_BadPattern, kc_BadPattern⟩, ga_BadPattern, gg_BadPattern, hd_BadPattern, cl_BadPattern, sp_cls, tk_cls, mo_BadPattern, no_BadPattern, PySem.W.mg_of X G a_BadPattern, ii_BadPattern, ti_init, PySem.W.exm_ref e_HaulError hd_HaulError ty_HaulError su_BadPattern⟩
  have X_BadRow : XC K mg "BadRow" C_BadRow f_init C_HaulError := ⟨⟨⟨nm_BadRow, q_BadRow, N_BadRow, bs_BadRow, bm_BadRow, sn_BadRow, sub_BadRow, ab_BadRow, col_BadRow, dd_BadRow, k0_BadRow, k1_BadRow, k2_BadRow, k3_BadRow, k5_BadRow, x_BadRow, r_BadRow⟩, sa_BadRow, e_BadRow, ty_BadRow, kc_BadRow⟩, ga_BadRow, gg_BadRow, hd_BadRow, cl_BadRow, sp_cls, tk_cls, mo_BadRow, no_BadRow, PySem.W.mg_of X G a_BadRow, ii_BadRow, ti_init, PySem.W.exm_ref e_HaulError hd_HaulError ty_HaulError su_BadRow⟩
  have X_NoPath : XC K mg "NoPath" C_NoPath f_init C_HaulError := ⟨⟨⟨nm_NoPath, q_NoPath, N_NoPath, bs_NoPath, bm_NoPath, sn_NoPath, sub_NoPath, ab_NoPath, col_NoPath, dd_NoPath, k0_NoPath, k1_NoPath, k2_NoPath, k3_NoPath, k5_NoPath, x_NoPath, r_NoPath⟩, sa_NoPath, e_NoPath, ty_NoPath, kc_NoPath⟩, ga_NoPath, gg_NoPath, hd_NoPath, cl_NoPath, sp_cls, tk_cls, mo_NoPath, no_NoPath, PySem.W.mg_of X G a_NoPath, ii_NoPath, ti_init, PySem.W.exm_ref e_HaulError hd_HaulError ty_HaulError su_NoPath⟩
  have X_WrongSize : XC K mg "WrongSize" C_WrongSize f_init C_HaulError := ⟨⟨⟨nm_WrongSize, q_WrongSize, N_WrongSize, bs_WrongSize, bm_WrongSize, sn_WrongSize, sub_WrongSize, ab_WrongSize, col_WrongSize, dd_WrongSize, k0_WrongSize, k1_WrongSize, k2_WrongSize, k3_WrongSize, k5_WrongSize, x_WrongSize, r_WrongSize⟩, sa_WrongSize, e_WrongSize, ty_WrongSize, kc_WrongSize⟩, ga_WrongSize, gg_WrongSize, hd_WrongSize, cl_WrongSize, sp_cls, tk_cls, mo_WrongSize, no_WrongSize, PySem.W.mg_of X G a_WrongSize, ii_WrongSize, ti_init, PySem.W.exm_ref e_HaulError hd_HaulError ty_HaulError su_WrongSize⟩
  have X_WrongPlace : XC K mg "WrongPlace" C_WrongPlace f_init C_HaulError := ⟨⟨⟨nm_WrongPlace, q_WrongPlace, N_WrongPlace, bs_WrongPlace, bm_WrongPlace, sn_WrongPlace, sub_WrongPlace, ab_WrongPlace, col_WrongPlace, dd_WrongPlace, k0_WrongPlace, k1_WrongPlace, k2_WrongPlace, k3_WrongPlace, k5_WrongPlace, x_WrongPlace, r_WrongPlace⟩, sa_WrongPlace, e_WrongPlace, ty_WrongPlace, kc_WrongPlace⟩, ga_WrongPlace, gg_WrongPlace, hd_WrongPlace, cl_WrongPlace, sp_cls, tk_cls, mo_WrongPlace, no_WrongPlace, PySem.W.mg_of X G a_WrongPlace, ii_WrongPlace, ti_init, PySem.W.exm_ref e_HaulError hd_HaulError ty_HaulError su_WrongPlace⟩
  have X_WrongCorrection : XC K mg "WrongCorrection" C_WrongCorrection f_init C_HaulError := ⟨⟨⟨nm_WrongCorrection, q_WrongCorrection, N_WrongCorrection, bs_WrongCorrection, bm_WrongCorrection, sn_WrongCorrection, sub_WrongCorrection, ab_WrongCorrection, col_WrongCorrection, dd_WrongCorrection, k0_WrongCorrection, k1_WrongCorrection, k2_WrongCorrection, k3_WrongCorrection, k5_WrongCorrection, x_WrongCorrection, r_WrongCorrection⟩, sa_WrongCorrection, e_WrongCorrection, ty_WrongCorrection, kc_WrongCorrection⟩, ga_WrongCorrection, gg_WrongCorrection, hd_WrongCorrection, cl_WrongCorrection, sp_cls, tk_cls, mo_WrongCorrection, no_WrongCorrection, PySem.W.mg_of X G a_WrongCorrection, ii_WrongCorrection, ti_init, PySem.W.exm_ref e_HaulError hd_HaulError ty_HaulError su_WrongCorrection⟩
  have X_TooSmall : XC K mg "TooSmall" C_TooSmall f_init C_HaulError := ⟨⟨⟨nm_TooSmall, q_TooSmall, N_TooSmall, bs_TooSmall, bm_TooSmall, sn_TooSmall, sub_TooSmall, ab_TooSmall, col_TooSmall, dd_TooSmall, k0_TooSmall, k1_TooSmall, k2_TooSmall, k3_TooSmall, k5_TooSmall, x_TooSmall, r_TooSmall⟩, sa_TooSmall, e_TooSmall, ty_TooSmall, kc_TooSmall⟩, ga_TooSmall, gg_TooSmall, hd_TooSmall, cl_TooSmall, sp_cls, tk_cls, mo_TooSmall, no_TooSmall, PySem.W.mg_of X G a_TooSmall, ii_TooSmall, ti_init, PySem.W.exm_ref e_HaulError hd_HaulError ty_HaulError su_TooSmall⟩
  have X_TooLarge : XC K mg "TooLarge" C_TooLarge f_init C_HaulError := ⟨⟨⟨nm_TooLarge, q_TooLarge, N_TooLarge, bs_TooLarge, bm_TooLarge, sn_TooLarge, sub_TooLarge, ab_TooLarge, col_TooLarge, dd_TooLarge, k0_TooLarge, k1_TooLarge, k2_TooLarge, k3_TooLarge, k5_TooLarge, x_TooLarge, r_TooLarge⟩, sa_TooLarge, e_TooLarge, ty_TooLarge, kc_TooLarge⟩, ga_TooLarge, gg_TooLarge, hd_TooLarge, cl_TooLarge, sp_cls, tk_cls, mo_TooLarge, no_TooLarge, PySem.W.mg_of X G a_TooLarge, ii_TooLarge, ti_init, PySem.W.exm_ref e_HaulError hd_HaulError ty_HaulError su_TooLarge⟩
  have X_BadByte : XC K mg "BadByte" C_BadByte f_init C_HaulError := ⟨⟨⟨nm_BadByte, q_BadByte, N_BadByte, bs_BadByte, bm_BadByte, sn_BadByte, sub_BadByte, ab_BadByte, col_BadByte, dd_BadByte, k0_BadByte, k1_BadByte, k2_BadByte, k3_BadByte, k5_BadByte, x_BadByte, r_BadByte⟩, sa_BadByte, e_BadByte, ty_BadByte, kc_BadByte⟩, ga_BadByte, gg_BadByte, hd_BadByte, cl_BadByte, sp_cls, tk_cls, mo_BadByte, no_BadByte, PySem.W.mg_of X G a_BadByte, ii_BadByte, ti_init, PySem.W.exm_ref e_HaulError hd_HaulError ty_HaulError su_BadByte⟩
  have X_HasRegister : XC K mg "HasRegister" C_HasRegister f_init C_HaulError := ⟨⟨⟨nm_HasRegister, q_HasRegister, N_HasRegister, bs_HasRegister, bm_HasRegister, sn_HasRegister, sub_HasRegister, ab_HasRegister, col_HasRegister, dd_HasRegister, k0_HasRegister, k1_HasRegister, k2_HasRegister, k3_HasRegister, k5_HasRegister, x_HasRegister, r_HasRegister⟩, sa_HasRegister, e_HasRegister, ty_HasRegister, kc_HasRegister⟩, ga_HasRegister, gg_HasRegister, hd_HasRegister, cl_HasRegister, sp_cls, tk_cls, mo_HasRegister, no_HasRegister, PySem.W.mg_of X G a_HasRegister, ii_HasRegister, ti_init, PySem.W.exm_ref e_HaulError hd_HaulError ty_HaulError su_HasRegister⟩
  have X_BadSeal : XC K mg "BadSeal" C_BadSeal f_init C_HaulError := ⟨⟨⟨nm_BadSeal, q_BadSeal, N_BadSeal, bs_BadSeal, bm_BadSeal, sn_BadSeal, sub_BadSeal, ab_BadSeal, col_BadSeal, dd_BadSeal, k0_BadSeal, k1_BadSeal, k2_BadSeal, k3_BadSeal, k5_BadSeal, x_BadSeal, r_BadSeal⟩, sa_BadSeal, e_BadSeal, ty_BadSeal, kc_BadSeal⟩, ga_BadSeal, gg_BadSeal, hd_BadSeal, cl_BadSeal, sp_cls, tk_cls, mo_BadSeal, no_BadSeal, PySem.W.mg_of X G a_BadSeal, ii_BadSeal, ti_init, PySem.W.exm_ref e_HaulError hd_HaulError ty_HaulError su_BadSeal⟩
  have X_BadVote : XC K mg "BadVote" C_BadVote f_init C_HaulError := ⟨⟨⟨nm_BadVote, q_BadVote, N_BadVote, bs_BadVote, bm_BadVote, sn_BadVote, sub_BadVote, ab_BadVote, col_BadVote, dd_BadVote, k0_BadVote, k1_BadVote, k2_BadVote, k3_BadVote, k5_BadVote, x_BadVote, r_BadVote⟩, sa_BadVote, e_BadVote, ty_BadVote, kc_BadVote⟩, ga_BadVote, gg_BadVote, hd_BadVote, cl_BadVote, sp_cls, tk_cls, mo_BadVote, no_BadVote, PySem.W.mg_of X G a_BadVote, ii_BadVote, ti_init, PySem.W.exm_ref e_HaulError hd_HaulError ty_HaulError su_BadVote⟩
  have X_TooFar : XC K mg "TooFar" C_TooFar f_init C_HaulError := ⟨⟨⟨nm_TooFar, q_TooFar, N_TooFar, bs_TooFar, bm_TooFar, sn_TooFar, sub_TooFar, ab_TooFar, col_TooFar, dd_TooFar, k0_TooFar, k1_TooFar, k2_TooFar, k3_TooFar, k5_TooFar, x_TooFar, r_TooFar⟩, sa_TooFar, e_TooFar, ty_TooFar, kc_TooFar⟩, ga_TooFar, gg_TooFar, hd_TooFar, cl_TooFar, sp_cls, tk_cls, mo_TooFar, no_TooFar, PySem.W.mg_of X G a_TooFar, ii_TooFar, ti_init, PySem.W.exm_ref e_HaulError hd_HaulError ty_HaulError su_TooFar⟩
  refine ⟨PySem.W.fnOf "law" "law" (defArgs s_law) (defBody s_law) (defScope s_law) .none kV_law dc_law pm_law an_law cd_law ct_law, fun s v => .of_eq rfl, fun base _ _ => ?_⟩
  have Z_bool := PySem.W.mg_none_of X G z_bool
  have R : Er K mg f_init (fun i => ([C_OutOfRange, C_NotIrreducible, C_NoInverse, C_NoDivisor, C_SamePoint, C_BadTaps, C_BadPattern, C_BadRow, C_NoPath, C_WrongSize, C_WrongPlace, C_WrongCorrection, C_TooSmall, C_TooLarge, C_BadByte, C_HasRegister, C_BadSeal, C_BadVote, C_TooFar, C_HaulError] : List Addr).getD i C_HaulError) := by
    let Cf : Nat → Addr := (fun i => ([C_OutOfRange, C_NotIrreducible, C_NoInverse, C_NoDivisor, C_SamePoint, C_BadTaps, C_BadPattern, C_BadRow, C_NoPath, C_WrongSize, C_WrongPlace, C_WrongCorrection, C_TooSmall, C_TooLarge, C_BadByte, C_HasRegister, C_BadSeal, C_BadVote, C_TooFar, C_HaulError] : List Addr).getD i C_HaulError)
    exact ⟨X_OutOfRange, X_NotIrreducible, X_NoInverse, X_NoDivisor, X_SamePoint, X_BadTaps, X_BadPattern, X_BadRow, X_NoPath, X_WrongSize, X_WrongPlace, X_WrongCorrection, X_TooSmall, X_TooLarge, X_BadByte, X_HasRegister, X_BadSeal, X_BadVote, X_TooFar, X_HaulError, all20 (P := fun i => ∀ j, j < 19 → PySem.W.kitOne K (.ref (Cf i)) (.ref (Cf j)) = some (decide (i = j))) (all19 (P := fun j => PySem.W.kitOne K (.ref (Cf 0)) (.ref (Cf j)) = some (decide (0 = j))) kit_self kk_0_1 kk_0_2 kk_0_3 kk_0_4 kk_0_5 kk_0_6 kk_0_7 kk_0_8 kk_0_9 kk_0_10 kk_0_11 kk_0_12 kk_0_13 kk_0_14 kk_0_15 kk_0_16 kk_0_17 kk_0_18) (all19 (P := fun j => PySem.W.kitOne K (.ref (Cf 1)) (.ref (Cf j)) = some (decide (1 = j))) kk_1_0 kit_self kk_1_2 kk_1_3 kk_1_4 kk_1_5 kk_1_6 kk_1_7 kk_1_8 kk_1_9 kk_1_10 kk_1_11 kk_1_12 kk_1_13 kk_1_14 kk_1_15 kk_1_16 kk_1_17 kk_1_18) (all19 (P := fun j => PySem.W.kitOne K (.ref (Cf 2)) (.ref (Cf j)) = some (decide (2 = j))) kk_2_0 kk_2_1 kit_self kk_2_3 kk_2_4 kk_2_5 kk_2_6 kk_2_7 kk_2_8 kk_2_9 kk_2_10 kk_2_11 kk_2_12 kk_2_13 kk_2_14 kk_2_15 kk_2_16 kk_2_17 kk_2_18) (all19 (P := fun j => PySem.W.kitOne K (.ref (Cf 3)) (.ref (Cf j)) = some (decide (3 = j))) kk_3_0 kk_3_1 kk_3_2 kit_self kk_3_4 kk_3_5 kk_3_6 kk_3_7 kk_3_8 kk_3_9 kk_3_10 kk_3_11 kk_3_12 kk_3_13 kk_3_14 kk_3_15 kk_3_16 kk_3_17 kk_3_18) (all19 (P := fun j => PySem.W.kitOne K (.ref (Cf 4)) (.ref (Cf j)) = some (decide (4 = j))) kk_4_0 kk_4_1 kk_4_2 kk_4_3 kit_self kk_4_5 kk_4_6 kk_4_7 kk_4_8 kk_4_9 kk_4_10 kk_4_11 kk_4_12 kk_4_13 kk_4_14 kk_4_15 kk_4_16 kk_4_17 kk_4_18) (all19 (P := fun j => PySem.W.kitOne K (.ref (Cf 5)) (.ref (Cf j)) = some (decide (5 = j))) kk_5_0 kk_5_1 kk_5_2 kk_5_3 kk_5_4 kit_self kk_5_6 kk_5_7 kk_5_8 kk_5_9 kk_5_10 kk_5_11 kk_5_12 kk_5_13 kk_5_14 kk_5_15 kk_5_16 kk_5_17 kk_5_18) (all19 (P := fun j => PySem.W.kitOne K (.ref (Cf 6)) (.ref (Cf j)) = some (decide (6 = j))) kk_6_0 kk_6_1 kk_6_2 kk_6_3 kk_6_4 kk_6_5 kit_self kk_6_7 kk_6_8 kk_6_9 kk_6_10 kk_6_11 kk_6_12 kk_6_13 kk_6_14 kk_6_15 kk_6_16 kk_6_17 kk_6_18) (all19 (P := fun j => PySem.W.kitOne K (.ref (Cf 7)) (.ref (Cf j)) = some (decide (7 = j))) kk_7_0 kk_7_1 kk_7_2 kk_7_3 kk_7_4 kk_7_5 kk_7_6 kit_self kk_7_8 kk_7_9 kk_7_10 kk_7_11 kk_7_12 kk_7_13 kk_7_14 kk_7_15 kk_7_16 kk_7_17 kk_7_18) (all19 (P := fun j => PySem.W.kitOne K (.ref (Cf 8)) (.ref (Cf j)) = some (decide (8 = j))) kk_8_0 kk_8_1 kk_8_2 kk_8_3 kk_8_4 kk_8_5 kk_8_6 kk_8_7 kit_self kk_8_9 kk_8_10 kk_8_11 kk_8_12 kk_8_13 kk_8_14 kk_8_15 kk_8_16 kk_8_17 kk_8_18) (all19 (P := fun j => PySem.W.kitOne K (.ref (Cf 9)) (.ref (Cf j)) = some (decide (9 = j))) kk_9_0 kk_9_1 kk_9_2 kk_9_3 kk_9_4 kk_9_5 kk_9_6 kk_9_7 kk_9_8 kit_self kk_9_10 kk_9_11 kk_9_12 kk_9_13 kk_9_14 kk_9_15 kk_9_16 kk_9_17 kk_9_18) (all19 (P := fun j => PySem.W.kitOne K (.ref (Cf 10)) (.ref (Cf j)) = some (decide (10 = j))) kk_10_0 kk_10_1 kk_10_2 kk_10_3 kk_10_4 kk_10_5 kk_10_6 kk_10_7 kk_10_8 kk_10_9 kit_self kk_10_11 kk_10_12 kk_10_13 kk_10_14 kk_10_15 kk_10_16 kk_10_17 kk_10_18) (all19 (P := fun j => PySem.W.kitOne K (.ref (Cf 11)) (.ref (Cf j)) = some (decide (11 = j))) kk_11_0 kk_11_1 kk_11_2 kk_11_3 kk_11_4 kk_11_5 kk_11_6 kk_11_7 kk_11_8 kk_11_9 kk_11_10 kit_self kk_11_12 kk_11_13 kk_11_14 kk_11_15 kk_11_16 kk_11_17 kk_11_18) (all19 (P := fun j => PySem.W.kitOne K (.ref (Cf 12)) (.ref (Cf j)) = some (decide (12 = j))) kk_12_0 kk_12_1 kk_12_2 kk_12_3 kk_12_4 kk_12_5 kk_12_6 kk_12_7 kk_12_8 kk_12_9 kk_12_10 kk_12_11 kit_self kk_12_13 kk_12_14 kk_12_15 kk_12_16 kk_12_17 kk_12_18) (all19 (P := fun j => PySem.W.kitOne K (.ref (Cf 13)) (.ref (Cf j)) = some (decide (13 = j))) kk_13_0 kk_13_1 kk_13_2 kk_13_3 kk_13_4 kk_13_5 kk_13_6 kk_13_7 kk_13_8 kk_13_9 kk_13_10 kk_13_11 kk_13_12 kit_self kk_13_14 kk_13_15 kk_13_16 kk_13_17 kk_13_18) (all19 (P := fun j => PySem.W.kitOne K (.ref (Cf 14)) (.ref (Cf j)) = some (decide (14 = j))) kk_14_0 kk_14_1 kk_14_2 kk_14_3 kk_14_4 kk_14_5 kk_14_6 kk_14_7 kk_14_8 kk_14_9 kk_14_10 kk_14_11 kk_14_12 kk_14_13 kit_self kk_14_15 kk_14_16 kk_14_17 kk_14_18) (all19 (P := fun j => PySem.W.kitOne K (.ref (Cf 15)) (.ref (Cf j)) = some (decide (15 = j))) kk_15_0 kk_15_1 kk_15_2 kk_15_3 kk_15_4 kk_15_5 kk_15_6 kk_15_7 kk_15_8 kk_15_9 kk_15_10 kk_15_11 kk_15_12 kk_15_13 kk_15_14 kit_self kk_15_16 kk_15_17 kk_15_18) (all19 (P := fun j => PySem.W.kitOne K (.ref (Cf 16)) (.ref (Cf j)) = some (decide (16 = j))) kk_16_0 kk_16_1 kk_16_2 kk_16_3 kk_16_4 kk_16_5 kk_16_6 kk_16_7 kk_16_8 kk_16_9 kk_16_10 kk_16_11 kk_16_12 kk_16_13 kk_16_14 kk_16_15 kit_self kk_16_17 kk_16_18) (all19 (P := fun j => PySem.W.kitOne K (.ref (Cf 17)) (.ref (Cf j)) = some (decide (17 = j))) kk_17_0 kk_17_1 kk_17_2 kk_17_3 kk_17_4 kk_17_5 kk_17_6 kk_17_7 kk_17_8 kk_17_9 kk_17_10 kk_17_11 kk_17_12 kk_17_13 kk_17_14 kk_17_15 kk_17_16 kit_self kk_17_18) (all19 (P := fun j => PySem.W.kitOne K (.ref (Cf 18)) (.ref (Cf j)) = some (decide (18 = j))) kk_18_0 kk_18_1 kk_18_2 kk_18_3 kk_18_4 kk_18_5 kk_18_6 kk_18_7 kk_18_8 kk_18_9 kk_18_10 kk_18_11 kk_18_12 kk_18_13 kk_18_14 kk_18_15 kk_18_16 kk_18_17 kit_self) (all19 (P := fun j => PySem.W.kitOne K (.ref (Cf 19)) (.ref (Cf j)) = some (decide (19 = j))) kk_19_0 kk_19_1 kk_19_2 kk_19_3 kk_19_4 kk_19_5 kk_19_6 kk_19_7 kk_19_8 kk_19_9 kk_19_10 kk_19_11 kk_19_12 kk_19_13 kk_19_14 kk_19_15 kk_19_16 kk_19_17 kk_19_18), all20 (P := fun i => PySem.W.kitOne K (.ref (Cf i)) (.ref (Cf 19)) = some true) kh_0 kh_1 kh_2 kh_3 kh_4 kh_5 kh_6 kh_7 kh_8 kh_9 kh_10 kh_11 kh_12 kh_13 kh_14 kh_15 kh_16 kh_17 kh_18 kit_self, all20 (P := fun i => PySem.W.kitOne K (.ref (Cf i)) (.type "ValueError") = some true) kv_0 kv_1 kv_2 kv_3 kv_4 kv_5 kv_6 kv_7 kv_8 kv_9 kv_10 kv_11 kv_12 kv_13 kv_14 kv_15 kv_16 kv_17 kv_18 kv_19⟩
  have G_init := ok_init (P := l.prog) (w := w) (base := base) F_init B.ValueError v_init
  have G__law_further := ok__law_further (P := l.prog) (w := w) (base := base) (mg := mg) D__law_further R G_init b_init
  have G__law_made := ok__law_made (P := l.prog) (w := w) (base := base) (mg := mg) D__law_made R D__law_further G__law_further G_init b_init
  have G__law_kinds := ok__law_kinds (P := l.prog) (w := w) (base := base) (mg := mg) D__law_kinds B R
  exact ok_law (P := l.prog) (w := w) (base := base) (mg := mg) D_law B Z_bool R D__law_made G__law_made D__law_kinds G__law_kinds
end K45
open PySem PySem.W PyProof.Rows
set_option maxRecDepth 100000 in
set_option maxHeartbeats 0 in
theorem PySem.Challenge.cw_farhaul_k45_errors_are_apart_holds : PySem.Challenge.rw_farhaul_k45_errors_are_apart.Holds := by
  w_on; o_law; k_head; (case hw => w_witness2)
  k_fill
  refine L2.walk_of (l := PySem.Challenge.rw_farhaul_k45_errors_are_apart) (n := 63) (k := 5) (x := "script") (CX := fun _ => L2.CX0) (sp := fun w => K45.sp_law _) rfl (by decide) rfl ⟨rfl, by decide, by decide⟩ (fun w h Y => PySem.W.kIn_of Y) ?F (fun _ _ a ns hl _ hS => ⟨a, ns, rfl, hS, hl, fun _ => rfl⟩) (fun _ _ _ _ _ h => h)
  case F =>
    intro w mg fa h KX G hmg
    refine' K45.all_mk KX G hmg ?a_HaulError ?a_OutOfRange ?a_NotIrreducible ?a_NoInverse ?a_NoDivisor ?a_SamePoint ?a_BadTaps ?a_BadPattern ?a_BadRow ?a_NoPath ?a_WrongSize ?a_WrongPlace ?a_WrongCorrection ?a_TooSmall ?a_TooLarge ?a_BadByte ?a_HasRegister ?a_BadSeal ?a_BadVote ?a_TooFar ?i_init ?ti_init ?l_init ?c_init ?k_init ?v_init ?sp_cls ?tk_cls ?x_HaulError ?r_HaulError ?sa_HaulError ?ga_HaulError ?gg_HaulError ?cl_HaulError ?no_HaulError ?e_HaulError ?ty_HaulError ?kc_HaulError ?hd_HaulError ?mo_HaulError ?su_HaulError ?x_OutOfRange ?r_OutOfRange ?sa_OutOfRange ?ga_OutOfRange ?gg_OutOfRange ?cl_OutOfRange ?no_OutOfRange ?ii_OutOfRange ?e_OutOfRange ?ty_OutOfRange ?kc_OutOfRange ?hd_OutOfRange ?mo_OutOfRange ?su_OutOfRange ?x_NotIrreducible ?r_NotIrreducible ?sa_NotIrreducible ?ga_NotIrreducible ?gg_NotIrreducible ?cl_NotIrreducible ?no_NotIrreducible ?ii_NotIrreducible ?e_NotIrreducible ?ty_NotIrreducible ?kc_NotIrreducible ?hd_NotIrreducible ?mo_NotIrreducible ?su_NotIrreducible ?x_NoInverse ?r_NoInverse ?sa_NoInverse ?ga_NoInverse ?gg_NoInverse ?cl_NoInverse ?no_NoInverse ?ii_NoInverse ?e_NoInverse ?ty_NoInverse ?kc_NoInverse ?hd_NoInverse ?mo_NoInverse ?su_NoInverse ?x_NoDivisor ?r_NoDivisor ?sa_NoDivisor ?ga_NoDivisor ?gg_NoDivisor ?cl_NoDivisor ?no_NoDivisor ?ii_NoDivisor ?e_NoDivisor ?ty_NoDivisor ?kc_NoDivisor ?hd_NoDivisor ?mo_NoDivisor ?su_NoDivisor ?x_SamePoint ?r_SamePoint ?sa_SamePoint ?ga_SamePoint ?gg_SamePoint ?cl_SamePoint ?no_SamePoint ?ii_SamePoint ?e_SamePoint ?ty_SamePoint ?kc_SamePoint ?hd_SamePoint ?mo_SamePoint ?su_SamePoint ?x_BadTaps ?r_BadTaps ?sa_BadTaps ?ga_BadTaps ?gg_BadTaps ?cl_BadTaps ?no_BadTaps ?ii_BadTaps ?e_BadTaps ?ty_BadTaps ?kc_BadTaps ?hd_BadTaps ?mo_BadTaps ?su_BadTaps ?x_BadPattern ?r_BadPattern ?sa_BadPattern ?ga_BadPattern ?gg_BadPattern ?cl_BadPattern ?no_BadPattern ?ii_BadPattern ?e_BadPattern ?ty_BadPattern ?kc_BadPattern ?hd_BadPattern ?mo_BadPattern ?su_BadPattern ?x_BadRow ?r_BadRow ?sa_BadRow ?ga_BadRow ?gg_BadRow ?cl_BadRow ?no_BadRow ?ii_BadRow ?e_BadRow ?ty_BadRow ?kc_BadRow ?hd_BadRow ?mo_BadRow ?su_BadRow ?x_NoPath ?r_NoPath ?sa_NoPath ?ga_NoPath ?gg_NoPath ?cl_NoPath ?no_NoPath ?ii_NoPath ?e_NoPath ?ty_NoPath ?kc_NoPath ?hd_NoPath ?mo_NoPath ?su_NoPath ?x_WrongSize ?r_WrongSize ?sa_WrongSize ?ga_WrongSize ?gg_WrongSize ?cl_WrongSize ?no_WrongSize ?ii_WrongSize ?e_WrongSize ?ty_WrongSize ?kc_WrongSize ?hd_WrongSize ?mo_WrongSize ?su_WrongSize ?x_WrongPlace ?r_WrongPlace ?sa_WrongPlace ?ga_WrongPlace ?gg_WrongPlace ?cl_WrongPlace ?no_WrongPlace ?ii_WrongPlace ?e_WrongPlace ?ty_WrongPlace ?kc_WrongPlace ?hd_WrongPlace ?mo_WrongPlace ?su_WrongPlace ?x_WrongCorrection ?r_WrongCorrection ?sa_WrongCorrection ?ga_WrongCorrection ?gg_WrongCorrection ?cl_WrongCorrection ?no_WrongCorrection ?ii_WrongCorrection ?e_WrongCorrection ?ty_WrongCorrection ?kc_WrongCorrection ?hd_WrongCorrection ?mo_WrongCorrection ?su_WrongCorrection ?x_TooSmall ?r_TooSmall ?sa_TooSmall ?ga_TooSmall ?gg_TooSmall ?cl_TooSmall ?no_TooSmall ?ii_TooSmall ?e_TooSmall ?ty_TooSmall ?kc_TooSmall ?hd_TooSmall ?mo_TooSmall ?su_TooSmall ?x_TooLarge ?r_TooLarge ?sa_TooLarge ?ga_TooLarge ?gg_TooLarge ?cl_TooLarge ?no_TooLarge ?ii_TooLarge ?e_TooLarge ?ty_TooLarge ?kc_TooLarge ?hd_TooLarge ?mo_TooLarge ?su_TooLarge ?x_BadByte ?r_BadByte ?sa_BadByte ?ga_BadByte ?gg_BadByte ?cl_BadByte ?no_BadByte ?ii_BadByte ?e_BadByte ?ty_BadByte ?kc_BadByte ?hd_BadByte ?mo_BadByte ?su_BadByte ?x_HasRegister ?r_HasRegister ?sa_HasRegister ?ga_HasRegister ?gg_HasRegister ?cl_HasRegister ?no_HasRegister ?ii_HasRegister ?e_HasRegister ?ty_HasRegister ?kc_HasRegister ?hd_HasRegister ?mo_HasRegister ?su_HasRegister ?x_BadSeal ?r_BadSeal ?sa_BadSeal ?ga_BadSeal ?gg_BadSeal ?cl_BadSeal ?no_BadSeal ?ii_BadSeal ?e_BadSeal ?ty_BadSeal ?kc_BadSeal ?hd_BadSeal ?mo_BadSeal ?su_BadSeal ?x_BadVote ?r_BadVote ?sa_BadVote ?ga_BadVote ?gg_BadVote ?cl_BadVote ?no_BadVote ?ii_BadVote ?e_BadVote ?ty_BadVote ?kc_BadVote ?hd_BadVote ?mo_BadVote ?su_BadVote ?x_TooFar ?r_TooFar ?sa_TooFar ?ga_TooFar ?gg_TooFar ?cl_TooFar ?no_TooFar ?ii_TooFar ?e_TooFar ?ty_TooFar ?kc_TooFar ?hd_TooFar ?mo_TooFar ?su_TooFar ?a__law_made ?l__law_made ?c__law_made ?k__law_made ?a__law_further ?l__law_further ?c__law_further ?k__law_further ?a__law_kinds ?l__law_kinds ?c__law_kinds ?k__law_kinds ?a_law ?l_law ?c_law ?k_law ?kk_0_1 ?kk_0_2 ?kk_0_3 ?kk_0_4 ?kk_0_5 ?kk_0_6 ?kk_0_7 ?kk_0_8 ?kk_0_9 ?kk_0_10 ?kk_0_11 ?kk_0_12 ?kk_0_13 ?kk_0_14 ?kk_0_15 ?kk_0_16 ?kk_0_17 ?kk_0_18 ?kh_0 ?kv_0 ?kk_1_0 ?kk_1_2 ?kk_1_3 ?kk_1_4 ?kk_1_5 ?kk_1_6 ?kk_1_7 ?kk_1_8 ?kk_1_9 ?kk_1_10 ?kk_1_11 ?kk_1_12 ?kk_1_13 ?kk_1_14 ?kk_1_15 ?kk_1_16 ?kk_1_17 ?kk_1_18 ?kh_1 ?kv_1 ?kk_2_0 ?kk_2_1 ?kk_2_3 ?kk_2_4 ?kk_2_5 ?kk_2_6 ?kk_2_7 ?kk_2_8 ?kk_2_9 ?kk_2_10 ?kk_2_11 ?kk_2_12 ?kk_2_13 ?kk_2_14 ?kk_2_15 ?kk_2_16 ?kk_2_17 ?kk_2_18 ?kh_2 ?kv_2 ?kk_3_0 ?kk_3_1 ?kk_3_2 ?kk_3_4 ?kk_3_5 ?kk_3_6 ?kk_3_7 ?kk_3_8 ?kk_3_9 ?kk_3_10 ?kk_3_11 ?kk_3_12 ?kk_3_13 ?kk_3_14 ?kk_3_15 ?kk_3_16 ?kk_3_17 ?kk_3_18 ?kh_3 ?kv_3 ?kk_4_0 ?kk_4_1 ?kk_4_2 ?kk_4_3 ?kk_4_5 ?kk_4_6 ?kk_4_7 ?kk_4_8 ?kk_4_9 ?kk_4_10 ?kk_4_11 ?kk_4_12 ?kk_4_13 ?kk_4_14 ?kk_4_15 ?kk_4_16 ?kk_4_17 ?kk_4_18 ?kh_4 ?kv_4 ?kk_5_0 ?kk_5_1 ?kk_5_2 ?kk_5_3 ?kk_5_4 ?kk_5_6 ?kk_5_7 ?kk_5_8 ?kk_5_9 ?kk_5_10 ?kk_5_11 ?kk_5_12 ?kk_5_13 ?kk_5_14 ?kk_5_15 ?kk_5_16 ?kk_5_17 ?kk_5_18 ?kh_5 ?kv_5 ?kk_6_0 ?kk_6_1 ?kk_6_2 ?kk_6_3 ?kk_6_4 ?kk_6_5 ?kk_6_7 ?kk_6_8 ?kk_6_9 ?kk_6_10 ?kk_6_11 ?kk_6_12 ?kk_6_13 ?kk_6_14 ?kk_6_15 ?kk_6_16 ?kk_6_17 ?kk_6_18 ?kh_6 ?kv_6 ?kk_7_0 ?kk_7_1 ?kk_7_2 ?kk_7_3 ?kk_7_4 ?kk_7_5 ?kk_7_6 ?kk_7_8 ?kk_7_9 ?kk_7_10 ?kk_7_11 ?kk_7_12 ?kk_7_13 ?kk_7_14 ?kk_7_15 ?kk_7_16 ?kk_7_17 ?kk_7_18 ?kh_7 ?kv_7 ?kk_8_0 ?kk_8_1 ?kk_8_2 ?kk_8_3 ?kk_8_4 ?kk_8_5 ?kk_8_6 ?kk_8_7 ?kk_8_9 ?kk_8_10 ?kk_8_11 ?kk_8_12 ?kk_8_13 ?kk_8_14 ?kk_8_15 ?kk_8_16 ?kk_8_17 ?kk_8_18 ?kh_8 ?kv_8 ?kk_9_0 ?kk_9_1 ?kk_9_2 ?kk_9_3 ?kk_9_4 ?kk_9_5 ?kk_9_6 ?kk_9_7 ?kk_9_8 ?kk_9_10 ?kk_9_11 ?kk_9_12 ?kk_9_13 ?kk_9_14 ?kk_9_15 ?kk_9_16 ?kk_9_17 ?kk_9_18 ?kh_9 ?kv_9 ?kk_10_0 ?kk_10_1 ?kk_10_2 ?kk_10_3 ?kk_10_4 ?kk_10_5 ?kk_10_6 ?kk_10_7 ?kk_10_8 ?kk_10_9 ?kk_10_11 ?kk_10_12 ?kk_10_13 ?kk_10_14 ?kk_10_15 ?kk_10_16 ?kk_10_17 ?kk_10_18 ?kh_10 ?kv_10 ?kk_11_0 ?kk_11_1 ?kk_11_2 ?kk_11_3 ?kk_11_4 ?kk_11_5 ?kk_11_6 ?kk_11_7 ?kk_11_8 ?kk_11_9 ?kk_11_10 ?kk_11_12 ?kk_11_13 ?kk_11_14 ?kk_11_15 ?kk_11_16 ?kk_11_17 ?kk_11_18 ?kh_11 ?kv_11 ?kk_12_0 ?kk_12_1 ?kk_12_2 ?kk_12_3 ?kk_12_4 ?kk_12_5 ?kk_12_6 ?kk_12_7 ?kk_12_8 ?kk_12_9 ?kk_12_10 ?kk_12_11 ?kk_12_13 ?kk_12_14 ?kk_12_15 ?kk_12_16 ?kk_12_17 ?kk_12_18 ?kh_12 ?kv_12 ?kk_13_0 ?kk_13_1 ?kk_13_2 ?kk_13_3 ?kk_13_4 ?kk_13_5 ?kk_13_6 ?kk_13_7 ?kk_13_8 ?kk_13_9 ?kk_13_10 ?kk_13_11 ?kk_13_12 ?kk_13_14 ?kk_13_15 ?kk_13_16 ?kk_13_17 ?kk_13_18 ?kh_13 ?kv_13 ?kk_14_0 ?kk_14_1 ?kk_14_2 ?kk_14_3 ?kk_14_4 ?kk_14_5 ?kk_14_6 ?kk_14_7 ?kk_14_8 ?kk_14_9 ?kk_14_10 ?kk_14_11 ?kk_14_12 ?kk_14_13 ?kk_14_15 ?kk_14_16 ?kk_14_17 ?kk_14_18 ?kh_14 ?kv_14 ?kk_15_0 ?kk_15_1 ?kk_15_2 ?kk_15_3 ?kk_15_4 ?kk_15_5 ?kk_15_6 ?kk_15_7 ?kk_15_8 ?kk_15_9 ?kk_15_10 ?kk_15_11 ?kk_15_12 ?kk_15_13 ?kk_15_14 ?kk_15_16 ?kk_15_17 ?kk_15_18 ?kh_15 ?kv_15 ?kk_16_0 ?kk_16_1 ?kk_16_2 ?kk_16_3 ?kk_16_4 ?kk_16_5 ?kk_16_6 ?kk_16_7 ?kk_16_8 ?kk_16_9 ?kk_16_10 ?kk_16_11 ?kk_16_12 ?kk_16_13 ?kk_16_14 ?kk_16_15 ?kk_16_17 ?kk_16_18 ?kh_16 ?kv_16 ?kk_17_0 ?kk_17_1 ?kk_17_2 ?kk_17_3 ?kk_17_4 ?kk_17_5 ?kk_17_6 ?kk_17_7 ?kk_17_8 ?kk_17_9 ?kk_17_10 ?kk_17_11 ?kk_17_12 ?kk_17_13 ?kk_17_14 ?kk_17_15 ?kk_17_16 ?kk_17_18 ?kh_17 ?kv_17 ?kk_18_0 ?kk_18_1 ?kk_18_2 ?kk_18_3 ?kk_18_4 ?kk_18_5 ?kk_18_6 ?kk_18_7 ?kk_18_8 ?kk_18_9 ?kk_18_10 ?kk_18_11 ?kk_18_12 ?kk_18_13 ?kk_18_14 ?kk_18_15 ?kk_18_16 ?kk_18_17 ?kh_18 ?kv_18 ?kk_19_0 ?kk_19_1 ?kk_19_2 ?kk_19_3 ?kk_19_4 ?kk_19_5 ?kk_19_6 ?kk_19_7 ?kk_19_8 ?kk_19_9 ?kk_19_10 ?kk_19_11 ?kk_19_12 ?kk_19_13 ?kk_19_14 ?kk_19_15 ?kk_19_16 ?kk_19_17 ?kk_19_18 ?kv_19 ?z_bool ?z_range ?z_len ?z_abs ?z_int ?z_max ?z_min ?z_sum ?z_list ?z_isinstance ?z_enumerate ?z_zip ?z_reversed ?z_any ?z_all ?z_ValueError
    (case a_HaulError => k_is)
    (case a_OutOfRange => k_is)
    (case a_NotIrreducible => k_is)
    (case a_NoInverse => k_is)
    (case a_NoDivisor => k_is)
    (case a_SamePoint => k_is)
    (case a_BadTaps => k_is)
    (case a_BadPattern => k_is)
    (case a_BadRow => k_is)
    (case a_NoPath => k_is)
    (case a_WrongSize => k_is)
    (case a_WrongPlace => k_is)
    (case a_WrongCorrection => k_is)
    (case a_TooSmall => k_is)
    (case a_TooLarge => k_is)
    (case a_BadByte => k_is)
    (case a_HasRegister => k_is)
    (case a_BadSeal => k_is)
    (case a_BadVote => k_is)
    (case a_TooFar => k_is)
    (case i_init => k_is)
    (case ti_init => k_is)
    (case l_init => k_is)
    (case c_init => k_is)
    (case k_init => k_is)
    (case v_init => first | k_is | decide +kernel | rfl)
    (case sp_cls => first | k_is | decide +kernel | rfl)
    (case tk_cls => first | k_is | decide +kernel | rfl)
    (case x_HaulError => k_is)
    (case r_HaulError => first | rfl | decide +kernel)
    (case sa_HaulError => k_is)
    (case ga_HaulError => k_is)
    (case gg_HaulError => k_is)
    (case cl_HaulError => k_is)
    (case no_HaulError => k_is)
    (case e_HaulError => k_is)
    (case ty_HaulError => k_is)
    (case kc_HaulError => k_is)
    (case hd_HaulError => k_is)
    (case mo_HaulError => k_is)
    (case su_HaulError => first | rfl | k_is)
    (case x_OutOfRange => k_is)
    (case r_OutOfRange => first | rfl | decide +kernel)
    (case sa_OutOfRange => k_is)
    (case ga_OutOfRange => k_is)
    (case gg_OutOfRange => k_is)
    (case cl_OutOfRange => k_is)
    (case no_OutOfRange => k_is)
    (case ii_OutOfRange => k_is)
    (case e_OutOfRange => k_is)
    (case ty_OutOfRange => k_is)
    (case kc_OutOfRange => k_is)
    (case hd_OutOfRange => k_is)
    (case mo_OutOfRange => k_is)
    (case su_OutOfRange => first | rfl | k_is)
    (case x_NotIrreducible => k_is)
    (case r_NotIrreducible => first | rfl | decide +kernel)
    (case sa_NotIrreducible => k_is)
    (case ga_NotIrreducible => k_is)
    (case gg_NotIrreducible => k_is)
    (case cl_NotIrreducible => k_is)
    (case no_NotIrreducible => k_is)
    (case ii_NotIrreducible => k_is)
    (case e_NotIrreducible => k_is)
    (case ty_NotIrreducible => k_is)
    (case kc_NotIrreducible => k_is)
    (case hd_NotIrreducible => k_is)
    (case mo_NotIrreducible => k_is)
    (case su_NotIrreducible => first | rfl | k_is)
    (case x_NoInverse => k_is)
    (case r_NoInverse => first | rfl | decide +kernel)
    (case sa_NoInverse => k_is)
    (case ga_NoInverse => k_is)
    (case gg_NoInverse => k_is)
    (case cl_NoInverse => k_is)
    (case no_NoInverse => k_is)
    (case ii_NoInverse => k_is)
    (case e_NoInverse => k_is)
    (case ty_NoInverse => k_is)
    (case kc_NoInverse => k_is)
    (case hd_NoInverse => k_is)
    (case mo_NoInverse => k_is)
    (case su_NoInverse => first | rfl | k_is)
    (case x_NoDivisor => k_is)
    (case r_NoDivisor => first | rfl | decide +kernel)
    (case sa_NoDivisor => k_is)
    (case ga_NoDivisor => k_is)
    (case gg_NoDivisor => k_is)
    (case cl_NoDivisor => k_is)
    (case no_NoDivisor => k_is)
    (case ii_NoDivisor => k_is)
    (case e_NoDivisor => k_is)
    (case ty_NoDivisor => k_is)
    (case kc_NoDivisor => k_is)
    (case hd_NoDivisor => k_is)
    (case mo_NoDivisor => k_is)
    (case su_NoDivisor => first | rfl | k_is)
    (case x_SamePoint => k_is)
    (case r_SamePoint => first | rfl | decide +kernel)
    (case sa_SamePoint => k_is)
    (case ga_SamePoint => k_is)
    (case gg_SamePoint => k_is)
    (case cl_SamePoint => k_is)
    (case no_SamePoint => k_is)
    (case ii_SamePoint => k_is)
    (case e_SamePoint => k_is)
    (case ty_SamePoint => k_is)
    (case kc_SamePoint => k_is)
    (case hd_SamePoint => k_is)
    (case mo_SamePoint => k_is)
    (case su_SamePoint => first | rfl | k_is)
    (case x_BadTaps => k_is)
    (case r_BadTaps => first | rfl | decide +kernel)
    (case sa_BadTaps => k_is)
    (case ga_BadTaps => k_is)
    (case gg_BadTaps => k_is)
    (case cl_BadTaps => k_is)
    (case no_BadTaps => k_is)
    (case ii_BadTaps => k_is)
    (case e_BadTaps => k_is)
    (case ty_BadTaps => k_is)
    (case kc_BadTaps => k_is)
    (case hd_BadTaps => k_is)
    (case mo_BadTaps => k_is)
    (case su_BadTaps => first | rfl | k_is)
    (case x_BadPattern => k_is)
    (case r_BadPattern => first | rfl | decide +kernel)
    (case sa_BadPattern => k_is)
    (case ga_BadPattern => k_is)
    (case gg_BadPattern => k_is)
    (case cl_BadPattern => k_is)
    (case no_BadPattern => k_is)
    (case ii_BadPattern => k_is)
    (case e_BadPattern => k_is)
    (case ty_BadPattern => k_is)
    (case kc_BadPattern => k_is)
    (case hd_BadPattern => k_is)
    (case mo_BadPattern => k_is)
    (case su_BadPattern => first | rfl | k_is)
    (case x_BadRow => k_is)
    (case r_BadRow => first | rfl | decide +kernel)
    (case sa_BadRow => k_is)
    (case ga_BadRow => k_is)
    (case gg_BadRow => k_is)
    (case cl_BadRow => k_is)
    (case no_BadRow => k_is)
    (case ii_BadRow => k_is)
    (case e_BadRow => k_is)
    (case ty_BadRow => k_is)
    (case kc_BadRow => k_is)
    (case hd_BadRow => k_is)
    (case mo_BadRow => k_is)
    (case su_BadRow => first | rfl | k_is)
    (case x_NoPath => k_is)
    (case r_NoPath => first | rfl | decide +kernel)
    (case sa_NoPath => k_is)
    (case ga_NoPath => k_is)
    (case gg_NoPath => k_is)
    (case cl_NoPath => k_is)
    (case no_NoPath => k_is)
    (case ii_NoPath => k_is)
    (case e_NoPath => k_is)
    (case ty_NoPath => k_is)
    (case kc_NoPath => k_is)
    (case hd_NoPath => k_is)
    (case mo_NoPath => k_is)
    (case su_NoPath => first | rfl | k_is)
    (case x_WrongSize => k_is)
    (case r_WrongSize => first | rfl | decide +kernel)
    (case sa_WrongSize => k_is)
    (case ga_WrongSize => k_is)
    (case gg_WrongSize => k_is)
    (case cl_WrongSize => k_is)
    (case no_WrongSize => k_is)
    (case ii_WrongSize => k_is)
    (case e_WrongSize => k_is)
    (case ty_WrongSize => k_is)
    (case kc_WrongSize => k_is)
    (case hd_WrongSize => k_is)
    (case mo_WrongSize => k_is)
    (case su_WrongSize => first | rfl | k_is)
    (case x_WrongPlace => k_is)
    (case r_WrongPlace => first | rfl | decide +kernel)
    (case sa_WrongPlace => k_is)
    (case ga_WrongPlace => k_is)
    (case gg_WrongPlace => k_is)
    (case cl_WrongPlace => k_is)
    (case no_WrongPlace => k_is)
    (case ii_WrongPlace => k_is)
    (case e_WrongPlace => k_is)
    (case ty_WrongPlace => k_is)
    (case kc_WrongPlace => k_is)
    (case hd_WrongPlace => k_is)
    (case mo_WrongPlace => k_is)
    (case su_WrongPlace => first | rfl | k_is)
    (case x_WrongCorrection => k_is)
    (case r_WrongCorrection => first | rfl | decide +kernel)
    (case sa_WrongCorrection => k_is)
    (case ga_WrongCorrection => k_is)
    (case gg_WrongCorrection => k_is)
    (case cl_WrongCorrection => k_is)
    (case no_WrongCorrection => k_is)
    (case ii_WrongCorrection => k_is)
    (case e_WrongCorrection => k_is)
    (case ty_WrongCorrection => k_is)
    (case kc_WrongCorrection => k_is)
    (case hd_WrongCorrection => k_is)
    (case mo_WrongCorrection => k_is)
    (case su_WrongCorrection => first | rfl | k_is)
    (case x_TooSmall => k_is)
    (case r_TooSmall => first | rfl | decide +kernel)
    (case sa_TooSmall => k_is)
    (case ga_TooSmall => k_is)
    (case gg_TooSmall => k_is)
    (case cl_TooSmall => k_is)
    (case no_TooSmall => k_is)
    (case ii_TooSmall => k_is)
    (case e_TooSmall => k_is)
    (case ty_TooSmall => k_is)
    (case kc_TooSmall => k_is)
    (case hd_TooSmall => k_is)
    (case mo_TooSmall => k_is)
    (case su_TooSmall => first | rfl | k_is)
    (case x_TooLarge => k_is)
    (case r_TooLarge => first | rfl | decide +kernel)
    (case sa_TooLarge => k_is)
    (case ga_TooLarge => k_is)
    (case gg_TooLarge => k_is)
    (case cl_TooLarge => k_is)
    (case no_TooLarge => k_is)
    (case ii_TooLarge => k_is)
    (case e_TooLarge => k_is)
    (case ty_TooLarge => k_is)
    (case kc_TooLarge => k_is)
    (case hd_TooLarge => k_is)
    (case mo_TooLarge => k_is)
    (case su_TooLarge => first | rfl | k_is)
    (case x_BadByte => k_is)
    (case r_BadByte => first | rfl | decide +kernel)
    (case sa_BadByte => k_is)
    (case ga_BadByte => k_is)
    (case gg_BadByte => k_is)
    (case cl_BadByte => k_is)
    (case no_BadByte => k_is)
    (case ii_BadByte => k_is)
    (case e_BadByte => k_is)
    (case ty_BadByte => k_is)
    (case kc_BadByte => k_is)
    (case hd_BadByte => k_is)
    (case mo_BadByte => k_is)
    (case su_BadByte => first | rfl | k_is)
    (case x_HasRegister => k_is)
    (case r_HasRegister => first | rfl | decide +kernel)
    (case sa_HasRegister => k_is)
    (case ga_HasRegister => k_is)
    (case gg_HasRegister => k_is)
    (case cl_HasRegister => k_is)
    (case no_HasRegister => k_is)
    (case ii_HasRegister => k_is)
    (case e_HasRegister => k_is)
    (case ty_HasRegister => k_is)
    (case kc_HasRegister => k_is)
    (case hd_HasRegister => k_is)
    (case mo_HasRegister => k_is)
    (case su_HasRegister => first | rfl | k_is)
    (case x_BadSeal => k_is)
    (case r_BadSeal => first | rfl | decide +kernel)
    (case sa_BadSeal => k_is)
    (case ga_BadSeal => k_is)
    (case gg_BadSeal => k_is)
    (case cl_BadSeal => k_is)
    (case no_BadSeal => k_is)
    (case ii_BadSeal => k_is)
    (case e_BadSeal => k_is)
    (case ty_BadSeal => k_is)
    (case kc_BadSeal => k_is)
    (case hd_BadSeal => k_is)
    (case mo_BadSeal => k_is)
    (case su_BadSeal => first | rfl | k_is)
    (case x_BadVote => k_is)
    (case r_BadVote => first | rfl | decide +kernel)
    (case sa_BadVote => k_is)
    (case ga_BadVote => k_is)
    (case gg_BadVote => k_is)
    (case cl_BadVote => k_is)
    (case no_BadVote => k_is)
    (case ii_BadVote => k_is)
    (case e_BadVote => k_is)
    (case ty_BadVote => k_is)
    (case kc_BadVote => k_is)
    (case hd_BadVote => k_is)
    (case mo_BadVote => k_is)
    (case su_BadVote => first | rfl | k_is)
    (case x_TooFar => k_is)
    (case r_TooFar => first | rfl | decide +kernel)
    (case sa_TooFar => k_is)
    (case ga_TooFar => k_is)
    (case gg_TooFar => k_is)
    (case cl_TooFar => k_is)
    (case no_TooFar => k_is)
    (case ii_TooFar => k_is)
    (case e_TooFar => k_is)
    (case ty_TooFar => k_is)
    (case kc_TooFar => k_is)
    (case hd_TooFar => k_is)
    (case mo_TooFar => k_is)
    (case su_TooFar => first | rfl | k_is)
    (case a__law_made => k_is)
    (case l__law_made => k_is)
    (case c__law_made => k_is)
    (case k__law_made => k_is)
    (case a__law_further => k_is)
    (case l__law_further => k_is)
    (case c__law_further => k_is)
    (case k__law_further => k_is)
    (case a__law_kinds => k_is)
    (case l__law_kinds => k_is)
    (case c__law_kinds => k_is)
    (case k__law_kinds => k_is)
    (case a_law => k_is)
    (case l_law => k_is)
    (case c_law => k_is)
    (case k_law => k_is)
    (case kk_0_1 => first | rfl | decide +kernel)
    (case kk_0_2 => first | rfl | decide +kernel)
    (case kk_0_3 => first | rfl | decide +kernel)
    (case kk_0_4 => first | rfl | decide +kernel)
    (case kk_0_5 => first | rfl | decide +kernel)
    (case kk_0_6 => first | rfl | decide +kernel)
    (case kk_0_7 => first | rfl | decide +kernel)
    (case kk_0_8 => first | rfl | decide +kernel)
    (case kk_0_9 => first | rfl | decide +kernel)
    (case kk_0_10 => first | rfl | decide +kernel)
    (case kk_0_11 => first | rfl | decide +kernel)
    (case kk_0_12 => first | rfl | decide +kernel)
    (case kk_0_13 => first | rfl | decide +kernel)
    (case kk_0_14 => first | rfl | decide +kernel)
    (case kk_0_15 => first | rfl | decide +kernel)
    (case kk_0_16 => first | rfl | decide +kernel)
    (case kk_0_17 => first | rfl | decide +kernel)
    (case kk_0_18 => first | rfl | decide +kernel)
    (case kh_0 => first | rfl | decide +kernel)
    (case kv_0 => first | rfl | decide +kernel)
    (case kk_1_0 => first | rfl | decide +kernel)
    (case kk_1_2 => first | rfl | decide +kernel)
    (case kk_1_3 => first | rfl | decide +kernel)
    (case kk_1_4 => first | rfl | decide +kernel)
    (case kk_1_5 => first | rfl | decide +kernel)
    (case kk_1_6 => first | rfl | decide +kernel)
    (case kk_1_7 => first | rfl | decide +kernel)
    (case kk_1_8 => first | rfl | decide +kernel)
    (case kk_1_9 => first | rfl | decide +kernel)
    (case kk_1_10 => first | rfl | decide +kernel)
    (case kk_1_11 => first | rfl | decide +kernel)
    (case kk_1_12 => first | rfl | decide +kernel)
    (case kk_1_13 => first | rfl | decide +kernel)
    (case kk_1_14 => first | rfl | decide +kernel)
    (case kk_1_15 => first | rfl | decide +kernel)
    (case kk_1_16 => first | rfl | decide +kernel)
    (case kk_1_17 => first | rfl | decide +kernel)
    (case kk_1_18 => first | rfl | decide +kernel)
    (case kh_1 => first | rfl | decide +kernel)
    (case kv_1 => first | rfl | decide +kernel)
    (case kk_2_0 => first | rfl | decide +kernel)
    (case kk_2_1 => first | rfl | decide +kernel)
    (case kk_2_3 => first | rfl | decide +kernel)
    (case kk_2_4 => first | rfl | decide +kernel)
    (case kk_2_5 => first | rfl | decide +kernel)
    (case kk_2_6 => first | rfl | decide +kernel)
    (case kk_2_7 => first | rfl | decide +kernel)
    (case kk_2_8 => first | rfl | decide +kernel)
    (case kk_2_9 => first | rfl | decide +kernel)
    (case kk_2_10 => first | rfl | decide +kernel)
    (case kk_2_11 => first | rfl | decide +kernel)
    (case kk_2_12 => first | rfl | decide +kernel)
    (case kk_2_13 => first | rfl | decide +kernel)
    (case kk_2_14 => first | rfl | decide +kernel)
    (case kk_2_15 => first | rfl | decide +kernel)
    (case kk_2_16 => first | rfl | decide +kernel)
    (case kk_2_17 => first | rfl | decide +kernel)
    (case kk_2_18 => first | rfl | decide +kernel)
    (case kh_2 => first | rfl | decide +kernel)
    (case kv_2 => first | rfl | decide +kernel)
    (case kk_3_0 => first | rfl | decide +kernel)
    (case kk_3_1 => first | rfl | decide +kernel)
    (case kk_3_2 => first | rfl | decide +kernel)
    (case kk_3_4 => first | rfl | decide +kernel)
    (case kk_3_5 => first | rfl | decide +kernel)
    (case kk_3_6 => first | rfl | decide +kernel)
    (case kk_3_7 => first | rfl | decide +kernel)
    (case kk_3_8 => first | rfl | decide +kernel)
    (case kk_3_9 => first | rfl | decide +kernel)
    (case kk_3_10 => first | rfl | decide +kernel)
    (case kk_3_11 => first | rfl | decide +kernel)
    (case kk_3_12 => first | rfl | decide +kernel)
    (case kk_3_13 => first | rfl | decide +kernel)
    (case kk_3_14 => first | rfl | decide +kernel)
    (case kk_3_15 => first | rfl | decide +kernel)
    (case kk_3_16 => first | rfl | decide +kernel)
    (case kk_3_17 => first | rfl | decide +kernel)
    (case kk_3_18 => first | rfl | decide +kernel)
    (case kh_3 => first | rfl | decide +kernel)
    (case kv_3 => first | rfl | decide +kernel)
    (case kk_4_0 => first | rfl | decide +kernel)
    (case kk_4_1 => first | rfl | decide +kernel)
    (case kk_4_2 => first | rfl | decide +kernel)
    (case kk_4_3 => first | rfl | decide +kernel)
    (case kk_4_5 => first | rfl | decide +kernel)
    (case kk_4_6 => first | rfl | decide +kernel)
    (case kk_4_7 => first | rfl | decide +kernel)
    (case kk_4_8 => first | rfl | decide +kernel)
    (case kk_4_9 => first | rfl | decide +kernel)
    (case kk_4_10 => first | rfl | decide +kernel)
    (case kk_4_11 => first | rfl | decide +kernel)
    (case kk_4_12 => first | rfl | decide +kernel)
    (case kk_4_13 => first | rfl | decide +kernel)
    (case kk_4_14 => first | rfl | decide +kernel)
    (case kk_4_15 => first | rfl | decide +kernel)
    (case kk_4_16 => first | rfl | decide +kernel)
    (case kk_4_17 => first | rfl | decide +kernel)
    (case kk_4_18 => first | rfl | decide +kernel)
    (case kh_4 => first | rfl | decide +kernel)
    (case kv_4 => first | rfl | decide +kernel)
    (case kk_5_0 => first | rfl | decide +kernel)
    (case kk_5_1 => first | rfl | decide +kernel)
    (case kk_5_2 => first | rfl | decide +kernel)
    (case kk_5_3 => first | rfl | decide +kernel)
    (case kk_5_4 => first | rfl | decide +kernel)
    (case kk_5_6 => first | rfl | decide +kernel)
    (case kk_5_7 => first | rfl | decide +kernel)
    (case kk_5_8 => first | rfl | decide +kernel)
    (case kk_5_9 => first | rfl | decide +kernel)
    (case kk_5_10 => first | rfl | decide +kernel)
    (case kk_5_11 => first | rfl | decide +kernel)
    (case kk_5_12 => first | rfl | decide +kernel)
    (case kk_5_13 => first | rfl | decide +kernel)
    (case kk_5_14 => first | rfl | decide +kernel)
    (case kk_5_15 => first | rfl | decide +kernel)
    (case kk_5_16 => first | rfl | decide +kernel)
    (case kk_5_17 => first | rfl | decide +kernel)
    (case kk_5_18 => first | rfl | decide +kernel)
    (case kh_5 => first | rfl | decide +kernel)
    (case kv_5 => first | rfl | decide +kernel)
    (case kk_6_0 => first | rfl | decide +kernel)
    (case kk_6_1 => first | rfl | decide +kernel)
    (case kk_6_2 => first | rfl | decide +kernel)
    (case kk_6_3 => first | rfl | decide +kernel)
    (case kk_6_4 => first | rfl | decide +kernel)
    (case kk_6_5 => first | rfl | decide +kernel)
    (case kk_6_7 => first | rfl | decide +kernel)
    (case kk_6_8 => first | rfl | decide +kernel)
    (case kk_6_9 => first | rfl | decide +kernel)
    (case kk_6_10 => first | rfl | decide +kernel)
    (case kk_6_11 => first | rfl | decide +kernel)
    (case kk_6_12 => first | rfl | decide +kernel)
    (case kk_6_13 => first | rfl | decide +kernel)
    (case kk_6_14 => first | rfl | decide +kernel)
    (case kk_6_15 => first | rfl | decide +kernel)
    (case kk_6_16 => first | rfl | decide +kernel)
    (case kk_6_17 => first | rfl | decide +kernel)
    (case kk_6_18 => first | rfl | decide +kernel)
    (case kh_6 => first | rfl | decide +kernel)
    (case kv_6 => first | rfl | decide +kernel)
    (case kk_7_0 => first | rfl | decide +kernel)
    (case kk_7_1 => first | rfl | decide +kernel)
    (case kk_7_2 => first | rfl | decide +kernel)
    (case kk_7_3 => first | rfl | decide +kernel)
    (case kk_7_4 => first | rfl | decide +kernel)
    (case kk_7_5 => first | rfl | decide +kernel)
    (case kk_7_6 => first | rfl | decide +kernel)
    (case kk_7_8 => first | rfl | decide +kernel)
    (case kk_7_9 => first | rfl | decide +kernel)
    (case kk_7_10 => first | rfl | decide +kernel)
    (case kk_7_11 => first | rfl | decide +kernel)
    (case kk_7_12 => first | rfl | decide +kernel)
    (case kk_7_13 => first | rfl | decide +kernel)
    (case kk_7_14 => first | rfl | decide +kernel)
    (case kk_7_15 => first | rfl | decide +kernel)
    (case kk_7_16 => first | rfl | decide +kernel)
    (case kk_7_17 => first | rfl | decide +kernel)
    (case kk_7_18 => first | rfl | decide +kernel)
    (case kh_7 => first | rfl | decide +kernel)
    (case kv_7 => first | rfl | decide +kernel)
    (case kk_8_0 => first | rfl | decide +kernel)
    (case kk_8_1 => first | rfl | decide +kernel)
    (case kk_8_2 => first | rfl | decide +kernel)
    (case kk_8_3 => first | rfl | decide +kernel)
    (case kk_8_4 => first | rfl | decide +kernel)
    (case kk_8_5 => first | rfl | decide +kernel)
    (case kk_8_6 => first | rfl | decide +kernel)
    (case kk_8_7 => first | rfl | decide +kernel)
    (case kk_8_9 => first | rfl | decide +kernel)
    (case kk_8_10 => first | rfl | decide +kernel)
    (case kk_8_11 => first | rfl | decide +kernel)
    (case kk_8_12 => first | rfl | decide +kernel)
    (case kk_8_13 => first | rfl | decide +kernel)
    (case kk_8_14 => first | rfl | decide +kernel)
    (case kk_8_15 => first | rfl | decide +kernel)
    (case kk_8_16 => first | rfl | decide +kernel)
    (case kk_8_17 => first | rfl | decide +kernel)
    (case kk_8_18 => first | rfl | decide +kernel)
    (case kh_8 => first | rfl | decide +kernel)
    (case kv_8 => first | rfl | decide +kernel)
    (case kk_9_0 => first | rfl | decide +kernel)
    (case kk_9_1 => first | rfl | decide +kernel)
    (case kk_9_2 => first | rfl | decide +kernel)
    (case kk_9_3 => first | rfl | decide +kernel)
    (case kk_9_4 => first | rfl | decide +kernel)
    (case kk_9_5 => first | rfl | decide +kernel)
    (case kk_9_6 => first | rfl | decide +kernel)
    (case kk_9_7 => first | rfl | decide +kernel)
    (case kk_9_8 => first | rfl | decide +kernel)
    (case kk_9_10 => first | rfl | decide +kernel)
    (case kk_9_11 => first | rfl | decide +kernel)
    (case kk_9_12 => first | rfl | decide +kernel)
    (case kk_9_13 => first | rfl | decide +kernel)
    (case kk_9_14 => first | rfl | decide +kernel)
    (case kk_9_15 => first | rfl | decide +kernel)
    (case kk_9_16 => first | rfl | decide +kernel)
    (case kk_9_17 => first | rfl | decide +kernel)
    (case kk_9_18 => first | rfl | decide +kernel)
    (case kh_9 => first | rfl | decide +kernel)
    (case kv_9 => first | rfl | decide +kernel)
    (case kk_10_0 => first | rfl | decide +kernel)
    (case kk_10_1 => first | rfl | decide +kernel)
    (case kk_10_2 => first | rfl | decide +kernel)
    (case kk_10_3 => first | rfl | decide +kernel)
    (case kk_10_4 => first | rfl | decide +kernel)
    (case kk_10_5 => first | rfl | decide +kernel)
    (case kk_10_6 => first | rfl | decide +kernel)
    (case kk_10_7 => first | rfl | decide +kernel)
    (case kk_10_8 => first | rfl | decide +kernel)
    (case kk_10_9 => first | rfl | decide +kernel)
    (case kk_10_11 => first | rfl | decide +kernel)
    (case kk_10_12 => first | rfl | decide +kernel)
    (case kk_10_13 => first | rfl | decide +kernel)
    (case kk_10_14 => first | rfl | decide +kernel)
    (case kk_10_15 => first | rfl | decide +kernel)
    (case kk_10_16 => first | rfl | decide +kernel)
    (case kk_10_17 => first | rfl | decide +kernel)
    (case kk_10_18 => first | rfl | decide +kernel)
    (case kh_10 => first | rfl | decide +kernel)
    (case kv_10 => first | rfl | decide +kernel)
    (case kk_11_0 => first | rfl | decide +kernel)
    (case kk_11_1 => first | rfl | decide +kernel)
    (case kk_11_2 => first | rfl | decide +kernel)
    (case kk_11_3 => first | rfl | decide +kernel)
    (case kk_11_4 => first | rfl | decide +kernel)
    (case kk_11_5 => first | rfl | decide +kernel)
    (case kk_11_6 => first | rfl | decide +kernel)
    (case kk_11_7 => first | rfl | decide +kernel)
    (case kk_11_8 => first | rfl | decide +kernel)
    (case kk_11_9 => first | rfl | decide +kernel)
    (case kk_11_10 => first | rfl | decide +kernel)
    (case kk_11_12 => first | rfl | decide +kernel)
    (case kk_11_13 => first | rfl | decide +kernel)
    (case kk_11_14 => first | rfl | decide +kernel)
    (case kk_11_15 => first | rfl | decide +kernel)
    (case kk_11_16 => first | rfl | decide +kernel)
    (case kk_11_17 => first | rfl | decide +kernel)
    (case kk_11_18 => first | rfl | decide +kernel)
    (case kh_11 => first | rfl | decide +kernel)
    (case kv_11 => first | rfl | decide +kernel)
    (case kk_12_0 => first | rfl | decide +kernel)
    (case kk_12_1 => first | rfl | decide +kernel)
    (case kk_12_2 => first | rfl | decide +kernel)
    (case kk_12_3 => first | rfl | decide +kernel)
    (case kk_12_4 => first | rfl | decide +kernel)
    (case kk_12_5 => first | rfl | decide +kernel)
    (case kk_12_6 => first | rfl | decide +kernel)
    (case kk_12_7 => first | rfl | decide +kernel)
    (case kk_12_8 => first | rfl | decide +kernel)
    (case kk_12_9 => first | rfl | decide +kernel)
    (case kk_12_10 => first | rfl | decide +kernel)
    (case kk_12_11 => first | rfl | decide +kernel)
    (case kk_12_13 => first | rfl | decide +kernel)
    (case kk_12_14 => first | rfl | decide +kernel)
    (case kk_12_15 => first | rfl | decide +kernel)
    (case kk_12_16 => first | rfl | decide +kernel)
    (case kk_12_17 => first | rfl | decide +kernel)
    (case kk_12_18 => first | rfl | decide +kernel)
    (case kh_12 => first | rfl | decide +kernel)
    (case kv_12 => first | rfl | decide +kernel)
    (case kk_13_0 => first | rfl | decide +kernel)
    (case kk_13_1 => first | rfl | decide +kernel)
    (case kk_13_2 => first | rfl | decide +kernel)
    (case kk_13_3 => first | rfl | decide +kernel)
    (case kk_13_4 => first | rfl | decide +kernel)
    (case kk_13_5 => first | rfl | decide +kernel)
    (case kk_13_6 => first | rfl | decide +kernel)
    (case kk_13_7 => first | rfl | decide +kernel)
    (case kk_13_8 => first | rfl | decide +kernel)
    (case kk_13_9 => first | rfl | decide +kernel)
    (case kk_13_10 => first | rfl | decide +kernel)
    (case kk_13_11 => first | rfl | decide +kernel)
    (case kk_13_12 => first | rfl | decide +kernel)
    (case kk_13_14 => first | rfl | decide +kernel)
    (case kk_13_15 => first | rfl | decide +kernel)
    (case kk_13_16 => first | rfl | decide +kernel)
    (case kk_13_17 => first | rfl | decide +kernel)
    (case kk_13_18 => first | rfl | decide +kernel)
    (case kh_13 => first | rfl | decide +kernel)
    (case kv_13 => first | rfl | decide +kernel)
    (case kk_14_0 => first | rfl | decide +kernel)
    (case kk_14_1 => first | rfl | decide +kernel)
    (case kk_14_2 => first | rfl | decide +kernel)
    (case kk_14_3 => first | rfl | decide +kernel)
    (case kk_14_4 => first | rfl | decide +kernel)
    (case kk_14_5 => first | rfl | decide +kernel)
    (case kk_14_6 => first | rfl | decide +kernel)
    (case kk_14_7 => first | rfl | decide +kernel)
    (case kk_14_8 => first | rfl | decide +kernel)
    (case kk_14_9 => first | rfl | decide +kernel)
    (case kk_14_10 => first | rfl | decide +kernel)
    (case kk_14_11 => first | rfl | decide +kernel)
    (case kk_14_12 => first | rfl | decide +kernel)
    (case kk_14_13 => first | rfl | decide +kernel)
    (case kk_14_15 => first | rfl | decide +kernel)
    (case kk_14_16 => first | rfl | decide +kernel)
    (case kk_14_17 => first | rfl | decide +kernel)
    (case kk_14_18 => first | rfl | decide +kernel)
    (case kh_14 => first | rfl | decide +kernel)
    (case kv_14 => first | rfl | decide +kernel)
    (case kk_15_0 => first | rfl | decide +kernel)
    (case kk_15_1 => first | rfl | decide +kernel)
    (case kk_15_2 => first | rfl | decide +kernel)
    (case kk_15_3 => first | rfl | decide +kernel)
    (case kk_15_4 => first | rfl | decide +kernel)
    (case kk_15_5 => first | rfl | decide +kernel)
    (case kk_15_6 => first | rfl | decide +kernel)
    (case kk_15_7 => first | rfl | decide +kernel)
    (case kk_15_8 => first | rfl | decide +kernel)
    (case kk_15_9 => first | rfl | decide +kernel)
    (case kk_15_10 => first | rfl | decide +kernel)
    (case kk_15_11 => first | rfl | decide +kernel)
    (case kk_15_12 => first | rfl | decide +kernel)
    (case kk_15_13 => first | rfl | decide +kernel)
    (case kk_15_14 => first | rfl | decide +kernel)
    (case kk_15_16 => first | rfl | decide +kernel)
    (case kk_15_17 => first | rfl | decide +kernel)
    (case kk_15_18 => first | rfl | decide +kernel)
    (case kh_15 => first | rfl | decide +kernel)
    (case kv_15 => first | rfl | decide +kernel)
    (case kk_16_0 => first | rfl | decide +kernel)
    (case kk_16_1 => first | rfl | decide +kernel)
    (case kk_16_2 => first | rfl | decide +kernel)
    (case kk_16_3 => first | rfl | decide +kernel)
    (case kk_16_4 => first | rfl | decide +kernel)
    (case kk_16_5 => first | rfl | decide +kernel)
    (case kk_16_6 => first | rfl | decide +kernel)
    (case kk_16_7 => first | rfl | decide +kernel)
    (case kk_16_8 => first | rfl | decide +kernel)
    (case kk_16_9 => first | rfl | decide +kernel)
    (case kk_16_10 => first | rfl | decide +kernel)
    (case kk_16_11 => first | rfl | decide +kernel)
    (case kk_16_12 => first | rfl | decide +kernel)
    (case kk_16_13 => first | rfl | decide +kernel)
    (case kk_16_14 => first | rfl | decide +kernel)
    (case kk_16_15 => first | rfl | decide +kernel)
    (case kk_16_17 => first | rfl | decide +kernel)
    (case kk_16_18 => first | rfl | decide +kernel)
    (case kh_16 => first | rfl | decide +kernel)
    (case kv_16 => first | rfl | decide +kernel)
    (case kk_17_0 => first | rfl | decide +kernel)
    (case kk_17_1 => first | rfl | decide +kernel)
    (case kk_17_2 => first | rfl | decide +kernel)
    (case kk_17_3 => first | rfl | decide +kernel)
    (case kk_17_4 => first | rfl | decide +kernel)
    (case kk_17_5 => first | rfl | decide +kernel)
    (case kk_17_6 => first | rfl | decide +kernel)
    (case kk_17_7 => first | rfl | decide +kernel)
    (case kk_17_8 => first | rfl | decide +kernel)
    (case kk_17_9 => first | rfl | decide +kernel)
    (case kk_17_10 => first | rfl | decide +kernel)
    (case kk_17_11 => first | rfl | decide +kernel)
    (case kk_17_12 => first | rfl | decide +kernel)
    (case kk_17_13 => first | rfl | decide +kernel)
    (case kk_17_14 => first | rfl | decide +kernel)
    (case kk_17_15 => first | rfl | decide +kernel)
    (case kk_17_16 => first | rfl | decide +kernel)
    (case kk_17_18 => first | rfl | decide +kernel)
    (case kh_17 => first | rfl | decide +kernel)
    (case kv_17 => first | rfl | decide +kernel)
    (case kk_18_0 => first | rfl | decide +kernel)
    (case kk_18_1 => first | rfl | decide +kernel)
    (case kk_18_2 => first | rfl | decide +kernel)
    (case kk_18_3 => first | rfl | decide +kernel)
    (case kk_18_4 => first | rfl | decide +kernel)
    (case kk_18_5 => first | rfl | decide +kernel)
    (case kk_18_6 => first | rfl | decide +kernel)
    (case kk_18_7 => first | rfl | decide +kernel)
    (case kk_18_8 => first | rfl | decide +kernel)
    (case kk_18_9 => first | rfl | decide +kernel)
    (case kk_18_10 => first | rfl | decide +kernel)
    (case kk_18_11 => first | rfl | decide +kernel)
    (case kk_18_12 => first | rfl | decide +kernel)
    (case kk_18_13 => first | rfl | decide +kernel)
    (case kk_18_14 => first | rfl | decide +kernel)
    (case kk_18_15 => first | rfl | decide +kernel)
    (case kk_18_16 => first | rfl | decide +kernel)
    (case kk_18_17 => first | rfl | decide +kernel)
    (case kh_18 => first | rfl | decide +kernel)
    (case kv_18 => first | rfl | decide +kernel)
    (case kk_19_0 => first | rfl | decide +kernel)
    (case kk_19_1 => first | rfl | decide +kernel)
    (case kk_19_2 => first | rfl | decide +kernel)
    (case kk_19_3 => first | rfl | decide +kernel)
    (case kk_19_4 => first | rfl | decide +kernel)
    (case kk_19_5 => first | rfl | decide +kernel)
    (case kk_19_6 => first | rfl | decide +kernel)
    (case kk_19_7 => first | rfl | decide +kernel)
    (case kk_19_8 => first | rfl | decide +kernel)
    (case kk_19_9 => first | rfl | decide +kernel)
    (case kk_19_10 => first | rfl | decide +kernel)
    (case kk_19_11 => first | rfl | decide +kernel)
    (case kk_19_12 => first | rfl | decide +kernel)
    (case kk_19_13 => first | rfl | decide +kernel)
    (case kk_19_14 => first | rfl | decide +kernel)
    (case kk_19_15 => first | rfl | decide +kernel)
    (case kk_19_16 => first | rfl | decide +kernel)
    (case kk_19_17 => first | rfl | decide +kernel)
    (case kk_19_18 => first | rfl | decide +kernel)
    (case kv_19 => first | rfl | decide +kernel)
    (case z_bool => k_is)
    (case z_range => k_is)
    (case z_len => k_is)
    (case z_abs => k_is)
    (case z_int => k_is)
    (case z_max => k_is)
    (case z_min => k_is)
    (case z_sum => k_is)
    (case z_list => k_is)
    (case z_isinstance => k_is)
    (case z_enumerate => k_is)
    (case z_zip => k_is)
    (case z_reversed => k_is)
    (case z_any => k_is)
    (case z_all => k_is)
    (case z_ValueError => k_is)
