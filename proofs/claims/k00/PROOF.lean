import PyProof.Rows.All
import Wide.All
import OpenK.AllK
import Wide.FinOn
import HandS.ForMost
import HandS.WideBits
import HandS.Exc
import HandS.ExcInit
import HandS.ExcOwn
import HandS.ExcField
import HandS.ExcIs
import HandS.IsInst
import HandS.Flow
import HandS.Codes
import HandS.Style
import HandS.TryOnly
import HandS.WordsExc
import KE.KExcIs
import HandS.FStr
import PySem.Challenge.RW_farhaul_k00_binary_polynomials
set_option Elab.async false
set_option linter.all false
set_option maxRecDepth 100000
set_option maxHeartbeats 4000000
/-! Operators on numbers that are not negative. -/
namespace NB
open PySem PySem.Spec PyProof.Rows L2
def rNN (g : Nat → Nat → V) : R2 := fun x y H Q => ∃ m n : Nat, x = .int m ∧ y = .int n ∧ Q (g m n) H
def rNNC (C : Nat → Nat → Prop) (g : Nat → Nat → V) : R2 := fun x y H Q => ∃ m n : Nat, x = .int m ∧ y = .int n ∧ C m n ∧ Q (g m n) H
theorem op_of {X : Cx} {f : Value → Value → Sem Value} {r r' : R2} (h : OpR X f r) (k : ∀ x y H Q, r' x y H Q → r x y H Q) : OpR X f r' := by
  intro pins s σ H x y u v Q I rx ry q
  exact h pins s σ H x y u v Q I rx ry (k _ _ _ _ q)
theorem xor_nn (m n : Nat) : Builtin.bitXor (m : Int) (n : Int) = ((m ^^^ n : Nat) : Int) := by
  rw [Bits.bitXor_pp (Int.natCast_nonneg _) (Int.natCast_nonneg _)]; simp
theorem or_nn (m n : Nat) : Builtin.bitOr (m : Int) (n : Int) = ((m ||| n : Nat) : Int) := by
  rw [Bits.bitOr_pp (Int.natCast_nonneg _) (Int.natCast_nonneg _)]; simp
theorem and_nn (m n : Nat) : Builtin.bitAnd (m : Int) (n : Int) = ((m &&& n : Nat) : Int) := by
  rw [bitAnd_pp (Int.natCast_nonneg _) (Int.natCast_nonneg _)]; simp
theorem shl_nn (m n : Nat) : (m : Int) * 2 ^ (n : Int).toNat = ((2 ^ n * m : Nat) : Int) := by
  rw [Int.toNat_natCast, L2.cast_parts]
theorem shr_nn (m n : Nat) : (m : Int) / 2 ^ (n : Int).toNat = ((m / 2 ^ n : Nat) : Int) := by
  rw [Int.toNat_natCast, Int.natCast_ediv, Int.natCast_pow]; rfl
abbrev rXorN : R2 := rNN fun m n => .int ((m ^^^ n : Nat) : Int)
abbrev rOrN : R2 := rNN fun m n => .int ((m ||| n : Nat) : Int)
abbrev rAndN : R2 := rNN fun m n => .int ((m &&& n : Nat) : Int)
abbrev rShlN : R2 := rNNC (fun m n => m < 2 ^ 64 ∧ n ≤ 1000000) fun m n => .int ((2 ^ n * m : Nat) : Int)
abbrev rShrN : R2 := rNN fun m n => .int ((m / 2 ^ n : Nat) : Int)
section
variable {X : Cx}
theorem of_xor {r : R2} (e : ∀ x y H Q, r x y H Q → (rI0 fun i j => .int (Builtin.bitXor i j)) x y H Q) : True := trivial
theorem k_xor : ∀ x y H Q, rXorN x y H Q → (rI0 fun i j => .int (Builtin.bitXor i j)) x y H Q := fun _ _ _ _ ⟨m, n, a, b, q⟩ => ⟨m, n, a, b, by show _; dsimp only; rw [xor_nn]; exact q⟩
theorem k_or : ∀ x y H Q, rOrN x y H Q → (rI0 fun i j => .int (Builtin.bitOr i j)) x y H Q := fun _ _ _ _ ⟨m, n, a, b, q⟩ => ⟨m, n, a, b, by dsimp only; rw [or_nn]; exact q⟩
theorem k_and : ∀ x y H Q, rAndN x y H Q → (rI0 fun i j => .int (Builtin.bitAnd i j)) x y H Q := fun _ _ _ _ ⟨m, n, a, b, q⟩ => ⟨m, n, a, b, by dsimp only; rw [and_nn]; exact q⟩
theorem k_shl : ∀ x y H Q, rShlN x y H Q → (rI CPow fun i j => .int (i * 2 ^ j.toNat)) x y H Q := fun _ _ _ _ ⟨m, n, a, b, ⟨c1, c2⟩, q⟩ =>
  ⟨m, n, a, b, ⟨by omega, by omega, by simpa using c1⟩, by dsimp only; rw [shl_nn]; exact q⟩
theorem k_shr : ∀ x y H Q, rShrN x y H Q → (rI (fun _ j => 0 ≤ j) fun i j => .int (i / 2 ^ j.toNat)) x y H Q := fun _ _ _ _ ⟨m, n, a, b, q⟩ =>
  ⟨m, n, a, b, by omega, by dsimp only; rw [shr_nn]; exact q⟩
theorem nb_xor : OpR X (binaryOp .BitXor) rXorN := op_of op_xor k_xor
theorem nb_or : OpR X (binaryOp .BitOr) rOrN := op_of op_or k_or
theorem nb_and : OpR X (binaryOp .BitAnd) rAndN := op_of op_and k_and
theorem nb_shl : OpR X (binaryOp .LShift) rShlN := op_of op_shl k_shl
theorem nb_shr : OpR X (binaryOp .RShift) rShrN := op_of op_shr k_shr
theorem nbi_xor : PIp X .BitXor rXorN := op_of iop_xor k_xor
theorem nbi_or : PIp X .BitOr rOrN := op_of iop_or k_or
theorem nbi_shr : PIp X .RShift rShrN := op_of iop_shr k_shr
/-- bit_length -/
def tBitsN (to : TE) : TE := fun σ H Q => to σ H fun x H1 => ∃ m : Nat, x = .int m ∧ Q (.int ((if m = 0 then 0 else m.log2 + 1 : Nat) : Int)) H1
theorem pe_of {e : Expr} {t t' : TE} (h : PE X e t) (k : ∀ σ H Q, t' σ H Q → t σ H Q) : PE X e t' := ⟨fun pins s σ H Q I q => h.run pins s σ H Q I (k σ H Q q)⟩
end


end NB
namespace NB
open PySem PySem.Spec PyProof.Rows L2
/-- the number of bits -/
def bits (m : Nat) : Nat := if m = 0 then 0 else m.log2 + 1
theorem intBits_nat (m : Nat) : Builtin.Int.intBits (m : Int) = bits m := by
  unfold Builtin.Int.intBits bits
  by_cases h : m = 0
  · subst h; rfl
  · have : ¬ ((m : Int) == 0) = true := by simp; omega
    rw [if_neg this, if_neg h]; simp
section
variable {X : Cx}
def tBitsM (to : TE) : TE := fun σ H Q => to σ H fun x H1 => ∃ m : Nat, x = .int m ∧ Q (.int ((bits m : Nat) : Int)) H1
theorem TE.mono_id {t : TE} {σ : L2.St} {H : Hp} {Q Q' : VK} (e : Q = Q') (h : t σ H Q) : t σ H Q' := e ▸ h
end
/-! numbers written in the text -/
theorem pe_nat {X : Cx} (n : Nat) {j pos} {i : Int} (h : i = (n : Int) := by rfl) : PE X (.Constant (.int i) j pos) (tC (.int (n : Int))) := by subst h; exact pe_int
def rLtN : R2 := rNN fun m n => .bl (decide (m < n))
/-- a for over range(n), n a number that is not negative -/
theorem for_rangeN {lo n : Nat} {g : TG} {tb : TS} {D : Ends} {σ : L2.St} {H : Hp} (Pv : Nat → L2.St → Hp → Prop) (h0 : Pv 0 σ H)
    (hs : ∀ i σ H, i < n → Pv i σ H → g (.int ((lo + i : Nat) : Int)) σ H fun σ2 H2 => tb { D with nx := Pv (i + 1), ct := Pv (i + 1), bk := D.nx } σ2 H2) (hd : ∀ σ H, Pv n σ H → D.nx σ H) :
    ∃ W : Nat → Nat → L2.St → Hp → Prop, (∃ m, W 0 m σ H) ∧ ∀ i m σ H, W i m σ H →
      ((Itr (lo : Int) n).stop i H ∧ D.nx σ H) ∨ ((Itr (lo : Int) n).go i H ∧ ∃ N : L2.St → Hp → Prop, (∀ σ' H', N σ' H' → ∃ m', m' < m ∧ W (i + 1) m' σ' H') ∧ ∀ x H', (Itr (lo : Int) n).yld i H x H' → g x σ H' fun σ2 H2 => tb { D with nx := N, ct := N, bk := D.nx } σ2 H2) :=
  for_range (lo := (lo : Int)) (n := n) Pv h0 (fun i σ H hi p => by
    have e : ((lo : Int) + (i : Int)) = ((lo + i : Nat) : Int) := by omega
    rw [e]
    exact hs i σ H hi p) hd
end NB
namespace NB
open PySem PySem.Spec PyProof.Rows L2
section
variable {X : Cx}
theorem nb_add : OpR X (binaryOp .Add) (rNN fun m n => .int ((m + n : Nat) : Int)) := op_of op_add fun _ _ _ _ ⟨m, n, a, b, q⟩ => ⟨m, n, a, b, by dsimp only; rw [← Int.natCast_add]; exact q⟩
theorem nbi_add : PIp X .Add (rNN fun m n => .int ((m + n : Nat) : Int)) := op_of iop_add fun _ _ _ _ ⟨m, n, a, b, q⟩ => ⟨m, n, a, b, by dsimp only; rw [← Int.natCast_add]; exact q⟩
theorem nb_sub : OpR X (binaryOp .Sub) (rNNC (fun m n => n ≤ m) fun m n => .int ((m - n : Nat) : Int)) := op_of op_sub fun _ _ _ _ ⟨m, n, a, b, c, q⟩ => ⟨m, n, a, b, by dsimp only; rw [← Int.natCast_sub c]; exact q⟩
theorem nb_mul : OpR X (binaryOp .Mult) (rNNC (fun m n => m < 2 ^ 64 ∨ n < 2 ^ 64) fun m n => .int ((m * n : Nat) : Int)) := op_of op_mul fun _ _ _ _ ⟨m, n, a, b, c, q⟩ => ⟨m, n, a, b, by
  rcases c with c | c
  · exact .inl ⟨by omega, by omega⟩
  · exact .inr ⟨by omega, by omega⟩, by dsimp only; rw [← Int.natCast_mul]; exact q⟩
theorem nb_mod : OpR X (binaryOp .Mod) (rNNC (fun _ n => 0 < n) fun m n => .int ((m % n : Nat) : Int)) := op_of op_mod fun _ _ _ _ ⟨m, n, a, b, c, q⟩ => ⟨m, n, a, b, by omega, by dsimp only; rw [← Int.natCast_emod]; exact q⟩
theorem nb_fdiv : OpR X (binaryOp .FloorDiv) (rNNC (fun _ n => 0 < n ∧ n < 1073741824) fun m n => .int ((m / n : Nat) : Int)) := op_of op_fdiv fun _ _ _ _ ⟨m, n, a, b, c, q⟩ => ⟨m, n, a, b, ⟨by omega, by omega⟩, by dsimp only; rw [← Int.natCast_ediv]; exact q⟩
theorem nb_pow : OpR X (binaryOp .Pow) (rNNC (fun m n => n ≤ 1000000 ∧ m < 2 ^ 64) fun m n => .int ((m ^ n : Nat) : Int)) := op_of op_pow fun _ _ _ _ ⟨m, n, a, b, c, q⟩ => ⟨m, n, a, b, ⟨by omega, by omega, by simpa using c.2⟩, by dsimp only; rw [Int.toNat_natCast, ← Int.natCast_pow]; exact q⟩
/-- an int's rest by a number -/
def rModI : R2 := fun x y H Q => ∃ (i : Int) (n : Nat), x = .int i ∧ y = .int n ∧ 0 < n ∧ Q (.int (((i % (n : Int)).toNat : Nat) : Int)) H
theorem nb_modI : OpR X (binaryOp .Mod) rModI := op_of op_mod fun _ _ _ _ ⟨m, n, a, b, c, q⟩ => ⟨m, n, a, b, by omega, by dsimp only; rw [Int.toNat_of_nonneg (Int.emod_nonneg _ (by omega))] at q; exact q⟩
theorem call_absN : CallR X (.builtin "abs") (fun xs H Q => ∃ i : Int, xs = [.int i] ∧ Q (.int ((i.natAbs : Nat) : Int)) H) := by
  intro pins s σ H xs us Q I r ⟨i, e, q⟩
  refine call_abs pins s σ H xs us Q I r ⟨i, e, ?_⟩
  have : (if i < 0 then -i else i) = ((i.natAbs : Nat) : Int) := by split <;> omega
  rw [this]; exact q
end
/-! ### lists of numbers -/
def NL (ns : List Nat) : List V := ns.map fun (n : Nat) => V.int ((n : Nat) : Int)
theorem NL_len (ns : List Nat) : (NL ns).length = ns.length := List.length_map _
theorem NL_get {ns : List Nat} {i n : Nat} (h : ns[i]? = some n) : (NL ns)[i]? = some (.int (n : Int)) := by unfold NL; rw [List.getElem?_map, h]; rfl
theorem NL_set (ns : List Nat) (i n : Nat) : (NL ns).set i (.int (n : Int)) = NL (ns.set i n) := by unfold NL; rw [List.map_set]
theorem NL_app (ns : List Nat) (n : Nat) : NL ns ++ [.int (n : Int)] = NL (ns ++ [n]) := by unfold NL; simp
theorem NL_app2 (ns ms : List Nat) : NL ns ++ NL ms = NL (ns ++ ms) := by unfold NL; simp
theorem NL_nil : NL [] = [] := rfl
theorem NL_cons (n : Nat) (ns : List Nat) : NL (n :: ns) = .int (n : Int) :: NL ns := rfl
theorem NL_at {ns : List Nat} {i : Nat} (h : i < ns.length) : atI (NL ns) (i : Int) = some (.int ((ns[i] : Nat) : Int)) := atI_nat (NL_get (List.getElem?_eq_getElem h))
theorem NL_at0 {ns : List Nat} {i n : Nat} (h : ns[i]? = some n) : atI (NL ns) (i : Int) = some (.int (n : Int)) := atI_nat (NL_get h)
theorem ixN_nat {n j : Nat} (h : j < n) : ixN n (j : Int) = some j := by
  unfold ixN
  rw [if_pos (by omega), if_pos (by omega)]; simp
theorem cut_to (xs : List V) (k : Nat) : cutV xs none (some (k : Int)) = xs.take k := by
  unfold cutV
  have e : HT.sIx xs.length 0 none = 0 := by rfl
  rw [e, HT.sIx_nat, List.drop_zero, Nat.sub_zero]
  by_cases h : k ≤ xs.length
  · rw [Nat.min_eq_left h]
  · rw [Nat.min_eq_right (by omega), List.take_of_length_le (by omega), List.take_of_length_le (by omega)]
theorem cut_last (xs : List V) : cutV xs none (some (-1)) = xs.dropLast := by
  unfold cutV
  have e : HT.sIx xs.length 0 none = 0 := by rfl
  have e2 : HT.sIx xs.length xs.length (some (-1)) = xs.length - 1 := by
    show (if (-1 : Int) < 0 then ((-1 : Int) + (xs.length : Int)).toNat else min (-1 : Int).toNat xs.length) = _
    rw [if_pos (by decide)]; omega
  rw [e, e2, List.drop_zero, List.dropLast_eq_take]
  rfl
end NB

namespace NB
open PySem PySem.Spec L2
/-- a def of the text: where it stands, how its arguments bind -/
structure Df (K : PySem.W.Frag) (mg : Str → Option Value) (x : Str) (ps : List Str) (st : Stmt) (f : Addr) (fd : FuncData) : Prop where
  F : Fun K x x st f fd
  g : mg x = some (.ref f)
  b : Binds K fd ps []
/-- built-in names that the top leaves alone -/
structure Bl (mg : Str → Option Value) : Prop where
  range : mg "range" = none
  len : mg "len" = none
  abs : mg "abs" = none
  int : mg "int" = none
  max : mg "max" = none
  min : mg "min" = none
  sum : mg "sum" = none
  list : mg "list" = none
  isinstance : mg "isinstance" = none
  enumerate : mg "enumerate" = none
  zip : mg "zip" = none
  reversed : mg "reversed" = none
  any : mg "any" = none
  all : mg "all" = none
  ValueError : mg "ValueError" = none
theorem iteD {c A B : Prop} [Decidable c] (h1 : c → A) (h2 : ¬ c → B) : if decide c = true then A else B := by
  by_cases h : c
  · rw [if_pos (decide_eq_true h)]; exact h1 h
  · rw [if_neg (by rw [decide_eq_false h]; exact Bool.false_ne_true)]; exact h2 h
theorem iteN {c A B : Prop} [Decidable c] (h1 : ¬ c → A) (h2 : c → B) : if (!decide c) = true then A else B := by
  by_cases h : c
  · rw [decide_eq_true h]; exact iteF (h2 h)
  · rw [decide_eq_false h]; exact iteT (h1 h)
theorem iteY {c A B : Prop} [Decidable c] (hc : c) (h : A) : if decide c = true then A else B := by rw [if_pos (decide_eq_true hc)]; exact h
theorem iteX {c A B : Prop} [Decidable c] (hc : ¬ c) (h : B) : if decide c = true then A else B := by rw [decide_eq_false hc]; exact iteF h
theorem iteB {b : Bool} {A B : Prop} (h1 : b = true → A) (h2 : b = false → B) : if b = true then A else B := by
  cases b with
  | true => exact iteT (h1 rfl)
  | false => exact iteF (h2 rfl)
/-- the truth of a number -/
theorem iteZ {n : Nat} {A B : Prop} (h1 : n ≠ 0 → A) (h2 : n = 0 → B) : if (((n : Nat) : Int) != 0) = true then A else B := by
  by_cases h : n = 0
  · subst h; exact iteF (h2 rfl)
  · have : (((n : Nat) : Int) != 0) = true := by simp; omega
    rw [if_pos this]; exact h1 h
theorem same_upd {H : Hp} {p : Addr} {o : HO} (h : H p = none) : Same H (upd H p o) := fun b u e => by rw [upd_ne (ne_of_none e h)]; exact e
theorem same_upd2 {H H' : Hp} {p : Addr} {o : HO} (e : Same H H') (h : H p = none) : Same H (upd H' p o) := fun b u ha => by rw [upd_ne (ne_of_none ha h)]; exact e b u ha
theorem same_new {H H' : Hp} {p : Addr} {o : HO} (e : Same H H') (h : H' p = none) : Same H (upd H' p o) := same_upd2 e (e.free h)
end NB
namespace NB
open PySem PySem.Spec L2
/-- a comprehension over range(lo, ..) of numbers -/
theorem lc_rangeN {lo n : Nat} {g : TG} {tt : TT} {te : TE} {vs : List Nat} {σ : L2.St} {H1 : Hp} {D : Addr} {Qd : Hp → Prop} (Pv : Nat → Hp → Prop) (h0 : Pv 0 (upd H1 D (.lst [])))
    (hs : ∀ i H, i < n → Pv i H → g (.int ((lo + i : Nat) : Int)) (wipe σ vs) H fun σ2 H2 => wipe σ2 vs = wipe σ vs ∧ tt σ2 H2 fun b H3 =>
      if b = true then te σ2 H3 fun y H4 => ∃ acc, H4 D = some (.lst acc) ∧ acc.length < sizeLine ∧ Pv (i + 1) (upd H4 D (.lst (acc ++ [y]))) else Pv (i + 1) H3) (hd : ∀ H, Pv n H → Qd H) :
    ∃ W : Nat → Nat → Hp → Prop, (∃ m, W 0 m (upd H1 D (.lst []))) ∧ ∀ i m H, W i m H →
      ((Itr (lo : Int) n).stop i H ∧ Qd H) ∨ ((Itr (lo : Int) n).go i H ∧ ∃ Nx : Hp → Prop, (∀ H', Nx H' → ∃ m', m' < m ∧ W (i + 1) m' H') ∧ ∀ x H', (Itr (lo : Int) n).yld i H x H' → g x (wipe σ vs) H' fun σ2 H2 => wipe σ2 vs = wipe σ vs ∧ tt σ2 H2 fun b H3 =>
        if b = true then te σ2 H3 fun y H4 => ∃ acc, H4 D = some (.lst acc) ∧ acc.length < sizeLine ∧ Nx (upd H4 D (.lst (acc ++ [y]))) else Nx H3) :=
  lc_range (lo := (lo : Int)) (n := n) Pv h0 (fun i H hi p => by
    have e : ((lo : Int) + (i : Int)) = ((lo + i : Nat) : Int) := by omega
    rw [e]
    exact hs i H hi p) hd
end NB
/-! Errors of the program: one class with an __init__, the others below it. -/
namespace ER
open PySem PySem.Spec PyProof.Rows L2 NB
/-- what the top says of an error class, named x, at C; its __init__ is the function at fI -/
structure XC (K : PySem.W.Frag) (mg : Str → Option Value) (x : Str) (C fI CH : Addr) : Prop where
  oex : OexC K C
  ga : PySem.W.findIn K (.ref C) "__getattribute__" = some (some (.builtin "BaseException.__getattribute__"))
  gg : PySem.W.findIn K (.ref C) "__getattr__" = some none
  hd : PySem.W.hasDictIn K C = true
  cl : PySem.W.findIn K (.ref C) "__class__" = some (some (.builtin "object.__class__"))
  sp : PySem.W.specialIn K (.builtin "object.__class__") "__get__" = some (some (.builtin "getset_descriptor.__get__"))
  tk : PySem.W.takesIn K (.builtin "object.__class__") = some true
  mo : PySem.W.mroIn K C (.type "object") = some true
  no : PySem.W.findIn K (.ref C) "at" = some none
  g : mg x = some (.ref C)
  iC : PySem.W.findIn K (.ref C) "__init__" = some (some (.ref fI))
  tI : PySem.W.typeIn K (.ref fI) = some (.type "function")
  te : PySem.W.exmOne K (.ref C) (.ref CH) = some true
def sp_init (K : PySem.W.Frag) : Sp := fun vs H Q _ => ∃ (a C : Addr) (i : Int), vs = [.ref a, .int i] ∧ (∃ mg x fI CH, XC K mg x C fI CH) ∧ H a = some (exo a C none) ∧ i.natAbs.log2 < 1920 ∧
  ∀ dx, H dx = none → dx ≠ a → Q .non (upd (upd H dx (exd dx [("at", .int i)])) a (exo a C (some dx)))
theorem len_app (a b : Str) : (a ++ b).length = a.length + b.length := by
  show (⟨a.cps ++ b.cps⟩ : Str).cps.size = _
  simp [Array.size_append]; rfl
theorem upd_raise {H : Hp} {a d C : Addr} {fs : List (Str × V)} {o : HO} (ha : H a = none) (hd : H d = none) (n : d ≠ a) :
    upd (L2.del (upd (upd (upd H a (exo a C none)) d (exd d fs)) a (exo a C (some d))) a) d o = upd H d o := by
  funext b
  by_cases h1 : b = d
  · subst h1; rw [upd_same, upd_same]
  · rw [upd_ne h1, upd_ne h1]
    by_cases h2 : b = a
    · subst h2; rw [del_same, ha]
    · rw [del_ne h2, upd_ne h2, upd_ne h1, upd_ne h2]
/-- raise x(e) -/
def tRaise (C : Addr) (W : WX) (ta : TA) : TS := fun _ σ H => ta σ H fun vs H1 => ∃ i : Int, vs = [.int i] ∧ i.natAbs.log2 < 1920 ∧ ∀ d, H1 d = none → W (.ref C) (some d) σ (upd H1 d (.xd [("at", .int i)]))
theorem ps_of {X : Cx} {st : Stmt} {t t' : TS} (h : PS X st t) (k : ∀ D σ H, t' D σ H → t D σ H) : PS X st t' := ⟨fun pins s σ H D I q => h.run pins s σ H D I (k D σ H q)⟩
def tMono (ta : TA) : TA := fun σ H Q => ∃ R : List V → Hp → Prop, ta σ H R ∧ ∀ vs H1, R vs H1 → Q vs H1
theorem pa_mono {X : Cx} {es : List Expr} {ta : TA} (h : PA X es ta) : PA X es (tMono ta) := ⟨fun pos pins s σ H Q I ⟨R, q, k⟩ =>
  thn (h.run pos pins s σ H R I q) fun us s1 ⟨vs, H1, I1, r, q1⟩ => ⟨vs, H1, I1, r, k _ _ q1⟩⟩
theorem ps_err {X : Cx} {CX : CXT} {x : Str} {C fI CH : Addr} {k : Nat} {fd : FuncData} {e : Expr} {ta : TA} {W : WX} {p pos pos2 : Pos} (hc : X.calm = true) (T : XC X.K X.mg x C fI CH)
    (G : FnOk X.prog X.w X.K X.mg X.base CX k fI fd ["self", "at"] (sp_init X.K)) (hr : Room (k + 1) X.A) (hb : Binds X.K fd ["self", "at"] []) (hx : Passes CX X (fun _ _ _ => False)) (tk : Takes X W) (ha : PA X [e] ta) (hg : Gl X x := by rfl)
    (hdb : (x == ("__debug__" : Str)) = false := by decide) (he : starEach (e :: []) X.env = (false, eval e X.env) :: starEach [] X.env := by rfl) (hpl : (backTo pos (starEach [] X.env)).any (·.1) = false := by rfl) :
    PS X (.Raise (some (.Call (.Name x p) [e] [] pos)) none pos2) (tRaise C W ta) := by
  refine ps_of (ps_raise hc tk (pmk_oex (dvs := []) T.oex T.iC T.tI G hr hb .nil hx hg T.g (pa_mono ha) hdb he hpl)) fun D σ H q => ?_
  refine ⟨_, q, fun vs H1 ⟨i, ev, hi, k⟩ => ?_⟩
  subst ev
  refine ⟨by simp, fun a na => ?_⟩
  refine ⟨a, C, i, rfl, ⟨_, _, _, _, T⟩, upd_same, hi, fun dx nx ne => ?_⟩
  rw [upd_ne ne] at nx
  refine ⟨rfl, dx, [("at", .int i)], upd_same, ?_, nx, ?_⟩
  · rw [upd_ne ne, upd_same]
  · rw [upd_raise na nx ne]
    exact k dx nx
/-! ### the caught error -/
/-- isinstance(e, c), e the error that the suite holds at a, of the class at D, its dict d -/
def rIsE (K : PySem.W.Frag) (a : Addr) (cls : Value) (d : Option Addr) : List V → Hp → VK → Prop := fun xs H Q => ∃ (D : Addr) (c : V) (cv : Value) (b : Bool) (dd : Addr) (fs : List (Str × V)), xs = [.ref a, c] ∧ cls = .ref D ∧ (∃ mg x fI CH, XC K mg x D fI CH) ∧ d = some dd ∧ H dd = some (.xd fs) ∧
  (∀ u, RelV c u → u = cv) ∧ PySem.W.kitOne K (.ref D) cv = some b ∧ Q (.bl b) H
theorem call_isE {X : Cx} {a : Addr} {oe : Obj} {cls : Value} {d : Option Addr} {pn : List (Addr × Obj)} (hz : Zc cls d oe) (hf : ∃ vs, oe.data = .fields vs) : CallR (X.suite a ((a, oe) :: pn)) (.builtin "isinstance") (rIsE X.K a cls d) := by
  intro pins s σ H xs us Q I r h
  obtain ⟨D, c, cv, b, dd, fs, rfl, rfl, ⟨mg, x, fI, CH, T⟩, rfl, hd, hcv, e, q⟩ := h
  cases r with
  | cons rx rr =>
    cases rr with
    | cons rt rr =>
      cases rr
      cases rx
      have ec := hcv _ rt
      subst ec
      obtain ⟨hget, _⟩ := I.pin (a, oe) (List.mem_append.mpr (.inl List.mem_cons_self))
      obtain ⟨vs, hv⟩ := hf
      have hx : ObjOk X.prog X.w H s.heap dd (.xd fs) := I.hok dd _ hd
      obtain ⟨mA, hns, hrel⟩ := hx
      obtain ⟨od, ho, hl⟩ := lookIn_ns hns
      have J : PySem.W.InstAt s.heap a oe D (some od) := ⟨hget, hz.1, by unfold PySem.W.notCls; rw [hv] <;> rfl, by rw [hz.2]; exact ho⟩
      have hcl : (PySem.W.clsIn X.K D).isSome = true := by
        obtain ⟨nm, q, N, bs, bm, sn, sub, ab, col, dd', k0, k1, k2, k3, k5, hC, hbm⟩ := T.oex.cls
        unfold PySem.W.clsIn; rw [hC] <;> rfl
      exact PySem.W.kia_one (PySem.W.kitx_exc hcl T.ga T.gg T.oex.exC T.cl T.sp T.tk T.mo) I.kIn J e (fun z => nomatch z) fun tk => ⟨.bl b, H, I.kept (t' := tk) fun _ _ z => z, rfl, q⟩
/-- e.at -/
def tAt (K : PySem.W.Frag) (a : Addr) (cls : Value) (d : Option Addr) (te : TE) : TE := fun σ H Q => te σ H fun x H1 => ∃ (C dd : Addr) (i : Int), x = .ref a ∧ cls = .ref C ∧ (∃ mg x fI CH, XC K mg x C fI CH) ∧ d = some dd ∧ H1 dd = some (.xd [("at", .int i)]) ∧ Q (.int i) H1
theorem pe_at {X : Cx} {a : Addr} {oe : Obj} {cls : Value} {d : Option Addr} {pn : List (Addr × Obj)} {e : Expr} {te : TE} {pos : Pos} (hz : Zc cls d oe) (hf : ∃ vs, oe.data = .fields vs) (he : PE (X.suite a ((a, oe) :: pn)) e te)
    (hb : attributeBase e "at" X.env (eval e X.env) = eval e X.env := by rfl) :
    PE (X.suite a ((a, oe) :: pn)) (.Attribute e "at" pos) (tAt X.K a cls d te) := by
  refine ⟨fun pins s σ H Q I h => ?_⟩
  refine attr_of hb (thn (he.run pins s σ H _ I h) fun u s1 hh => ?_)
  obtain ⟨x, H1, I1, rx, C, dd, i, ex, ec, ⟨mg, x', fI, CH, T⟩, ed, ea, q⟩ := hh
  subst ex
  obtain rfl : u = Value.ref a := rx
  subst ec
  subst ed
  obtain ⟨ha, _⟩ := I1.pin (a, oe) (List.mem_append_left _ List.mem_cons_self)
  obtain ⟨vs, hd⟩ := hf
  have hx : ObjOk X.prog X.w H1 s1.heap dd (.xd [("at", .int i)]) := I1.hok dd _ ea
  obtain ⟨mA, hns, hr⟩ := hx
  obtain ⟨od, ho, hl⟩ := lookIn_ns hns
  have l : List.lookup ("at" : Str) [(("at" : Str), V.int i)] = some (V.int i) := by simp [List.lookup]
  obtain ⟨u, hu, ru⟩ := RelO.some_of (v := V.int i) (o := mA "at") (by rw [← l]; exact hr "at")
  have J : PySem.W.InstAt s1.heap a oe C (some od) := ⟨ha, hz.1, by unfold PySem.W.notCls; rw [hd] <;> rfl, by rw [hz.2]; exact ho⟩
  exact HandSPX.exc_get I1.kIn J T.ga T.gg T.oex.exC (PySem.W.findObj_own T.hd T.no rfl (by rw [hl, hu])) (handed_of ru) ⟨V.int i, H1, I1.tok _, ru, q⟩
theorem at_len {i : Int} (hi : i.natAbs.log2 < 1920) : (Str.empty ++ Str.ofString "at " ++ Str.ofString (toString i)).length ≤ sizeLine := by
  have e := int_text_length_le (k := 1920) (by decide) hi
  rw [ER.len_app, ER.len_app, PySem.ofString_length (toString i), sizeLine_eq]
  have h1 : (Str.empty).length = 0 := by rfl
  have h2 : (Str.ofString "at ").length = 3 := by decide +kernel
  omega
/-- try: .. except x as n: .. -/
def tTry (K : PySem.W.Frag) (c : Value) (i : Nat) (tb : WX → TS) (ts : Addr → Value → Option Addr → TS) (Wout : WX) : TS := fun D σ H => tb (wAs K c i ts Wout D) D σ H
theorem ps_tryE {X : Cx} {x n : Str} {c : Value} {i : Nat} {body suite : List Stmt} {b0 : Stmt} {np pos pos' : Pos} {tb : WX → TS} {ts : Addr → Value → Option Addr → TS} {Wout : WX}
    (hs : X.stack = X.env :: X.outer) (hf : X.env.frame = some X.env.locals) (hN : X.N.Nodup) (hi : X.N[i]? = some n) (hln : X.env.kindOf n = some .local) (hc : Names X x c) (tk : Takes X Wout)
    (hb : ∀ (W : WX) (pn : List (Addr × Obj)) (xe : Value → Shared → Prop), Takes (X.tr pn xe) W → PassesOwn (model X.prog X.w) X.A X.env xe → PSs (X.tr pn xe) body (tb W))
    (hsu : ∀ (a : Addr) (oe : Obj) (cls : Value) (d : Option Addr) (pn : List (Addr × Obj)), Zc cls d oe → (∃ vs, oe.data = .fields vs) → PSs (X.suite a ((a, oe) :: pn)) (b0 :: suite) (ts a cls d)) :
    PS X (.Try body [.ExceptHandler (some (.Name x np)) (some n) (b0 :: suite) pos'] [] [] pos) (tTry X.K c i tb ts Wout) := ps_try_as hs hf hN hi hln hc tk hb hsu
end ER
namespace GF
/-! # Polynomials over two elements, as natural numbers -/
theorem xor_mod2 (b c : Nat) : (b ^^^ c) % 2 = (b % 2 + c % 2) % 2 := by
  have := Nat.xor_mod_two_pow (a := b) (b := c) (n := 1)
  simp at this
  rw [this]
  rcases Nat.mod_two_eq_zero_or_one b with h | h <;> rcases Nat.mod_two_eq_zero_or_one c with g | g <;> rw [h, g] <;> rfl
theorem xor_div2 (b c : Nat) : (b ^^^ c) / 2 = (b / 2) ^^^ (c / 2) := by
  apply Nat.eq_of_testBit_eq
  intro i
  simp [Nat.testBit_div_two]
theorem two_mul_xor (b c : Nat) : 2 * (b ^^^ c) = (2 * b) ^^^ (2 * c) := by
  have := Nat.shiftLeft_xor_distrib (a := b) (b := c) (i := 1)
  simp only [Nat.shiftLeft_eq, Nat.pow_one] at this
  rw [Nat.mul_comm 2, Nat.mul_comm 2, Nat.mul_comm 2]
  exact this
theorem pow_mul_xor (i b c : Nat) : 2 ^ i * (b ^^^ c) = (2 ^ i * b) ^^^ (2 ^ i * c) := by
  have := Nat.shiftLeft_xor_distrib (a := b) (b := c) (i := i)
  simp only [Nat.shiftLeft_eq] at this
  rw [Nat.mul_comm (2 ^ i), Nat.mul_comm (2 ^ i), Nat.mul_comm (2 ^ i)]
  exact this
theorem split2 (b : Nat) : b = (b % 2) ^^^ (2 * (b / 2)) := by
  apply Nat.eq_of_testBit_eq
  intro i
  cases i with
  | zero => simp [Nat.testBit_zero, Nat.mod_mod]
  | succ i =>
    rw [Nat.testBit_xor, Nat.testBit_succ, Nat.testBit_succ, Nat.testBit_succ]
    have h : b % 2 / 2 = 0 := by omega
    have g : 2 * (b / 2) / 2 = b / 2 := by omega
    rw [h, g]; simp
/-- the product, by n bits of b -/
def pm : Nat → Nat → Nat → Nat
  | 0, _, _ => 0
  | n + 1, a, b => (if b % 2 = 1 then a else 0) ^^^ (2 * pm n a (b / 2))
def mul (a b : Nat) : Nat := pm (b.log2 + 1) a b
theorem pm_zero_right (n a : Nat) : pm n a 0 = 0 := by
  induction n with
  | zero => rfl
  | succ n ih => simp [pm, ih]
theorem pm_zero_left (n b : Nat) : pm n 0 b = 0 := by
  induction n generalizing b with
  | zero => rfl
  | succ n ih => simp [pm, ih]
theorem pm_stable (n : Nat) : ∀ {k a b : Nat}, b < 2 ^ n → n ≤ k → pm k a b = pm n a b := by
  induction n with
  | zero =>
    intro k a b h _
    have : b = 0 := by simpa using h
    subst this
    rw [pm_zero_right, pm_zero_right]
  | succ n ih =>
    intro k a b h hk
    obtain ⟨k, rfl⟩ : ∃ j, k = j + 1 := ⟨k - 1, by omega⟩
    simp only [pm]
    rw [ih (a := a) (b := b / 2) (k := k) (by rw [Nat.pow_succ] at h; omega) (by omega)]
theorem lt_log2 (b : Nat) : b < 2 ^ (b.log2 + 1) := Nat.lt_log2_self
theorem pm_eq {n a b : Nat} (h : b < 2 ^ n) : pm n a b = mul a b := by
  unfold mul
  by_cases hk : n ≤ b.log2 + 1
  · exact (pm_stable n h hk).symm
  · exact pm_stable (b.log2 + 1) (lt_log2 b) (by omega)
theorem mul_zero (a : Nat) : mul a 0 = 0 := pm_zero_right _ _
theorem zero_mul (b : Nat) : mul 0 b = 0 := pm_zero_left _ _
theorem mul_step (a b : Nat) : mul a b = (if b % 2 = 1 then a else 0) ^^^ (2 * mul a (b / 2)) := by
  have h1 : b < 2 ^ (b.log2 + 2) := Nat.lt_of_lt_of_le (lt_log2 b) (Nat.pow_le_pow_right (by decide) (by omega))
  rw [← pm_eq h1]
  show (if b % 2 = 1 then a else 0) ^^^ (2 * pm (b.log2 + 1) a (b / 2)) = _
  rw [pm_eq (n := b.log2 + 1)]
  have := lt_log2 b
  omega
/-- an induction by halves -/
theorem half_ind {P : Nat → Prop} (h0 : P 0) (h : ∀ b, b ≠ 0 → P (b / 2) → P b) (b : Nat) : P b := by
  induction b using Nat.strongRecOn with
  | ind b ih =>
    by_cases hb : b = 0
    · subst hb; exact h0
    · exact h b hb (ih _ (by omega))
theorem if_xor_left (p q r : Prop) [Decidable p] [Decidable q] [Decidable r] (a : Nat) (h : r ↔ ¬ (p ↔ q)) : (if r then a else 0) = (if p then a else 0) ^^^ (if q then a else 0) := by
  by_cases hp : p <;> by_cases hq : q <;> simp_all
theorem mul_xor (a b c : Nat) : mul a (b ^^^ c) = mul a b ^^^ mul a c := by
  induction b using half_ind generalizing c with
  | h0 => rw [mul_zero, Nat.zero_xor, Nat.zero_xor]
  | h b hb ih =>
    rw [mul_step a (b ^^^ c), mul_step a b, mul_step a c, xor_div2, ih, two_mul_xor,
      if_xor_left (b % 2 = 1) (c % 2 = 1) ((b ^^^ c) % 2 = 1) a (by rw [xor_mod2]; omega)]
    ac_rfl
theorem xor_mul (a d b : Nat) : mul (a ^^^ d) b = mul a b ^^^ mul d b := by
  induction b using half_ind with
  | h0 => simp [mul_zero]
  | h b hb ih =>
    rw [mul_step (a ^^^ d) b, mul_step a b, mul_step d b, ih, two_mul_xor]
    by_cases h : b % 2 = 1
    · simp only [h, if_true]; ac_rfl
    · simp only [h, if_false, Nat.zero_xor]
theorem two_mul (a b : Nat) : mul (2 * a) b = 2 * mul a b := by
  induction b using half_ind with
  | h0 => simp [mul_zero]
  | h b hb ih =>
    rw [mul_step (2 * a) b, mul_step a b, ih, two_mul_xor]
    by_cases h : b % 2 = 1 <;> simp [h]
theorem mul_two (a b : Nat) : mul a (2 * b) = 2 * mul a b := by
  rw [mul_step a (2 * b)]
  have h1 : 2 * b % 2 = 0 := by omega
  have h2 : 2 * b / 2 = b := by omega
  rw [h1, h2]; simp
theorem mul_one (a : Nat) : mul a 1 = a := by
  rw [mul_step]; simp [mul_zero]
theorem one_mul (b : Nat) : mul 1 b = b := by
  induction b using half_ind with
  | h0 => exact mul_zero 1
  | h b hb ih =>
    rw [mul_step, ih]
    have := split2 b
    by_cases h : b % 2 = 1
    · rw [if_pos h]; rw [h] at this; exact this.symm
    · have h0 : b % 2 = 0 := by omega
      rw [if_neg h]; rw [h0] at this; exact this.symm
theorem mul_comm (a b : Nat) : mul a b = mul b a := by
  induction b using half_ind generalizing a with
  | h0 => rw [mul_zero, zero_mul]
  | h b hb ih =>
    rw [mul_step]
    conv => rhs; rw [split2 b, xor_mul, two_mul, ← ih]
    congr 1
    by_cases h : b % 2 = 1
    · rw [if_pos h, h, one_mul]
    · have h0 : b % 2 = 0 := by omega
      rw [if_neg h, h0, zero_mul]
theorem mul_assoc (a b c : Nat) : mul (mul a b) c = mul a (mul b c) := by
  induction c using half_ind with
  | h0 => simp [mul_zero]
  | h c hc ih =>
    rw [mul_step (mul a b) c, mul_step b c, mul_xor, mul_two, ih]
    by_cases h : c % 2 = 1
    · simp [h]
    · simp [h, mul_zero]
theorem mul_pow (a i : Nat) : mul a (2 ^ i) = 2 ^ i * a := by
  induction i with
  | zero => simp [mul_one]
  | succ i ih => rw [Nat.pow_succ, Nat.mul_comm (2 ^ i) 2, mul_two, ih]; rw [Nat.mul_assoc]
theorem pow_mul (i b : Nat) : mul (2 ^ i) b = 2 ^ i * b := by rw [mul_comm, mul_pow]
theorem xor_self_cancel (a b : Nat) : a ^^^ (a ^^^ b) = b := by rw [← Nat.xor_assoc, Nat.xor_self, Nat.zero_xor]
theorem xor_eq_iff {a b c : Nat} : a ^^^ b = c ↔ b = a ^^^ c := by
  constructor
  · intro h; rw [← h, xor_self_cancel]
  · intro h; rw [h, xor_self_cancel]
theorem xor_eq_zero {a b : Nat} (h : a ^^^ b = 0) : a = b := by
  have := xor_eq_iff.mp h
  rw [Nat.xor_zero] at this
  exact this.symm
theorem xor_lt {a b n : Nat} (ha : a < 2 ^ n) (hb : b < 2 ^ n) : a ^^^ b < 2 ^ n := Nat.xor_lt_two_pow ha hb
/-! ## Degrees: a is of the degree n if 2 ^ n ≤ a < 2 ^ (n + 1) -/
def Deg (a n : Nat) : Prop := 2 ^ n ≤ a ∧ a < 2 ^ (n + 1)
theorem deg_log {a : Nat} (h : a ≠ 0) : Deg a a.log2 := ⟨Nat.log2_self_le h, Nat.lt_log2_self⟩
theorem Deg.ne {a n : Nat} (h : Deg a n) : a ≠ 0 := by
  have := Nat.two_pow_pos n
  have := h.1
  omega
theorem Deg.log {a n : Nat} (h : Deg a n) : a.log2 = n := (Nat.log2_eq_iff h.ne).mpr h
theorem deg_top {a n : Nat} (h : a < 2 ^ (n + 1)) : Deg a n ↔ a.testBit n = true := by
  constructor
  · intro d
    rw [Nat.testBit_eq_decide_div_mod_eq]
    have : a / 2 ^ n = 1 := by
      rw [Nat.div_eq_of_lt_le (k := 1)]
      · rw [Nat.one_mul]; exact d.1
      · rw [Nat.pow_succ] at h; omega
    simp [this]
  · intro t
    exact ⟨Nat.ge_two_pow_of_testBit t, h⟩
/-- the top bits cancel -/
theorem deg_xor {a b n : Nat} (ha : Deg a n) (hb : Deg b n) : a ^^^ b < 2 ^ n := by
  apply Nat.lt_pow_two_of_testBit
  intro i hi
  rw [Nat.testBit_xor]
  by_cases e : i = n
  · subst e
    rw [(deg_top ha.2).mp ha, (deg_top hb.2).mp hb]; rfl
  · have : n + 1 ≤ i := by omega
    rw [Nat.testBit_lt_two_pow (Nat.lt_of_lt_of_le ha.2 (Nat.pow_le_pow_right (by decide) this)),
      Nat.testBit_lt_two_pow (Nat.lt_of_lt_of_le hb.2 (Nat.pow_le_pow_right (by decide) this))]; rfl
theorem deg_xor_lt {a b n : Nat} (ha : Deg a n) (hb : b < 2 ^ n) : Deg (a ^^^ b) n := by
  have hb' : b < 2 ^ (n + 1) := by rw [Nat.pow_succ]; omega
  rw [deg_top (xor_lt ha.2 hb'), Nat.testBit_xor, (deg_top ha.2).mp ha, Nat.testBit_lt_two_pow hb]
  rfl
theorem deg_shift {a n : Nat} (h : Deg a n) (i : Nat) : Deg (2 ^ i * a) (i + n) := by
  refine ⟨?_, ?_⟩
  · rw [Nat.pow_add]; exact Nat.mul_le_mul_left _ h.1
  · have := Nat.mul_lt_mul_of_pos_left h.2 (Nat.two_pow_pos i)
    rw [Nat.add_assoc, Nat.pow_add]; exact this
theorem mul_deg {a n : Nat} (ha : Deg a n) : ∀ {b k : Nat}, Deg b k → Deg (mul a b) (n + k) := by
  intro b k
  induction k generalizing b with
  | zero =>
    intro hb
    have : b = 1 := by have := hb.1; have := hb.2; simp at *; omega
    subst this
    rw [mul_one]; exact ha
  | succ k ih =>
    intro hb
    have h2 : Deg (b / 2) k := by
      have h1 := hb.1
      have h3 := hb.2
      rw [Nat.pow_succ] at h1 h3
      exact ⟨by omega, by omega⟩
    have h3 := deg_shift (ih h2) 1
    rw [mul_step, Nat.xor_comm]
    have e : 1 + (n + k) = n + (k + 1) := by omega
    rw [e] at h3
    rw [Nat.pow_one] at h3
    refine deg_xor_lt h3 ?_
    have hl : a < 2 ^ (n + (k + 1)) := Nat.lt_of_lt_of_le ha.2 (Nat.pow_le_pow_right (by decide) (by omega))
    by_cases hh : b % 2 = 1
    · rw [if_pos hh]; exact hl
    · rw [if_neg hh]; exact Nat.two_pow_pos _
theorem mul_ne {a b : Nat} (ha : a ≠ 0) (hb : b ≠ 0) : mul a b ≠ 0 := (mul_deg (deg_log ha) (deg_log hb)).ne
theorem mul_log {a b : Nat} (ha : a ≠ 0) (hb : b ≠ 0) : (mul a b).log2 = a.log2 + b.log2 := (mul_deg (deg_log ha) (deg_log hb)).log
theorem mul_eq_zero {a b : Nat} (h : mul a b = 0) : a = 0 ∨ b = 0 := by
  by_cases ha : a = 0
  · exact .inl ha
  · by_cases hb : b = 0
    · exact .inr hb
    · exact absurd h (mul_ne ha hb)
theorem mul_cancel {a b c : Nat} (hc : c ≠ 0) (h : mul a c = mul b c) : a = b := by
  have e : mul (a ^^^ b) c = 0 := by rw [xor_mul, h, Nat.xor_self]
  rcases mul_eq_zero e with h | h
  · exact xor_eq_zero h
  · exact absurd h hc
/-! ## Division -/
theorem div_unique {q k k' r r' : Nat} (hq : q ≠ 0) (hr : r < 2 ^ q.log2) (hr' : r' < 2 ^ q.log2) (h : mul k q ^^^ r = mul k' q ^^^ r') : k = k' ∧ r = r' := by
  have e : mul (k ^^^ k') q = r ^^^ r' := by
    rw [xor_mul]
    have h2 : mul k q ^^^ r ^^^ (mul k' q ^^^ r) = mul k' q ^^^ r' ^^^ (mul k' q ^^^ r) := by rw [h]
    have l : mul k q ^^^ r ^^^ (mul k' q ^^^ r) = mul k q ^^^ mul k' q := by
      rw [Nat.xor_assoc, Nat.xor_comm r, Nat.xor_assoc, Nat.xor_self, Nat.xor_zero]
    have rr : mul k' q ^^^ r' ^^^ (mul k' q ^^^ r) = r ^^^ r' := by
      rw [Nat.xor_comm (mul k' q) r', Nat.xor_assoc, xor_self_cancel, Nat.xor_comm]
    rw [l, rr] at h2
    exact h2
  by_cases hk : k ^^^ k' = 0
  · have := xor_eq_zero hk
    subst this
    rw [hk, zero_mul] at e
    exact ⟨rfl, xor_eq_zero e.symm⟩
  · have d := mul_deg (deg_log hk) (deg_log hq)
    rw [e] at d
    have l := xor_lt hr hr'
    have := d.1
    have m : 2 ^ q.log2 ≤ 2 ^ ((k ^^^ k').log2 + q.log2) := Nat.pow_le_pow_right (by decide) (by omega)
    omega
/-- quotient and rest, by n turns -/
def dm : Nat → Nat → Nat → Nat × Nat
  | 0, _, r => (0, r)
  | n + 1, q, r => if r.testBit (n + q.log2) then
      let z := dm n q (r ^^^ 2 ^ n * q)
      (2 ^ n ^^^ z.1, z.2)
    else dm n q r
theorem dm_spec {q : Nat} (hq : q ≠ 0) : ∀ (n r : Nat), r < 2 ^ (n + q.log2) → r = mul (dm n q r).1 q ^^^ (dm n q r).2 ∧ (dm n q r).2 < 2 ^ q.log2 := by
  intro n
  induction n with
  | zero => intro r h; simp [dm, zero_mul]; simpa using h
  | succ n ih =>
    intro r h
    have h' : r < 2 ^ (n + q.log2 + 1) := by
      have : n + 1 + q.log2 = n + q.log2 + 1 := by omega
      rw [← this]; exact h
    simp only [dm]
    by_cases t : r.testBit (n + q.log2) = true
    · rw [if_pos t]
      have dr : Deg r (n + q.log2) := (deg_top h').mpr t
      have dq := deg_shift (deg_log hq) n
      obtain ⟨e1, e2⟩ := ih _ (deg_xor dr dq)
      refine ⟨?_, e2⟩
      simp only []
      rw [xor_mul, pow_mul, Nat.xor_assoc, ← e1, Nat.xor_comm r, xor_self_cancel]
    · rw [if_neg t]
      refine ih r ?_
      rcases Nat.lt_or_ge r (2 ^ (n + q.log2)) with l | g
      · exact l
      · exact absurd ((deg_top h').mp ⟨g, h'⟩) t
def pdiv (p q : Nat) : Nat := (dm (p.log2 + 1) q p).1
def pmod (p q : Nat) : Nat := (dm (p.log2 + 1) q p).2
theorem dm_room (p q : Nat) : p < 2 ^ (p.log2 + 1 + q.log2) := Nat.lt_of_lt_of_le (lt_log2 p) (Nat.pow_le_pow_right (by decide) (by omega))
theorem div_eq {p q : Nat} (hq : q ≠ 0) : p = mul (pdiv p q) q ^^^ pmod p q := (dm_spec hq _ p (dm_room p q)).1
theorem mod_lt {p q : Nat} (hq : q ≠ 0) : pmod p q < 2 ^ q.log2 := (dm_spec hq _ p (dm_room p q)).2
theorem mod_of {p q k r : Nat} (hq : q ≠ 0) (hr : r < 2 ^ q.log2) (h : p = mul k q ^^^ r) : pdiv p q = k ∧ pmod p q = r :=
  div_unique hq (mod_lt hq) hr ((div_eq hq).symm.trans h)
theorem mod_small {p q : Nat} (hq : q ≠ 0) (h : p < 2 ^ q.log2) : pmod p q = p := (mod_of (k := 0) hq h (by rw [zero_mul, Nat.zero_xor])).2
theorem mod_xor {a b q : Nat} (hq : q ≠ 0) : pmod (a ^^^ b) q = pmod a q ^^^ pmod b q := by
  refine (mod_of (k := pdiv a q ^^^ pdiv b q) hq (xor_lt (mod_lt hq) (mod_lt hq)) ?_).2
  rw [xor_mul]
  conv => lhs; rw [div_eq (p := a) hq, div_eq (p := b) hq]
  ac_rfl
theorem mod_mul_self {k q : Nat} (hq : q ≠ 0) : pmod (mul k q) q = 0 :=
  (mod_of (k := k) hq (Nat.two_pow_pos _) (by rw [Nat.xor_zero])).2
theorem mod_mod {p q : Nat} (hq : q ≠ 0) : pmod (pmod p q) q = pmod p q := mod_small hq (mod_lt hq)
theorem mod_mul_left {a b q : Nat} (hq : q ≠ 0) : pmod (mul (pmod a q) b) q = pmod (mul a b) q := by
  conv => rhs; rw [div_eq (p := a) hq, xor_mul, mod_xor hq, mul_assoc, mul_comm q b, ← mul_assoc, mod_mul_self hq, Nat.zero_xor]
theorem mod_mul_right {a b q : Nat} (hq : q ≠ 0) : pmod (mul a (pmod b q)) q = pmod (mul a b) q := by
  rw [mul_comm, mod_mul_left hq, mul_comm]
/-! ## Divisors -/
def Dvd (q p : Nat) : Prop := ∃ k, p = mul k q
theorem dvd_mod {q p : Nat} (hq : q ≠ 0) : Dvd q p ↔ pmod p q = 0 := by
  constructor
  · rintro ⟨k, rfl⟩; exact mod_mul_self hq
  · intro h
    exact ⟨pdiv p q, by have := div_eq (p := p) hq; rw [h, Nat.xor_zero] at this; exact this⟩
theorem Dvd.xor {q a b : Nat} (ha : Dvd q a) (hb : Dvd q b) : Dvd q (a ^^^ b) := by
  obtain ⟨k, rfl⟩ := ha
  obtain ⟨l, rfl⟩ := hb
  exact ⟨k ^^^ l, by rw [xor_mul]⟩
theorem Dvd.mul {q a : Nat} (c : Nat) (ha : Dvd q a) : Dvd q (GF.mul c a) := by
  obtain ⟨k, rfl⟩ := ha
  exact ⟨GF.mul c k, by rw [mul_assoc]⟩
theorem Dvd.trans {a b c : Nat} (h : Dvd a b) (g : Dvd b c) : Dvd a c := by
  obtain ⟨k, rfl⟩ := g
  exact h.mul k
theorem dvd_self (a : Nat) : Dvd a a := ⟨1, (one_mul a).symm⟩
theorem dvd_zero (a : Nat) : Dvd a 0 := ⟨0, (zero_mul a).symm⟩
theorem one_dvd (a : Nat) : Dvd 1 a := ⟨a, (mul_one a).symm⟩
theorem Dvd.le {q p : Nat} (h : Dvd q p) (hp : p ≠ 0) : q.log2 ≤ p.log2 ∧ q ≠ 0 := by
  obtain ⟨k, rfl⟩ := h
  have hk : k ≠ 0 := fun e => hp (by rw [e, zero_mul])
  have hq : q ≠ 0 := fun e => hp (by rw [e, mul_zero])
  rw [mul_log hk hq]
  exact ⟨by omega, hq⟩
theorem dvd_mod_iff {d p q : Nat} (hq : q ≠ 0) (hd : Dvd d q) : Dvd d (pmod p q) ↔ Dvd d p := by
  have e := div_eq (p := p) hq
  constructor
  · intro h
    rw [e]
    exact (hd.mul _).xor h
  · intro h
    have e2 : pmod p q = mul (pdiv p q) q ^^^ p := by rw [eq_comm, xor_eq_iff]; exact e
    rw [e2]
    exact (hd.mul _).xor h
/-! ## The common divisor -/
def gcdF : Nat → Nat → Nat → Nat
  | 0, a, _ => a
  | n + 1, a, b => if b = 0 then a else gcdF n b (pmod a b)
/-- the measure: one more than the degree, 0 for 0 -/
def siz (b : Nat) : Nat := if b = 0 then 0 else b.log2 + 1
theorem siz_le {b n : Nat} : siz b ≤ n ↔ b < 2 ^ n := by
  unfold siz
  by_cases h : b = 0
  · subst h; simp [Nat.two_pow_pos]
  · rw [if_neg h]
    constructor
    · intro k; exact Nat.lt_of_lt_of_le (lt_log2 b) (Nat.pow_le_pow_right (by decide) k)
    · intro k
      have := (Nat.log2_lt h).mpr k
      omega
theorem siz_mod {a b : Nat} (hb : b ≠ 0) : siz (pmod a b) < siz b := by
  have : siz (pmod a b) ≤ b.log2 := siz_le.mpr (mod_lt hb)
  unfold siz at *
  rw [if_neg hb]
  omega
def gcd (a b : Nat) : Nat := gcdF (siz b) a b
theorem gcdF_zero (n a : Nat) : gcdF n a 0 = a := by cases n <;> simp [gcdF]
theorem gcdF_stable : ∀ (n k a b : Nat), siz b ≤ n → siz b ≤ k → gcdF n a b = gcdF k a b := by
  intro n
  induction n with
  | zero =>
    intro k a b h _
    have : b = 0 := by simpa using siz_le.mp h
    subst this
    rw [gcdF_zero, gcdF_zero]
  | succ n ih =>
    intro k a b h hk
    by_cases hb : b = 0
    · subst hb; rw [gcdF_zero, gcdF_zero]
    · have hm := siz_mod (a := a) hb
      obtain ⟨k, rfl⟩ : ∃ j, k = j + 1 := ⟨k - 1, by omega⟩
      simp only [gcdF, if_neg hb]
      exact ih k _ _ (by omega) (by omega)
theorem gcd_zero (a : Nat) : gcd a 0 = a := gcdF_zero _ _
theorem gcd_step (a : Nat) {b : Nat} (hb : b ≠ 0) : gcd a b = gcd b (pmod a b) := by
  have hm := siz_mod (a := a) hb
  unfold gcd
  obtain ⟨n, e⟩ : ∃ n, siz b = n + 1 := ⟨siz b - 1, by omega⟩
  rw [e]
  simp only [gcdF, if_neg hb]
  exact gcdF_stable _ _ _ _ (by omega) (by omega)
theorem gcd_ind {P : Nat → Nat → Prop} (h0 : ∀ a, P a 0) (h : ∀ a b, b ≠ 0 → P b (pmod a b) → P a b) (a b : Nat) : P a b := by
  generalize e : siz b = n
  induction n using Nat.strongRecOn generalizing a b with
  | ind n ih =>
    by_cases hb : b = 0
    · subst hb; exact h0 a
    · exact h a b hb (ih _ (by have := siz_mod (a := a) hb; omega) _ _ rfl)
theorem gcd_dvd (a b : Nat) : Dvd (gcd a b) a ∧ Dvd (gcd a b) b := by
  induction a, b using gcd_ind with
  | h0 a => rw [gcd_zero]; exact ⟨dvd_self a, dvd_zero a⟩
  | h a b hb ih =>
    rw [gcd_step a hb]
    exact ⟨(dvd_mod_iff hb ih.1).mp ih.2, ih.1⟩
theorem dvd_gcd {d : Nat} (a b : Nat) : Dvd d a → Dvd d b → Dvd d (gcd a b) := by
  induction a, b using gcd_ind with
  | h0 a => intro h _; rw [gcd_zero]; exact h
  | h a b hb ih =>
    intro h1 h2
    rw [gcd_step a hb]
    exact ih h2 ((dvd_mod_iff hb h2).mpr h1)
theorem bezout (a b : Nat) : ∃ u v, gcd a b = mul u a ^^^ mul v b := by
  induction a, b using gcd_ind with
  | h0 a => exact ⟨1, 0, by rw [gcd_zero, one_mul, zero_mul, Nat.xor_zero]⟩
  | h a b hb ih =>
    obtain ⟨u, v, e⟩ := ih
    refine ⟨v, u ^^^ mul v (pdiv a b), ?_⟩
    rw [gcd_step a hb, e]
    have e2 : pmod a b = mul (pdiv a b) b ^^^ a := by rw [eq_comm, xor_eq_iff]; exact div_eq hb
    rw [e2, mul_xor, xor_mul, mul_assoc]
    ac_rfl
/-! ## Irreducible ones -/
/-- no divisor of a degree from 1 to half the degree -/
def Irr (p : Nat) : Prop := 2 ≤ p ∧ ∀ q, 2 ≤ q → q.log2 ≤ p.log2 / 2 → ¬ Dvd q p
theorem log_pos {q : Nat} (h : 2 ≤ q) : 1 ≤ q.log2 := by
  rw [Nat.le_log2 (by omega)]; omega
theorem Irr.only {p q : Nat} (h : Irr p) (hd : Dvd q p) : q = 1 ∨ q.log2 = p.log2 := by
  have hp : p ≠ 0 := by have := h.1; omega
  obtain ⟨hl, hq⟩ := hd.le hp
  by_cases h1 : q = 1
  · exact .inl h1
  · right
    obtain ⟨k, e⟩ := hd
    have hk : k ≠ 0 := fun z => hp (by rw [e, z, zero_mul])
    have el : p.log2 = k.log2 + q.log2 := by rw [e, mul_log hk hq]
    by_cases k1 : k = 1
    · subst k1; rw [one_mul] at e; rw [e]
    · exfalso
      by_cases hh : q.log2 ≤ p.log2 / 2
      · exact h.2 q (by omega) hh ⟨k, e⟩
      · exact h.2 k (by omega) (by omega) ⟨q, by rw [mul_comm]; exact e⟩
theorem dvd_same {p q : Nat} (hp : p ≠ 0) (hd : Dvd q p) (h : q.log2 = p.log2) : q = p := by
  obtain ⟨k, e⟩ := hd
  have hk : k ≠ 0 := fun z => hp (by rw [e, z, zero_mul])
  have hq : q ≠ 0 := fun z => hp (by rw [e, z, mul_zero])
  have el : p.log2 = k.log2 + q.log2 := by
    conv => lhs; rw [e]
    exact mul_log hk hq
  have : k.log2 = 0 := by omega
  have k1 : k = 1 := by
    have d := deg_log hk
    rw [this] at d
    have a := d.1; have b := d.2
    simp at a b
    omega
  rw [e, k1, one_mul]
theorem Irr.prime {p a b : Nat} (h : Irr p) (hd : Dvd p (mul a b)) : Dvd p a ∨ Dvd p b := by
  have hp : p ≠ 0 := by have := h.1; omega
  have g := gcd_dvd p a
  rcases h.only g.1 with e | e
  · right
    obtain ⟨u, v, z⟩ := bezout p a
    rw [e] at z
    have : b = mul (mul u b) p ^^^ mul v (mul a b) := by
      have : mul 1 b = mul (mul u p ^^^ mul v a) b := by rw [← z]
      rw [one_mul, xor_mul, mul_assoc, mul_assoc, mul_comm p b, ← mul_assoc] at this
      exact this
    rw [this]
    exact ((dvd_self p).mul _).xor (hd.mul _)
  · left
    have : gcd p a = p := dvd_same hp g.1 e
    rw [this] at g
    exact g.2
theorem irr_or {p : Nat} (h2 : 2 ≤ p) (h : ¬ Irr p) : ∃ q, 2 ≤ q ∧ q.log2 ≤ p.log2 / 2 ∧ Dvd q p ∧ Irr q := by
  -- the least divisor
  have ex : ∃ q, 2 ≤ q ∧ q.log2 ≤ p.log2 / 2 ∧ Dvd q p := by
    apply Classical.byContradiction
    intro n
    refine h ⟨h2, fun q h1 h3 h4 => n ⟨q, h1, h3, h4⟩⟩
  obtain ⟨q, h1, h3, h4⟩ := ex
  induction q using Nat.strongRecOn with
  | ind q ih =>
    by_cases hi : Irr q
    · exact ⟨q, h1, h3, h4, hi⟩
    · have ex2 : ∃ r, 2 ≤ r ∧ r.log2 ≤ q.log2 / 2 ∧ Dvd r q := by
        apply Classical.byContradiction
        intro n
        refine hi ⟨h1, fun q h1 h3 h4 => n ⟨q, h1, h3, h4⟩⟩
      obtain ⟨r, r1, r2, r3⟩ := ex2
      refine ih r ?_ r1 (by omega) (r3.trans h4)
      have hq1 := log_pos h1
      have : r < 2 ^ q.log2 := (Nat.log2_lt (by omega)).mp (by omega)
      have := Nat.log2_self_le (n := q) (by omega)
      omega
end GF
namespace GF
/-! # The test of irreducibility -/
def irrB (p : Nat) : Bool := decide (2 ≤ p) && (List.range (2 ^ (p.log2 / 2 + 1))).all fun q => decide (q < 2) || decide (pmod p q ≠ 0)
theorem irrB_iff {p : Nat} : irrB p = true ↔ Irr p := by
  unfold irrB Irr
  rw [Bool.and_eq_true, decide_eq_true_eq, List.all_eq_true]
  constructor
  · rintro ⟨h1, h2⟩
    refine ⟨h1, fun q hq hl hd => ?_⟩
    have hm : q ∈ List.range (2 ^ (p.log2 / 2 + 1)) := by
      rw [List.mem_range]
      exact (Nat.log2_lt (by omega)).mp (by omega)
    have := h2 q hm
    rw [Bool.or_eq_true, decide_eq_true_eq, decide_eq_true_eq] at this
    rcases this with h | h
    · omega
    · exact h ((dvd_mod (by omega)).mp hd)
  · rintro ⟨h1, h2⟩
    refine ⟨h1, fun q hq => ?_⟩
    rw [List.mem_range] at hq
    rw [Bool.or_eq_true, decide_eq_true_eq, decide_eq_true_eq]
    by_cases h : q < 2
    · exact .inl h
    · right
      intro e
      refine h2 q (by omega) ?_ ((dvd_mod (by omega)).mpr e)
      have := (Nat.log2_lt (n := q) (by omega)).mpr hq
      omega
/-- x ** (2 ** k) + x -/
def fk (k : Nat) : Nat := 2 ^ 2 ^ k ^^^ 2
theorem fact1 : (List.range 512).all (fun q => !irrB q || decide (pmod (fk q.log2) q = 0)) = true := by decide +kernel
def fs : Nat → List Nat
  | 1 => [2, 3]
  | 2 => [2, 3, 7]
  | 3 => [2, 3, 11, 13]
  | 4 => [2, 3, 7, 19, 25, 31]
  | 5 => [2, 3, 37, 41, 47, 55, 59, 61]
  | 6 => [2, 3, 7, 11, 13, 67, 73, 87, 91, 97, 103, 109, 115, 117]
  | 7 => [2, 3, 131, 137, 143, 145, 157, 167, 171, 185, 191, 193, 203, 211, 213, 229, 239, 241, 247, 253]
  | 8 => [2, 3, 7, 19, 25, 31, 283, 285, 299, 301, 313, 319, 333, 351, 355, 357, 361, 369, 375, 379, 391, 395, 397, 415, 419, 425, 433, 445, 451, 463, 471, 477, 487, 499, 501, 505]
  | _ => []
def prod (l : List Nat) : Nat := l.foldr mul 1
theorem fact2 : [1, 2, 3, 4, 5, 6, 7, 8].all (fun k => decide (prod (fs k) = fk k) && (fs k).all fun f => decide (2 ≤ f) && decide (f.log2 ≤ k)) = true := by decide +kernel
theorem Irr.prod {p : Nat} (h : Irr p) : ∀ {l : List Nat}, Dvd p (GF.prod l) → ∃ f ∈ l, Dvd p f
  | [], hd => by
    have := hd.le (show GF.prod [] ≠ 0 by decide)
    have h1 := log_pos h.1
    have h2 : (GF.prod []).log2 = 0 := by decide
    omega
  | f :: l, hd => by
    rcases h.prime (a := f) (b := GF.prod l) hd with g | g
    · exact ⟨f, List.mem_cons_self, g⟩
    · obtain ⟨f', m, d⟩ := h.prod g
      exact ⟨f', List.mem_cons_of_mem _ m, d⟩
/-- the powers of the test -/
def fr : Nat → Nat → Nat
  | 0, _ => 2
  | k + 1, p => pmod (mul (fr k p) (fr k p)) p
theorem fr_mod {p : Nat} (hp : p ≠ 0) (k : Nat) : pmod (fr k p) p = pmod (2 ^ 2 ^ k) p := by
  induction k with
  | zero => rfl
  | succ k ih =>
    have e : (2 : Nat) ^ 2 ^ (k + 1) = mul (2 ^ 2 ^ k) (2 ^ 2 ^ k) := by
      rw [mul_pow, ← Nat.pow_add]; congr 1; omega
    rw [e]
    show pmod (pmod (mul (fr k p) (fr k p)) p) p = _
    rw [mod_mod hp, ← mod_mul_left hp, ih, mod_mul_left hp, ← mod_mul_right hp, ih, mod_mul_right hp]
theorem dvd_fr {p d : Nat} (hp : p ≠ 0) (hd : Dvd d p) (k : Nat) : Dvd d (fr k p ^^^ 2) ↔ Dvd d (fk k) := by
  rw [← dvd_mod_iff hp hd, ← dvd_mod_iff (p := fk k) hp hd]
  unfold fk
  rw [mod_xor hp, mod_xor hp, fr_mod hp]
/-- what the test says -/
def Test (p : Nat) : Prop := ∀ k, 1 ≤ k → k ≤ p.log2 / 2 → gcd (fr k p ^^^ 2) p = 1
theorem test_of_irr {p : Nat} (h : Irr p) (hp : p < 131072) : Test p := by
  intro k k1 k2
  have hp0 : p ≠ 0 := by have := h.1; omega
  have hlog : p.log2 < 17 := (Nat.log2_lt hp0).mpr hp
  obtain ⟨g1, g2⟩ := gcd_dvd (fr k p ^^^ 2) p
  rcases h.only g2 with e | e
  · exact e
  · exfalso
    have e2 := dvd_same hp0 g2 e
    rw [e2, dvd_fr hp0 (dvd_self p)] at g1
    have f2 := List.all_eq_true.mp fact2 k (by
      have : k ≤ 8 := by omega
      simp; omega)
    rw [Bool.and_eq_true, decide_eq_true_eq, List.all_eq_true] at f2
    rw [← f2.1] at g1
    obtain ⟨f, hm, hd⟩ := h.prod g1
    have f3 := f2.2 f hm
    rw [Bool.and_eq_true, decide_eq_true_eq, decide_eq_true_eq] at f3
    have := (hd.le (by omega)).1
    have := log_pos h.1
    omega
theorem irr_of_test {p : Nat} (h2 : 2 ≤ p) (hp : p < 131072) (h : Test p) : Irr p := by
  apply Classical.byContradiction
  intro n
  obtain ⟨q, q2, ql, qd, qi⟩ := irr_or h2 n
  have hp0 : p ≠ 0 := by omega
  have hlog : p.log2 < 17 := (Nat.log2_lt hp0).mpr hp
  have hq : q < 512 := by
    have := (Nat.log2_lt (n := q) (k := 9) (by omega)).mp (by omega)
    omega
  have f1 := List.all_eq_true.mp fact1 q (List.mem_range.mpr hq)
  rw [irrB_iff.mpr qi] at f1
  simp only [Bool.not_true, Bool.false_or, decide_eq_true_eq] at f1
  have hd : Dvd q (fk q.log2) := (dvd_mod (by omega)).mpr f1
  have := h q.log2 (log_pos q2) ql
  have g := dvd_gcd (fr q.log2 p ^^^ 2) p ((dvd_fr hp0 qd _).mpr hd) qd
  rw [this] at g
  have := (g.le (by decide)).1
  have h1 : Nat.log2 1 = 0 := by decide
  have := log_pos q2
  omega
theorem test_iff {p : Nat} (h2 : 2 ≤ p) (hp : p < 131072) : Test p ↔ Irr p := ⟨irr_of_test h2 hp, fun h => test_of_irr h hp⟩
/-- one of each degree -/
def some_irr (m : Nat) : Nat := [2, 2, 7, 11, 19, 37, 67, 131, 283, 515, 1033, 2053, 4105, 8219, 16417, 32771, 65579].getD m 2
theorem fact3 : [1, 2, 3, 4, 5, 6, 7, 8, 9, 10, 11, 12, 13, 14, 15, 16].all (fun m => irrB (some_irr m) && decide (2 ^ m ≤ some_irr m) && decide (some_irr m < 2 ^ (m + 1))) = true := by decide +kernel
theorem irr_some {m : Nat} (h1 : 1 ≤ m) (h2 : m ≤ 16) : Irr (some_irr m) ∧ 2 ^ m ≤ some_irr m ∧ some_irr m < 2 ^ (m + 1) := by
  have f := List.all_eq_true.mp fact3 m (by simp; omega)
  rw [Bool.and_eq_true, Bool.and_eq_true, decide_eq_true_eq, decide_eq_true_eq] at f
  exact ⟨irrB_iff.mp f.1.1, f.1.2, f.2⟩
end GF
namespace K00
open PySem PySem.Spec L2 NB ER
def top (i : Nat) : Stmt := PySem.Challenge.pw_farhaul_k00_binary_polynomials.main.body.getD i (.Pass ⟨0, 0, 0, 0⟩)
abbrev s_init : Stmt := inClass (top 1) 0
theorem sc_init : FnScope ["self", "at"] ["self", "at"] (defScope s_init) := ⟨rfl, rfl, rfl, by decide +kernel, rfl, by decide +kernel, by decide +kernel⟩
abbrev s_degree : Stmt := top 6
theorem sc_degree : FnScope ["p"] ["p"] (defScope s_degree) := ⟨rfl, rfl, rfl, by decide +kernel, rfl, by decide +kernel, by decide +kernel⟩
abbrev s_times : Stmt := top 7
theorem sc_times : FnScope ["p", "q", "total", "i"] ["p", "q"] (defScope s_times) := ⟨rfl, rfl, rfl, by decide +kernel, rfl, by decide +kernel, by decide +kernel⟩
abbrev s_divide : Stmt := top 8
theorem sc_divide : FnScope ["p", "q", "quotient", "rest", "shift"] ["p", "q"] (defScope s_divide) := ⟨rfl, rfl, rfl, by decide +kernel, rfl, by decide +kernel, by decide +kernel⟩
abbrev s_common : Stmt := top 9
theorem sc_common : FnScope ["p", "q", "last", "rest"] ["p", "q"] (defScope s_common) := ⟨rfl, rfl, rfl, by decide +kernel, rfl, by decide +kernel, by decide +kernel⟩
abbrev s_product_rest : Stmt := top 10
theorem sc_product_rest : FnScope ["p", "q", "modulus"] ["p", "q", "modulus"] (defScope s_product_rest) := ⟨rfl, rfl, rfl, by decide +kernel, rfl, by decide +kernel, by decide +kernel⟩
abbrev s_is_irreducible : Stmt := top 11
theorem sc_is_irreducible : FnScope ["p", "power", "_"] ["p"] (defScope s_is_irreducible) := ⟨rfl, rfl, rfl, by decide +kernel, rfl, by decide +kernel, by decide +kernel⟩
abbrev s_least_irreducible : Stmt := top 12
theorem sc_least_irreducible : FnScope ["m", "p"] ["m"] (defScope s_least_irreducible) := ⟨rfl, rfl, rfl, by decide +kernel, rfl, by decide +kernel, by decide +kernel⟩
abbrev s__law_numbers : Stmt := top 14
theorem sc__law_numbers : FnScope ["script", "many", "rest", "mixed", "numbers", "k", "at", "cell"] ["script", "many"] (defScope s__law_numbers) := ⟨rfl, rfl, rfl, by decide +kernel, rfl, by decide +kernel, by decide +kernel⟩
abbrev s__law_degree : Stmt := top 15
theorem sc__law_degree : FnScope ["p", "top", "k"] ["p"] (defScope s__law_degree) := ⟨rfl, rfl, rfl, by decide +kernel, rfl, by decide +kernel, by decide +kernel⟩
abbrev s__law_times : Stmt := top 16
theorem sc__law_times : FnScope ["p", "q", "total", "k"] ["p", "q"] (defScope s__law_times) := ⟨rfl, rfl, rfl, by decide +kernel, rfl, by decide +kernel, by decide +kernel⟩
abbrev s__law_divided : Stmt := top 17
theorem sc__law_divided : FnScope ["p", "q", "size", "whole", "k", "shift"] ["p", "q"] (defScope s__law_divided) := ⟨rfl, rfl, rfl, by decide +kernel, rfl, by decide +kernel, by decide +kernel⟩
abbrev s__law_common : Stmt := top 18
theorem sc__law_common : FnScope ["p", "q", "turn"] ["p", "q"] (defScope s__law_common) := ⟨rfl, rfl, rfl, by decide +kernel, rfl, by decide +kernel, by decide +kernel⟩
abbrev s__law_irreducible : Stmt := top 19
theorem sc__law_irreducible : FnScope ["p", "top", "q"] ["p"] (defScope s__law_irreducible) := ⟨rfl, rfl, rfl, by decide +kernel, rfl, by decide +kernel, by decide +kernel⟩
abbrev s__law_drawn : Stmt := top 20
theorem sc__law_drawn : FnScope ["numbers", "at", "size"] ["numbers", "at"] (defScope s__law_drawn) := ⟨rfl, rfl, rfl, by decide +kernel, rfl, by decide +kernel, by decide +kernel⟩
abbrev s__law_pair : Stmt := top 21
theorem sc__law_pair : FnScope ["p", "q", "error"] ["p", "q"] (defScope s__law_pair) := ⟨rfl, rfl, rfl, by decide +kernel, rfl, by decide +kernel, by decide +kernel⟩
abbrev s__law_least : Stmt := top 22
theorem sc__law_least : FnScope ["size", "told", "error", "p"] ["size"] (defScope s__law_least) := ⟨rfl, rfl, rfl, by decide +kernel, rfl, by decide +kernel, by decide +kernel⟩
abbrev s_law : Stmt := top 23
theorem sc_law : FnScope ["script", "numbers", "turn", "at", "p", "q", "both", "small"] ["script"] (defScope s_law) := ⟨rfl, rfl, rfl, by decide +kernel, rfl, by decide +kernel, by decide +kernel⟩
/-! ### the mathematics of bits -/
theorem mod_pow_succ (q i : Nat) : q % 2 ^ (i + 1) = q % 2 ^ i ^^^ (if q / 2 ^ i % 2 = 1 then 2 ^ i else 0) := by
  apply Nat.eq_of_testBit_eq
  intro j
  rw [Nat.testBit_xor, Nat.testBit_mod_two_pow, Nat.testBit_mod_two_pow]
  by_cases e : j = i
  · subst e
    by_cases h : q / 2 ^ j % 2 = 1
    · rw [if_pos h, Nat.testBit_two_pow_self]; simp [Nat.testBit_eq_decide_div_mod_eq, h]
    · rw [if_neg h]; simp [Nat.testBit_eq_decide_div_mod_eq, h]
  · have e2 : (if q / 2 ^ i % 2 = 1 then 2 ^ i else 0).testBit j = false := by
      split
      · rw [Nat.testBit_two_pow]; simp; omega
      · simp
    rw [e2]
    by_cases h : j < i
    · simp [h]; omega
    · have : ¬ j < i + 1 := by omega
      simp [h, this]
theorem times_step (p q i : Nat) : GF.mul p (q % 2 ^ (i + 1)) = GF.mul p (q % 2 ^ i) ^^^ (if q / 2 ^ i % 2 = 1 then 2 ^ i * p else 0) := by
  rw [mod_pow_succ, GF.mul_xor]
  congr 1
  split
  · exact GF.mul_pow _ _
  · exact GF.mul_zero _
theorem bits_lt (q : Nat) : q < 2 ^ NB.bits q := by
  unfold NB.bits
  split
  · rename_i h; subst h; decide
  · exact Nat.lt_log2_self
theorem bits_le {q n : Nat} : NB.bits q ≤ n ↔ q < 2 ^ n := by
  unfold NB.bits
  split
  · rename_i h; subst h; simp [Nat.two_pow_pos]
  · rename_i h2
    exact Nat.log2_lt h2
theorem bits_pos {q : Nat} (h : q ≠ 0) : NB.bits q = q.log2 + 1 := by unfold NB.bits; rw [if_neg h]
theorem bits_deg {q : Nat} (h : q ≠ 0) : GF.Deg q (NB.bits q - 1) := by rw [bits_pos h]; exact GF.deg_log h
/-- the bit is not there -/
theorem or_xor {k s : Nat} (h : k % 2 ^ (s + 1) = 0) : k ||| 2 ^ s = k ^^^ 2 ^ s := by
  have hb : k.testBit s = false := by
    have := Nat.testBit_mod_two_pow k (s + 1) s
    rw [h] at this
    simp at this
    exact this
  apply Nat.eq_of_testBit_eq
  intro j
  rw [Nat.testBit_or, Nat.testBit_xor, Nat.testBit_two_pow]
  by_cases e : s = j
  · subst e; rw [hb]; simp
  · simp [e]
theorem xor_mod_zero {k s t : Nat} (h : k % 2 ^ (s + 1) = 0) (ht : t ≤ s) : (k ^^^ 2 ^ s) % 2 ^ t = 0 := by
  rw [Nat.xor_mod_two_pow]
  have d : 2 ^ t ∣ 2 ^ (s + 1) := Nat.pow_dvd_pow 2 (by omega)
  have d2 : 2 ^ t ∣ 2 ^ s := Nat.pow_dvd_pow 2 ht
  have h1 : k % 2 ^ t = 0 := Nat.mod_eq_zero_of_dvd (Nat.dvd_trans d (Nat.dvd_of_mod_eq_zero h))
  rw [h1, Nat.mod_eq_zero_of_dvd d2]; rfl
theorem div_step {r q s : Nat} (hq : q ≠ 0) (hs : NB.bits r = NB.bits q + s) : NB.bits (r ^^^ 2 ^ s * q) < NB.bits r := by
  have hb := bits_pos hq
  have hr : r ≠ 0 := by intro z; subst z; unfold NB.bits at hs; simp at hs; rw [if_neg hq] at hs; omega
  have dr := bits_deg hr
  have dq := GF.deg_shift (bits_deg hq) s
  have e : s + (NB.bits q - 1) = NB.bits r - 1 := by omega
  rw [e] at dq
  have := bits_le.mpr (GF.deg_xor dr dq)
  omega
theorem xor_swap (a b c : Nat) : a ^^^ c ^^^ (b ^^^ c) = a ^^^ b := by rw [Nat.xor_assoc a c, Nat.xor_comm b c, ← Nat.xor_assoc c c, Nat.xor_self, Nat.zero_xor]
section
variable {P : Program} {w : World} {K : PySem.W.Frag} {mg : Str → Option Value} {base : Heap}
theorem ok_init {f : Addr} {fd : FuncData} (F : Fun K "__init__" "HaulError.__init__" s_init f fd) (mv : mg "ValueError" = none) (vV : PySem.W.findCls K (.type "ValueError") (.type "type") "__init__" = some (.val (.builtin "ValueError.__init__"))) :
    FnOk P w K mg base CX0 1 f fd ["self", "at"] (sp_init K) := by
  refine F.ok sc_init (fun vs H Q E h => ?_) (fun cdv A outer s H vs Q E hr h => ?_)
  · obtain ⟨a, C, i, rfl, _⟩ := h; rfl
  · obtain ⟨a, C, i, rfl, ⟨mg', x, fI, CH, T⟩, ha, hi, k⟩ := h
    refine ⟨_, pss_cons (ps_expr (pe_veinit rfl mv vV (pa_cons (pv 0) (pa_cons (pe_joined (.cons pe_str (.cons (pe_fmt (pv 1)) .nil))) pa_nil))))
      (pss_one (ps_ost (pv 0) (pv 1))), ?_⟩
    refine ⟨_, rfl, _, rfl, ?_, _, rfl, .inr ⟨i, rfl, hi, _, rfl, at_len hi, a, C, _, rfl, by simp, T.oex, ha, ?_⟩⟩
    · decide +kernel
    · refine ⟨_, rfl, _, rfl, a, C, rfl, T.oex, T.no, .inl ⟨ha, fun dx nx ne => k dx nx ne⟩⟩
def sp_degree : Sp := fun vs H Q _ => ∃ p : Nat, vs = [.int p] ∧ Q (.int ((NB.bits p : Nat) - 1 : Int)) H
theorem ok_degree {f : Addr} {fd : FuncData} (D : Df K mg "degree" ["p"] s_degree f fd) : FnOk P w K mg base CX0 1 f fd ["p"] sp_degree := by
  refine D.F.ok sc_degree (fun vs H Q E h => ?_) (fun cdv A outer s H vs Q E hr h => ?_)
  · obtain ⟨p, rfl, _⟩ := h; rfl
  · obtain ⟨p, rfl, k⟩ := h
    refine ⟨_, pss_one (ps_ret (pe_op op_sub (pe_bits (pv 0)) pe_int)), ?_⟩
    refine ⟨_, rfl, _, rfl, _, _, rfl, rfl, ?_⟩
    rw [intBits_nat]
    exact k
def sp_times : Sp := fun vs H Q _ => ∃ p q : Nat, vs = [.int p, .int q] ∧ p < 2 ^ 64 ∧ q < 2 ^ 64 ∧ Q (.int ((GF.mul p q : Nat) : Int)) H
theorem ok_times {f : Addr} {fd : FuncData} (D : Df K mg "times" ["p", "q"] s_times f fd) (B : Bl mg) : FnOk P w K mg base CX0 1 f fd ["p", "q"] sp_times := by
  refine D.F.ok sc_times (fun vs H Q E h => ?_) (fun cdv A outer s H vs Q E hr h => ?_)
  · obtain ⟨p, q, rfl, _⟩ := h; rfl
  · obtain ⟨p, q, rfl, hp, hq, k⟩ := h
    refine ⟨_, (pss_cons (ps_set (i := 2) sc_times.nd rfl (Or.inl rfl) (pe_nat 0))
      (pss_cons (ps_for PassesOwn.never rfl (pi_range1 rfl B.range (pa_cons (pe_bits (pv 1)) pa_nil)) (pg_name (i := 3) sc_times.nd rfl (Or.inl rfl) (Or.inr rfl))
        (pss_one (ps_if (pt_truth (pe_op nb_and (pe_op nb_shr (pv 1) (pv 3)) (pe_nat 1)) (by intro _; rfl)) (pss_one (ps_aug (i := 2) sc_times.nd rfl (Or.inl rfl) (pe_op nb_shl (pv 0) (pv 3)) nbi_xor)) pss_nil)))
      (pss_one (ps_ret (pv 2))))), ?_⟩
    have hb := bits_le.mpr hq
    refine ⟨_, rfl, _, rfl, _, rfl, by omega, by rw [intBits_nat]; omega, ?_⟩
    rw [intBits_nat]
    refine for_rangeN (lo := 0) (n := NB.bits q) (fun i σ H' => ∃ v, σ = [some (.int p), some (.int q), some (.int ((GF.mul p (q % 2 ^ i) : Nat) : Int)), v] ∧ H' = H) ⟨none, ?_, rfl⟩ ?_ ?_
    · rw [Nat.pow_zero, Nat.mod_one, GF.mul_zero]; rfl
    · rintro i σ H' hi ⟨v, rfl, rfl⟩
      rw [Nat.zero_add]
      refine ⟨_, rfl, _, rfl, _, _, rfl, rfl, _, _, rfl, rfl, _, rfl, ?_⟩
      have key := times_step p q i
      rw [Nat.and_one_is_mod]
      refine iteZ (fun c => ?_) (fun c => ?_)
      · rw [if_pos (by omega)] at key
        refine ⟨_, rfl, _, rfl, _, rfl, _, _, rfl, rfl, ⟨hp, by omega⟩, _, _, rfl, rfl, some (.int i), ?_, rfl⟩
        rw [key]; rfl
      · rw [if_neg (by omega), Nat.xor_zero] at key
        refine ⟨some (.int i), ?_, rfl⟩
        rw [key]; rfl
    · rintro σ H' ⟨v, rfl, rfl⟩
      rw [Nat.mod_eq_of_lt (bits_lt q)]
      exact ⟨_, rfl, k⟩
def sp_divide (C : Addr) : Sp := fun vs H Q E => ∃ p q : Nat, vs = [.int p, .int q] ∧ p < 2 ^ 64 ∧ q < 2 ^ 64 ∧
  (q = 0 → ∀ d, H d = none → E (.ref C) (some d) (upd H d (.xd [("at", .int 0)]))) ∧
  (q ≠ 0 → ∀ a, H a = none → Q (.ref a) (upd H a (.tup [.int ((GF.pdiv p q : Nat) : Int), .int ((GF.pmod p q : Nat) : Int)])))
theorem ok_divide {f f_degree f_init C CH : Addr} {fd fd_degree fd_init : FuncData} (D : Df K mg "divide" ["p", "q"] s_divide f fd) (D_degree : Df K mg "degree" ["p"] s_degree f_degree fd_degree)
    (X_NoDivisor : XC K mg "NoDivisor" C f_init CH) (G_init : FnOk P w K mg base CX0 1 f_init fd_init ["self", "at"] (sp_init K)) (b_init : Binds K fd_init ["self", "at"] []) : FnOk P w K mg base (L2.CX P w) 3 f fd ["p", "q"] (sp_divide C) := by
  have G_degree : FnOk P w K mg base CX0 1 f_degree fd_degree ["p"] sp_degree := ok_degree D_degree
  refine D.F.okX sc_divide (fun vs H Q E h => ?_) (fun cdv A outer s H vs Q E hr h => ?_)
  · obtain ⟨p, q, rfl, _⟩ := h; rfl
  · obtain ⟨p, q, rfl, hp, hq, kE, kQ⟩ := h
    refine ⟨_, (pss_cons (ps_if (pt_cmpR op_eq (pv 1) (pe_nat 0) (nomark _)) (pss_one (ps_err rfl X_NoDivisor G_init (hr.mono (by decide)) b_init pass0 (takes_of rfl rfl rfl rfl) (pa_cons (pe_nat 0) pa_nil))) pss_nil)
      (pss_cons (ps_set (i := 2) sc_divide.nd rfl (Or.inl rfl) (pe_nat 0))
      (pss_cons (ps_set (i := 3) sc_divide.nd rfl (Or.inl rfl) (pv 0))
      (pss_cons (ps_set (i := 4) sc_divide.nd rfl (Or.inl rfl) (pe_op op_sub (pe_call G_degree (hr.mono (by decide)) rfl D_degree.g D_degree.F.kp D_degree.b .nil pass0 (pa_cons (pv 3) pa_nil)) (pe_call G_degree (hr.mono (by decide)) rfl D_degree.g D_degree.F.kp D_degree.b .nil pass0 (pa_cons (pv 1) pa_nil))))
      (pss_cons (ps_while (passes_of rfl) (pt_cmpR op_ge (pv 4) (pe_nat 0) (nomark _))
        (pss_cons (ps_aug (i := 2) sc_divide.nd rfl (Or.inl rfl) (pe_op nb_shl (pe_nat 1) (pv 4)) nbi_or)
        (pss_cons (ps_aug (i := 3) sc_divide.nd rfl (Or.inl rfl) (pe_op nb_shl (pv 1) (pv 4)) nbi_xor)
        (pss_one (ps_set (i := 4) sc_divide.nd rfl (Or.inl rfl) (pe_op op_sub (pe_call G_degree (hr.mono (by decide)) rfl D_degree.g D_degree.F.kp D_degree.b .nil pass0 (pa_cons (pv 3) pa_nil)) (pe_call G_degree (hr.mono (by decide)) rfl D_degree.g D_degree.F.kp D_degree.b .nil pass0 (pa_cons (pv 1) pa_nil))))))))
      (pss_one (ps_ret (pe_tup (pa_cons (pv 2) (pa_cons (pv 3) pa_nil)))))))))), ?_⟩
    refine ⟨_, rfl, rfl, _, rfl, iteD (fun c => ?_) (fun c => ?_)⟩
    · have q0 : q = 0 := by have := V.int.inj c; omega
      exact ⟨0, rfl, by decide, fun d hd => kE q0 d hd⟩
    · have q0 : q ≠ 0 := fun z => c (by rw [z])
      refine ⟨_, rfl, _, rfl, p, rfl, _, rfl, q, rfl, _, _, rfl, rfl, ?_⟩
      refine while_by (fun σ H' => H' = H ∧ ∃ (k r : Nat) (z : Int), σ = [some (.int p), some (.int q), some (.int (k : Int)), some (.int (r : Int)), some (.int z)] ∧ z = (NB.bits r : Int) - NB.bits q ∧ p = GF.mul k q ^^^ r ∧ k % 2 ^ (NB.bits r + 1 - NB.bits q) = 0 ∧ r < 2 ^ 64)
        (fun σ _ => match σ with | [_, _, _, some (.int r), _] => NB.bits r.toNat | _ => 0) ⟨rfl, 0, p, _, rfl, ?_, ?_, ?_, hp⟩ ?_ ?_
      · omega
      · rw [GF.zero_mul, Nat.zero_xor]
      · exact Nat.zero_mod _
      · rintro σ H' ⟨rfl, k, r, z, rfl, hz, hpk, hk, hr64⟩
        refine ⟨_, rfl, _, _, rfl, rfl, _, rfl, iteD (fun c => ?_) (fun c => ?_)⟩
        · have c' : 0 ≤ z := c
          obtain ⟨s, rfl⟩ := Int.eq_ofNat_of_zero_le c'
          have hs : NB.bits r = NB.bits q + s := by omega
          have hb64 := bits_le.mpr hr64
          have e1 : NB.bits r + 1 - NB.bits q = s + 1 := by omega
          rw [e1] at hk
          have hd := div_step q0 hs
          refine ⟨_, rfl, _, rfl, _, _, rfl, rfl, ⟨by decide, by omega⟩, _, _, rfl, rfl, _, rfl, _, rfl, _, rfl, _, _, rfl, rfl, ⟨hq, by omega⟩, _, _, rfl, rfl, _, rfl, _, rfl, _, rfl, q, rfl, _, _, rfl, rfl, ⟨rfl, k ^^^ 2 ^ s, r ^^^ 2 ^ s * q, (NB.bits (r ^^^ 2 ^ s * q) : Int) - 1 - ((NB.bits q : Int) - 1), ?_, ?_, ?_, ?_, ?_⟩, ?_⟩
          · rw [Nat.mul_one, ← or_xor hk]; rfl
          · omega
          · rw [GF.xor_mul, GF.pow_mul, hpk, xor_swap]
          · exact xor_mod_zero hk (by omega)
          · exact Nat.lt_of_lt_of_le (bits_lt _) (Nat.pow_le_pow_right (by decide) (by omega))
          · exact hd
        · have c' : z < 0 := by have : ¬ (0 : Int) ≤ z := c; omega
          have hb := bits_pos q0
          have hrl : r < 2 ^ q.log2 := bits_le.mp (by omega)
          obtain ⟨e1, e2⟩ := GF.mod_of q0 hrl hpk
          refine ⟨_, rfl, _, rfl, (by show 2 ≤ sizeLine; decide), fun a ha => ?_⟩
          have := kQ q0 a ha
          rw [e1, e2] at this
          exact this
      · rintro σ H' Q1 Q2 kk ⟨v, e, i, j, e1, e2, b, e3, qq⟩
        exact ⟨v, e, i, j, e1, e2, b, e3, kk _ _ qq⟩
def sp_common : Sp := fun vs H Q _ => ∃ p q : Nat, vs = [.int p, .int q] ∧ p < 2 ^ 64 ∧ q < 2 ^ 64 ∧ ∀ H', Same H H' → Q (.int ((GF.gcd p q : Nat) : Int)) H'
theorem ok_common {f f_divide C : Addr} {fd fd_divide : FuncData} (D : Df K mg "common" ["p", "q"] s_common f fd) (D_divide : Df K mg "divide" ["p", "q"] s_divide f_divide fd_divide)
    (G_divide : FnOk P w K mg base (L2.CX P w) 3 f_divide fd_divide ["p", "q"] (sp_divide C)) : FnOk P w K mg base CX0 4 f fd ["p", "q"] sp_common := by
  refine D.F.ok sc_common (fun vs H Q E h => ?_) (fun cdv A outer s H vs Q E hr h => ?_)
  · obtain ⟨p, q, rfl, _⟩ := h; rfl
  · obtain ⟨p, q, rfl, hp, hq, k⟩ := h
    refine ⟨_, (pss_cons (ps_set (i := 2) sc_common.nd rfl (Or.inl rfl) (pv 0))
      (pss_cons (ps_set (i := 3) sc_common.nd rfl (Or.inl rfl) (pv 1))
      (pss_cons (ps_while PassesOwn.never (pt_cmpR op_ne (pv 3) (pe_nat 0) (nomark _))
        (pss_one (ps_par (i := 2) (j := 3) (by rfl) sc_common.nd rfl rfl (by decide) rfl rfl (pa_cons (pv 3) (pa_cons (pe_ix ix_tup (pe_call G_divide (hr.mono (by decide)) rfl D_divide.g D_divide.F.kp D_divide.b .nil passL (pa_cons (pv 2) (pa_cons (pv 3) pa_nil))) (pe_nat 1) (fun _ _ => rfl)) pa_nil)) (by rfl))))
      (pss_one (ps_ret (pv 2)))))), ?_⟩
    refine ⟨_, rfl, _, rfl, ?_⟩
    refine while_by (fun σ H' => ∃ a b : Nat, σ = [some (.int p), some (.int q), some (.int (a : Int)), some (.int (b : Int))] ∧ GF.gcd a b = GF.gcd p q ∧ a < 2 ^ 64 ∧ b < 2 ^ 64 ∧ Same H H')
      (fun σ _ => match σ with | [_, _, _, some (.int r)] => GF.siz r.toNat | _ => 0) ⟨p, q, rfl, rfl, hp, hq, Same.refl H⟩ ?_ ?_
    · rintro σ H' ⟨a, b, rfl, hg, ha, hb, sm⟩
      refine ⟨_, rfl, rfl, _, rfl, iteN (fun c => ?_) (fun c => ?_)⟩
      · have b0 : b ≠ 0 := fun z => c (by rw [z])
        refine ⟨_, rfl, _, rfl, _, rfl, a, b, rfl, ha, hb, fun z => absurd z b0, fun _ t ht => ?_⟩
        refine ⟨t, _, _, _, rfl, rfl, SqT.of upd_same, atI_nat (j := 1) rfl, _, _, rfl, ⟨b, GF.pmod a b, rfl, ?_, hb, ?_, same_new sm ht⟩, ?_⟩
        · rw [← hg, GF.gcd_step a b0]
        · exact Nat.lt_trans (GF.mod_lt b0) (Nat.pow_lt_pow_right (by decide) ((Nat.log2_lt b0).mpr hb))
        · exact GF.siz_mod b0
      · have b0 : b = 0 := by have := V.int.inj c; omega
        subst b0
        rw [GF.gcd_zero] at hg
        refine ⟨_, rfl, ?_⟩
        rw [hg]
        exact k _ sm
    · rintro σ H' Q1 Q2 kk ⟨v, e, hs, b, e3, qq⟩
      exact ⟨v, e, hs, b, e3, kk _ _ qq⟩
theorem mul_lt {p q i j : Nat} (hp : p < 2 ^ i) (hq : q < 2 ^ j) : GF.mul p q < 2 ^ (i + j) := by
  by_cases p0 : p = 0
  · subst p0; rw [GF.zero_mul]; exact Nat.two_pow_pos _
  · by_cases q0 : q = 0
    · subst q0; rw [GF.mul_zero]; exact Nat.two_pow_pos _
    · have h1 := (Nat.log2_lt p0).mpr hp
      have h2 := (Nat.log2_lt q0).mpr hq
      have := (GF.mul_deg (GF.deg_log p0) (GF.deg_log q0)).2
      exact Nat.lt_of_lt_of_le this (Nat.pow_le_pow_right (by decide) (by omega))
def sp_product_rest : Sp := fun vs H Q _ => ∃ p q n : Nat, vs = [.int p, .int q, .int n] ∧ p < 2 ^ 32 ∧ q < 2 ^ 32 ∧ n < 2 ^ 64 ∧ n ≠ 0 ∧ ∀ H', Same H H' → Q (.int ((GF.pmod (GF.mul p q) n : Nat) : Int)) H'
theorem ok_product_rest {f f_divide f_times C : Addr} {fd fd_divide fd_times : FuncData} (D : Df K mg "product_rest" ["p", "q", "modulus"] s_product_rest f fd) (D_divide : Df K mg "divide" ["p", "q"] s_divide f_divide fd_divide)
    (G_divide : FnOk P w K mg base (L2.CX P w) 3 f_divide fd_divide ["p", "q"] (sp_divide C)) (D_times : Df K mg "times" ["p", "q"] s_times f_times fd_times)
    (G_times : FnOk P w K mg base CX0 1 f_times fd_times ["p", "q"] sp_times) : FnOk P w K mg base CX0 4 f fd ["p", "q", "modulus"] sp_product_rest := by
  refine D.F.ok sc_product_rest (fun vs H Q E h => ?_) (fun cdv A outer s H vs Q E hr h => ?_)
  · obtain ⟨p, q, n, rfl, _⟩ := h; rfl
  · obtain ⟨p, q, n, rfl, hp, hq, hn, n0, k⟩ := h
    refine ⟨_, (pss_one (ps_ret (pe_ix ix_tup (pe_call G_divide (hr.mono (by decide)) rfl D_divide.g D_divide.F.kp D_divide.b .nil passL (pa_cons (pe_call G_times (hr.mono (by decide)) rfl D_times.g D_times.F.kp D_times.b .nil pass0 (pa_cons (pv 0) (pa_cons (pv 1) pa_nil))) (pa_cons (pv 2) pa_nil))) (pe_nat 1) (fun _ _ => rfl)))), ?_⟩
    refine ⟨_, rfl, _, rfl, p, q, rfl, by omega, by omega, _, rfl, GF.mul p q, n, rfl, mul_lt hp hq, hn, fun z => absurd z n0, fun _ t ht => ?_⟩
    exact ⟨t, _, _, _, rfl, rfl, SqT.of upd_same, atI_nat (j := 1) rfl, k _ (same_upd ht)⟩
def sp_irr : Sp := fun vs H Q _ => ∃ p : Nat, vs = [.int p] ∧ p < 131072 ∧ ∀ (b : Bool) H', (b = true ↔ GF.Irr p) → Same H H' → Q (.bl b) H'
theorem fr_lt {p : Nat} (h2 : 2 ≤ p) (hp : p < 131072) (i : Nat) : GF.fr i p < 2 ^ 32 := by
  have h0 : p ≠ 0 := by omega
  cases i with
  | zero => show 2 < 2 ^ 32; decide
  | succ i =>
    have h1 : p.log2 < 17 := (Nat.log2_lt h0).mpr hp
    exact Nat.lt_trans (GF.mod_lt h0) (Nat.pow_lt_pow_right (by decide) (by omega))
theorem ok_is_irreducible {f f_degree f_product_rest f_common : Addr} {fd fd_degree fd_product_rest fd_common : FuncData} {tk : Tok} (D : Df K mg "is_irreducible" ["p"] s_is_irreducible f fd) (B : Bl mg) (c_X : mg "X" = some (.int 2 tk))
    (D_degree : Df K mg "degree" ["p"] s_degree f_degree fd_degree) (G_degree : FnOk P w K mg base CX0 1 f_degree fd_degree ["p"] sp_degree)
    (D_product_rest : Df K mg "product_rest" ["p", "q", "modulus"] s_product_rest f_product_rest fd_product_rest) (G_product_rest : FnOk P w K mg base CX0 4 f_product_rest fd_product_rest ["p", "q", "modulus"] sp_product_rest)
    (D_common : Df K mg "common" ["p", "q"] s_common f_common fd_common) (G_common : FnOk P w K mg base CX0 4 f_common fd_common ["p", "q"] sp_common) : FnOk P w K mg base CX0 5 f fd ["p"] sp_irr := by
  refine D.F.ok sc_is_irreducible (fun vs H Q E h => ?_) (fun cdv A outer s H vs Q E hr h => ?_)
  · obtain ⟨p, rfl, _⟩ := h; rfl
  · obtain ⟨p, rfl, hp, k⟩ := h
    refine ⟨_, (pss_cons (ps_if (pt_cmpR op_lt (pe_call G_degree (hr.mono (by decide)) rfl D_degree.g D_degree.F.kp D_degree.b .nil pass0 (pa_cons (pv 0) pa_nil)) (pe_nat 1) (nomark _)) (pss_one (ps_ret pe_bl)) pss_nil)
      (pss_cons (ps_set (i := 1) sc_is_irreducible.nd rfl (Or.inl rfl) (pe_glob (v := .int ((2 : Nat) : Int)) rfl c_X ⟨_, rfl⟩))
      (pss_cons (ps_for PassesOwn.never rfl (pi_range1 rfl B.range (pa_cons (pe_op op_fdiv (pe_call G_degree (hr.mono (by decide)) rfl D_degree.g D_degree.F.kp D_degree.b .nil pass0 (pa_cons (pv 0) pa_nil)) (pe_nat 2)) pa_nil)) (pg_name (i := 2) sc_is_irreducible.nd rfl (Or.inl rfl) (Or.inr rfl))
        (pss_cons (ps_set (i := 1) sc_is_irreducible.nd rfl (Or.inl rfl) (pe_call G_product_rest (hr.mono (by decide)) rfl D_product_rest.g D_product_rest.F.kp D_product_rest.b .nil pass0 (pa_cons (pv 1) (pa_cons (pv 1) (pa_cons (pv 0) pa_nil)))))
        (pss_one (ps_if (pt_cmpR op_ne (pe_call G_common (hr.mono (by decide)) rfl D_common.g D_common.F.kp D_common.b .nil pass0 (pa_cons (pe_op nb_xor (pv 1) (pe_glob (v := .int ((2 : Nat) : Int)) rfl c_X ⟨_, rfl⟩)) (pa_cons (pv 0) pa_nil))) (pe_nat 1) (nomark _)) (pss_one (ps_ret pe_bl)) pss_nil))))
      (pss_one (ps_ret pe_bl))))), ?_⟩
    have hb17 : NB.bits p ≤ 17 := bits_le.mpr hp
    refine ⟨_, rfl, p, rfl, _, _, rfl, rfl, _, rfl, iteD (fun c => ?_) (fun c => ?_)⟩
    · have c' : (NB.bits p : Int) - 1 < 1 := c
      have hp1 : p < 2 ^ 1 := bits_le.mp (by omega)
      exact k false H ⟨(fun z => nomatch z), fun z => by have := z.1; omega⟩ (Same.refl H)
    · have c' : ¬ (NB.bits p : Int) - 1 < 1 := c
      have h2 : 2 ≤ p := by
        apply Classical.byContradiction
        intro n
        have : NB.bits p ≤ 1 := bits_le.mpr (by omega)
        omega
      have hp0 : p ≠ 0 := by omega
      have hbp := bits_pos hp0
      refine ⟨_, rfl, p, rfl, _, _, rfl, rfl, ⟨by decide, by decide⟩, _, rfl, by omega, by omega, ?_⟩
      have en : (((NB.bits p : Int) - 1) / ((2 : Nat) : Int)).toNat = p.log2 / 2 := by omega
      rw [en]
      refine for_rangeN (lo := 0) (n := p.log2 / 2) (fun i σ H' => ∃ v, σ = [some (.int p), some (.int ((GF.fr i p : Nat) : Int)), v] ∧ Same H H' ∧ ∀ j, 1 ≤ j → j ≤ i → GF.gcd (GF.fr j p ^^^ 2) p = 1) ⟨none, rfl, Same.refl H, fun j h1 h2 => by omega⟩ ?_ ?_
      · rintro i σ H' hi ⟨v, rfl, sm, ht⟩
        have hf := fr_lt h2 hp i
        have hf2 := fr_lt h2 hp (i + 1)
        refine ⟨_, rfl, _, rfl, _, rfl, GF.fr i p, GF.fr i p, p, rfl, hf, hf, by omega, hp0, fun H1 s1 => ?_⟩
        refine ⟨_, rfl, _, _, rfl, rfl, _, rfl, GF.fr (i + 1) p ^^^ 2, p, rfl, ?_, by omega, fun H2 s2 => ?_⟩
        · exact GF.xor_lt (n := 64) (by omega) (by decide)
        · refine ⟨rfl, _, rfl, iteN (fun d => ?_) (fun d => ?_)⟩
          · refine k false H2 ⟨(fun z => nomatch z), fun z => ?_⟩ ((sm.trans s1).trans s2)
            exfalso
            apply d
            rw [GF.test_of_irr z hp (i + 1) (by omega) (by omega)]
          · have d' : GF.gcd (GF.fr (i + 1) p ^^^ 2) p = 1 := by have := V.int.inj d; omega
            refine ⟨some (.int ((0 + i : Nat) : Int)), rfl, (sm.trans s1).trans s2, fun j h1 h3 => ?_⟩
            by_cases e : j = i + 1
            · subst e; exact d'
            · exact ht j h1 (by omega)
      · rintro σ H' ⟨v, rfl, sm, ht⟩
        exact k true H' ⟨fun _ => GF.irr_of_test h2 hp ht, fun _ => rfl⟩ sm
def sp_least (C : Addr) : Sp := fun vs H Q E => ∃ m : Int, vs = [.int m] ∧ m.natAbs.log2 < 1920 ∧ (¬ (1 ≤ m ∧ m ≤ 16) → ∀ d, H d = none → E (.ref C) (some d) (upd H d (.xd [("at", .int m)]))) ∧
  ∀ n : Nat, m = (n : Int) → 1 ≤ n → n ≤ 16 → ∀ (p : Nat) H', GF.Irr p → 2 ^ n ≤ p → p < 2 ^ (n + 1) → (∀ q, 2 ^ n ≤ q → q < p → ¬ GF.Irr q) → Same H H' → Q (.int (p : Int)) H'
theorem ok_least_irreducible {f f_is_irreducible f_init C CH : Addr} {fd fd_is_irreducible fd_init : FuncData} (D : Df K mg "least_irreducible" ["m"] s_least_irreducible f fd)
    (D_is_irreducible : Df K mg "is_irreducible" ["p"] s_is_irreducible f_is_irreducible fd_is_irreducible) (G_is_irreducible : FnOk P w K mg base CX0 5 f_is_irreducible fd_is_irreducible ["p"] sp_irr)
    (X_OutOfRange : XC K mg "OutOfRange" C f_init CH) (G_init : FnOk P w K mg base CX0 1 f_init fd_init ["self", "at"] (sp_init K)) (b_init : Binds K fd_init ["self", "at"] []) : FnOk P w K mg base (L2.CX P w) 6 f fd ["m"] (sp_least C) := by
  refine D.F.okX sc_least_irreducible (fun vs H Q E h => ?_) (fun cdv A outer s H vs Q E hr h => ?_)
  · obtain ⟨m, rfl, _⟩ := h; rfl
  · obtain ⟨m, rfl, hm, kE, kQ⟩ := h
    refine ⟨_, (pss_cons (ps_if (PW.pt (pw_or (pt_cmpR op_lt (pv 0) (pe_nat 1) (nomark _)) (pw_or1 (pt_cmpR op_gt (pv 0) (pe_nat 16) (nomark _))))) (pss_one (ps_err rfl X_OutOfRange G_init (hr.mono (by decide)) b_init pass0 (takes_of rfl rfl rfl rfl) (pa_cons (pv 0) pa_nil))) pss_nil)
      (pss_cons (ps_set (i := 1) sc_least_irreducible.nd rfl (Or.inl rfl) (pe_op nb_shl (pe_nat 1) (pv 0)))
      (pss_cons (ps_while (passes_of rfl) (pt_not (pt_val (pe_call G_is_irreducible (hr.mono (by decide)) rfl D_is_irreducible.g D_is_irreducible.F.kp D_is_irreducible.b .nil pass0 (pa_cons (pv 1) pa_nil))))
        (pss_one (ps_aug (i := 1) sc_least_irreducible.nd rfl (Or.inl rfl) (pe_nat 1) nbi_add)))
      (pss_one (ps_ret (pv 1)))))), ?_⟩
    have bad : ¬ (1 ≤ m ∧ m ≤ 16) → tRaise C (fun cls d _ H => E cls d H) (tCons (tVar 0) tNil) { nx := fun _ _ => True, rt := fun _ _ => True } [some (.int m), none] H := fun hb => ⟨_, rfl, m, rfl, hm, fun d hd => kE hb d hd⟩
    refine ⟨_, rfl, _, _, rfl, rfl, _, rfl, iteD (fun c => ?_) (fun c => ?_)⟩
    · have c' : m < 1 := c
      refine iteT ?_
      exact bad (by omega)
    · have c' : ¬ m < 1 := c
      refine ⟨_, rfl, _, _, rfl, rfl, _, rfl, iteD (fun d => ?_) (fun d => ?_)⟩
      · have d' : 16 < m := d
        exact bad (by omega)
      · have d' : ¬ 16 < m := d
        obtain ⟨n, rfl⟩ := Int.eq_ofNat_of_zero_le (show 0 ≤ m by omega)
        refine ⟨_, rfl, _, _, rfl, rfl, ⟨by decide, by omega⟩, ?_⟩
        obtain ⟨i1, i2, i3⟩ := GF.irr_some (m := n) (by omega) (by omega)
        have hle : (2 : Nat) ^ (n + 1) ≤ 131072 := Nat.le_trans (Nat.pow_le_pow_right (by decide) (show n + 1 ≤ 17 by omega)) (by decide)
        refine while_by (fun σ H' => ∃ p : Nat, σ = [some (.int (n : Int)), some (.int (p : Int))] ∧ 2 ^ n ≤ p ∧ p ≤ GF.some_irr n ∧ (∀ q, 2 ^ n ≤ q → q < p → ¬ GF.Irr q) ∧ Same H H')
          (fun σ _ => match σ with | [_, some (.int r)] => GF.some_irr n - r.toNat | _ => 0) ⟨2 ^ n, by rw [← Nat.mul_one (2 ^ n)]; rfl, Nat.le_refl _, i2, fun q h1 h2 => by omega, Same.refl H⟩ ?_ ?_
        · rintro σ H' ⟨p, rfl, h1, h2, h3, sm⟩
          refine ⟨_, rfl, p, rfl, by omega, fun b H1 hb s1 => ⟨b, rfl, ?_⟩⟩
          cases b with
          | true =>
            refine iteF ?_
            exact ⟨_, rfl, kQ n rfl (by omega) (by omega) p H1 (hb.mp rfl) h1 (by omega) h3 (sm.trans s1)⟩
          | false =>
            refine iteT ?_
            have hn : ¬ GF.Irr p := fun z => nomatch hb.mpr z
            have ne : p ≠ GF.some_irr n := fun z => hn (z ▸ i1)
            refine ⟨_, rfl, _, _, rfl, rfl, ⟨p + 1, rfl, by omega, by omega, fun q g1 g2 => ?_, sm.trans s1⟩, ?_⟩
            · by_cases e : q = p
              · subst e; exact hn
              · exact h3 q g1 (by omega)
            · show GF.some_irr n - (p + 1) < GF.some_irr n - p
              omega
        · rintro σ H' Q1 Q2 kk ⟨v, e, p, e1, hp, qq⟩
          refine ⟨v, e, p, e1, hp, fun b H1 h1 s1 => ?_⟩
          obtain ⟨c, e2, q2⟩ := qq b H1 h1 s1
          exact ⟨c, e2, kk _ _ q2⟩
end
theorem V_take_more {α : Type} : ∀ {l : List α} {i : Nat} {x : α}, l[i]? = some x → l.take (i + 1) = l.take i ++ [x] := fun {l i x} h => by rw [List.take_add_one, h]; rfl
theorem map_get_int {ns : List Int} {i : Nat} {x : V} (h : (ns.map V.int)[i]? = some x) : ∃ z, ns[i]? = some z ∧ x = .int z := by
  rw [List.getElem?_map] at h
  cases e : ns[i]? with
  | none => rw [e] at h; cases h
  | some z => rw [e] at h; exact ⟨z, rfl, (Option.some.inj h).symm⟩
theorem NL_get_inv {ns : List Nat} {i : Nat} {x : V} (h : (NL ns)[i]? = some x) : ∃ z : Nat, ns[i]? = some z ∧ x = .int (z : Int) := by
  unfold NL at h
  rw [List.getElem?_map] at h
  cases e : ns[i]? with
  | none => rw [e] at h; cases h
  | some z => rw [e] at h; exact ⟨z, rfl, (Option.some.inj h).symm⟩
section
variable {P : Program} {w : World} {K : PySem.W.Frag} {mg : Str → Option Value} {base : Heap}
def sp_numbers (K : PySem.W.Frag) : Sp := fun vs H Q _ => ∃ (a : Addr) (ns : List Int) (many : Nat), vs = [.ref a, .int (many : Int)] ∧ SqL K H a (ns.map V.int) ∧ ns.length ≤ 63 ∧ many ≤ 1000 ∧
  ∀ (l : Addr) (xs : List Nat) H', Same H H' → H l = none → H' l = some (.lst (NL xs)) → xs.length = many → (∀ x ∈ xs, x < 65536) → Q (.ref l) H'
theorem ok__law_numbers {f : Addr} {fd : FuncData} (D : Df K mg "_law_numbers" ["script", "many"] s__law_numbers f fd) (B : Bl mg) : FnOk P w K mg base CX0 1 f fd ["script", "many"] (sp_numbers K) := by
  refine D.F.ok sc__law_numbers (fun vs H Q E h => ?_) (fun cdv A outer s H vs Q E hr h => ?_)
  · obtain ⟨a, ns, many, rfl, _⟩ := h; rfl
  · obtain ⟨a, ns, many, rfl, hS, hl, hm, kQ⟩ := h
    refine ⟨_, (pss_cons (ps_set (i := 2) sc__law_numbers.nd rfl (Or.inl rfl) (pe_op op_cat (pe_lc (own := [("cell", 7)]) rfl sc__law_numbers.nd (pi_list (pe_slice sl_list (pv 0) po_none (po_some (pe_nat 63)))) (blkOk_by (own := [("cell", 7)]) (N := ["script", "many", "rest", "mixed", "numbers", "k", "at", "cell"]) (sc := defScope s__law_numbers) (by decide +kernel)) (fun _ _ _ _ _ => (pg_name (i := 7) sc__law_numbers.nd rfl (Or.inl rfl) (Or.inr rfl))) (fun _ _ _ _ _ => pts_nil) (fun _ _ _ _ _ => (pe_callB call_absN (by rfl) B.abs (by decide +kernel) (pa_cons (pv 7) pa_nil)))) (pe_lst (pa_cons (pe_nat 0) pa_nil))))
      (C8.pss_cut (ps_if (pt_cmpR op_gt (pe_callB call_len_seq (by rfl) B.len PySem.boot_len (pa_cons (pv 0) pa_nil)) (pe_nat 0) (nomark _)) (pss_one (ps_set (i := 2) sc__law_numbers.nd rfl (Or.inl rfl) (pe_slice sl_list (pv 2) po_none (po_some (pe_un un_neg (pe_nat 1)))))) pss_nil)
      (pss_cons (ps_setLc (i := 3) (own := [("cell", 7)]) rfl sc__law_numbers.nd rfl rfl (sw_true rfl rfl rfl (by decide +kernel)) (pi_list (pv 2)) (blkOk_by (own := [("cell", 7)]) (N := ["script", "many", "rest", "mixed", "numbers", "k", "at", "cell"]) (sc := defScope s__law_numbers) (by decide +kernel)) (fun _ _ _ _ _ => (pg_name (i := 7) sc__law_numbers.nd rfl (Or.inl rfl) (Or.inr rfl))) (fun _ _ _ _ _ => pts_nil) (fun _ _ _ _ _ => (pe_op nb_mod (pe_callTy call_int1 (by rfl) B.int (by decide +kernel) (pa_cons (pe_op nb_add (pe_op nb_mul (pv 7) (pe_nat 48271)) (pe_nat 11)) pa_nil)) (pe_nat 2147483647))))
      (pss_cons (ps_set (i := 4) sc__law_numbers.nd rfl (Or.inl rfl) (pe_lst pa_nil))
      (pss_cons (ps_for PassesOwn.never rfl (pi_range1 rfl B.range (pa_cons (pv 1) pa_nil)) (pg_name (i := 5) sc__law_numbers.nd rfl (Or.inl rfl) (Or.inr rfl))
        (pss_cons (ps_set (i := 6) sc__law_numbers.nd rfl (Or.inl rfl) (pe_op nb_mod (pe_callTy call_int1 (by rfl) B.int (by decide +kernel) (pa_cons (pv 5) pa_nil)) (pe_callB call_len_seq (by rfl) B.len PySem.boot_len (pa_cons (pv 2) pa_nil))))
        (pss_one (ps_if (pt_cmpR op_ge (pe_ix ix_list (pv 2) (pv 6) (fun _ _ => rfl)) (pe_op nb_pow (pe_nat 10) (pe_nat 18)) (nomark _)) (pss_cons (ps_expr (pe_bm PySem.F.plainAttrs_list PySem.F.slot_list_append PySem.F.type_list_append mt_append (pv 4) (pa_cons (pe_op nb_mod (pe_callTy call_int1 (by rfl) B.int (by decide +kernel) (pa_cons (pe_ix ix_list (pv 2) (pv 6) (fun _ _ => rfl)) pa_nil)) (pe_nat 65536)) pa_nil)))
          (pss_one (ps_asg (pe_op nb_fdiv (pe_ix ix_list (pv 2) (pv 6) (fun _ _ => rfl)) (pe_nat 65536)) (pg_sub (pv 2) (pv 6) set_list)))) (pss_cons (ps_asg (pe_op nb_mod (pe_callTy call_int1 (by rfl) B.int (by decide +kernel) (pa_cons (pe_op nb_add (pe_op nb_add (pe_op nb_mul (pe_ix ix_list (pv 3) (pv 6) (fun _ _ => rfl)) (pe_nat 16807)) (pe_nat 12345)) (pe_op nb_mul (pe_nat 7919) (pv 5))) pa_nil)) (pe_nat 2147483647)) (pg_sub (pv 3) (pv 6) set_list))
          (pss_one (ps_expr (pe_bm PySem.F.plainAttrs_list PySem.F.slot_list_append PySem.F.type_list_append mt_append (pv 4) (pa_cons (pe_op nb_mod (pe_callTy call_int1 (by rfl) B.int (by decide +kernel) (pa_cons (pe_op nb_add (pe_ix ix_list (pv 2) (pv 6) (fun _ _ => rfl)) (pe_op nb_fdiv (pe_ix ix_list (pv 3) (pv 6) (fun _ _ => rfl)) (pe_nat 5))) pa_nil)) (pe_nat 65536)) pa_nil)))))))))
      (pss_one (ps_ret (pv 4)))))))), ?_⟩
    -- rest
    refine ⟨_, rfl, 63, rfl, a, _, rfl, hS, fun c nc => ⟨c, rfl, ⟨_, SqL.of upd_same⟩, fun D0 nD => ?_⟩⟩
    have ecut : cutV (ns.map V.int) none (some ((63 : Nat) : Int)) = ns.map V.int := by
      rw [cut_to, List.take_of_length_le (by rw [List.length_map]; exact hl)]
    have ncD : c ≠ D0 := fun z => by rw [z, upd_same] at nD; cases nD
    have nD' : H D0 = none := by rw [upd_ne (Ne.symm ncD)] at nD; exact nD
    refine lc_list (K := K) (a := c) (xs := ns.map V.int) (fun i H' => H' c = some (.lst (ns.map V.int)) ∧ H' D0 = some (.lst (NL ((ns.take i).map Int.natAbs))) ∧ Same H H') ⟨?_, ?_, ?_⟩ (fun i H' _ h => SqL.of h.1) ?_ ?_
    · rw [upd_ne ncD, upd_same]; exact congrArg (fun l => some (HO.lst l)) ecut
    · rw [upd_same]; rfl
    · exact same_new (same_upd nc) nD
    · rintro i x H' hi ⟨h1, h2, sm⟩
      obtain ⟨z, hz, rfl⟩ := map_get_int hi
      have hil : i < ns.length := (List.getElem?_eq_some_iff.mp hz).1
      refine ⟨rfl, ?_⟩
      refine ⟨_, rfl, z, rfl, _, h2, ?_, ?_, ?_, ?_⟩
      · rw [NL_len, List.length_map, List.length_take]; exact Nat.lt_of_le_of_lt (Nat.min_le_left _ _) (small1000 (by omega))
      · rw [upd_ne ncD]; exact h1
      · rw [upd_same, NL_app, V_take_more hz, List.map_append]; rfl
      · exact same_upd2 sm nD'
    · rintro H1 ⟨h1, h2, sm⟩
      rw [List.length_map, List.take_length] at h2
      refine ⟨by show 1 ≤ sizeLine; decide, fun z nz => ?_⟩
      have nDz : D0 ≠ z := ne_of_none h2 nz
      refine ⟨D0, z, _, _, rfl, rfl, (by rw [upd_ne nDz]; exact h2), upd_same, ?_, fun r nr => ?_⟩
      · rw [NL_len, List.length_map]; exact Nat.le_of_lt (small1000 (by simp; omega))
      have e0 : NL (ns.map Int.natAbs) ++ [V.int ((0 : Nat) : Int)] = NL (ns.map Int.natAbs ++ [0]) := NL_app _ _
      have sm1 : Same H (upd H1 z (.lst [V.int ((0 : Nat) : Int)])) := same_new sm nz
      have sm2 : Same H (upd (upd H1 z (.lst [V.int ((0 : Nat) : Int)])) r (.lst (NL (ns.map Int.natAbs ++ [0])))) := same_new sm1 nr
      rw [e0]
      have nr0 : H r = none := sm1.free nr
      generalize hH2 : upd (upd H1 z (.lst [V.int ((0 : Nat) : Int)])) r (.lst (NL (ns.map Int.natAbs ++ [0]))) = H2 at sm2
      have hr2 : H2 r = some (.lst (NL (ns.map Int.natAbs ++ [0]))) := by rw [← hH2, upd_same]
      -- rest without the 0
      refine ⟨fun σ H3 => ∃ (r3 : Addr) (R : List Nat) (v : Option V), σ = [some (.ref a), some (.int (many : Int)), some (.ref r3), none, none, none, none, v] ∧ Same H H3 ∧ H r3 = none ∧ H3 r3 = some (.lst (NL R)) ∧ 0 < R.length ∧ R.length ≤ 64, ?_, ?_⟩
      · refine ⟨_, rfl, a, _, rfl, .inl (sm2.seq hS), _, _, rfl, rfl, _, rfl, iteD (fun c0 => ?_) (fun c0 => ?_)⟩
        · have c1 : (0 : Int) < ((ns.map V.int).length : Int) := c0
          rw [List.length_map] at c1
          refine ⟨_, rfl, 1, rfl, -1, rfl, r, _, rfl, SqL.of hr2, fun q nq => ⟨q, ns.map Int.natAbs, none, ?_, same_new sm2 nq, sm2.free nq, ?_, by rw [List.length_map]; omega, by rw [List.length_map]; omega⟩⟩
          · rfl
          · rw [upd_same, cut_last]
            unfold NL
            rw [← List.map_dropLast, List.dropLast_concat]
        · exact ⟨r, _, none, rfl, sm2, nr0, hr2, by simp, by simp; omega⟩
      · rintro σ H3 ⟨r3, R, v, rfl, sm3, n3, h3, hR0, hR1⟩
        -- mixed
        refine ⟨_, rfl, r3, rfl, ⟨_, SqL.of h3⟩, fun M0 nM => ?_⟩
        have nrM : r3 ≠ M0 := ne_of_none h3 nM
        have nM' : H M0 = none := sm3.free nM
        refine lc_list (K := K) (a := r3) (xs := NL R) (fun i H' => ∃ M : List Nat, H' r3 = some (.lst (NL R)) ∧ H' M0 = some (.lst (NL M)) ∧ M.length = i ∧ Same H H') ⟨[], ?_, ?_, rfl, ?_⟩ (fun i H' _ h => by obtain ⟨M, h1, _⟩ := h; exact SqL.of h1) ?_ ?_
        · rw [upd_ne nrM]; exact h3
        · rw [upd_same]; rfl
        · exact same_new sm3 nM
        · rintro i x H' hi ⟨M, h1, h2, hM, sm⟩
          obtain ⟨z, hz, rfl⟩ := NL_get_inv hi
          have hil : i < R.length := (List.getElem?_eq_some_iff.mp hz).1
          refine ⟨rfl, ?_⟩
          refine ⟨_, rfl, _, _, rfl, rfl, .inr (by decide), _, _, rfl, rfl, .inl ⟨_, rfl, _, _, rfl, rfl, Nat.succ_pos _, _, h2, ?_, M ++ [(z * 48271 + 11) % 2147483647], ?_, ?_, ?_, ?_⟩⟩
          · rw [NL_len]; exact small1000 (by omega)
          · rw [upd_ne nrM]; exact h1
          · rw [upd_same, ← NL_app]
          · rw [List.length_append, hM]; rfl
          · exact same_upd2 sm nM'
        · rintro H4 ⟨M, h1, h2, hM, sm4⟩
          rw [NL_len] at hM
          -- numbers
          refine ⟨Nat.zero_le _, fun l nl => ?_⟩
          have nrl : r3 ≠ l := ne_of_none h1 nl
          have nMl : M0 ≠ l := ne_of_none h2 nl
          have nl' : H l = none := sm4.free nl
          refine ⟨_, rfl, _, rfl, by omega, by omega, ?_⟩
          refine for_rangeN (lo := 0) (n := many) (fun i σ H' => ∃ (R' M' N : List Nat) (v5 v6 v7 : Option V), σ = [some (.ref a), some (.int (many : Int)), some (.ref r3), some (.ref M0), some (.ref l), v5, v6, v7] ∧ H' r3 = some (.lst (NL R')) ∧ H' M0 = some (.lst (NL M')) ∧ H' l = some (.lst (NL N)) ∧
            R'.length = R.length ∧ M'.length = R.length ∧ N.length = i ∧ (∀ x ∈ N, x < 65536) ∧ Same H H') ⟨R, M, [], none, none, v, rfl, ?_, ?_, ?_, rfl, hM, rfl, (fun x hx => nomatch hx), ?_⟩ ?_ ?_
          · rw [upd_ne nrl]; exact h1
          · rw [upd_ne nMl]; exact h2
          · rw [upd_same]; rfl
          · exact same_new sm4 nl
          · rintro i σ H' hi ⟨R', M', N, v5, v6, v7, rfl, g1, g2, g3, e1, e2, e3, hN, sm⟩
            have hat : i % R.length < R.length := Nat.mod_lt _ hR0
            obtain ⟨x, hx⟩ : ∃ x, R'[i % R.length]? = some x := ⟨_, List.getElem?_eq_getElem (by omega)⟩
            obtain ⟨y, hy⟩ : ∃ y, M'[i % R.length]? = some y := ⟨_, List.getElem?_eq_getElem (by omega)⟩
            have hN3 : (NL N).length < sizeLine := by rw [NL_len]; exact small1000 (by omega)
            rw [Nat.zero_add]
            refine ⟨_, rfl, .inl ⟨_, rfl, _, rfl, r3, _, rfl, .inl (SqL.of g1), i, _, rfl, rfl, by rw [NL_len]; omega, ?_⟩⟩
            rw [NL_len, e1]
            refine ⟨_, rfl, _, rfl, r3, _, _, _, rfl, rfl, SqL.of g1, NL_at0 hx, _, _, rfl, rfl, ⟨by decide, by decide⟩, _, _, rfl, rfl, _, rfl, iteD (fun c => ?_) (fun c => ?_)⟩
            · refine ⟨_, rfl, .inl ⟨rfl, _, SqL.of g3⟩, _, rfl, _, rfl, r3, _, _, _, rfl, rfl, SqL.of g1, NL_at0 hx, .inl ⟨_, rfl, _, _, rfl, rfl, Nat.succ_pos _, l, _, _, rfl, rfl, g3, hN3, ?_⟩⟩
              have g1' : (upd H' l (.lst (NL N ++ [V.int ((x % 65536 : Nat) : Int)]))) r3 = some (.lst (NL R')) := by rw [upd_ne nrl]; exact g1
              refine ⟨_, rfl, _, rfl, r3, _, _, _, rfl, rfl, SqL.of g1', NL_at0 hx, _, _, rfl, rfl, ⟨by decide, by decide⟩, _, rfl, _, rfl, r3, _, _, i % R.length, rfl, rfl, g1', ixN_nat (by rw [NL_len]; omega), ?_⟩
              refine ⟨R'.set (i % R.length) (x / 65536), M', N ++ [x % 65536], _, _, v7, rfl, ?_, ?_, ?_, ?_, e2, ?_, ?_, ?_⟩
              · rw [upd_same, NL_set]
              · rw [upd_ne (Ne.symm nrM), upd_ne nMl]; exact g2
              · rw [upd_ne (Ne.symm nrl), upd_same, NL_app]
              · rw [List.length_set]; exact e1
              · rw [List.length_append, e3]; rfl
              · intro z hz
                rcases List.mem_append.mp hz with h | h
                · exact hN z h
                · rw [List.mem_singleton] at h; subst h; exact Nat.mod_lt _ (by decide)
              · exact same_upd2 (same_upd2 sm nl') n3
            · refine ⟨_, rfl, _, rfl, M0, _, _, _, rfl, rfl, SqL.of g2, NL_at0 hy, _, _, rfl, rfl, .inr (by decide), _, _, rfl, rfl, _, rfl, _, _, rfl, rfl, .inl (by decide), _, _, rfl, rfl, .inl ⟨_, rfl, _, _, rfl, rfl, Nat.succ_pos _, _, rfl, _, rfl, M0, _, _, i % R.length, rfl, rfl, g2, ixN_nat (by rw [NL_len]; omega), ?_⟩⟩
              rw [NL_set]
              generalize hy2 : (y * 16807 + 12345 + 7919 * i) % 2147483647 = y2
              have g1' : (upd H' M0 (.lst (NL (M'.set (i % R.length) y2)))) r3 = some (.lst (NL R')) := by rw [upd_ne nrM]; exact g1
              have g3' : (upd H' M0 (.lst (NL (M'.set (i % R.length) y2)))) l = some (.lst (NL N)) := by rw [upd_ne (Ne.symm nMl)]; exact g3
              have hy3 : (M'.set (i % R.length) y2)[i % R.length]? = some y2 := List.getElem?_set_self (by omega)
              refine ⟨_, rfl, .inl ⟨rfl, _, SqL.of g3'⟩, _, rfl, _, rfl, r3, _, _, _, rfl, rfl, SqL.of g1', NL_at0 hx, _, rfl, _, rfl, M0, _, _, _, rfl, rfl, SqL.of upd_same, NL_at0 hy3, _, _, rfl, rfl, ⟨by decide, by decide⟩, _, _, rfl, rfl, .inl ⟨_, rfl, _, _, rfl, rfl, Nat.succ_pos _, l, _, _, rfl, rfl, g3', hN3, ?_⟩⟩
              refine ⟨R', M'.set (i % R.length) y2, N ++ [(x + y2 / 5) % 65536], _, _, v7, rfl, ?_, ?_, ?_, e1, ?_, ?_, ?_, ?_⟩
              · rw [upd_ne nrl]; exact g1'
              · rw [upd_ne nMl, upd_same]
              · rw [upd_same, NL_app]
              · rw [List.length_set]; exact e2
              · rw [List.length_append, e3]; rfl
              · intro z hz
                rcases List.mem_append.mp hz with h | h
                · exact hN z h
                · rw [List.mem_singleton] at h; subst h; exact Nat.mod_lt _ (by decide)
              · exact same_upd2 (same_upd2 sm nM') nl'
          · rintro σ H' ⟨R', M', N, v5, v6, v7, rfl, g1, g2, g3, e1, e2, e3, hN, sm⟩
            exact ⟨_, rfl, kQ l N H' sm nl' g3 e3 hN⟩
end
section
variable {P : Program} {w : World} {K : PySem.W.Frag} {mg : Str → Option Value} {base : Heap}
theorem shr_pos {p k : Nat} : 0 < p / 2 ^ k ↔ k < NB.bits p := by
  constructor
  · intro h
    apply Classical.byContradiction
    intro n
    have := bits_le.mp (show NB.bits p ≤ k by omega)
    rw [Nat.div_eq_of_lt this] at h
    omega
  · intro h
    apply Nat.div_pos _ (Nat.two_pow_pos k)
    apply Classical.byContradiction
    intro n
    have := bits_le.mpr (show p < 2 ^ k by omega)
    omega
theorem odd_of {x : Nat} (c : V.int ((x &&& 1 : Nat) : Int) = .int ((1 : Nat) : Int)) : x % 2 = 1 := by
  have := V.int.inj c
  rw [Nat.and_one_is_mod] at this; omega
theorem odd_mk {x : Nat} (c : x % 2 = 1) : V.int ((x &&& 1 : Nat) : Int) = .int ((1 : Nat) : Int) := by rw [Nat.and_one_is_mod, c]
def sp_ldegree : Sp := fun vs H Q _ => ∃ p : Nat, vs = [.int p] ∧ p < 2 ^ 70 ∧ Q (.int ((NB.bits p : Nat) - 1 : Int)) H
theorem ok__law_degree {f : Addr} {fd : FuncData} (D : Df K mg "_law_degree" ["p"] s__law_degree f fd) (B : Bl mg) : FnOk P w K mg base CX0 1 f fd ["p"] sp_ldegree := by
  refine D.F.ok sc__law_degree (fun vs H Q E h => ?_) (fun cdv A outer s H vs Q E hr h => ?_)
  · obtain ⟨p, rfl, _⟩ := h; rfl
  · obtain ⟨p, rfl, hp, k⟩ := h
    refine ⟨_, (pss_cons (ps_set (i := 1) sc__law_degree.nd rfl (Or.inl rfl) (pe_un un_neg (pe_nat 1)))
      (pss_cons (ps_for PassesOwn.never rfl (pi_range1 rfl B.range (pa_cons (pe_nat 70) pa_nil)) (pg_name (i := 2) sc__law_degree.nd rfl (Or.inl rfl) (Or.inr rfl))
        (pss_one (ps_if (pt_cmpR op_gt (pe_op nb_shr (pv 0) (pv 2)) (pe_nat 0) (nomark _)) (pss_one (ps_set (i := 1) sc__law_degree.nd rfl (Or.inl rfl) (pv 2))) pss_nil)))
      (pss_one (ps_ret (pv 1))))), ?_⟩
    have hb := bits_le.mpr hp
    refine ⟨1, rfl, _, rfl, by omega, by omega, ?_⟩
    refine for_rangeN (lo := 0) (n := 70) (fun i σ H' => ∃ v, σ = [some (.int p), some (.int ((Nat.min i (NB.bits p) : Nat) - 1 : Int)), v] ∧ H' = H) ⟨none, ?_, rfl⟩ ?_ ?_
    · rw [show Nat.min 0 (NB.bits p) = 0 from Nat.zero_min _]; rfl
    · rintro i σ H' hi ⟨v, rfl, rfl⟩
      rw [Nat.zero_add]
      refine ⟨_, rfl, _, rfl, _, _, rfl, rfl, _, _, rfl, rfl, _, rfl, iteD (fun c => ?_) (fun c => ?_)⟩
      · have c1 : i < NB.bits p := shr_pos.mp (by have : (0 : Int) < ((p / 2 ^ i : Nat) : Int) := c; omega)
        refine ⟨_, rfl, some (.int i), ?_, rfl⟩
        have e : ((Nat.min (i + 1) (NB.bits p) : Nat) - 1 : Int) = (i : Int) := by
          have : Nat.min (i + 1) (NB.bits p) = i + 1 := Nat.min_eq_left (by omega)
          rw [this]; omega
        rw [e]; rfl
      · have c1 : ¬ i < NB.bits p := fun z => c (by have := shr_pos.mpr z; show (0 : Int) < ((p / 2 ^ i : Nat) : Int); omega)
        refine ⟨some (.int i), ?_, rfl⟩
        have e : Nat.min (i + 1) (NB.bits p) = Nat.min i (NB.bits p) := by
          rw [show Nat.min (i + 1) (NB.bits p) = NB.bits p from Nat.min_eq_right (by omega), show Nat.min i (NB.bits p) = NB.bits p from Nat.min_eq_right (by omega)]
        rw [e]; rfl
    · rintro σ H' ⟨v, rfl, rfl⟩
      rw [show Nat.min 70 (NB.bits p) = NB.bits p from Nat.min_eq_right (by omega)]
      exact ⟨_, rfl, k⟩
def sp_ltimes : Sp := fun vs H Q _ => ∃ p q : Nat, vs = [.int p, .int q] ∧ p < 2 ^ 64 ∧ q < 2 ^ 36 ∧ Q (.int ((GF.mul p q : Nat) : Int)) H
theorem ok__law_times {f : Addr} {fd : FuncData} (D : Df K mg "_law_times" ["p", "q"] s__law_times f fd) (B : Bl mg) : FnOk P w K mg base CX0 1 f fd ["p", "q"] sp_ltimes := by
  refine D.F.ok sc__law_times (fun vs H Q E h => ?_) (fun cdv A outer s H vs Q E hr h => ?_)
  · obtain ⟨p, q, rfl, _⟩ := h; rfl
  · obtain ⟨p, q, rfl, hp, hq, k⟩ := h
    refine ⟨_, (pss_cons (ps_set (i := 2) sc__law_times.nd rfl (Or.inl rfl) (pe_nat 0))
      (pss_cons (ps_for PassesOwn.never rfl (pi_range1 rfl B.range (pa_cons (pe_nat 36) pa_nil)) (pg_name (i := 3) sc__law_times.nd rfl (Or.inl rfl) (Or.inr rfl))
        (pss_one (ps_if (pt_cmpR op_eq (pe_op nb_and (pe_op nb_shr (pv 1) (pv 3)) (pe_nat 1)) (pe_nat 1) (nomark _)) (pss_one (ps_set (i := 2) sc__law_times.nd rfl (Or.inl rfl) (pe_op nb_xor (pv 2) (pe_op nb_shl (pv 0) (pv 3))))) pss_nil)))
      (pss_one (ps_ret (pv 2))))), ?_⟩
    refine ⟨_, rfl, by omega, by omega, ?_⟩
    refine for_rangeN (lo := 0) (n := 36) (fun i σ H' => ∃ v, σ = [some (.int p), some (.int q), some (.int ((GF.mul p (q % 2 ^ i) : Nat) : Int)), v] ∧ H' = H) ⟨none, ?_, rfl⟩ ?_ ?_
    · rw [Nat.pow_zero, Nat.mod_one, GF.mul_zero]; rfl
    · rintro i σ H' hi ⟨v, rfl, rfl⟩
      rw [Nat.zero_add]
      have key := times_step p q i
      refine ⟨_, rfl, _, rfl, _, _, rfl, rfl, _, _, rfl, rfl, rfl, _, rfl, ?_⟩
      refine iteD (fun c => ?_) (fun c => ?_)
      · rw [if_pos (odd_of c)] at key
        refine ⟨_, rfl, _, rfl, _, rfl, _, _, rfl, rfl, ⟨hp, by omega⟩, _, _, rfl, rfl, some (.int i), ?_, rfl⟩
        rw [key]; rfl
      · rw [if_neg (fun z => c (odd_mk z)), Nat.xor_zero] at key
        refine ⟨some (.int i), ?_, rfl⟩
        rw [key]; rfl
    · rintro σ H' ⟨v, rfl, rfl⟩
      rw [Nat.mod_eq_of_lt hq]
      exact ⟨_, rfl, k⟩
def sp_ldivided : Sp := fun vs H Q _ => ∃ p q : Nat, vs = [.int p, .int q] ∧ p < 2 ^ 64 ∧ q < 2 ^ 64 ∧ q ≠ 0 ∧
  ∀ a, H a = none → Q (.ref a) (upd H a (.tup [.int ((GF.pdiv p q : Nat) : Int), .int ((GF.pmod p q : Nat) : Int)]))
theorem or_add {k s : Nat} (h : k % 2 ^ (s + 1) = 0) : k + 2 ^ s = k ^^^ 2 ^ s := by
  rw [← or_xor h]
  have e : k = 2 ^ (s + 1) * (k / 2 ^ (s + 1)) := by
    have := Nat.div_add_mod k (2 ^ (s + 1)); omega
  rw [e]
  exact Nat.two_pow_add_eq_or_of_lt (Nat.pow_lt_pow_right (by decide) (by omega)) _
theorem bit_test {p n : Nat} (h : p < 2 ^ (n + 1)) : p / 2 ^ n % 2 = 1 ↔ GF.Deg p n := by
  rw [GF.deg_top h, Nat.testBit_eq_decide_div_mod_eq, decide_eq_true_eq]
theorem ok__law_divided {f f__law_degree : Addr} {fd fd__law_degree : FuncData} (D : Df K mg "_law_divided" ["p", "q"] s__law_divided f fd) (B : Bl mg)
    (D__law_degree : Df K mg "_law_degree" ["p"] s__law_degree f__law_degree fd__law_degree) (G__law_degree : FnOk P w K mg base CX0 1 f__law_degree fd__law_degree ["p"] sp_ldegree) : FnOk P w K mg base CX0 2 f fd ["p", "q"] sp_ldivided := by
  refine D.F.ok sc__law_divided (fun vs H Q E h => ?_) (fun cdv A outer s H vs Q E hr h => ?_)
  · obtain ⟨p, q, rfl, _⟩ := h; rfl
  · obtain ⟨p, q, rfl, hp, hq, q0, k⟩ := h
    refine ⟨_, (pss_cons (ps_set (i := 2) sc__law_divided.nd rfl (Or.inl rfl) (pe_call G__law_degree (hr.mono (by decide)) rfl D__law_degree.g D__law_degree.F.kp D__law_degree.b .nil pass0 (pa_cons (pv 1) pa_nil)))
      (pss_cons (ps_set (i := 3) sc__law_divided.nd rfl (Or.inl rfl) (pe_nat 0))
      (pss_cons (ps_for PassesOwn.never rfl (pi_range1 rfl B.range (pa_cons (pe_nat 70) pa_nil)) (pg_name (i := 4) sc__law_divided.nd rfl (Or.inl rfl) (Or.inr rfl))
        (pss_cons (ps_set (i := 5) sc__law_divided.nd rfl (Or.inl rfl) (pe_op nb_sub (pe_nat 69) (pv 4)))
        (pss_one (ps_if (pt_cmpR op_eq (pe_op nb_and (pe_op nb_shr (pv 0) (pe_op nb_add (pv 5) (pv 2))) (pe_nat 1)) (pe_nat 1) (nomark _)) (pss_cons (ps_set (i := 0) sc__law_divided.nd rfl (Or.inl rfl) (pe_op nb_xor (pv 0) (pe_op nb_shl (pv 1) (pv 5))))
          (pss_one (ps_set (i := 3) sc__law_divided.nd rfl (Or.inl rfl) (pe_op nb_add (pv 3) (pe_op nb_shl (pe_nat 1) (pv 5)))))) pss_nil))))
      (pss_one (ps_ret (pe_tup (pa_cons (pv 3) (pa_cons (pv 0) pa_nil)))))))), ?_⟩
    have hb := bits_pos q0
    have hl64 : q.log2 < 64 := (Nat.log2_lt q0).mpr hq
    refine ⟨_, rfl, q, rfl, by omega, ?_⟩
    rw [show ((NB.bits q : Nat) - 1 : Int) = ((q.log2 : Nat) : Int) by omega]
    refine ⟨_, rfl, by omega, by omega, ?_⟩
    refine for_rangeN (lo := 0) (n := 70) (fun i σ H' => ∃ (r ww : Nat) (v5 v6 : Option V), σ = [some (.int (r : Int)), some (.int q), some (.int ((q.log2 : Nat) : Int)), some (.int (ww : Int)), v5, v6] ∧ H' = H ∧ p = GF.mul ww q ^^^ r ∧ r < 2 ^ (70 - i + q.log2) ∧ ww % 2 ^ (70 - i) = 0) ⟨p, 0, none, none, rfl, rfl, ?_, ?_, Nat.zero_mod _⟩ ?_ ?_
    · rw [GF.zero_mul, Nat.zero_xor]
    · exact Nat.lt_of_lt_of_le hp (Nat.pow_le_pow_right (by decide) (by omega))
    · rintro i σ H' hi ⟨r, ww, v5, v6, rfl, rfl, hpk, hr', hw⟩
      rw [Nat.zero_add]
      have e1 : 70 - i = (69 - i) + 1 := by omega
      have e2 : 70 - (i + 1) = 69 - i := by omega
      have e3 : 70 - i + q.log2 = (69 - i + q.log2) + 1 := by omega
      rw [e3] at hr'
      rw [e1] at hw
      refine ⟨_, rfl, _, _, rfl, rfl, by show i ≤ 69; omega, _, rfl, _, rfl, _, rfl, _, _, rfl, rfl, _, _, rfl, rfl, _, _, rfl, rfl, rfl, _, rfl, ?_⟩
      refine iteD (fun c => ?_) (fun c => ?_)
      · have dr := (bit_test hr').mp (odd_of c)
        have dq := GF.deg_shift (GF.deg_log q0) (69 - i)
        refine ⟨_, rfl, _, rfl, _, rfl, _, _, rfl, rfl, ⟨hq, by omega⟩, _, _, rfl, rfl, _, rfl, _, rfl, _, _, rfl, rfl, ⟨by decide, by omega⟩, _, _, rfl, rfl, r ^^^ 2 ^ (69 - i) * q, ww ^^^ 2 ^ (69 - i), some (.int i), some (.int ((69 - i : Nat) : Int)), ?_, rfl, ?_, ?_, ?_⟩
        · rw [← or_add hw, Nat.mul_one]; rfl
        · rw [GF.xor_mul, GF.pow_mul, hpk, xor_swap]
        · rw [e2]; exact GF.deg_xor dr dq
        · rw [e2]; exact xor_mod_zero hw (Nat.le_refl _)
      · have dr : ¬ GF.Deg r (69 - i + q.log2) := fun z => c (odd_mk ((bit_test hr').mpr z))
        refine ⟨r, ww, some (.int i), some (.int ((69 - i : Nat) : Int)), rfl, rfl, hpk, ?_, ?_⟩
        · rw [e2]
          rcases Nat.lt_or_ge r (2 ^ (69 - i + q.log2)) with l | g
          · exact l
          · exact absurd ⟨g, hr'⟩ dr
        · rw [e2]
          exact Nat.mod_eq_zero_of_dvd (Nat.dvd_trans (Nat.pow_dvd_pow 2 (by omega)) (Nat.dvd_of_mod_eq_zero hw))
    · rintro σ H' ⟨r, ww, v5, v6, rfl, rfl, hpk, hr', hw⟩
      rw [Nat.sub_self, Nat.zero_add] at hr'
      obtain ⟨e1, e2⟩ := GF.mod_of q0 hr' hpk
      refine ⟨_, rfl, _, rfl, (by show 2 ≤ sizeLine; decide), fun a ha => ?_⟩
      have := k a ha
      rw [e1, e2] at this
      exact this
def sp_lcommon : Sp := fun vs H Q _ => ∃ p q : Nat, vs = [.int p, .int q] ∧ p < 2 ^ 64 ∧ q < 2 ^ 64 ∧ ∀ H', Same H H' → Q (.int ((GF.gcd p q : Nat) : Int)) H'
theorem ok__law_common {f f__law_divided : Addr} {fd fd__law_divided : FuncData} (D : Df K mg "_law_common" ["p", "q"] s__law_common f fd) (B : Bl mg)
    (D__law_divided : Df K mg "_law_divided" ["p", "q"] s__law_divided f__law_divided fd__law_divided) (G__law_divided : FnOk P w K mg base CX0 2 f__law_divided fd__law_divided ["p", "q"] sp_ldivided) : FnOk P w K mg base CX0 3 f fd ["p", "q"] sp_lcommon := by
  refine D.F.ok sc__law_common (fun vs H Q E h => ?_) (fun cdv A outer s H vs Q E hr h => ?_)
  · obtain ⟨p, q, rfl, _⟩ := h; rfl
  · obtain ⟨p, q, rfl, hp, hq, k⟩ := h
    refine ⟨_, (pss_cons (ps_for PassesOwn.never rfl (pi_range1 rfl B.range (pa_cons (pe_nat 70) pa_nil)) (pg_name (i := 2) sc__law_common.nd rfl (Or.inl rfl) (Or.inr rfl))
        (pss_cons (ps_if (pt_cmpR op_eq (pv 1) (pe_nat 0) (nomark _)) (pss_one (ps_ret (pv 0))) pss_nil)
        (pss_one (ps_par (i := 0) (j := 1) (by rfl) sc__law_common.nd rfl rfl (by decide) rfl rfl (pa_cons (pv 1) (pa_cons (pe_ix ix_tup (pe_call G__law_divided (hr.mono (by decide)) rfl D__law_divided.g D__law_divided.F.kp D__law_divided.b .nil pass0 (pa_cons (pv 0) (pa_cons (pv 1) pa_nil))) (pe_nat 1) (fun _ _ => rfl)) pa_nil)) (by rfl)))))
      (pss_one (ps_ret (pv 0)))), ?_⟩
    refine ⟨_, rfl, by omega, by omega, ?_⟩
    refine for_rangeN (lo := 0) (n := 70) (fun i σ H' => ∃ (a b : Nat) (v : Option V), σ = [some (.int (a : Int)), some (.int (b : Int)), v] ∧ GF.gcd a b = GF.gcd p q ∧ a < 2 ^ 64 ∧ b < 2 ^ 64 ∧ GF.siz b + i ≤ 64 ∧ Same H H') ⟨p, q, none, rfl, rfl, hp, hq, GF.siz_le.mpr hq, Same.refl H⟩ ?_ ?_
    · rintro i σ H' hi ⟨a, b, v, rfl, hg, ha, hb, hs, sm⟩
      refine ⟨_, rfl, rfl, _, rfl, iteD (fun c => ?_) (fun c => ?_)⟩
      · have b0 : b = 0 := by have := V.int.inj c; omega
        subst b0
        rw [GF.gcd_zero] at hg
        refine ⟨_, rfl, ?_⟩
        rw [hg]
        exact k _ sm
      · have b0 : b ≠ 0 := fun z => c (by rw [z])
        have hm := GF.siz_mod (a := a) b0
        refine ⟨_, rfl, _, rfl, _, rfl, a, b, rfl, ha, hb, b0, fun t ht => ?_⟩
        refine ⟨t, _, _, _, rfl, rfl, SqT.of upd_same, atI_nat (j := 1) rfl, _, _, rfl, b, GF.pmod a b, _, rfl, ?_, hb, ?_, by omega, same_new sm ht⟩
        · rw [← hg, GF.gcd_step a b0]
        · exact Nat.lt_trans (GF.mod_lt b0) (Nat.pow_lt_pow_right (by decide) ((Nat.log2_lt b0).mpr hb))
    · rintro σ H' ⟨a, b, v, rfl, hg, ha, hb, hs, sm⟩
      omega
def sp_lirr : Sp := fun vs H Q _ => ∃ p : Nat, vs = [.int p] ∧ p < 2 ^ 32 ∧ ∀ (b : Bool) H', (b = true ↔ GF.Irr p) → Same H H' → Q (.bl b) H'
theorem ok__law_irreducible {f f__law_degree f__law_divided : Addr} {fd fd__law_degree fd__law_divided : FuncData} (D : Df K mg "_law_irreducible" ["p"] s__law_irreducible f fd) (B : Bl mg)
    (D__law_degree : Df K mg "_law_degree" ["p"] s__law_degree f__law_degree fd__law_degree) (G__law_degree : FnOk P w K mg base CX0 1 f__law_degree fd__law_degree ["p"] sp_ldegree)
    (D__law_divided : Df K mg "_law_divided" ["p", "q"] s__law_divided f__law_divided fd__law_divided) (G__law_divided : FnOk P w K mg base CX0 2 f__law_divided fd__law_divided ["p", "q"] sp_ldivided) : FnOk P w K mg base CX0 3 f fd ["p"] sp_lirr := by
  refine D.F.ok sc__law_irreducible (fun vs H Q E h => ?_) (fun cdv A outer s H vs Q E hr h => ?_)
  · obtain ⟨p, rfl, _⟩ := h; rfl
  · obtain ⟨p, rfl, hp, k⟩ := h
    refine ⟨_, (pss_cons (ps_set (i := 1) sc__law_irreducible.nd rfl (Or.inl rfl) (pe_call G__law_degree (hr.mono (by decide)) rfl D__law_degree.g D__law_degree.F.kp D__law_degree.b .nil pass0 (pa_cons (pv 0) pa_nil)))
      (pss_cons (ps_if (pt_cmpR op_lt (pv 1) (pe_nat 1) (nomark _)) (pss_one (ps_ret pe_bl)) pss_nil)
      (pss_cons (ps_for PassesOwn.never rfl (pi_range2 rfl B.range (pa_cons (pe_nat 2) (pa_cons (pe_op nb_shl (pe_nat 1) (pe_op nb_add (pe_op nb_fdiv (pv 1) (pe_nat 2)) (pe_nat 1))) pa_nil))) (pg_name (i := 2) sc__law_irreducible.nd rfl (Or.inl rfl) (Or.inr rfl))
        (pss_one (ps_if (pt_cmpR op_eq (pe_ix ix_tup (pe_call G__law_divided (hr.mono (by decide)) rfl D__law_divided.g D__law_divided.F.kp D__law_divided.b .nil pass0 (pa_cons (pv 0) (pa_cons (pv 2) pa_nil))) (pe_nat 1) (fun _ _ => rfl)) (pe_nat 0) (nomark _)) (pss_one (ps_ret pe_bl)) pss_nil)))
      (pss_one (ps_ret pe_bl))))), ?_⟩
    have hb32 : NB.bits p ≤ 32 := bits_le.mpr hp
    refine ⟨_, rfl, p, rfl, by omega, _, rfl, _, _, rfl, rfl, _, rfl, iteD (fun c => ?_) (fun c => ?_)⟩
    · have c' : (NB.bits p : Int) - 1 < 1 := c
      have hp1 : p < 2 ^ 1 := bits_le.mp (by omega)
      exact k false H ⟨(fun z => nomatch z), fun z => by have := z.1; omega⟩ (Same.refl H)
    · have c' : ¬ (NB.bits p : Int) - 1 < 1 := c
      have h2 : 2 ≤ p := by
        apply Classical.byContradiction
        intro n
        have : NB.bits p ≤ 1 := bits_le.mpr (by omega)
        omega
      have hp0 : p ≠ 0 := by omega
      have hbp := bits_pos hp0
      have hlt := GF.log_pos h2
      rw [show ((NB.bits p : Nat) - 1 : Int) = ((p.log2 : Nat) : Int) by omega]
      have hpw : (2 : Nat) ^ (p.log2 / 2 + 1) ≤ 2 ^ 32 := Nat.pow_le_pow_right (by decide) (by omega)
      have hpw2 : (2 : Nat) ≤ 2 ^ (p.log2 / 2 + 1) := Nat.le_trans (by decide) (Nat.pow_le_pow_right (by decide) (show 1 ≤ p.log2 / 2 + 1 by omega))
      refine ⟨_, rfl, _, _, rfl, rfl, ⟨by decide, by decide⟩, _, _, rfl, rfl, _, _, rfl, rfl, ⟨by decide, by omega⟩, _, _, rfl, ⟨by decide, by decide, by omega, by omega⟩, ?_⟩
      rw [Nat.mul_one, show (((2 ^ (p.log2 / 2 + 1) : Nat) : Int) - ((2 : Nat) : Int)).toNat = 2 ^ (p.log2 / 2 + 1) - 2 by omega]
      refine for_rangeN (lo := 2) (n := 2 ^ (p.log2 / 2 + 1) - 2) (fun i σ H' => ∃ v, σ = [some (.int p), some (.int ((p.log2 : Nat) : Int)), v] ∧ Same H H' ∧ ∀ q, 2 ≤ q → q < 2 + i → ¬ GF.Dvd q p) ⟨none, rfl, Same.refl H, fun q h1 h2 => by omega⟩ ?_ ?_
      · rintro i σ H' hi ⟨v, rfl, sm, hd⟩
        have hq0 : 2 + i ≠ 0 := by omega
        refine ⟨_, rfl, _, rfl, p, 2 + i, rfl, by omega, by omega, hq0, fun t ht => ⟨t, _, _, _, rfl, rfl, SqT.of upd_same, atI_nat (j := 1) rfl, rfl, _, rfl, iteD (fun d => ?_) (fun d => ?_)⟩⟩
        · have d' : GF.pmod p (2 + i) = 0 := by have := V.int.inj d; omega
          refine k false _ ⟨(fun z => nomatch z), fun z => ?_⟩ (same_new sm ht)
          exfalso
          refine z.2 (2 + i) (by omega) ?_ ((GF.dvd_mod hq0).mpr d')
          have : (2 + i).log2 < p.log2 / 2 + 1 := (Nat.log2_lt hq0).mpr (by omega)
          omega
        · have d' : GF.pmod p (2 + i) ≠ 0 := fun z => d (by rw [z])
          refine ⟨some (.int ((2 + i : Nat) : Int)), rfl, same_new sm ht, fun q g1 g2 => ?_⟩
          by_cases e : q = 2 + i
          · subst e; exact fun z => d' ((GF.dvd_mod hq0).mp z)
          · exact hd q g1 (by omega)
      · rintro σ H' ⟨v, rfl, sm, hd⟩
        refine k true H' ⟨fun _ => ⟨h2, fun q g1 g2 => hd q g1 ?_⟩, fun _ => rfl⟩ sm
        have : q < 2 ^ (p.log2 / 2 + 1) := (Nat.log2_lt (by omega)).mp (by omega)
        omega
end
end K00
namespace K00
open PySem PySem.Spec L2 NB ER
section
variable {P : Program} {w : World} {K : PySem.W.Frag} {mg : Str → Option Value} {base : Heap}
def sp_drawn (K : PySem.W.Frag) : Sp := fun vs H Q _ => ∃ (l : Addr) (xs : List Nat) (at_ : Nat), vs = [.ref l, .int (at_ : Int)] ∧ SqL K H l (NL xs) ∧ (∀ x ∈ xs, x < 65536) ∧ at_ + 2 < xs.length ∧
  ∀ (v : Nat) H', v < 2 ^ 32 → Same H H' → Q (.int (v : Int)) H'
theorem ok__law_drawn {f : Addr} {fd : FuncData} (D : Df K mg "_law_drawn" ["numbers", "at"] s__law_drawn f fd) (B : Bl mg) : FnOk P w K mg base CX0 1 f fd ["numbers", "at"] (sp_drawn K) := by
  refine D.F.ok sc__law_drawn (fun vs H Q E h => ?_) (fun cdv A outer s H vs Q E hr h => ?_)
  · obtain ⟨l, xs, at_, rfl, _⟩ := h; rfl
  · obtain ⟨l, xs, at_, rfl, hS, hx, hl, k⟩ := h
    refine ⟨_, (pss_cons (ps_set (i := 2) sc__law_drawn.nd rfl (Or.inl rfl) (pe_ix ix_list (pe_lst (pa_cons (pe_nat 4) (pa_cons (pe_nat 9) (pa_cons (pe_nat 17) (pa_cons (pe_nat 32) pa_nil))))) (pe_op nb_mod (pe_callTy call_int1 (by rfl) B.int (by decide +kernel) (pa_cons (pe_ix ix_list (pv 0) (pv 1) (fun _ _ => rfl)) pa_nil)) (pe_nat 4)) (fun _ _ => rfl)))
      (pss_one (ps_ret (pe_op nb_mod (pe_callTy call_int1 (by rfl) B.int (by decide +kernel) (pa_cons (pe_op nb_add (pe_ix ix_list (pv 0) (pe_op nb_add (pv 1) (pe_nat 1)) (fun _ _ => rfl)) (pe_op nb_mul (pe_nat 65536) (pe_ix ix_list (pv 0) (pe_op nb_add (pv 1) (pe_nat 2)) (fun _ _ => rfl)))) pa_nil)) (pe_op nb_shl (pe_nat 1) (pv 2)))))), ?_⟩
    obtain ⟨x, hx0⟩ : ∃ x, xs[at_]? = some x := ⟨_, List.getElem?_eq_getElem (by omega)⟩
    obtain ⟨y, hy⟩ : ∃ x, xs[at_ + 1]? = some x := ⟨_, List.getElem?_eq_getElem (by omega)⟩
    obtain ⟨z, hz⟩ : ∃ x, xs[at_ + 2]? = some x := ⟨_, List.getElem?_eq_getElem (by omega)⟩
    have hx4 : x % 4 < 4 := Nat.mod_lt _ (by decide)
    obtain ⟨sz, hsz⟩ : ∃ sz, ([4, 9, 17, 32] : List Nat)[x % 4]? = some sz := ⟨_, List.getElem?_eq_getElem (by simpa using hx4)⟩
    have hszm := List.mem_of_getElem? hsz
    have hsz32 : sz ≤ 32 := by simp at hszm; omega
    refine ⟨(by show 4 ≤ sizeLine; decide), fun p np => ?_⟩
    have sm := same_upd (o := HO.lst (NL [4, 9, 17, 32])) np
    have hS1 : SqL K (upd H p (.lst (NL [4, 9, 17, 32]))) l (NL xs) := sm.seq hS
    have hp1 : SqL K (upd H p (.lst (NL [4, 9, 17, 32]))) p (NL [4, 9, 17, 32]) := SqL.of upd_same
    refine ⟨_, rfl, _, rfl, l, _, _, _, rfl, rfl, hS1, NL_at0 hx0, .inl ⟨_, rfl, _, _, rfl, rfl, Nat.succ_pos _, p, _, _, _, rfl, rfl, hp1, NL_at0 hsz, ?_⟩⟩
    refine ⟨_, rfl, _, rfl, _, _, rfl, rfl, l, _, _, _, rfl, rfl, hS1, NL_at0 hy, _, rfl, _, rfl, _, _, rfl, rfl, l, _, _, _, rfl, rfl, hS1, NL_at0 hz, _, _, rfl, rfl, .inl (by decide), _, _, rfl, rfl, .inl ⟨_, rfl, _, rfl, _, _, rfl, rfl, ⟨by decide, by omega⟩, _, _, rfl, rfl, ?_, ?_⟩⟩
    · show 0 < 2 ^ sz * 1
      have := Nat.two_pow_pos sz; omega
    · refine k _ _ ?_ sm
      show (y + 65536 * z) % (2 ^ sz * 1) < 2 ^ 32
      have h1 := Nat.mod_lt (y + 65536 * z) (show 0 < 2 ^ sz * 1 by have := Nat.two_pow_pos sz; omega)
      have h2 : (2 : Nat) ^ sz ≤ 2 ^ 32 := Nat.pow_le_pow_right (by decide) hsz32
      omega
theorem kit_self {K : PySem.W.Frag} {D : Addr} : PySem.W.kitOne K (.ref D) (.ref D) = some true := by unfold PySem.W.kitOne; rw [if_pos (by simp)]
theorem eqv_tt (a b : Int) : PyData.eqv (.tuple [.int a, .int b]) (.tuple [.int a, .int b]) = true := by simp [PyData.eqv, PyData.eqvAll]
def sp_pair : Sp := fun vs H Q _ => ∃ p q : Nat, vs = [.int p, .int q] ∧ p < 2 ^ 32 ∧ q < 2 ^ 32 ∧ ∀ H', Same H H' → Q (.bl true) H'
theorem ok__law_pair {f f_times f_degree f_common f_divide f__law_times f__law_degree f__law_common f__law_divided f_init C_NoDivisor C_HaulError : Addr} {fd fd_times fd_degree fd_common fd_divide fd__law_times fd__law_degree fd__law_common fd__law_divided : FuncData}
    (D : Df K mg "_law_pair" ["p", "q"] s__law_pair f fd) (B : Bl mg)
    (D_times : Df K mg "times" ["p", "q"] s_times f_times fd_times) (G_times : FnOk P w K mg base CX0 1 f_times fd_times ["p", "q"] sp_times)
    (D_degree : Df K mg "degree" ["p"] s_degree f_degree fd_degree) (G_degree : FnOk P w K mg base CX0 1 f_degree fd_degree ["p"] sp_degree)
    (D_common : Df K mg "common" ["p", "q"] s_common f_common fd_common) (G_common : FnOk P w K mg base CX0 4 f_common fd_common ["p", "q"] sp_common)
    (D_divide : Df K mg "divide" ["p", "q"] s_divide f_divide fd_divide) (G_divide : FnOk P w K mg base (L2.CX P w) 3 f_divide fd_divide ["p", "q"] (sp_divide C_NoDivisor))
    (D__law_times : Df K mg "_law_times" ["p", "q"] s__law_times f__law_times fd__law_times) (G__law_times : FnOk P w K mg base CX0 1 f__law_times fd__law_times ["p", "q"] sp_ltimes)
    (D__law_degree : Df K mg "_law_degree" ["p"] s__law_degree f__law_degree fd__law_degree) (G__law_degree : FnOk P w K mg base CX0 1 f__law_degree fd__law_degree ["p"] sp_ldegree)
    (D__law_common : Df K mg "_law_common" ["p", "q"] s__law_common f__law_common fd__law_common) (G__law_common : FnOk P w K mg base CX0 3 f__law_common fd__law_common ["p", "q"] sp_lcommon)
    (D__law_divided : Df K mg "_law_divided" ["p", "q"] s__law_divided f__law_divided fd__law_divided) (G__law_divided : FnOk P w K mg base CX0 2 f__law_divided fd__law_divided ["p", "q"] sp_ldivided)
    (X_NoDivisor : XC K mg "NoDivisor" C_NoDivisor f_init C_HaulError) (X_HaulError : XC K mg "HaulError" C_HaulError f_init C_HaulError) : FnOk P w K mg base CX0 5 f fd ["p", "q"] sp_pair := by
  refine D.F.ok sc__law_pair (fun vs H Q E h => ?_) (fun cdv A outer s H vs Q E hr h => ?_)
  · obtain ⟨p, q, rfl, _⟩ := h; rfl
  · obtain ⟨p, q, rfl, hp, hq, k⟩ := h
    refine ⟨_, (pss_cons (ps_if (PW.pt (pw_or (pt_cmpR op_ne (pe_call G_times (hr.mono (by decide)) rfl D_times.g D_times.F.kp D_times.b .nil pass0 (pa_cons (pv 0) (pa_cons (pv 1) pa_nil))) (pe_call G__law_times (hr.mono (by decide)) rfl D__law_times.g D__law_times.F.kp D__law_times.b .nil pass0 (pa_cons (pv 0) (pa_cons (pv 1) pa_nil))) (nomark _)) (pw_or (pt_cmpR op_ne (pe_call G_degree (hr.mono (by decide)) rfl D_degree.g D_degree.F.kp D_degree.b .nil pass0 (pa_cons (pv 0) pa_nil)) (pe_call G__law_degree (hr.mono (by decide)) rfl D__law_degree.g D__law_degree.F.kp D__law_degree.b .nil pass0 (pa_cons (pv 0) pa_nil)) (nomark _)) (pw_or1 (pt_cmpR op_ne (pe_call G_common (hr.mono (by decide)) rfl D_common.g D_common.F.kp D_common.b .nil pass0 (pa_cons (pv 0) (pa_cons (pv 1) pa_nil))) (pe_call G__law_common (hr.mono (by decide)) rfl D__law_common.g D__law_common.F.kp D__law_common.b .nil pass0 (pa_cons (pv 0) (pa_cons (pv 1) pa_nil))) (nomark _)))))) (pss_one (ps_ret pe_bl)) pss_nil)
      (pss_cons (ps_if (pt_cmpR op_gt (pv 1) (pe_nat 0) (nomark _)) (pss_one (ps_ret (pe_cmpR (op_eqD hr.units) (pe_call G_divide (hr.mono (by decide)) rfl D_divide.g D_divide.F.kp D_divide.b .nil passL (pa_cons (pv 0) (pa_cons (pv 1) pa_nil))) (pe_call G__law_divided (hr.mono (by decide)) rfl D__law_divided.g D__law_divided.F.kp D__law_divided.b .nil pass0 (pa_cons (pv 0) (pa_cons (pv 1) pa_nil))) (nomark _)))) pss_nil)
      (C8.pss_cut (ps_tryE (i := 2) rfl rfl sc__law_pair.nd rfl rfl ⟨rfl, by decide, Or.inl X_HaulError.g⟩ takes0 (fun W pn xe tk po => (pss_one (ps_expr (pe_callS G_divide (hr.mono (by decide)) rfl D_divide.g D_divide.F.kp D_divide.b (fun σ => passAt tk σ) (by exact (pa_cons (pv 0) (pa_cons (pv 1) pa_nil))))))) (fun a oe cls d pn hz hf => (pss_one (ps_ret (pe_and (pe_callB (call_isE hz hf) (by rfl) B.isinstance (by decide +kernel) (pa_cons (pv 2) (pa_cons (pe_glob (v := .ref C_NoDivisor) rfl X_NoDivisor.g rfl) pa_nil))) (pe_one (pe_cmpR op_eq (pe_at hz hf (pv 2)) (pe_nat 0) (nomark _))))))))
      (pss_one (ps_ret pe_bl))))), ?_⟩
    refine ⟨_, rfl, _, rfl, p, q, rfl, by omega, by omega, _, rfl, _, rfl, p, q, rfl, by omega, by omega, rfl, _, rfl, iteNS rfl ?_⟩
    refine ⟨_, rfl, p, rfl, _, rfl, p, rfl, by omega, rfl, _, rfl, iteNS rfl ?_⟩
    refine ⟨_, rfl, _, rfl, p, q, rfl, by omega, by omega, fun H1 s1 => ⟨_, rfl, _, rfl, p, q, rfl, by omega, by omega, fun H2 s2 => ⟨rfl, _, rfl, iteNS rfl ?_⟩⟩⟩
    have sm := s1.trans s2
    refine ⟨_, rfl, _, _, rfl, rfl, _, rfl, iteD (fun c => ?_) (fun c => ?_)⟩
    · have c' : (0 : Int) < (q : Int) := c
      have q0 : q ≠ 0 := by omega
      refine ⟨_, rfl, _, rfl, p, q, rfl, by omega, by omega, fun z => absurd z q0, fun _ a ha => ⟨_, rfl, _, rfl, p, q, rfl, by omega, by omega, q0, fun b hb => ?_⟩⟩
      refine ⟨.tuple [.int _, .int _], .tuple [.int _, .int _], .tup (SqT.of (by rw [upd_ne (ne_of_none upd_same hb)]; exact upd_same)) (.cons (.int _) (.cons (.int _) .nil)), .tup (SqT.of upd_same) (.cons (.int _) (.cons (.int _) .nil)), rfl, rfl, ?_⟩
      rw [eqv_tt]
      exact k _ (same_new (same_new sm ha) hb)
    · have c' : ¬ (0 : Int) < (q : Int) := c
      have q0 : q = 0 := by omega
      refine ⟨fun _ _ => False, ?_, fun _ _ z => z.elim⟩
      refine ⟨_, rfl, _, rfl, p, q, rfl, by omega, by omega, fun _ d hd => ?_, fun z => absurd q0 z⟩
      refine ⟨true, X_NoDivisor.te, fun _ a na => ?_, (fun z => nomatch z)⟩
      refine ⟨_, rfl, C_NoDivisor, .ref C_NoDivisor, .ref C_NoDivisor, true, d, _, rfl, rfl, ⟨_, _, _, _, X_NoDivisor⟩, rfl, upd_same, fun u r => r, kit_self, true, rfl, iteT ?_⟩
      refine ⟨_, rfl, C_NoDivisor, d, _, rfl, rfl, ⟨_, _, _, _, X_NoDivisor⟩, rfl, upd_same, rfl, ?_⟩
      exact k _ (same_new sm hd)
def sp_lleast : Sp := fun vs H Q _ => ∃ m : Int, vs = [.int m] ∧ -2 ≤ m ∧ m ≤ 100 ∧ ∀ H', Same H H' → Q (.bl true) H'
theorem log_small {m : Int} (h1 : -2 ≤ m) (h2 : m ≤ 100) : m.natAbs.log2 < 1920 := by
  by_cases h : m.natAbs = 0
  · rw [h]; decide
  · exact Nat.lt_of_lt_of_le ((Nat.log2_lt (k := 7) h).mpr (by omega)) (by decide)
theorem ok__law_least {f f_least_irreducible f__law_irreducible f_init C_OutOfRange C_HaulError : Addr} {fd fd_least_irreducible fd__law_irreducible : FuncData}
    (D : Df K mg "_law_least" ["size"] s__law_least f fd) (B : Bl mg)
    (D_least_irreducible : Df K mg "least_irreducible" ["m"] s_least_irreducible f_least_irreducible fd_least_irreducible) (G_least_irreducible : FnOk P w K mg base (L2.CX P w) 6 f_least_irreducible fd_least_irreducible ["m"] (sp_least C_OutOfRange))
    (D__law_irreducible : Df K mg "_law_irreducible" ["p"] s__law_irreducible f__law_irreducible fd__law_irreducible) (G__law_irreducible : FnOk P w K mg base CX0 3 f__law_irreducible fd__law_irreducible ["p"] sp_lirr)
    (X_OutOfRange : XC K mg "OutOfRange" C_OutOfRange f_init C_HaulError) (X_HaulError : XC K mg "HaulError" C_HaulError f_init C_HaulError) : FnOk P w K mg base CX0 7 f fd ["size"] sp_lleast := by
  refine D.F.ok sc__law_least (fun vs H Q E h => ?_) (fun cdv A outer s H vs Q E hr h => ?_)
  · obtain ⟨m, rfl, _⟩ := h; rfl
  · obtain ⟨m, rfl, hm1, hm2, k⟩ := h
    refine ⟨_, (C8.pss_cut (ps_tryE (i := 2) rfl rfl sc__law_least.nd rfl rfl ⟨rfl, by decide, Or.inl X_HaulError.g⟩ takes0 (fun W pn xe tk po => (pss_one (ps_set (i := 1) sc__law_least.nd rfl (Or.inl rfl) (pe_callS G_least_irreducible (hr.mono (by decide)) rfl D_least_irreducible.g D_least_irreducible.F.kp D_least_irreducible.b (fun σ => passAt tk σ) (by exact (pa_cons (pv 0) pa_nil)))))) (fun a oe cls d pn hz hf => (pss_one (ps_ret (pe_and (pe_not (pe_chain op_le op_le (pe_nat 1) (pv 0) (pe_nat 16))) (pe_and (pe_callB (call_isE hz hf) (by rfl) B.isinstance (by decide +kernel) (pa_cons (pv 2) (pa_cons (pe_glob (v := .ref C_OutOfRange) rfl X_OutOfRange.g rfl) pa_nil))) (pe_one (pe_cmpR op_eq (pe_at hz hf (pv 2)) (pv 0) (nomark _)))))))))
      (pss_cons (ps_if (PW.pt (pw_or (pt_not (pt_chain op_le op_le (pe_nat 1) (pv 0) (pe_nat 16))) (pw_or1 (pt_cmpR op_ge (pv 1) (pe_op nb_shl (pe_nat 2) (pv 0)) (nomark _))))) (pss_one (ps_ret pe_bl)) pss_nil)
      (pss_cons (ps_for PassesOwn.never rfl (pi_range2 rfl B.range (pa_cons (pe_op nb_shl (pe_nat 1) (pv 0)) (pa_cons (pe_op nb_add (pv 1) (pe_nat 1)) pa_nil))) (pg_name (i := 3) sc__law_least.nd rfl (Or.inl rfl) (Or.inr rfl))
        (pss_one (ps_if (pt_val (pe_call G__law_irreducible (hr.mono (by decide)) rfl D__law_irreducible.g D__law_irreducible.F.kp D__law_irreducible.b .nil pass0 (pa_cons (pv 3) pa_nil))) (pss_one (ps_ret (pe_cmpR op_eq (pv 3) (pv 1) (nomark _)))) pss_nil)))
      (pss_one (ps_ret pe_bl))))), ?_⟩
    refine ⟨fun σ H' => ∃ (n p : Nat) (v2 v3 : Option V), σ = [some (.int m), some (.int (p : Int)), v2, v3] ∧ m = (n : Int) ∧ 1 ≤ n ∧ n ≤ 16 ∧ GF.Irr p ∧ 2 ^ n ≤ p ∧ p < 2 ^ (n + 1) ∧ (∀ q, 2 ^ n ≤ q → q < p → ¬ GF.Irr q) ∧ Same H H', ?_, ?_⟩
    · refine ⟨_, rfl, m, rfl, log_small hm1 hm2, fun hb d hd => ?_, fun n e n1 n2 p H' i1 i2 i3 i4 sm => ?_⟩
      · refine ⟨true, X_OutOfRange.te, fun _ a na => ?_, (fun z => nomatch z)⟩
        refine ⟨_, rfl, _, _, rfl, rfl, _, rfl, iteD (fun c1 => ⟨_, _, rfl, rfl, _, rfl, _, rfl, iteN (fun c2 => ?_) (fun c2 => ?_)⟩) (fun c1 => ⟨_, rfl, _, rfl, iteT ?_⟩)⟩
        · refine ⟨_, rfl, C_OutOfRange, .ref C_OutOfRange, .ref C_OutOfRange, true, d, _, rfl, rfl, ⟨_, _, _, _, X_OutOfRange⟩, rfl, upd_same, fun u r => r, kit_self, true, rfl, iteT ?_⟩
          refine ⟨_, rfl, C_OutOfRange, d, _, rfl, rfl, ⟨_, _, _, _, X_OutOfRange⟩, rfl, upd_same, _, rfl, rfl, ?_⟩
          rw [decide_eq_true rfl]
          exact k _ (same_upd hd)
        · have h1 : (1 : Int) ≤ m := c1
          have h2 : m ≤ 16 := c2
          exact absurd ⟨h1, h2⟩ hb
        · refine ⟨_, rfl, C_OutOfRange, .ref C_OutOfRange, .ref C_OutOfRange, true, d, _, rfl, rfl, ⟨_, _, _, _, X_OutOfRange⟩, rfl, upd_same, fun u r => r, kit_self, true, rfl, iteT ?_⟩
          refine ⟨_, rfl, C_OutOfRange, d, _, rfl, rfl, ⟨_, _, _, _, X_OutOfRange⟩, rfl, upd_same, _, rfl, rfl, ?_⟩
          rw [decide_eq_true rfl]
          exact k _ (same_upd hd)
      · exact ⟨n, p, none, none, rfl, e, n1, n2, i1, i2, i3, i4, sm⟩
    · rintro σ H' ⟨n, p, v2, v3, rfl, rfl, n1, n2, i1, i2, i3, i4, sm⟩
      have hle : (2 : Nat) ^ (n + 1) ≤ 131072 := Nat.le_trans (Nat.pow_le_pow_right (by decide) (show n + 1 ≤ 17 by omega)) (by decide)
      have hpp := Nat.pow_succ 2 n
      refine ⟨_, rfl, _, _, rfl, rfl, _, rfl, iteY (by omega) ⟨_, _, rfl, rfl, _, rfl, iteNS (by omega) ?_⟩⟩
      refine ⟨_, rfl, _, rfl, _, _, rfl, rfl, ⟨by decide, by omega⟩, _, _, rfl, rfl, _, rfl, iteX (by omega) ?_⟩
      refine ⟨_, rfl, _, _, rfl, rfl, ⟨by decide, by omega⟩, _, rfl, _, _, rfl, rfl, _, _, rfl, ⟨by omega, by omega, by omega, by omega⟩, ?_⟩
      rw [show (((p + 1 : Nat) : Int) - ((2 ^ n * 1 : Nat) : Int)).toNat = p + 1 - 2 ^ n by omega]
      refine for_rangeN (lo := 2 ^ n * 1) (n := p + 1 - 2 ^ n) (fun i σ H' => ∃ v : Option V, σ = [some (.int (n : Int)), some (.int (p : Int)), v2, v] ∧ Same H H' ∧ ∀ q, 2 ^ n ≤ q → q < 2 ^ n + i → ¬ GF.Irr q) ⟨v3, rfl, sm, fun q h1 h2 => by omega⟩ ?_ ?_
      · rintro i σ H1 hi ⟨v, rfl, sm1, hn⟩
        rw [Nat.mul_one]
        refine ⟨_, rfl, 2 ^ n + i, rfl, by omega, fun b H2 hb s2 => ⟨b, rfl, ?_⟩⟩
        cases b with
        | true =>
          refine iteT ?_
          have hi2 := hb.mp rfl
          have e : 2 ^ n + i = p := by
            rcases Nat.lt_or_ge (2 ^ n + i) p with l | g
            · exact absurd hi2 (i4 _ (by omega) l)
            · omega
          refine ⟨_, rfl, _, rfl, rfl, ?_⟩
          rw [e, decide_eq_true rfl]
          exact k _ (sm1.trans s2)
        | false =>
          refine iteF ?_
          refine ⟨some (.int ((2 ^ n + i : Nat) : Int)), rfl, sm1.trans s2, fun q g1 g2 => ?_⟩
          by_cases e : q = 2 ^ n + i
          · subst e; exact fun z => nomatch hb.mpr z
          · exact hn q g1 (by omega)
      · rintro σ H1 ⟨v, rfl, sm1, hn⟩
        exact absurd i1 (hn p i2 (by omega))
end
end K00
namespace K00
open PySem PySem.Spec L2 NB ER
section
variable {P : Program} {w : World} {K : PySem.W.Frag} {mg : Str → Option Value} {base : Heap}
def sp_law (K : PySem.W.Frag) : Sp := fun vs H Q _ => ∃ (a : Addr) (ns : List Int), vs = [.ref a] ∧ SqL K H a (ns.map V.int) ∧ ns.length ≤ 63 ∧ ∀ H', Q (.bl true) H'
theorem ok_law {f f__law_numbers f__law_drawn f__law_times f__law_pair f_is_irreducible f__law_irreducible f__law_least : Addr} {fd fd__law_numbers fd__law_drawn fd__law_times fd__law_pair fd_is_irreducible fd__law_irreducible fd__law_least : FuncData}
    (D : Df K mg "law" ["script"] s_law f fd) (B : Bl mg)
    (D__law_numbers : Df K mg "_law_numbers" ["script", "many"] s__law_numbers f__law_numbers fd__law_numbers) (G__law_numbers : FnOk P w K mg base CX0 1 f__law_numbers fd__law_numbers ["script", "many"] (sp_numbers K))
    (D__law_drawn : Df K mg "_law_drawn" ["numbers", "at"] s__law_drawn f__law_drawn fd__law_drawn) (G__law_drawn : FnOk P w K mg base CX0 1 f__law_drawn fd__law_drawn ["numbers", "at"] (sp_drawn K))
    (D__law_times : Df K mg "_law_times" ["p", "q"] s__law_times f__law_times fd__law_times) (G__law_times : FnOk P w K mg base CX0 1 f__law_times fd__law_times ["p", "q"] sp_ltimes)
    (D__law_pair : Df K mg "_law_pair" ["p", "q"] s__law_pair f__law_pair fd__law_pair) (G__law_pair : FnOk P w K mg base CX0 5 f__law_pair fd__law_pair ["p", "q"] sp_pair)
    (D_is_irreducible : Df K mg "is_irreducible" ["p"] s_is_irreducible f_is_irreducible fd_is_irreducible) (G_is_irreducible : FnOk P w K mg base CX0 5 f_is_irreducible fd_is_irreducible ["p"] sp_irr)
    (D__law_irreducible : Df K mg "_law_irreducible" ["p"] s__law_irreducible f__law_irreducible fd__law_irreducible) (G__law_irreducible : FnOk P w K mg base CX0 3 f__law_irreducible fd__law_irreducible ["p"] sp_lirr)
    (D__law_least : Df K mg "_law_least" ["size"] s__law_least f__law_least fd__law_least) (G__law_least : FnOk P w K mg base CX0 7 f__law_least fd__law_least ["size"] sp_lleast) : FnOk P w K mg base CX0 8 f fd ["script"] (sp_law K) := by
  refine D.F.ok sc_law (fun vs H Q E h => ?_) (fun cdv A outer s H vs Q E hr h => ?_)
  · obtain ⟨a, ns, rfl, _⟩ := h; rfl
  · obtain ⟨a, ns, rfl, hS, hl, k⟩ := h
    refine ⟨_, (pss_cons (ps_set (i := 1) sc_law.nd rfl (Or.inl rfl) (pe_call G__law_numbers (hr.mono (by decide)) rfl D__law_numbers.g D__law_numbers.F.kp D__law_numbers.b .nil pass0 (pa_cons (pv 0) (pa_cons (pe_nat 60) pa_nil))))
      (pss_cons (ps_for PassesOwn.never rfl (pi_range1 rfl B.range (pa_cons (pe_nat 4) pa_nil)) (pg_name (i := 2) sc_law.nd rfl (Or.inl rfl) (Or.inr rfl))
        (pss_cons (ps_set (i := 3) sc_law.nd rfl (Or.inl rfl) (pe_op nb_add (pe_nat 3) (pe_op nb_mul (pe_nat 9) (pv 2))))
        (pss_cons (ps_set (i := 4) sc_law.nd rfl (Or.inl rfl) (pe_call G__law_drawn (hr.mono (by decide)) rfl D__law_drawn.g D__law_drawn.F.kp D__law_drawn.b .nil pass0 (pa_cons (pv 1) (pa_cons (pv 3) pa_nil))))
        (pss_cons (ps_set (i := 5) sc_law.nd rfl (Or.inl rfl) (pe_call G__law_drawn (hr.mono (by decide)) rfl D__law_drawn.g D__law_drawn.F.kp D__law_drawn.b .nil pass0 (pa_cons (pv 1) (pa_cons (pe_op nb_add (pv 3) (pe_nat 3)) pa_nil))))
        (C8.pss_cut (ps_if (pt_cmpR op_eq (pe_op nb_mod (pe_callTy call_int1 (by rfl) B.int (by decide +kernel) (pa_cons (pe_ix ix_list (pv 1) (pe_op nb_add (pv 3) (pe_nat 6)) (fun _ _ => rfl)) pa_nil)) (pe_nat 3)) (pe_nat 0) (nomark _)) (pss_cons (ps_set (i := 6) sc_law.nd rfl (Or.inl rfl) (pe_op nb_mod (pe_call G__law_drawn (hr.mono (by decide)) rfl D__law_drawn.g D__law_drawn.F.kp D__law_drawn.b .nil pass0 (pa_cons (pv 1) (pa_cons (pe_op nb_add (pv 3) (pe_nat 6)) pa_nil))) (pe_nat 256)))
          (pss_cons (ps_set (i := 4) sc_law.nd rfl (Or.inl rfl) (pe_call G__law_times (hr.mono (by decide)) rfl D__law_times.g D__law_times.F.kp D__law_times.b .nil pass0 (pa_cons (pe_op nb_mod (pv 4) (pe_nat 4096)) (pa_cons (pv 6) pa_nil))))
          (pss_one (ps_set (i := 5) sc_law.nd rfl (Or.inl rfl) (pe_call G__law_times (hr.mono (by decide)) rfl D__law_times.g D__law_times.F.kp D__law_times.b .nil pass0 (pa_cons (pe_op nb_mod (pv 5) (pe_nat 4096)) (pa_cons (pv 6) pa_nil))))))) pss_nil)
        (pss_cons (ps_if (PW.pt (pw_or (pt_not (pt_val (pe_call G__law_pair (hr.mono (by decide)) rfl D__law_pair.g D__law_pair.F.kp D__law_pair.b .nil pass0 (pa_cons (pv 4) (pa_cons (pv 5) pa_nil))))) (pw_or1 (pt_not (pt_val (pe_call G__law_pair (hr.mono (by decide)) rfl D__law_pair.g D__law_pair.F.kp D__law_pair.b .nil pass0 (pa_cons (pv 5) (pa_cons (pv 4) pa_nil)))))))) (pss_one (ps_ret pe_bl)) pss_nil)
        (pss_cons (ps_set (i := 7) sc_law.nd rfl (Or.inl rfl) (pe_op nb_mod (pe_call G__law_drawn (hr.mono (by decide)) rfl D__law_drawn.g D__law_drawn.F.kp D__law_drawn.b .nil pass0 (pa_cons (pv 1) (pa_cons (pe_op nb_add (pv 3) (pe_nat 6)) pa_nil))) (pe_ix ix_list (pe_lst (pa_cons (pe_nat 8192) (pa_cons (pe_nat 131072) pa_nil))) (pe_op nb_mod (pe_callTy call_int1 (by rfl) B.int (by decide +kernel) (pa_cons (pv 2) pa_nil)) (pe_nat 2)) (fun _ _ => rfl))))
        (C8.pss_cut (ps_if (pt_cmpR op_eq (pe_op nb_mod (pe_callTy call_int1 (by rfl) B.int (by decide +kernel) (pa_cons (pe_ix ix_list (pv 1) (pe_op nb_add (pv 3) (pe_nat 8)) (fun _ _ => rfl)) pa_nil)) (pe_nat 2)) (pe_nat 0) (nomark _)) (pss_one (ps_set (i := 7) sc_law.nd rfl (Or.inl rfl) (pe_call G__law_times (hr.mono (by decide)) rfl D__law_times.g D__law_times.F.kp D__law_times.b .nil pass0 (pa_cons (pe_op nb_add (pe_nat 2) (pe_op nb_mod (pv 7) (pe_nat 60))) (pa_cons (pe_op nb_add (pe_nat 2) (pe_op nb_mod (pv 5) (pe_nat 60))) pa_nil))))) pss_nil)
        (pss_one (ps_if (pt_cmpR op_ne (pe_call G_is_irreducible (hr.mono (by decide)) rfl D_is_irreducible.g D_is_irreducible.F.kp D_is_irreducible.b .nil pass0 (pa_cons (pv 7) pa_nil)) (pe_call G__law_irreducible (hr.mono (by decide)) rfl D__law_irreducible.g D__law_irreducible.F.kp D__law_irreducible.b .nil pass0 (pa_cons (pv 7) pa_nil)) (nomark _)) (pss_one (ps_ret pe_bl)) pss_nil))))))))))
      (pss_one (ps_ret (pe_and (pe_call G__law_least (hr.mono (by decide)) rfl D__law_least.g D__law_least.F.kp D__law_least.b .nil pass0 (pa_cons (pe_op op_sub (pe_op nb_mod (pe_callTy call_int1 (by rfl) B.int (by decide +kernel) (pa_cons (pe_ix ix_list (pv 1) (pe_nat 0) (fun _ _ => rfl)) pa_nil)) (pe_nat 22)) (pe_nat 2)) pa_nil)) (pe_and (pe_cmpR op_isBl (pe_call G_is_irreducible (hr.mono (by decide)) rfl D_is_irreducible.g D_is_irreducible.F.kp D_is_irreducible.b .nil pass0 (pa_cons (pe_nat 0) pa_nil)) pe_bl (nomark _)) (pe_one (pe_cmpR op_isBl (pe_call G_is_irreducible (hr.mono (by decide)) rfl D_is_irreducible.g D_is_irreducible.F.kp D_is_irreducible.b .nil pass0 (pa_cons (pe_nat 1) pa_nil)) pe_bl (nomark _))))))))), ?_⟩
    refine ⟨_, rfl, a, ns, 60, rfl, hS, hl, by decide, fun l xs H1 s1 nl hxs hlen hx => ?_⟩
    refine ⟨_, rfl, by omega, by omega, ?_⟩
    refine for_rangeN (lo := 0) (n := 4) (fun i σ H' => ∃ v2 v3 v4 v5 v6 v7 : Option V, σ = [some (.ref a), some (.ref l), v2, v3, v4, v5, v6, v7] ∧ Same H1 H') ⟨none, none, none, none, none, none, rfl, Same.refl _⟩ ?_ ?_
    · rintro i σ H2 hi ⟨v2, v3, v4, v5, v6, v7, rfl, s2⟩
      rw [Nat.zero_add]
      have hL : ∀ {H3 : Hp}, Same H1 H3 → SqL K H3 l (NL xs) := fun e => e.seq (SqL.of hxs)
      obtain ⟨x6, hx6⟩ : ∃ x, xs[3 + 9 * i + 6]? = some x := ⟨_, List.getElem?_eq_getElem (by omega)⟩
      obtain ⟨x8, hx8⟩ : ∃ x, xs[3 + 9 * i + 8]? = some x := ⟨_, List.getElem?_eq_getElem (by omega)⟩
      refine ⟨_, rfl, _, _, rfl, rfl, .inl (by decide), _, _, rfl, rfl, ?_⟩
      refine ⟨_, rfl, _, rfl, l, xs, _, rfl, hL s2, hx, by omega, fun p H3 hp s3 => ?_⟩
      refine ⟨_, rfl, _, rfl, _, _, rfl, rfl, l, xs, _, rfl, hL (s2.trans s3), hx, by omega, fun q H4 hq s4 => ?_⟩
      have sm4 := (s2.trans s3).trans s4
      refine ⟨fun σ H' => ∃ (p q : Nat) (v6 : Option V), σ = [some (.ref a), some (.ref l), some (.int (i : Int)), some (.int ((3 + 9 * i : Nat) : Int)), some (.int (p : Int)), some (.int (q : Int)), v6, v7] ∧ p < 2 ^ 32 ∧ q < 2 ^ 32 ∧ Same H1 H', ?_, ?_⟩
      · refine ⟨_, rfl, _, rfl, _, _, rfl, rfl, l, _, _, _, rfl, rfl, hL sm4, NL_at0 hx6, .inl ⟨_, rfl, _, _, rfl, rfl, Nat.succ_pos _, rfl, _, rfl, iteD (fun c => ?_) (fun c => ?_)⟩⟩
        · refine ⟨_, rfl, _, rfl, _, _, rfl, rfl, l, xs, _, rfl, hL sm4, hx, by omega, fun b H5 hb s5 => ?_⟩
          have hb8 : b % 256 < 2 ^ 8 := Nat.mod_lt _ (by decide)
          have hp12 : p % 4096 < 2 ^ 12 := Nat.mod_lt _ (by decide)
          have hq12 : q % 4096 < 2 ^ 12 := Nat.mod_lt _ (by decide)
          refine ⟨_, _, rfl, rfl, Nat.succ_pos _, _, rfl, _, _, rfl, rfl, Nat.succ_pos _, _, rfl, p % 4096, b % 256, rfl, by omega, by omega, ?_⟩
          refine ⟨_, rfl, _, _, rfl, rfl, Nat.succ_pos _, _, rfl, q % 4096, b % 256, rfl, by omega, by omega, GF.mul (p % 4096) (b % 256), GF.mul (q % 4096) (b % 256), some (.int ((b % 256 : Nat) : Int)), rfl, ?_, ?_, sm4.trans s5⟩
          · exact Nat.lt_trans (mul_lt hp12 hb8) (by decide)
          · exact Nat.lt_trans (mul_lt hq12 hb8) (by decide)
        · exact ⟨p, q, v6, rfl, hp, hq, sm4⟩
      · rintro σ H5 ⟨p, q, v6, rfl, hp, hq, s5⟩
        refine ⟨_, rfl, _, rfl, p, q, rfl, hp, hq, fun H6 s6 => ⟨true, rfl, iteF ?_⟩⟩
        refine ⟨_, rfl, _, rfl, q, p, rfl, hq, hp, fun H7 s7 => ⟨true, rfl, iteF ?_⟩⟩
        have sm7 := (s5.trans s6).trans s7
        refine ⟨_, rfl, _, rfl, _, _, rfl, rfl, l, xs, _, rfl, hL sm7, hx, by omega, fun d H8 hd s8 => ?_⟩
        have sm8 := sm7.trans s8
        have hi2 : i % 2 < 2 := Nat.mod_lt _ (by decide)
        obtain ⟨m, hm⟩ : ∃ m, ([8192, 131072] : List Nat)[i % 2]? = some m := ⟨_, List.getElem?_eq_getElem (by simpa using hi2)⟩
        have hmm := List.mem_of_getElem? hm
        have hm1 : 0 < m ∧ m ≤ 131072 := by simp at hmm; omega
        refine ⟨(by show 2 ≤ sizeLine; decide), fun t nt => ⟨_, rfl, .inl ⟨_, rfl, _, _, rfl, rfl, Nat.succ_pos _, t, NL [8192, 131072], _, _, rfl, rfl, SqL.of upd_same, NL_at0 hm, _, _, rfl, rfl, hm1.1, ?_⟩⟩⟩
        have sm9 := same_new (o := HO.lst (NL [8192, 131072])) sm8 nt
        have hdm : d % m < 131072 := Nat.lt_of_lt_of_le (Nat.mod_lt _ hm1.1) hm1.2
        refine ⟨fun σ H' => ∃ (z : Nat), σ = [some (.ref a), some (.ref l), some (.int (i : Int)), some (.int ((3 + 9 * i : Nat) : Int)), some (.int (p : Int)), some (.int (q : Int)), v6, some (.int (z : Int))] ∧ z < 131072 ∧ Same H1 H', ?_, ?_⟩
        · refine ⟨_, rfl, _, rfl, _, _, rfl, rfl, l, _, _, _, rfl, rfl, hL sm9, NL_at0 hx8, .inl ⟨_, rfl, _, _, rfl, rfl, Nat.succ_pos _, rfl, _, rfl, iteD (fun c => ?_) (fun c => ?_)⟩⟩
          · have h1 : 2 + d % m % 60 < 2 ^ 6 := by have := Nat.mod_lt (d % m) (show 0 < 60 by decide); omega
            have h2 : 2 + q % 60 < 2 ^ 6 := by have := Nat.mod_lt q (show 0 < 60 by decide); omega
            refine ⟨_, rfl, _, _, rfl, rfl, Nat.succ_pos _, _, _, rfl, rfl, _, rfl, _, _, rfl, rfl, Nat.succ_pos _, _, _, rfl, rfl, 2 + d % m % 60, 2 + q % 60, rfl, by omega, by omega, GF.mul (2 + d % m % 60) (2 + q % 60), rfl, ?_, sm9⟩
            exact Nat.lt_trans (mul_lt h1 h2) (by decide)
          · exact ⟨d % m, rfl, hdm, sm9⟩
        · rintro σ H10 ⟨z, rfl, hz, s10⟩
          refine ⟨_, rfl, z, rfl, hz, fun b1 H11 hb1 s11 => ⟨_, rfl, z, rfl, by omega, fun b2 H12 hb2 s12 => ?_⟩⟩
          have e : b1 = b2 := Bool.eq_iff_iff.mpr (hb1.trans hb2.symm)
          subst e
          refine ⟨rfl, _, rfl, iteNS rfl ?_⟩
          exact ⟨_, _, _, _, _, _, rfl, (s10.trans s11).trans s12⟩
    · rintro σ H2 ⟨v2, v3, v4, v5, v6, v7, rfl, s2⟩
      have hL : SqL K H2 l (NL xs) := s2.seq (SqL.of hxs)
      obtain ⟨x0, hx0⟩ : ∃ x, xs[0]? = some x := ⟨_, List.getElem?_eq_getElem (by omega)⟩
      have hxm := Nat.mod_lt x0 (show 0 < 22 by decide)
      refine ⟨_, rfl, l, _, _, _, rfl, rfl, hL, NL_at0 hx0, .inl ⟨_, rfl, _, _, rfl, rfl, Nat.succ_pos _, _, _, rfl, rfl, _, rfl, by omega, by omega, fun H3 s3 => ⟨true, rfl, iteT ?_⟩⟩⟩
      refine ⟨0, rfl, by decide, fun b H4 hb s4 => ⟨b, false, rfl, rfl, _, rfl, ?_⟩⟩
      have b0 : b = false := by
        cases b with
        | false => rfl
        | true => exact absurd (hb.mp rfl).1 (by decide)
      subst b0
      refine iteT ?_
      refine ⟨1, rfl, by decide, fun b H5 hb s5 => ⟨b, false, rfl, rfl, ?_⟩⟩
      have b0 : b = false := by
        cases b with
        | false => rfl
        | true => exact absurd (hb.mp rfl).1 (by decide)
      subst b0
      exact k H5
end
end K00
namespace K00
open PySem PySem.Spec L2 NB ER
theorem all_mk {l : PySem.W.OpenLaw} {w : World} {K : PySem.W.Frag} {h : Heap} {mg : Str → Option Value} {fa : Addr} (X : K.In h) (G : h.Ns mainGlobals mg) (hfa : mg "law" = some (.ref fa))
    {f_degree : Addr} {od_degree an_degree : Option Addr} {sl_degree : Array (Option Value)} {oc_degree kV_degree dc_degree pm_degree cd_degree ct_degree : Value}
    {f_times : Addr} {od_times an_times : Option Addr} {sl_times : Array (Option Value)} {oc_times kV_times dc_times pm_times cd_times ct_times : Value}
    {f_divide : Addr} {od_divide an_divide : Option Addr} {sl_divide : Array (Option Value)} {oc_divide kV_divide dc_divide pm_divide cd_divide ct_divide : Value}
    {f_common : Addr} {od_common an_common : Option Addr} {sl_common : Array (Option Value)} {oc_common kV_common dc_common pm_common cd_common ct_common : Value}
    {f_product_rest : Addr} {od_product_rest an_product_rest : Option Addr} {sl_product_rest : Array (Option Value)} {oc_product_rest kV_product_rest dc_product_rest pm_product_rest cd_product_rest ct_product_rest : Value}
    {f_is_irreducible : Addr} {od_is_irreducible an_is_irreducible : Option Addr} {sl_is_irreducible : Array (Option Value)} {oc_is_irreducible kV_is_irreducible dc_is_irreducible pm_is_irreducible cd_is_irreducible ct_is_irreducible : Value}
    {f_least_irreducible : Addr} {od_least_irreducible an_least_irreducible : Option Addr} {sl_least_irreducible : Array (Option Value)} {oc_least_irreducible kV_least_irreducible dc_least_irreducible pm_least_irreducible cd_least_irreducible ct_least_irreducible : Value}
    {f__law_numbers : Addr} {od__law_numbers an__law_numbers : Option Addr} {sl__law_numbers : Array (Option Value)} {oc__law_numbers kV__law_numbers dc__law_numbers pm__law_numbers cd__law_numbers ct__law_numbers : Value}
    {f__law_degree : Addr} {od__law_degree an__law_degree : Option Addr} {sl__law_degree : Array (Option Value)} {oc__law_degree kV__law_degree dc__law_degree pm__law_degree cd__law_degree ct__law_degree : Value}
    {f__law_times : Addr} {od__law_times an__law_times : Option Addr} {sl__law_times : Array (Option Value)} {oc__law_times kV__law_times dc__law_times pm__law_times cd__law_times ct__law_times : Value}
    {f__law_divided : Addr} {od__law_divided an__law_divided : Option Addr} {sl__law_divided : Array (Option Value)} {oc__law_divided kV__law_divided dc__law_divided pm__law_divided cd__law_divided ct__law_divided : Value}
    {f__law_common : Addr} {od__law_common an__law_common : Option Addr} {sl__law_common : Array (Option Value)} {oc__law_common kV__law_common dc__law_common pm__law_common cd__law_common ct__law_common : Value}
    {f__law_irreducible : Addr} {od__law_irreducible an__law_irreducible : Option Addr} {sl__law_irreducible : Array (Option Value)} {oc__law_irreducible kV__law_irreducible dc__law_irreducible pm__law_irreducible cd__law_irreducible ct__law_irreducible : Value}
    {f__law_drawn : Addr} {od__law_drawn an__law_drawn : Option Addr} {sl__law_drawn : Array (Option Value)} {oc__law_drawn kV__law_drawn dc__law_drawn pm__law_drawn cd__law_drawn ct__law_drawn : Value}
    {f__law_pair : Addr} {od__law_pair an__law_pair : Option Addr} {sl__law_pair : Array (Option Value)} {oc__law_pair kV__law_pair dc__law_pair pm__law_pair cd__law_pair ct__law_pair : Value}
    {f__law_least : Addr} {od__law_least an__law_least : Option Addr} {sl__law_least : Array (Option Value)} {oc__law_least kV__law_least dc__law_least pm__law_least cd__law_least ct__law_least : Value}
    {f_law : Addr} {od_law an_law : Option Addr} {sl_law : Array (Option Value)} {oc_law kV_law dc_law pm_law cd_law ct_law : Value}
    {f_init : Addr} {od_init an_init : Option Addr} {sl_init : Array (Option Value)} {oc_init kV_init dc_init pm_init cd_init ct_init : Value}
    {C_HaulError C_OutOfRange C_NoDivisor : Addr}
    {nm_HaulError q_HaulError : Str} {N_HaulError : Addr} {bs_HaulError bm_HaulError : List Value} {sn_HaulError : List Str} {sub_HaulError : List Value} {ab_HaulError : Bool} {col_HaulError : Option Bool} {dd_HaulError : Option Addr} {k0_HaulError k1_HaulError k2_HaulError k3_HaulError k5_HaulError : Option Value}
    {nm_OutOfRange q_OutOfRange : Str} {N_OutOfRange : Addr} {bs_OutOfRange bm_OutOfRange : List Value} {sn_OutOfRange : List Str} {sub_OutOfRange : List Value} {ab_OutOfRange : Bool} {col_OutOfRange : Option Bool} {dd_OutOfRange : Option Addr} {k0_OutOfRange k1_OutOfRange k2_OutOfRange k3_OutOfRange k5_OutOfRange : Option Value}
    {nm_NoDivisor q_NoDivisor : Str} {N_NoDivisor : Addr} {bs_NoDivisor bm_NoDivisor : List Value} {sn_NoDivisor : List Str} {sub_NoDivisor : List Value} {ab_NoDivisor : Bool} {col_NoDivisor : Option Bool} {dd_NoDivisor : Option Addr} {k0_NoDivisor k1_NoDivisor k2_NoDivisor k3_NoDivisor k5_NoDivisor : Option Value}
    {t_X : Tok}
    (a_HaulError : PySem.W.nsIn K mainGlobals "HaulError" = some (some (.ref C_HaulError)))
    (a_OutOfRange : PySem.W.nsIn K mainGlobals "OutOfRange" = some (some (.ref C_OutOfRange)))
    (a_NoDivisor : PySem.W.nsIn K mainGlobals "NoDivisor" = some (some (.ref C_NoDivisor)))
    (i_init : PySem.W.findIn K (.ref C_HaulError) "__init__" = some (some (.ref f_init)))
    (ti_init : PySem.W.typeIn K (.ref f_init) = some (.type "function"))
    (l_init : K.lookup f_init = some ⟨oc_init, od_init, .func (PySem.W.fnOf "__init__" "HaulError.__init__" (defArgs s_init) (defBody s_init) (defScope s_init) .none kV_init dc_init pm_init an_init cd_init ct_init), sl_init⟩)
    (c_init : PySem.W.codeIn K cd_init "HaulError.__init__" = true)
    (k_init : PySem.W.keepIn K (.ref f_init) = true)
    (v_init : PySem.W.findCls K (.type "ValueError") (.type "type") "__init__" = some (.val (.builtin "ValueError.__init__")))
    (sp_cls : PySem.W.specialIn K (.builtin "object.__class__") "__get__" = some (some (.builtin "getset_descriptor.__get__")))
    (tk_cls : PySem.W.takesIn K (.builtin "object.__class__") = some true)
    (x_HaulError : K.lookup C_HaulError = some (excClassObj nm_HaulError q_HaulError C_HaulError N_HaulError bs_HaulError bm_HaulError true sn_HaulError sub_HaulError ab_HaulError col_HaulError dd_HaulError k0_HaulError k1_HaulError k2_HaulError k3_HaulError k5_HaulError "ValueError.__new__"))
    (r_HaulError : PySem.HandSPX.refsVE bm_HaulError = true)
    (sa_HaulError : PySem.W.findIn K (.ref C_HaulError) "__setattr__" = some (some (.builtin "object.__setattr__")))
    (ga_HaulError : PySem.W.findIn K (.ref C_HaulError) "__getattribute__" = some (some (.builtin "BaseException.__getattribute__")))
    (gg_HaulError : PySem.W.findIn K (.ref C_HaulError) "__getattr__" = some none)
    (cl_HaulError : PySem.W.findIn K (.ref C_HaulError) "__class__" = some (some (.builtin "object.__class__")))
    (no_HaulError : PySem.W.findIn K (.ref C_HaulError) "at" = some none)
    (e_HaulError : PySem.W.subIn K (.ref C_HaulError) (.type "BaseException") = some true)
    (ty_HaulError : PySem.W.typeIn K (.ref C_HaulError) = some (.type "type"))
    (kc_HaulError : PySem.W.keepIn K (.ref C_HaulError) = true)
    (hd_HaulError : PySem.W.hasDictIn K C_HaulError = true)
    (mo_HaulError : PySem.W.mroIn K C_HaulError (.type "object") = some true)
    (su_HaulError : PySem.W.subIn K (.ref C_HaulError) (.ref C_HaulError) = some true)
    (x_OutOfRange : K.lookup C_OutOfRange = some (excClassObj nm_OutOfRange q_OutOfRange C_OutOfRange N_OutOfRange bs_OutOfRange bm_OutOfRange true sn_OutOfRange sub_OutOfRange ab_OutOfRange col_OutOfRange dd_OutOfRange k0_OutOfRange k1_OutOfRange k2_OutOfRange k3_OutOfRange k5_OutOfRange "ValueError.__new__"))
    (r_OutOfRange : PySem.HandSPX.refsVE bm_OutOfRange = true)
    (sa_OutOfRange : PySem.W.findIn K (.ref C_OutOfRange) "__setattr__" = some (some (.builtin "object.__setattr__")))
    (ga_OutOfRange : PySem.W.findIn K (.ref C_OutOfRange) "__getattribute__" = some (some (.builtin "BaseException.__getattribute__")))
    (gg_OutOfRange : PySem.W.findIn K (.ref C_OutOfRange) "__getattr__" = some none)
    (cl_OutOfRange : PySem.W.findIn K (.ref C_OutOfRange) "__class__" = some (some (.builtin "object.__class__")))
    (no_OutOfRange : PySem.W.findIn K (.ref C_OutOfRange) "at" = some none)
    (ii_OutOfRange : PySem.W.findIn K (.ref C_OutOfRange) "__init__" = some (some (.ref f_init)))
    (e_OutOfRange : PySem.W.subIn K (.ref C_OutOfRange) (.type "BaseException") = some true)
    (ty_OutOfRange : PySem.W.typeIn K (.ref C_OutOfRange) = some (.type "type"))
    (kc_OutOfRange : PySem.W.keepIn K (.ref C_OutOfRange) = true)
    (hd_OutOfRange : PySem.W.hasDictIn K C_OutOfRange = true)
    (mo_OutOfRange : PySem.W.mroIn K C_OutOfRange (.type "object") = some true)
    (su_OutOfRange : PySem.W.subIn K (.ref C_OutOfRange) (.ref C_HaulError) = some true)
    (x_NoDivisor : K.lookup C_NoDivisor = some (excClassObj nm_NoDivisor q_NoDivisor C_NoDivisor N_NoDivisor bs_NoDivisor bm_NoDivisor true sn_NoDivisor sub_NoDivisor ab_NoDivisor col_NoDivisor dd_NoDivisor k0_NoDivisor k1_NoDivisor k2_NoDivisor k3_NoDivisor k5_NoDivisor "ValueError.__new__"))
    (r_NoDivisor : PySem.HandSPX.refsVE bm_NoDivisor = true)
    (sa_NoDivisor : PySem.W.findIn K (.ref C_NoDivisor) "__setattr__" = some (some (.builtin "object.__setattr__")))
    (ga_NoDivisor : PySem.W.findIn K (.ref C_NoDivisor) "__getattribute__" = some (some (.builtin "BaseException.__getattribute__")))
    (gg_NoDivisor : PySem.W.findIn K (.ref C_NoDivisor) "__getattr__" = some none)
    (cl_NoDivisor : PySem.W.findIn K (.ref C_NoDivisor) "__class__" = some (some (.builtin "object.__class__")))
    (no_NoDivisor : PySem.W.findIn K (.ref C_NoDivisor) "at" = some none)
    (ii_NoDivisor : PySem.W.findIn K (.ref C_NoDivisor) "__init__" = some (some (.ref f_init)))
    (e_NoDivisor : PySem.W.subIn K (.ref C_NoDivisor) (.type "BaseException") = some true)
    (ty_NoDivisor : PySem.W.typeIn K (.ref C_NoDivisor) = some (.type "type"))
    (kc_NoDivisor : PySem.W.keepIn K (.ref C_NoDivisor) = true)
    (hd_NoDivisor : PySem.W.hasDictIn K C_NoDivisor = true)
    (mo_NoDivisor : PySem.W.mroIn K C_NoDivisor (.type "object") = some true)
    (su_NoDivisor : PySem.W.subIn K (.ref C_NoDivisor) (.ref C_HaulError) = some true)
    (a_degree : PySem.W.nsIn K mainGlobals "degree" = some (some (.ref f_degree)))
    (l_degree : K.lookup f_degree = some ⟨oc_degree, od_degree, .func (PySem.W.fnOf "degree" "degree" (defArgs s_degree) (defBody s_degree) (defScope s_degree) .none kV_degree dc_degree pm_degree an_degree cd_degree ct_degree), sl_degree⟩)
    (c_degree : PySem.W.codeIn K cd_degree "degree" = true)
    (k_degree : PySem.W.keepIn K (.ref f_degree) = true)
    (a_times : PySem.W.nsIn K mainGlobals "times" = some (some (.ref f_times)))
    (l_times : K.lookup f_times = some ⟨oc_times, od_times, .func (PySem.W.fnOf "times" "times" (defArgs s_times) (defBody s_times) (defScope s_times) .none kV_times dc_times pm_times an_times cd_times ct_times), sl_times⟩)
    (c_times : PySem.W.codeIn K cd_times "times" = true)
    (k_times : PySem.W.keepIn K (.ref f_times) = true)
    (a_divide : PySem.W.nsIn K mainGlobals "divide" = some (some (.ref f_divide)))
    (l_divide : K.lookup f_divide = some ⟨oc_divide, od_divide, .func (PySem.W.fnOf "divide" "divide" (defArgs s_divide) (defBody s_divide) (defScope s_divide) .none kV_divide dc_divide pm_divide an_divide cd_divide ct_divide), sl_divide⟩)
    (c_divide : PySem.W.codeIn K cd_divide "divide" = true)
    (k_divide : PySem.W.keepIn K (.ref f_divide) = true)
    (a_common : PySem.W.nsIn K mainGlobals "common" = some (some (.ref f_common)))
    (l_common : K.lookup f_common = some ⟨oc_common, od_common, .func (PySem.W.fnOf "common" "common" (defArgs s_common) (defBody s_common) (defScope s_common) .none kV_common dc_common pm_common an_common cd_common ct_common), sl_common⟩)
    (c_common : PySem.W.codeIn K cd_common "common" = true)
    (k_common : PySem.W.keepIn K (.ref f_common) = true)
    (a_product_rest : PySem.W.nsIn K mainGlobals "product_rest" = some (some (.ref f_product_rest)))
    (l_product_rest : K.lookup f_product_rest = some ⟨oc_product_rest, od_product_rest, .func (PySem.W.fnOf "product_rest" "product_rest" (defArgs s_product_rest) (defBody s_product_rest) (defScope s_product_rest) .none kV_product_rest dc_product_rest pm_product_rest an_product_rest cd_product_rest ct_product_rest), sl_product_rest⟩)
    (c_product_rest : PySem.W.codeIn K cd_product_rest "product_rest" = true)
    (k_product_rest : PySem.W.keepIn K (.ref f_product_rest) = true)
    (a_is_irreducible : PySem.W.nsIn K mainGlobals "is_irreducible" = some (some (.ref f_is_irreducible)))
    (l_is_irreducible : K.lookup f_is_irreducible = some ⟨oc_is_irreducible, od_is_irreducible, .func (PySem.W.fnOf "is_irreducible" "is_irreducible" (defArgs s_is_irreducible) (defBody s_is_irreducible) (defScope s_is_irreducible) .none kV_is_irreducible dc_is_irreducible pm_is_irreducible an_is_irreducible cd_is_irreducible ct_is_irreducible), sl_is_irreducible⟩)
    (c_is_irreducible : PySem.W.codeIn K cd_is_irreducible "is_irreducible" = true)
    (k_is_irreducible : PySem.W.keepIn K (.ref f_is_irreducible) = true)
    (a_least_irreducible : PySem.W.nsIn K mainGlobals "least_irreducible" = some (some (.ref f_least_irreducible)))
    (l_least_irreducible : K.lookup f_least_irreducible = some ⟨oc_least_irreducible, od_least_irreducible, .func (PySem.W.fnOf "least_irreducible" "least_irreducible" (defArgs s_least_irreducible) (defBody s_least_irreducible) (defScope s_least_irreducible) .none kV_least_irreducible dc_least_irreducible pm_least_irreducible an_least_irreducible cd_least_irreducible ct_least_irreducible), sl_least_irreducible⟩)
    (c_least_irreducible : PySem.W.codeIn K cd_least_irreducible "least_irreducible" = true)
    (k_least_irreducible : PySem.W.keepIn K (.ref f_least_irreducible) = true)
    (a__law_numbers : PySem.W.nsIn K mainGlobals "_law_numbers" = some (some (.ref f__law_numbers)))
    (l__law_numbers : K.lookup f__law_numbers = some ⟨oc__law_numbers, od__law_numbers, .func (PySem.W.fnOf "_law_numbers" "_law_numbers" (defArgs s__law_numbers) (defBody s__law_numbers) (defScope s__law_numbers) .none kV__law_numbers dc__law_numbers pm__law_numbers an__law_numbers cd__law_numbers ct__law_numbers), sl__law_numbers⟩)
    (c__law_numbers : PySem.W.codeIn K cd__law_numbers "_law_numbers" = true)
    (k__law_numbers : PySem.W.keepIn K (.ref f__law_numbers) = true)
    (a__law_degree : PySem.W.nsIn K mainGlobals "_law_degree" = some (some (.ref f__law_degree)))
    (l__law_degree : K.lookup f__law_degree = some ⟨oc__law_degree, od__law_degree, .func (PySem.W.fnOf "_law_degree" "_law_degree" (defArgs s__law_degree) (defBody s__law_degree) (defScope s__law_degree) .none kV__law_degree dc__law_degree pm__law_degree an__law_degree cd__law_degree ct__law_degree), sl__law_degree⟩)
    (c__law_degree : PySem.W.codeIn K cd__law_degree "_law_degree" = true)
    (k__law_degree : PySem.W.keepIn K (.ref f__law_degree) = true)
    (a__law_times : PySem.W.nsIn K mainGlobals "_law_times" = some (some (.ref f__law_times)))
    (l__law_times : K.lookup f__law_times = some ⟨oc__law_times, od__law_times, .func (PySem.W.fnOf "_law_times" "_law_times" (defArgs s__law_times) (defBody s__law_times) (defScope s__law_times) .none kV__law_times dc__law_times pm__law_times an__law_times cd__law_times ct__law_times), sl__law_times⟩)
    (c__law_times : PySem.W.codeIn K cd__law_times "_law_times" = true)
    (k__law_times : PySem.W.keepIn K (.ref f__law_times) = true)
    (a__law_divided : PySem.W.nsIn K mainGlobals "_law_divided" = some (some (.ref f__law_divided)))
    (l__law_divided : K.lookup f__law_divided = some ⟨oc__law_divided, od__law_divided, .func (PySem.W.fnOf "_law_divided" "_law_divided" (defArgs s__law_divided) (defBody s__law_divided) (defScope s__law_divided) .none kV__law_divided dc__law_divided pm__law_divided an__law_divided cd__law_divided ct__law_divided), sl__law_divided⟩)
    (c__law_divided : PySem.W.codeIn K cd__law_divided "_law_divided" = true)
    (k__law_divided : PySem.W.keepIn K (.ref f__law_divided) = true)
    (a__law_common : PySem.W.nsIn K mainGlobals "_law_common" = some (some (.ref f__law_common)))
    (l__law_common : K.lookup f__law_common = some ⟨oc__law_common, od__law_common, .func (PySem.W.fnOf "_law_common" "_law_common" (defArgs s__law_common) (defBody s__law_common) (defScope s__law_common) .none kV__law_common dc__law_common pm__law_common an__law_common cd__law_common ct__law_common), sl__law_common⟩)
    (c__law_common : PySem.W.codeIn K cd__law_common "_law_common" = true)
    (k__law_common : PySem.W.keepIn K (.ref f__law_common) = true)
    (a__law_irreducible : PySem.W.nsIn K mainGlobals "_law_irreducible" = some (some (.ref f__law_irreducible)))
    (l__law_irreducible : K.lookup f__law_irreducible = some ⟨oc__law_irreducible, od__law_irreducible, .func (PySem.W.fnOf "_law_irreducible" "_law_irreducible" (defArgs s__law_irreducible) (defBody s__law_irreducible) (defScope s__law_irreducible) .none kV__law_irreducible dc__law_irreducible pm__law_irreducible an__law_irreducible cd__law_irreducible ct__law_irreducible), sl__law_irreducible⟩)
    (c__law_irreducible : PySem.W.codeIn K cd__law_irreducible "_law_irreducible" = true)
    (k__law_irreducible : PySem.W.keepIn K (.ref f__law_irreducible) = true)
    (a__law_drawn : PySem.W.nsIn K mainGlobals "_law_drawn" = some (some (.ref f__law_drawn)))
    (l__law_drawn : K.lookup f__law_drawn = some ⟨oc__law_drawn, od__law_drawn, .func (PySem.W.fnOf "_law_drawn" "_law_drawn" (defArgs s__law_drawn) (defBody s__law_drawn) (defScope s__law_drawn) .none kV__law_drawn dc__law_drawn pm__law_drawn an__law_drawn cd__law_drawn ct__law_drawn), sl__law_drawn⟩)
    (c__law_drawn : PySem.W.codeIn K cd__law_drawn "_law_drawn" = true)
    (k__law_drawn : PySem.W.keepIn K (.ref f__law_drawn) = true)
    (a__law_pair : PySem.W.nsIn K mainGlobals "_law_pair" = some (some (.ref f__law_pair)))
    (l__law_pair : K.lookup f__law_pair = some ⟨oc__law_pair, od__law_pair, .func (PySem.W.fnOf "_law_pair" "_law_pair" (defArgs s__law_pair) (defBody s__law_pair) (defScope s__law_pair) .none kV__law_pair dc__law_pair pm__law_pair an__law_pair cd__law_pair ct__law_pair), sl__law_pair⟩)
    (c__law_pair : PySem.W.codeIn K cd__law_pair "_law_pair" = true)
    (k__law_pair : PySem.W.keepIn K (.ref f__law_pair) = true)
    (a__law_least : PySem.W.nsIn K mainGlobals "_law_least" = some (some (.ref f__law_least)))
    (l__law_least : K.lookup f__law_least = some ⟨oc__law_least, od__law_least, .func (PySem.W.fnOf "_law_least" "_law_least" (defArgs s__law_least) (defBody s__law_least) (defScope s__law_least) .none kV__law_least dc__law_least pm__law_least an__law_least cd__law_least ct__law_least), sl__law_least⟩)
    (c__law_least : PySem.W.codeIn K cd__law_least "_law_least" = true)
    (k__law_least : PySem.W.keepIn K (.ref f__law_least) = true)
    (a_law : PySem.W.nsIn K mainGlobals "law" = some (some (.ref f_law)))
    (l_law : K.lookup f_law = some ⟨oc_law, od_law, .func (PySem.W.fnOf "law" "law" (defArgs s_law) (defBody s_law) (defScope s_law) .none kV_law dc_law pm_law an_law cd_law ct_law), sl_law⟩)
    (c_law : PySem.W.codeIn K cd_law "law" = true)
    (k_law : PySem.W.keepIn K (.ref f_law) = true)
    (a_X : PySem.W.nsIn K mainGlobals "X" = some (some (.int 2 t_X)))
    (z_range : PySem.W.nsIn K mainGlobals "range" = some none)
    (z_len : PySem.W.nsIn K mainGlobals "len" = some none)
    (z_abs : PySem.W.nsIn K mainGlobals "abs" = some none)
    (z_int : PySem.W.nsIn K mainGlobals "int" = some none)
    (z_max : PySem.W.nsIn K mainGlobals "max" = some none)
    (z_min : PySem.W.nsIn K mainGlobals "min" = some none)
    (z_sum : PySem.W.nsIn K mainGlobals "sum" = some none)
    (z_list : PySem.W.nsIn K mainGlobals "list" = some none)
    (z_isinstance : PySem.W.nsIn K mainGlobals "isinstance" = some none)
    (z_enumerate : PySem.W.nsIn K mainGlobals "enumerate" = some none)
    (z_zip : PySem.W.nsIn K mainGlobals "zip" = some none)
    (z_reversed : PySem.W.nsIn K mainGlobals "reversed" = some none)
    (z_any : PySem.W.nsIn K mainGlobals "any" = some none)
    (z_all : PySem.W.nsIn K mainGlobals "all" = some none)
    (z_ValueError : PySem.W.nsIn K mainGlobals "ValueError" = some none)
    : ∃ fd : FuncData, (∀ (s : Shared) (v : Value), BindsTo s fd ⟨[v], []⟩ [("script", v)]) ∧ ∀ base : Heap, K.In base → base.Ns mainGlobals mg → FnOk l.prog w K mg base CX0 8 fa fd ["script"] (sp_law K) := by
  have e := hfa.symm.trans (PySem.W.mg_of X G a_law)
  cases e
  have B : Bl mg := ⟨PySem.W.mg_none_of X G z_range, PySem.W.mg_none_of X G z_len, PySem.W.mg_none_of X G z_abs, PySem.W.mg_none_of X G z_int, PySem.W.mg_none_of X G z_max, PySem.W.mg_none_of X G z_min, PySem.W.mg_none_of X G z_sum, PySem.W.mg_none_of X G z_list, PySem.W.mg_none_of X G z_isinstance, PySem.W.mg_none_of X G z_enumerate, PySem.W.mg_none_of X G z_zip, PySem.W.mg_none_of X G z_reversed, PySem.W.mg_none_of X G z_any, PySem.W.mg_none_of X G z_all, PySem.W.mg_none_of X G z_ValueError⟩
  have F_degree := fun_mk (st := s_degree) l_degree c_degree k_degree
  have D_degree : Df K mg "degree" ["p"] s_degree _ _ := ⟨F_degree, PySem.W.mg_of X G a_degree, F_degree.binds (ps := ["p"]) fun _ _ _ _ _ _ us hl => match us, hl with | [_], _ => rfl⟩
  have F_times := fun_mk (st := s_times) l_times c_times k_times
  have D_times : Df K mg "times" ["p", "q"] s_times _ _ := ⟨F_times, PySem.W.mg_of X G a_times, F_times.binds (ps := ["p", "q"]) fun _ _ _ _ _ _ us hl => match us, hl with | [_, _], _ => rfl⟩
  have F_divide := fun_mk (st := s_divide) l_divide c_divide k_divide
  have D_divide : Df K mg "divide" ["p", "q"] s_divide _ _ := ⟨F_divide, PySem.W.mg_of X G a_divide, F_divide.binds (ps := ["p", "q"]) fun _ _ _ _ _ _ us hl => match us, hl with | [_, _], _ => rfl⟩
  have F_common := fun_mk (st := s_common) l_common c_common k_common
  have D_common : Df K mg "common" ["p", "q"] s_common _ _ := ⟨F_common, PySem.W.mg_of X G a_common, F_common.binds (ps := ["p", "q"]) fun _ _ _ _ _ _ us hl => match us, hl with | [_, _], _ => rfl⟩
  have F_product_rest := fun_mk (st := s_product_rest) l_product_rest c_product_rest k_product_rest
  have D_product_rest : Df K mg "product_rest" ["p", "q", "modulus"] s_product_rest _ _ := ⟨F_product_rest, PySem.W.mg_of X G a_product_rest, F_product_rest.binds (ps := ["p", "q", "modulus"]) fun _ _ _ _ _ _ us hl => match us, hl with | [_, _, _], _ => rfl⟩
  have F_is_irreducible := fun_mk (st := s_is_irreducible) l_is_irreducible c_is_irreducible k_is_irreducible
  have D_is_irreducible : Df K mg "is_irreducible" ["p"] s_is_irreducible _ _ := ⟨F_is_irreducible, PySem.W.mg_of X G a_is_irreducible, F_is_irreducible.binds (ps := ["p"]) fun _ _ _ _ _ _ us hl => match us, hl with | [_], _ => rfl⟩
  have F_least_irreducible := fun_mk (st := s_least_irreducible) l_least_irreducible c_least_irreducible k_least_irreducible
  have D_least_irreducible : Df K mg "least_irreducible" ["m"] s_least_irreducible _ _ := ⟨F_least_irreducible, PySem.W.mg_of X G a_least_irreducible, F_least_irreducible.binds (ps := ["m"]) fun _ _ _ _ _ _ us hl => match us, hl with | [_], _ => rfl⟩
  have F__law_numbers := fun_mk (st := s__law_numbers) l__law_numbers c__law_numbers k__law_numbers
  have D__law_numbers : Df K mg "_law_numbers" ["script", "many"] s__law_numbers _ _ := ⟨F__law_numbers, PySem.W.mg_of X G a__law_numbers, F__law_numbers.binds (ps := ["script", "many"]) fun _ _ _ _ _ _ us hl => match us, hl with | [_, _], _ => rfl⟩
  have F__law_degree := fun_mk (st := s__law_degree) l__law_degree c__law_degree k__law_degree
  have D__law_degree : Df K mg "_law_degree" ["p"] s__law_degree _ _ := ⟨F__law_degree, PySem.W.mg_of X G a__law_degree, F__law_degree.binds (ps := ["p"]) fun _ _ _ _ _ _ us hl => match us, hl with | [_], _ => rfl⟩
  have F__law_times := fun_mk (st := s__law_times) l__law_times c__law_times k__law_times
  have D__law_times : Df K mg "_law_times" ["p", "q"] s__law_times _ _ := ⟨F__law_times, PySem.W.mg_of X G a__law_times, F__law_times.binds (ps := ["p", "q"]) fun _ _ _ _ _ _ us hl => match us, hl with | [_, _], _ => rfl⟩
  have F__law_divided := fun_mk (st := s__law_divided) l__law_divided c__law_divided k__law_divided
  have D__law_divided : Df K mg "_law_divided" ["p", "q"] s__law_divided _ _ := ⟨F__law_divided, PySem.W.mg_of X G a__law_divided, F__law_divided.binds (ps := ["p", "q"]) fun _ _ _ _ _ _ us hl => match us, hl with | [_, _], _ => rfl⟩
  have F__law_common := fun_mk (st := s__law_common) l__law_common c__law_common k__law_common
  have D__law_common : Df K mg "_law_common" ["p", "q"] s__law_common _ _ := ⟨F__law_common, PySem.W.mg_of X G a__law_common, F__law_common.binds (ps := ["p", "q"]) fun _ _ _ _ _ _ us hl => match us, hl with | [_, _], _ => rfl⟩
  have F__law_irreducible := fun_mk (st := s__law_irreducible) l__law_irreducible c__law_irreducible k__law_irreducible
  have D__law_irreducible : Df K mg "_law_irreducible" ["p"] s__law_irreducible _ _ := ⟨F__law_irreducible, PySem.W.mg_of X G a__law_irreducible, F__law_irreducible.binds (ps := ["p"]) fun _ _ _ _ _ _ us hl => match us, hl with | [_], _ => rfl⟩
  have F__law_drawn := fun_mk (st := s__law_drawn) l__law_drawn c__law_drawn k__law_drawn
  have D__law_drawn : Df K mg "_law_drawn" ["numbers", "at"] s__law_drawn _ _ := ⟨F__law_drawn, PySem.W.mg_of X G a__law_drawn, F__law_drawn.binds (ps := ["numbers", "at"]) fun _ _ _ _ _ _ us hl => match us, hl with | [_, _], _ => rfl⟩
  have F__law_pair := fun_mk (st := s__law_pair) l__law_pair c__law_pair k__law_pair
  have D__law_pair : Df K mg "_law_pair" ["p", "q"] s__law_pair _ _ := ⟨F__law_pair, PySem.W.mg_of X G a__law_pair, F__law_pair.binds (ps := ["p", "q"]) fun _ _ _ _ _ _ us hl => match us, hl with | [_, _], _ => rfl⟩
  have F__law_least := fun_mk (st := s__law_least) l__law_least c__law_least k__law_least
  have D__law_least : Df K mg "_law_least" ["size"] s__law_least _ _ := ⟨F__law_least, PySem.W.mg_of X G a__law_least, F__law_least.binds (ps := ["size"]) fun _ _ _ _ _ _ us hl => match us, hl with | [_], _ => rfl⟩
  have F_law := fun_mk (st := s_law) l_law c_law k_law
  have D_law : Df K mg "law" ["script"] s_law _ _ := ⟨F_law, PySem.W.mg_of X G a_law, F_law.binds (ps := ["script"]) fun _ _ _ _ _ _ us hl => match us, hl with | [_], _ => rfl⟩
  have F_init := fun_mk (st := s_init) l_init c_init k_init
  have b_init := F_init.binds (ps := ["self", "at"]) fun _ _ _ _ _ _ us hl => match us, hl with | [_, _], _ => rfl
  have X_HaulError : XC K mg "HaulError" C_HaulError f_init C_HaulError := ⟨⟨⟨nm_HaulError, q_HaulError, N_HaulError, bs_HaulError, bm_HaulError, sn_HaulError, sub_HaulError, ab_HaulError, col_HaulError, dd_HaulError, k0_HaulError, k1_HaulError, k2_HaulError, k3_HaulError, k5_HaulError, x_HaulError, r_HaulError⟩, sa_HaulError, e_HaulError, ty_HaulError, kc_HaulError⟩, ga_HaulError, gg_HaulError, hd_HaulError, cl_HaulError, sp_cls, tk_cls, mo_HaulError, no_HaulError, PySem.W.mg_of X G a_HaulError, i_init, ti_init, PySem.W.exm_ref e_HaulError hd_HaulError ty_HaulError su_HaulError⟩
  have X_OutOfRange : XC K mg "OutOfRange" C_OutOfRange f_init C_HaulError := ⟨⟨⟨nm_OutOfRange, q_OutOfRange, N_OutOfRange, bs_OutOfRange, bm_OutOfRange, sn_OutOfRange, sub_OutOfRange, ab_OutOfRange, col_OutOfRange, dd_OutOfRange, k0_OutOfRange, k1_OutOfRange, k2_OutOfRange, k3_OutOfRange, k5_OutOfRange, x_OutOfRange, r_OutOfRange⟩, sa_OutOfRange, e_OutOfRange, ty_OutOfRange, kc_OutOfRange⟩, ga_OutOfRange, gg_OutOfRange, hd_OutOfRange, cl_OutOfRange, sp_cls, tk_cls, mo_OutOfRange, no_OutOfRange, PySem.W.mg_of X G a_OutOfRange, ii_OutOfRange, ti_init, PySem.W.exm_ref e_HaulError hd_HaulError ty_HaulError su_OutOfRange⟩
  have X_NoDivisor : XC K mg "NoDivisor" C_NoDivisor f_init C_HaulError := ⟨⟨⟨nm_NoDivisor, q_NoDivisor, N_NoDivisor, bs_NoDivisor, bm_NoDivisor, sn_NoDivisor, sub_NoDivisor, ab_NoDivisor, col_NoDivisor, dd_NoDivisor, k0_NoDivisor, k1_NoDivisor, k2_NoDivisor, k3_NoDivisor, k5_NoDivisor, x_NoDivisor, r_NoDivisor⟩, sa_NoDivisor, e_NoDivisor, ty_NoDivisor, kc_NoDivisor⟩, ga_NoDivisor, gg_NoDivisor, hd_NoDivisor, cl_NoDivisor, sp_cls, tk_cls, mo_NoDivisor, no_NoDivisor, PySem.W.mg_of X G a_NoDivisor, ii_NoDivisor, ti_init, PySem.W.exm_ref e_HaulError hd_HaulError ty_HaulError su_NoDivisor⟩
  have c_X := PySem.W.mg_of X G a_X
  refine ⟨PySem.W.fnOf "law" "law" (defArgs s_law) (defBody s_law) (defScope s_law) .none kV_law dc_law pm_law an_law cd_law ct_law, fun s v => .of_eq rfl, fun base _ _ => ?_⟩
  have G_init := ok_init (P := l.prog) (w := w) (base := base) F_init B.ValueError v_init
  have G_degree := ok_degree (P := l.prog) (w := w) (base := base) D_degree
  have G_times := ok_times (P := l.prog) (w := w) (base := base) D_times B
  have G_divide := ok_divide (P := l.prog) (w := w) (base := base) D_divide D_degree X_NoDivisor G_init b_init
  have G_common := ok_common (P := l.prog) (w := w) (base := base) D_common D_divide G_divide
  have G_product_rest := ok_product_rest (P := l.prog) (w := w) (base := base) D_product_rest D_divide G_divide D_times G_times
  have G_is_irreducible := ok_is_irreducible (P := l.prog) (w := w) (base := base) D_is_irreducible B c_X D_degree G_degree D_product_rest G_product_rest D_common G_common
  have G_least_irreducible := ok_least_irreducible (P := l.prog) (w := w) (base := base) D_least_irreducible D_is_irreducible G_is_irreducible X_OutOfRange G_init b_init
  have G__law_numbers := ok__law_numbers (P := l.prog) (w := w) (base := base) D__law_numbers B
  have G__law_degree := ok__law_degree (P := l.prog) (w := w) (base := base) D__law_degree B
  have G__law_times := ok__law_times (P := l.prog) (w := w) (base := base) D__law_times B
  have G__law_divided := ok__law_divided (P := l.prog) (w := w) (base := base) D__law_divided B D__law_degree G__law_degree
  have G__law_common := ok__law_common (P := l.prog) (w := w) (base := base) D__law_common B D__law_divided G__law_divided
  have G__law_irreducible := ok__law_irreducible (P := l.prog) (w := w) (base := base) D__law_irreducible B D__law_degree G__law_degree D__law_divided G__law_divided
  have G__law_drawn := ok__law_drawn (P := l.prog) (w := w) (base := base) D__law_drawn B
  have G__law_pair := ok__law_pair (P := l.prog) (w := w) (base := base) D__law_pair B D_times G_times D_degree G_degree D_common G_common D_divide G_divide D__law_times G__law_times D__law_degree G__law_degree D__law_common G__law_common D__law_divided G__law_divided X_NoDivisor X_HaulError
  have G__law_least := ok__law_least (P := l.prog) (w := w) (base := base) D__law_least B D_least_irreducible G_least_irreducible D__law_irreducible G__law_irreducible X_OutOfRange X_HaulError
  exact ok_law (P := l.prog) (w := w) (base := base) D_law B D__law_numbers G__law_numbers D__law_drawn G__law_drawn D__law_times G__law_times D__law_pair G__law_pair D_is_irreducible G_is_irreducible D__law_irreducible G__law_irreducible D__law_least G__law_least
end K00
open PySem PySem.W PyProof.Rows
set_option maxRecDepth 100000 in
set_option maxHeartbeats 0 in
theorem PySem.Challenge.cw_farhaul_k00_binary_polynomials_holds : PySem.Challenge.rw_farhaul_k00_binary_polynomials.Holds := by
  w_on; o_law; k_head; (case hw => w_witness2)
  k_fill
  refine L2.walk_of (l := PySem.Challenge.rw_farhaul_k00_binary_polynomials) (n := 63) (k := 8) (x := "script") (CX := fun _ => L2.CX0) (sp := fun w => K00.sp_law _) rfl (by decide) rfl ⟨rfl, by decide, by decide⟩ (fun w h Y => PySem.W.kIn_of Y) ?F (fun _ _ a ns hl _ hS => ⟨a, ns, rfl, hS, hl, fun _ => rfl⟩) (fun _ _ _ _ _ h => h)
  case F =>
    intro w mg fa h KX G hmg
    refine' K00.all_mk KX G hmg ?a_HaulError ?a_OutOfRange ?a_NoDivisor ?i_init ?ti_init ?l_init ?c_init ?k_init ?v_init ?sp_cls ?tk_cls ?x_HaulError ?r_HaulError ?sa_HaulError ?ga_HaulError ?gg_HaulError ?cl_HaulError ?no_HaulError ?e_HaulError ?ty_HaulError ?kc_HaulError ?hd_HaulError ?mo_HaulError ?su_HaulError ?x_OutOfRange ?r_OutOfRange ?sa_OutOfRange ?ga_OutOfRange ?gg_OutOfRange ?cl_OutOfRange ?no_OutOfRange ?ii_OutOfRange ?e_OutOfRange ?ty_OutOfRange ?kc_OutOfRange ?hd_OutOfRange ?mo_OutOfRange ?su_OutOfRange ?x_NoDivisor ?r_NoDivisor ?sa_NoDivisor ?ga_NoDivisor ?gg_NoDivisor ?cl_NoDivisor ?no_NoDivisor ?ii_NoDivisor ?e_NoDivisor ?ty_NoDivisor ?kc_NoDivisor ?hd_NoDivisor ?mo_NoDivisor ?su_NoDivisor ?a_degree ?l_degree ?c_degree ?k_degree ?a_times ?l_times ?c_times ?k_times ?a_divide ?l_divide ?c_divide ?k_divide ?a_common ?l_common ?c_common ?k_common ?a_product_rest ?l_product_rest ?c_product_rest ?k_product_rest ?a_is_irreducible ?l_is_irreducible ?c_is_irreducible ?k_is_irreducible ?a_least_irreducible ?l_least_irreducible ?c_least_irreducible ?k_least_irreducible ?a__law_numbers ?l__law_numbers ?c__law_numbers ?k__law_numbers ?a__law_degree ?l__law_degree ?c__law_degree ?k__law_degree ?a__law_times ?l__law_times ?c__law_times ?k__law_times ?a__law_divided ?l__law_divided ?c__law_divided ?k__law_divided ?a__law_common ?l__law_common ?c__law_common ?k__law_common ?a__law_irreducible ?l__law_irreducible ?c__law_irreducible ?k__law_irreducible ?a__law_drawn ?l__law_drawn ?c__law_drawn ?k__law_drawn ?a__law_pair ?l__law_pair ?c__law_pair ?k__law_pair ?a__law_least ?l__law_least ?c__law_least ?k__law_least ?a_law ?l_law ?c_law ?k_law ?a_X ?z_range ?z_len ?z_abs ?z_int ?z_max ?z_min ?z_sum ?z_list ?z_isinstance ?z_enumerate ?z_zip ?z_reversed ?z_any ?z_all ?z_ValueError
    (case a_HaulError => k_is)
    (case a_OutOfRange => k_is)
    (case a_NoDivisor => k_is)
    (case i_init => k_is)
    (case ti_init => k_is)
    (case l_init => k_is)
    (case c_init => k_is)
    (case k_init => k_is)
    (case v_init => first | k_is | decide +kernel | rfl)
    (case sp_cls => first | k_is | decide +kernel | rfl)
    (case tk_cls => first | k_is | decide +kernel | rfl)
    (case x_HaulError => k_is)
    (case r_HaulError => first | rfl | decide +kernel)
    (case sa_HaulError => k_is)
    (case ga_HaulError => k_is)
    (case gg_HaulError => k_is)
    (case cl_HaulError => k_is)
    (case no_HaulError => k_is)
    (case e_HaulError => k_is)
    (case ty_HaulError => k_is)
    (case kc_HaulError => k_is)
    (case hd_HaulError => k_is)
    (case mo_HaulError => k_is)
    (case su_HaulError => first | rfl | k_is)
    (case x_OutOfRange => k_is)
    (case r_OutOfRange => first | rfl | decide +kernel)
    (case sa_OutOfRange => k_is)
    (case ga_OutOfRange => k_is)
    (case gg_OutOfRange => k_is)
    (case cl_OutOfRange => k_is)
    (case no_OutOfRange => k_is)
    (case ii_OutOfRange => k_is)
    (case e_OutOfRange => k_is)
    (case ty_OutOfRange => k_is)
    (case kc_OutOfRange => k_is)
    (case hd_OutOfRange => k_is)
    (case mo_OutOfRange => k_is)
    (case su_OutOfRange => first | rfl | k_is)
    (case x_NoDivisor => k_is)
    (case r_NoDivisor => first | rfl | decide +kernel)
    (case sa_NoDivisor => k_is)
    (case ga_NoDivisor => k_is)
    (case gg_NoDivisor => k_is)
    (case cl_NoDivisor => k_is)
    (case no_NoDivisor => k_is)
    (case ii_NoDivisor => k_is)
    (case e_NoDivisor => k_is)
    (case ty_NoDivisor => k_is)
    (case kc_NoDivisor => k_is)
    (case hd_NoDivisor => k_is)
    (case mo_NoDivisor => k_is)
    (case su_NoDivisor => first | rfl | k_is)
    (case a_degree => k_is)
    (case l_degree => k_is)
    (case c_degree => k_is)
    (case k_degree => k_is)
    (case a_times => k_is)
    (case l_times => k_is)
    (case c_times => k_is)
    (case k_times => k_is)
    (case a_divide => k_is)
    (case l_divide => k_is)
    (case c_divide => k_is)
    (case k_divide => k_is)
    (case a_common => k_is)
    (case l_common => k_is)
    (case c_common => k_is)
    (case k_common => k_is)
    (case a_product_rest => k_is)
    (case l_product_rest => k_is)
    (case c_product_rest => k_is)
    (case k_product_rest => k_is)
    (case a_is_irreducible => k_is)
    (case l_is_irreducible => k_is)
    (case c_is_irreducible => k_is)
    (case k_is_irreducible => k_is)
    (case a_least_irreducible => k_is)
    (case l_least_irreducible => k_is)
    (case c_least_irreducible => k_is)
    (case k_least_irreducible => k_is)
    (case a__law_numbers => k_is)
    (case l__law_numbers => k_is)
    (case c__law_numbers => k_is)
    (case k__law_numbers => k_is)
    (case a__law_degree => k_is)
    (case l__law_degree => k_is)
    (case c__law_degree => k_is)
    (case k__law_degree => k_is)
    (case a__law_times => k_is)
    (case l__law_times => k_is)
    (case c__law_times => k_is)
    (case k__law_times => k_is)
    (case a__law_divided => k_is)
    (case l__law_divided => k_is)
    (case c__law_divided => k_is)
    (case k__law_divided => k_is)
    (case a__law_common => k_is)
    (case l__law_common => k_is)
    (case c__law_common => k_is)
    (case k__law_common => k_is)
    (case a__law_irreducible => k_is)
    (case l__law_irreducible => k_is)
    (case c__law_irreducible => k_is)
    (case k__law_irreducible => k_is)
    (case a__law_drawn => k_is)
    (case l__law_drawn => k_is)
    (case c__law_drawn => k_is)
    (case k__law_drawn => k_is)
    (case a__law_pair => k_is)
    (case l__law_pair => k_is)
    (case c__law_pair => k_is)
    (case k__law_pair => k_is)
    (case a__law_least => k_is)
    (case l__law_least => k_is)
    (case c__law_least => k_is)
    (case k__law_least => k_is)
    (case a_law => k_is)
    (case l_law => k_is)
    (case c_law => k_is)
    (case k_law => k_is)
    (case a_X => k_is)
    (case z_range => k_is)
    (case z_len => k_is)
    (case z_abs => k_is)
    (case z_int => k_is)
    (case z_max => k_is)
    (case z_min => k_is)
    (case z_sum => k_is)
    (case z_list => k_is)
    (case z_isinstance => k_is)
    (case z_enumerate => k_is)
    (case z_zip => k_is)
    (case z_reversed => k_is)
    (case z_any => k_is)
    (case z_all => k_is)
    (case z_ValueError => k_is)
