import PyProof.Rows.All
import Wide.All
import OpenK.AllK
import Wide.FinOn
import HandS.ForMost
import HandS.WideBits
import HandS.Exc
import HandS.ExcInit
import HandS.ExcOwn
import HandS.ExcField
import HandS.ExcIs
import HandS.IsInst
import HandS.Flow
import HandS.Codes
import HandS.Style
import HandS.TryOnly
import HandS.WordsExc
import KE.KExcIs
import HandS.FStr
import HandS.CallSlots
import HandS.Walk
import HandS.Gcd
import PySem.Challenge.RW_farhaul_k01_fields
set_option Elab.async false
set_option linter.all false
set_option maxRecDepth 100000
set_option maxHeartbeats 4000000
/-! Operators on numbers that are not negative. -/
namespace NB
open PySem PySem.Spec PyProof.Rows L2
def rNN (g : Nat → Nat → V) : R2 := fun x y H Q => ∃ m n : Nat, x = .int m ∧ y = .int n ∧ Q (g m n) H
def rNNC (C : Nat → Nat → Prop) (g : Nat → Nat → V) : R2 := fun x y H Q => ∃ m n : Nat, x = .int m ∧ y = .int n ∧ C m n ∧ Q (g m n) H
theorem op_of {X : Cx} {f : Value → Value → Sem Value} {r r' : R2} (h : OpR X f r) (k : ∀ x y H Q, r' x y H Q → r x y H Q) : OpR X f r' := by
  intro pins s σ H x y u v Q I rx ry q
  exact h pins s σ H x y u v Q I rx ry (k _ _ _ _ q)
theorem xor_nn (m n : Nat) : Builtin.bitXor (m : Int) (n : Int) = ((m ^^^ n : Nat) : Int) := by
  rw [Bits.bitXor_pp (Int.natCast_nonneg _) (Int.natCast_nonneg _)]; simp
theorem or_nn (m n : Nat) : Builtin.bitOr (m : Int) (n : Int) = ((m ||| n : Nat) : Int) := by
  rw [Bits.bitOr_pp (Int.natCast_nonneg _) (Int.natCast_nonneg _)]; simp
theorem and_nn (m n : Nat) : Builtin.bitAnd (m : Int) (n : Int) = ((m &&& n : Nat) : Int) := by
  rw [bitAnd_pp (Int.natCast_nonneg _) (Int.natCast_nonneg _)]; simp
theorem shl_nn (m n : Nat) : (m : Int) * 2 ^ (n : Int).toNat = ((2 ^ n * m : Nat) : Int) := by
  rw [Int.toNat_natCast, L2.cast_parts]
theorem shr_nn (m n : Nat) : (m : Int) / 2 ^ (n : Int).toNat = ((m / 2 ^ n : Nat) : Int) := by
  rw [Int.toNat_natCast, Int.natCast_ediv, Int.natCast_pow]; rfl
abbrev rXorN : R2 := rNN fun m n => .int ((m ^^^ n : Nat) : Int)
abbrev rOrN : R2 := rNN fun m n => .int ((m ||| n : Nat) : Int)
abbrev rAndN : R2 := rNN fun m n => .int ((m &&& n : Nat) : Int)
abbrev rShlN : R2 := rNNC (fun m n => m < 2 ^ 64 ∧ n ≤ 1000000) fun m n => .int ((2 ^ n * m : Nat) : Int)
abbrev rShrN : R2 := rNN fun m n => .int ((m / 2 ^ n : Nat) : Int)
section
variable {X : Cx}
theorem of_xor {r : R2} (e : ∀ x y H Q, r x y H Q → (rI0 fun i j => .int (Builtin.bitXor i j)) x y H Q) : True := trivial
theorem k_xor : ∀ x y H Q, rXorN x y H Q → (rI0 fun i j => .int (Builtin.bitXor i j)) x y H Q := fun _ _ _ _ ⟨m, n, a, b, q⟩ => ⟨m, n, a, b, by show _; dsimp only; rw [xor_nn]; exact q⟩
theorem k_or : ∀ x y H Q, rOrN x y H Q → (rI0 fun i j => .int (Builtin.bitOr i j)) x y H Q := fun _ _ _ _ ⟨m, n, a, b, q⟩ => ⟨m, n, a, b, by dsimp only; rw [or_nn]; exact q⟩
theorem k_and : ∀ x y H Q, rAndN x y H Q → (rI0 fun i j => .int (Builtin.bitAnd i j)) x y H Q := fun _ _ _ _ ⟨m, n, a, b, q⟩ => ⟨m, n, a, b, by dsimp only; rw [and_nn]; exact q⟩
theorem k_shl : ∀ x y H Q, rShlN x y H Q → (rI CPow fun i j => .int (i * 2 ^ j.toNat)) x y H Q := fun _ _ _ _ ⟨m, n, a, b, ⟨c1, c2⟩, q⟩ =>
  ⟨m, n, a, b, ⟨by omega, by omega, by simpa using c1⟩, by dsimp only; rw [shl_nn]; exact q⟩
theorem k_shr : ∀ x y H Q, rShrN x y H Q → (rI (fun _ j => 0 ≤ j) fun i j => .int (i / 2 ^ j.toNat)) x y H Q := fun _ _ _ _ ⟨m, n, a, b, q⟩ =>
  ⟨m, n, a, b, by omega, by dsimp only; rw [shr_nn]; exact q⟩
theorem nb_xor : OpR X (binaryOp .BitXor) rXorN := op_of op_xor k_xor
theorem nb_or : OpR X (binaryOp .BitOr) rOrN := op_of op_or k_or
theorem nb_and : OpR X (binaryOp .BitAnd) rAndN := op_of op_and k_and
theorem nb_shl : OpR X (binaryOp .LShift) rShlN := op_of op_shl k_shl
theorem nb_shr : OpR X (binaryOp .RShift) rShrN := op_of op_shr k_shr
theorem nbi_xor : PIp X .BitXor rXorN := op_of iop_xor k_xor
theorem nbi_or : PIp X .BitOr rOrN := op_of iop_or k_or
theorem nbi_shr : PIp X .RShift rShrN := op_of iop_shr k_shr
/-- bit_length -/
def tBitsN (to : TE) : TE := fun σ H Q => to σ H fun x H1 => ∃ m : Nat, x = .int m ∧ Q (.int ((if m = 0 then 0 else m.log2 + 1 : Nat) : Int)) H1
theorem pe_of {e : Expr} {t t' : TE} (h : PE X e t) (k : ∀ σ H Q, t' σ H Q → t σ H Q) : PE X e t' := ⟨fun pins s σ H Q I q => h.run pins s σ H Q I (k σ H Q q)⟩
end


end NB
namespace NB
open PySem PySem.Spec PyProof.Rows L2
/-- the number of bits -/
def bits (m : Nat) : Nat := if m = 0 then 0 else m.log2 + 1
theorem intBits_nat (m : Nat) : Builtin.Int.intBits (m : Int) = bits m := by
  unfold Builtin.Int.intBits bits
  by_cases h : m = 0
  · subst h; rfl
  · have : ¬ ((m : Int) == 0) = true := by simp; omega
    rw [if_neg this, if_neg h]; simp
section
variable {X : Cx}
def tBitsM (to : TE) : TE := fun σ H Q => to σ H fun x H1 => ∃ m : Nat, x = .int m ∧ Q (.int ((bits m : Nat) : Int)) H1
theorem TE.mono_id {t : TE} {σ : L2.St} {H : Hp} {Q Q' : VK} (e : Q = Q') (h : t σ H Q) : t σ H Q' := e ▸ h
end
/-! numbers written in the text -/
theorem pe_nat {X : Cx} (n : Nat) {j pos} {i : Int} (h : i = (n : Int) := by rfl) : PE X (.Constant (.int i) j pos) (tC (.int (n : Int))) := by subst h; exact pe_int
def rLtN : R2 := rNN fun m n => .bl (decide (m < n))
/-- a for over range(n), n a number that is not negative -/
theorem for_rangeN {lo n : Nat} {g : TG} {tb : TS} {D : Ends} {σ : L2.St} {H : Hp} (Pv : Nat → L2.St → Hp → Prop) (h0 : Pv 0 σ H)
    (hs : ∀ i σ H, i < n → Pv i σ H → g (.int ((lo + i : Nat) : Int)) σ H fun σ2 H2 => tb { D with nx := Pv (i + 1), ct := Pv (i + 1), bk := D.nx } σ2 H2) (hd : ∀ σ H, Pv n σ H → D.nx σ H) :
    ∃ W : Nat → Nat → L2.St → Hp → Prop, (∃ m, W 0 m σ H) ∧ ∀ i m σ H, W i m σ H →
      ((Itr (lo : Int) n).stop i H ∧ D.nx σ H) ∨ ((Itr (lo : Int) n).go i H ∧ ∃ N : L2.St → Hp → Prop, (∀ σ' H', N σ' H' → ∃ m', m' < m ∧ W (i + 1) m' σ' H') ∧ ∀ x H', (Itr (lo : Int) n).yld i H x H' → g x σ H' fun σ2 H2 => tb { D with nx := N, ct := N, bk := D.nx } σ2 H2) :=
  for_range (lo := (lo : Int)) (n := n) Pv h0 (fun i σ H hi p => by
    have e : ((lo : Int) + (i : Int)) = ((lo + i : Nat) : Int) := by omega
    rw [e]
    exact hs i σ H hi p) hd
end NB
namespace NB
open PySem PySem.Spec PyProof.Rows L2
section
variable {X : Cx}
theorem nb_add : OpR X (binaryOp .Add) (rNN fun m n => .int ((m + n : Nat) : Int)) := op_of op_add fun _ _ _ _ ⟨m, n, a, b, q⟩ => ⟨m, n, a, b, by dsimp only; rw [← Int.natCast_add]; exact q⟩
theorem nbi_add : PIp X .Add (rNN fun m n => .int ((m + n : Nat) : Int)) := op_of iop_add fun _ _ _ _ ⟨m, n, a, b, q⟩ => ⟨m, n, a, b, by dsimp only; rw [← Int.natCast_add]; exact q⟩
theorem nb_sub : OpR X (binaryOp .Sub) (rNNC (fun m n => n ≤ m) fun m n => .int ((m - n : Nat) : Int)) := op_of op_sub fun _ _ _ _ ⟨m, n, a, b, c, q⟩ => ⟨m, n, a, b, by dsimp only; rw [← Int.natCast_sub c]; exact q⟩
theorem nb_mul : OpR X (binaryOp .Mult) (rNNC (fun m n => m < 2 ^ 64 ∨ n < 2 ^ 64) fun m n => .int ((m * n : Nat) : Int)) := op_of op_mul fun _ _ _ _ ⟨m, n, a, b, c, q⟩ => ⟨m, n, a, b, by
  rcases c with c | c
  · exact .inl ⟨by omega, by omega⟩
  · exact .inr ⟨by omega, by omega⟩, by dsimp only; rw [← Int.natCast_mul]; exact q⟩
theorem nb_mod : OpR X (binaryOp .Mod) (rNNC (fun _ n => 0 < n) fun m n => .int ((m % n : Nat) : Int)) := op_of op_mod fun _ _ _ _ ⟨m, n, a, b, c, q⟩ => ⟨m, n, a, b, by omega, by dsimp only; rw [← Int.natCast_emod]; exact q⟩
theorem nb_fdiv : OpR X (binaryOp .FloorDiv) (rNNC (fun _ n => 0 < n ∧ n < 1073741824) fun m n => .int ((m / n : Nat) : Int)) := op_of op_fdiv fun _ _ _ _ ⟨m, n, a, b, c, q⟩ => ⟨m, n, a, b, ⟨by omega, by omega⟩, by dsimp only; rw [← Int.natCast_ediv]; exact q⟩
theorem nb_pow : OpR X (binaryOp .Pow) (rNNC (fun m n => n ≤ 1000000 ∧ m < 2 ^ 64) fun m n => .int ((m ^ n : Nat) : Int)) := op_of op_pow fun _ _ _ _ ⟨m, n, a, b, c, q⟩ => ⟨m, n, a, b, ⟨by omega, by omega, by simpa using c.2⟩, by dsimp only; rw [Int.toNat_natCast, ← Int.natCast_pow]; exact q⟩
/-- an int's rest by a number -/
def rModI : R2 := fun x y H Q => ∃ (i : Int) (n : Nat), x = .int i ∧ y = .int n ∧ 0 < n ∧ Q (.int (((i % (n : Int)).toNat : Nat) : Int)) H
theorem nb_modI : OpR X (binaryOp .Mod) rModI := op_of op_mod fun _ _ _ _ ⟨m, n, a, b, c, q⟩ => ⟨m, n, a, b, by omega, by dsimp only; rw [Int.toNat_of_nonneg (Int.emod_nonneg _ (by omega))] at q; exact q⟩
theorem call_absN : CallR X (.builtin "abs") (fun xs H Q => ∃ i : Int, xs = [.int i] ∧ Q (.int ((i.natAbs : Nat) : Int)) H) := by
  intro pins s σ H xs us Q I r ⟨i, e, q⟩
  refine call_abs pins s σ H xs us Q I r ⟨i, e, ?_⟩
  have : (if i < 0 then -i else i) = ((i.natAbs : Nat) : Int) := by split <;> omega
  rw [this]; exact q
end
/-! ### lists of numbers -/
def NL (ns : List Nat) : List V := ns.map fun (n : Nat) => V.int ((n : Nat) : Int)
theorem NL_len (ns : List Nat) : (NL ns).length = ns.length := List.length_map _
theorem NL_get {ns : List Nat} {i n : Nat} (h : ns[i]? = some n) : (NL ns)[i]? = some (.int (n : Int)) := by unfold NL; rw [List.getElem?_map, h]; rfl
theorem NL_set (ns : List Nat) (i n : Nat) : (NL ns).set i (.int (n : Int)) = NL (ns.set i n) := by unfold NL; rw [List.map_set]
theorem NL_app (ns : List Nat) (n : Nat) : NL ns ++ [.int (n : Int)] = NL (ns ++ [n]) := by unfold NL; simp
theorem NL_app2 (ns ms : List Nat) : NL ns ++ NL ms = NL (ns ++ ms) := by unfold NL; simp
theorem NL_nil : NL [] = [] := rfl
theorem NL_cons (n : Nat) (ns : List Nat) : NL (n :: ns) = .int (n : Int) :: NL ns := rfl
theorem NL_at {ns : List Nat} {i : Nat} (h : i < ns.length) : atI (NL ns) (i : Int) = some (.int ((ns[i] : Nat) : Int)) := atI_nat (NL_get (List.getElem?_eq_getElem h))
theorem NL_at0 {ns : List Nat} {i n : Nat} (h : ns[i]? = some n) : atI (NL ns) (i : Int) = some (.int (n : Int)) := atI_nat (NL_get h)
theorem ixN_nat {n j : Nat} (h : j < n) : ixN n (j : Int) = some j := by
  unfold ixN
  rw [if_pos (by omega), if_pos (by omega)]; simp
theorem cut_to (xs : List V) (k : Nat) : cutV xs none (some (k : Int)) = xs.take k := by
  unfold cutV
  have e : HT.sIx xs.length 0 none = 0 := by rfl
  rw [e, HT.sIx_nat, List.drop_zero, Nat.sub_zero]
  by_cases h : k ≤ xs.length
  · rw [Nat.min_eq_left h]
  · rw [Nat.min_eq_right (by omega), List.take_of_length_le (by omega), List.take_of_length_le (by omega)]
theorem cut_last (xs : List V) : cutV xs none (some (-1)) = xs.dropLast := by
  unfold cutV
  have e : HT.sIx xs.length 0 none = 0 := by rfl
  have e2 : HT.sIx xs.length xs.length (some (-1)) = xs.length - 1 := by
    show (if (-1 : Int) < 0 then ((-1 : Int) + (xs.length : Int)).toNat else min (-1 : Int).toNat xs.length) = _
    rw [if_pos (by decide)]; omega
  rw [e, e2, List.drop_zero, List.dropLast_eq_take]
  rfl
end NB

namespace NB
open PySem PySem.Spec L2
/-- a def of the text: where it stands, how its arguments bind -/
structure Df (K : PySem.W.Frag) (mg : Str → Option Value) (x : Str) (ps : List Str) (st : Stmt) (f : Addr) (fd : FuncData) : Prop where
  F : Fun K x x st f fd
  g : mg x = some (.ref f)
  b : Binds K fd ps []
/-- built-in names that the top leaves alone -/
structure Bl (mg : Str → Option Value) : Prop where
  range : mg "range" = none
  len : mg "len" = none
  abs : mg "abs" = none
  int : mg "int" = none
  max : mg "max" = none
  min : mg "min" = none
  sum : mg "sum" = none
  list : mg "list" = none
  isinstance : mg "isinstance" = none
  enumerate : mg "enumerate" = none
  zip : mg "zip" = none
  reversed : mg "reversed" = none
  any : mg "any" = none
  all : mg "all" = none
  ValueError : mg "ValueError" = none
theorem iteD {c A B : Prop} [Decidable c] (h1 : c → A) (h2 : ¬ c → B) : if decide c = true then A else B := by
  by_cases h : c
  · rw [if_pos (decide_eq_true h)]; exact h1 h
  · rw [if_neg (by rw [decide_eq_false h]; exact Bool.false_ne_true)]; exact h2 h
theorem iteN {c A B : Prop} [Decidable c] (h1 : ¬ c → A) (h2 : c → B) : if (!decide c) = true then A else B := by
  by_cases h : c
  · rw [decide_eq_true h]; exact iteF (h2 h)
  · rw [decide_eq_false h]; exact iteT (h1 h)
theorem iteY {c A B : Prop} [Decidable c] (hc : c) (h : A) : if decide c = true then A else B := by rw [if_pos (decide_eq_true hc)]; exact h
theorem iteX {c A B : Prop} [Decidable c] (hc : ¬ c) (h : B) : if decide c = true then A else B := by rw [decide_eq_false hc]; exact iteF h
theorem iteB {b : Bool} {A B : Prop} (h1 : b = true → A) (h2 : b = false → B) : if b = true then A else B := by
  cases b with
  | true => exact iteT (h1 rfl)
  | false => exact iteF (h2 rfl)
/-- the truth of a number -/
theorem iteZ {n : Nat} {A B : Prop} (h1 : n ≠ 0 → A) (h2 : n = 0 → B) : if (((n : Nat) : Int) != 0) = true then A else B := by
  by_cases h : n = 0
  · subst h; exact iteF (h2 rfl)
  · have : (((n : Nat) : Int) != 0) = true := by simp; omega
    rw [if_pos this]; exact h1 h
theorem same_upd {H : Hp} {p : Addr} {o : HO} (h : H p = none) : Same H (upd H p o) := fun b u e => by rw [upd_ne (ne_of_none e h)]; exact e
theorem same_upd2 {H H' : Hp} {p : Addr} {o : HO} (e : Same H H') (h : H p = none) : Same H (upd H' p o) := fun b u ha => by rw [upd_ne (ne_of_none ha h)]; exact e b u ha
theorem same_new {H H' : Hp} {p : Addr} {o : HO} (e : Same H H') (h : H' p = none) : Same H (upd H' p o) := same_upd2 e (e.free h)
end NB
namespace NB
open PySem PySem.Spec L2
/-- a comprehension over range(lo, ..) of numbers -/
theorem lc_rangeN {lo n : Nat} {g : TG} {tt : TT} {te : TE} {vs : List Nat} {σ : L2.St} {H1 : Hp} {D : Addr} {Qd : Hp → Prop} (Pv : Nat → Hp → Prop) (h0 : Pv 0 (upd H1 D (.lst [])))
    (hs : ∀ i H, i < n → Pv i H → g (.int ((lo + i : Nat) : Int)) (wipe σ vs) H fun σ2 H2 => wipe σ2 vs = wipe σ vs ∧ tt σ2 H2 fun b H3 =>
      if b = true then te σ2 H3 fun y H4 => ∃ acc, H4 D = some (.lst acc) ∧ acc.length < sizeLine ∧ Pv (i + 1) (upd H4 D (.lst (acc ++ [y]))) else Pv (i + 1) H3) (hd : ∀ H, Pv n H → Qd H) :
    ∃ W : Nat → Nat → Hp → Prop, (∃ m, W 0 m (upd H1 D (.lst []))) ∧ ∀ i m H, W i m H →
      ((Itr (lo : Int) n).stop i H ∧ Qd H) ∨ ((Itr (lo : Int) n).go i H ∧ ∃ Nx : Hp → Prop, (∀ H', Nx H' → ∃ m', m' < m ∧ W (i + 1) m' H') ∧ ∀ x H', (Itr (lo : Int) n).yld i H x H' → g x (wipe σ vs) H' fun σ2 H2 => wipe σ2 vs = wipe σ vs ∧ tt σ2 H2 fun b H3 =>
        if b = true then te σ2 H3 fun y H4 => ∃ acc, H4 D = some (.lst acc) ∧ acc.length < sizeLine ∧ Nx (upd H4 D (.lst (acc ++ [y]))) else Nx H3) :=
  lc_range (lo := (lo : Int)) (n := n) Pv h0 (fun i H hi p => by
    have e : ((lo : Int) + (i : Int)) = ((lo + i : Nat) : Int) := by omega
    rw [e]
    exact hs i H hi p) hd
end NB
/-! Errors of the program: one class with an __init__, the others below it. -/
namespace ER
open PySem PySem.Spec PyProof.Rows L2 NB
/-- what the top says of an error class, named x, at C; its __init__ is the function at fI -/
structure XC (K : PySem.W.Frag) (mg : Str → Option Value) (x : Str) (C fI CH : Addr) : Prop where
  oex : OexC K C
  ga : PySem.W.findIn K (.ref C) "__getattribute__" = some (some (.builtin "BaseException.__getattribute__"))
  gg : PySem.W.findIn K (.ref C) "__getattr__" = some none
  hd : PySem.W.hasDictIn K C = true
  cl : PySem.W.findIn K (.ref C) "__class__" = some (some (.builtin "object.__class__"))
  sp : PySem.W.specialIn K (.builtin "object.__class__") "__get__" = some (some (.builtin "getset_descriptor.__get__"))
  tk : PySem.W.takesIn K (.builtin "object.__class__") = some true
  mo : PySem.W.mroIn K C (.type "object") = some true
  no : PySem.W.findIn K (.ref C) "at" = some none
  g : mg x = some (.ref C)
  iC : PySem.W.findIn K (.ref C) "__init__" = some (some (.ref fI))
  tI : PySem.W.typeIn K (.ref fI) = some (.type "function")
  te : PySem.W.exmOne K (.ref C) (.ref CH) = some true
def sp_init (K : PySem.W.Frag) : Sp := fun vs H Q _ => ∃ (a C : Addr) (i : Int), vs = [.ref a, .int i] ∧ (∃ mg x fI CH, XC K mg x C fI CH) ∧ H a = some (exo a C none) ∧ i.natAbs.log2 < 1920 ∧
  ∀ dx, H dx = none → dx ≠ a → Q .non (upd (upd H dx (exd dx [("at", .int i)])) a (exo a C (some dx)))
theorem len_app (a b : Str) : (a ++ b).length = a.length + b.length := by
  show (⟨a.cps ++ b.cps⟩ : Str).cps.size = _
  simp [Array.size_append]; rfl
theorem upd_raise {H : Hp} {a d C : Addr} {fs : List (Str × V)} {o : HO} (ha : H a = none) (hd : H d = none) (n : d ≠ a) :
    upd (L2.del (upd (upd (upd H a (exo a C none)) d (exd d fs)) a (exo a C (some d))) a) d o = upd H d o := by
  funext b
  by_cases h1 : b = d
  · subst h1; rw [upd_same, upd_same]
  · rw [upd_ne h1, upd_ne h1]
    by_cases h2 : b = a
    · subst h2; rw [del_same, ha]
    · rw [del_ne h2, upd_ne h2, upd_ne h1, upd_ne h2]
/-- raise x(e) -/
def tRaise (C : Addr) (W : WX) (ta : TA) : TS := fun _ σ H => ta σ H fun vs H1 => ∃ i : Int, vs = [.int i] ∧ i.natAbs.log2 < 1920 ∧ ∀ d, H1 d = none → W (.ref C) (some d) σ (upd H1 d (.xd [("at", .int i)]))
theorem ps_of {X : Cx} {st : Stmt} {t t' : TS} (h : PS X st t) (k : ∀ D σ H, t' D σ H → t D σ H) : PS X st t' := ⟨fun pins s σ H D I q => h.run pins s σ H D I (k D σ H q)⟩
def tMono (ta : TA) : TA := fun σ H Q => ∃ R : List V → Hp → Prop, ta σ H R ∧ ∀ vs H1, R vs H1 → Q vs H1
theorem pa_mono {X : Cx} {es : List Expr} {ta : TA} (h : PA X es ta) : PA X es (tMono ta) := ⟨fun pos pins s σ H Q I ⟨R, q, k⟩ =>
  thn (h.run pos pins s σ H R I q) fun us s1 ⟨vs, H1, I1, r, q1⟩ => ⟨vs, H1, I1, r, k _ _ q1⟩⟩
theorem ps_err {X : Cx} {CX : CXT} {x : Str} {C fI CH : Addr} {k : Nat} {fd : FuncData} {e : Expr} {ta : TA} {W : WX} {p pos pos2 : Pos} (hc : X.calm = true) (T : XC X.K X.mg x C fI CH)
    (G : FnOk X.prog X.w X.K X.mg X.base CX k fI fd ["self", "at"] (sp_init X.K)) (hr : Room (k + 1) X.A) (hb : Binds X.K fd ["self", "at"] []) (hx : Passes CX X (fun _ _ _ => False)) (tk : Takes X W) (ha : PA X [e] ta) (hg : Gl X x := by rfl)
    (hdb : (x == ("__debug__" : Str)) = false := by decide) (he : starEach (e :: []) X.env = (false, eval e X.env) :: starEach [] X.env := by rfl) (hpl : (backTo pos (starEach [] X.env)).any (·.1) = false := by rfl) :
    PS X (.Raise (some (.Call (.Name x p) [e] [] pos)) none pos2) (tRaise C W ta) := by
  refine ps_of (ps_raise hc tk (pmk_oex (dvs := []) T.oex T.iC T.tI G hr hb .nil hx hg T.g (pa_mono ha) hdb he hpl)) fun D σ H q => ?_
  refine ⟨_, q, fun vs H1 ⟨i, ev, hi, k⟩ => ?_⟩
  subst ev
  refine ⟨by simp, fun a na => ?_⟩
  refine ⟨a, C, i, rfl, ⟨_, _, _, _, T⟩, upd_same, hi, fun dx nx ne => ?_⟩
  rw [upd_ne ne] at nx
  refine ⟨rfl, dx, [("at", .int i)], upd_same, ?_, nx, ?_⟩
  · rw [upd_ne ne, upd_same]
  · rw [upd_raise na nx ne]
    exact k dx nx
/-! ### the caught error -/
/-- isinstance(e, c), e the error that the suite holds at a, of the class at D, its dict d -/
def rIsE (K : PySem.W.Frag) (a : Addr) (cls : Value) (d : Option Addr) : List V → Hp → VK → Prop := fun xs H Q => ∃ (D : Addr) (c : V) (cv : Value) (b : Bool) (dd : Addr) (fs : List (Str × V)), xs = [.ref a, c] ∧ cls = .ref D ∧ (∃ mg x fI CH, XC K mg x D fI CH) ∧ d = some dd ∧ H dd = some (.xd fs) ∧
  (∀ u, RelV c u → u = cv) ∧ PySem.W.kitOne K (.ref D) cv = some b ∧ Q (.bl b) H
theorem call_isE {X : Cx} {a : Addr} {oe : Obj} {cls : Value} {d : Option Addr} {pn : List (Addr × Obj)} (hz : Zc cls d oe) (hf : ∃ vs, oe.data = .fields vs) : CallR (X.suite a ((a, oe) :: pn)) (.builtin "isinstance") (rIsE X.K a cls d) := by
  intro pins s σ H xs us Q I r h
  obtain ⟨D, c, cv, b, dd, fs, rfl, rfl, ⟨mg, x, fI, CH, T⟩, rfl, hd, hcv, e, q⟩ := h
  cases r with
  | cons rx rr =>
    cases rr with
    | cons rt rr =>
      cases rr
      cases rx
      have ec := hcv _ rt
      subst ec
      obtain ⟨hget, _⟩ := I.pin (a, oe) (List.mem_append.mpr (.inl List.mem_cons_self))
      obtain ⟨vs, hv⟩ := hf
      have hx : ObjOk X.prog X.w H s.heap dd (.xd fs) := I.hok dd _ hd
      obtain ⟨mA, hns, hrel⟩ := hx
      obtain ⟨od, ho, hl⟩ := lookIn_ns hns
      have J : PySem.W.InstAt s.heap a oe D (some od) := ⟨hget, hz.1, by unfold PySem.W.notCls; rw [hv] <;> rfl, by rw [hz.2]; exact ho⟩
      have hcl : (PySem.W.clsIn X.K D).isSome = true := by
        obtain ⟨nm, q, N, bs, bm, sn, sub, ab, col, dd', k0, k1, k2, k3, k5, hC, hbm⟩ := T.oex.cls
        unfold PySem.W.clsIn; rw [hC] <;> rfl
      exact PySem.W.kia_one (PySem.W.kitx_exc hcl T.ga T.gg T.oex.exC T.cl T.sp T.tk T.mo) I.kIn J e (fun z => nomatch z) fun tk => ⟨.bl b, H, I.kept (t' := tk) fun _ _ z => z, rfl, q⟩
/-- e.at -/
def tAt (K : PySem.W.Frag) (a : Addr) (cls : Value) (d : Option Addr) (te : TE) : TE := fun σ H Q => te σ H fun x H1 => ∃ (C dd : Addr) (i : Int), x = .ref a ∧ cls = .ref C ∧ (∃ mg x fI CH, XC K mg x C fI CH) ∧ d = some dd ∧ H1 dd = some (.xd [("at", .int i)]) ∧ Q (.int i) H1
theorem pe_at {X : Cx} {a : Addr} {oe : Obj} {cls : Value} {d : Option Addr} {pn : List (Addr × Obj)} {e : Expr} {te : TE} {pos : Pos} (hz : Zc cls d oe) (hf : ∃ vs, oe.data = .fields vs) (he : PE (X.suite a ((a, oe) :: pn)) e te)
    (hb : attributeBase e "at" X.env (eval e X.env) = eval e X.env := by rfl) :
    PE (X.suite a ((a, oe) :: pn)) (.Attribute e "at" pos) (tAt X.K a cls d te) := by
  refine ⟨fun pins s σ H Q I h => ?_⟩
  refine attr_of hb (thn (he.run pins s σ H _ I h) fun u s1 hh => ?_)
  obtain ⟨x, H1, I1, rx, C, dd, i, ex, ec, ⟨mg, x', fI, CH, T⟩, ed, ea, q⟩ := hh
  subst ex
  obtain rfl : u = Value.ref a := rx
  subst ec
  subst ed
  obtain ⟨ha, _⟩ := I1.pin (a, oe) (List.mem_append_left _ List.mem_cons_self)
  obtain ⟨vs, hd⟩ := hf
  have hx : ObjOk X.prog X.w H1 s1.heap dd (.xd [("at", .int i)]) := I1.hok dd _ ea
  obtain ⟨mA, hns, hr⟩ := hx
  obtain ⟨od, ho, hl⟩ := lookIn_ns hns
  have l : List.lookup ("at" : Str) [(("at" : Str), V.int i)] = some (V.int i) := by simp [List.lookup]
  obtain ⟨u, hu, ru⟩ := RelO.some_of (v := V.int i) (o := mA "at") (by rw [← l]; exact hr "at")
  have J : PySem.W.InstAt s1.heap a oe C (some od) := ⟨ha, hz.1, by unfold PySem.W.notCls; rw [hd] <;> rfl, by rw [hz.2]; exact ho⟩
  exact HandSPX.exc_get I1.kIn J T.ga T.gg T.oex.exC (PySem.W.findObj_own T.hd T.no rfl (by rw [hl, hu])) (handed_of ru) ⟨V.int i, H1, I1.tok _, ru, q⟩
theorem at_len {i : Int} (hi : i.natAbs.log2 < 1920) : (Str.empty ++ Str.ofString "at " ++ Str.ofString (toString i)).length ≤ sizeLine := by
  have e := int_text_length_le (k := 1920) (by decide) hi
  rw [ER.len_app, ER.len_app, PySem.ofString_length (toString i), sizeLine_eq]
  have h1 : (Str.empty).length = 0 := by rfl
  have h2 : (Str.ofString "at ").length = 3 := by decide +kernel
  omega
/-- try: .. except x as n: .. -/
def tTry (K : PySem.W.Frag) (c : Value) (i : Nat) (tb : WX → TS) (ts : Addr → Value → Option Addr → TS) (Wout : WX) : TS := fun D σ H => tb (wAs K c i ts Wout D) D σ H
theorem ps_tryE {X : Cx} {x n : Str} {c : Value} {i : Nat} {body suite : List Stmt} {b0 : Stmt} {np pos pos' : Pos} {tb : WX → TS} {ts : Addr → Value → Option Addr → TS} {Wout : WX}
    (hs : X.stack = X.env :: X.outer) (hf : X.env.frame = some X.env.locals) (hN : X.N.Nodup) (hi : X.N[i]? = some n) (hln : X.env.kindOf n = some .local) (hc : Names X x c) (tk : Takes X Wout)
    (hb : ∀ (W : WX) (pn : List (Addr × Obj)) (xe : Value → Shared → Prop), Takes (X.tr pn xe) W → PassesOwn (model X.prog X.w) X.A X.env xe → PSs (X.tr pn xe) body (tb W))
    (hsu : ∀ (a : Addr) (oe : Obj) (cls : Value) (d : Option Addr) (pn : List (Addr × Obj)), Zc cls d oe → (∃ vs, oe.data = .fields vs) → PSs (X.suite a ((a, oe) :: pn)) (b0 :: suite) (ts a cls d)) :
    PS X (.Try body [.ExceptHandler (some (.Name x np)) (some n) (b0 :: suite) pos'] [] [] pos) (tTry X.K c i tb ts Wout) := ps_try_as hs hf hN hi hln hc tk hb hsu
end ER
/-! Objects that are made, and methods that are called, where an error is looked out for. -/
namespace MKX
open PySem PySem.Spec PyProof.Rows L2
def tMkS (C : Addr) (sp : Sp) (E : L2.St → XK) (t : TA) : TE := fun σ H Q => t σ H fun vs H1 => ∀ x dx, H1 x = none → H1 dx = none → dx ≠ x →
  sp (.ref x :: vs) (upd (upd H1 dx (.own x)) x (.ins C dx [])) (fun v H2 => v = .non ∧ Q (.ref x) H2) (E σ)
section
variable {X : Cx} {CX : CXT} {k : Nat} {f C : Addr} {fd : FuncData} {ps : List Str} {sp : Sp} {E : L2.St → XK} {x m : Str} {p pos apos : Pos} {e o : Expr} {es : List Expr} {ta : TE} {t : TA}
theorem go_mkS {pins : List (Addr × Obj)} {σ : L2.St} {H : Hp} {s : Shared} {Q : VK} {us : List Value} {vs : List V} (Z : Mk X.K C f) (G : FnOk X.prog X.w X.K X.mg X.base CX k f fd ps sp) (room : Room (k + 1) X.A) (bd : L2.Binds X.K fd ps [])
    (out : PassesAt CX X σ (E σ)) (J : Inv X pins σ H s) (rv : Vals vs us)
    (q : ∀ x dx, H x = none → H dx = none → dx ≠ x → sp (.ref x :: vs) (upd (upd H dx (.own x)) x (.ins C dx [])) (fun v H2 => v = .non ∧ Q (.ref x) H2) (E σ)) :
    wpAny (model X.prog X.w) X.A (call (.ref C) us) (EP X pins σ Q) X.xe s := by
  generalize hn : s.heap.objs.size = n
  have q0 := q (n + 1) n (J.hok.fresh (by rw [hn]; exact Nat.le_succ n)) (J.hok.fresh (Nat.le_of_eq hn)) (Nat.ne_of_lt (Nat.lt_succ_self n))
  have J2 := Inv.made (C := C) J
  rw [hn] at J2
  have rv2 : Vals (V.ref (n + 1) :: vs) (Value.ref (n + 1) :: us) := .cons rfl rv
  have len1 : (Value.ref (n + 1) :: us).length = ps.length := rv2.length.symm.trans (G.len _ _ _ _ q0)
  have bd1 := bd _ (Value.ref (n + 1) :: us) J2.kIn (by rw [List.append_nil]; exact len1)
  rw [List.append_nil] at bd1
  have body := G.run _ X.stack _ _ ⟨Value.ref (n + 1) :: us, []⟩ _ _ _ (E σ) (room.make C us []) (J2.env0.make C us []) bd1 rv2 q0
  refine wpAny_call (make_map (f := f) J.kIn Z.makes Z.init (beq_iff_eq.mp Z.fn) ?_)
  rw [hn]
  refine codeAny_mono body fun r s2 back => ?_
  match r, back with
  | .error e, back => exact out pins _ _ e s2 J2 back
  | .ok (.ret u), back =>
    obtain ⟨v, H2, J3, rv3, ev, q3⟩ := J2.after back
    subst ev
    exact ⟨rv3, V.ref (n + 1), H2, J3, rfl, q3⟩
  | .ok .next, back => exact back.elim
  | .ok .brk, back => exact back.elim
  | .ok .cont, back => exact back.elim
theorem pe_mkS (Z : Mk X.K C f) (G : FnOk X.prog X.w X.K X.mg X.base CX k f fd ps sp) (room : Room (k + 1) X.A) (hg : Gl X x) (hm : X.mg x = some (.ref C)) (bd : L2.Binds X.K fd ps []) (out : ∀ σ, PassesAt CX X σ (E σ))
    (ha : PA X (e :: es) t) (hdb : (x == ("__debug__" : Str)) = false := by decide) (he : starEach (e :: es) X.env = (false, eval e X.env) :: starEach es X.env := by rfl) (hpl : (backTo pos (starEach es X.env)).any (·.1) = false := by rfl) :
    PE X (.Call (.Name x p) (e :: es) [] pos) (tMkS C sp E t) := by
  constructor
  intro pins s σ H Q J q
  refine wpAny_Call_Name_kw (ld_glob J hg hm ?_ hdb)
  exact PySem.W.callWith_K (h₀ := X.base) J.ok.mod.kin Z.kp (thn (ha.run pos pins s σ H _ J q) fun us s1 ⟨vs, H1, J1, r, q1⟩ => ⟨J1.kIn, go_mkS Z G room bd (out σ) J1 r q1⟩) he hpl
def tMtS (C : Addr) (m : Str) (sp : Sp) (E : L2.St → XK) (ta : TE) (t : TA) : TE := fun σ H Q => ta σ H fun x H1 => ∃ a dx fs, x = .ref a ∧ H1 a = some (.ins C dx fs) ∧ fs.lookup m = none ∧ t σ H1 fun vs H2 => sp (x :: vs) H2 Q (E σ)
theorem pe_mtS {pl : Sem Bool} (ho : PE X o ta) (c : Cls X.K C) (hm : Meth X.K C m f) (G : FnOk X.prog X.w X.K X.mg X.base CX k f fd ps sp) (room : Room k X.A) (bd : L2.Binds X.K fd ps []) (out : ∀ σ, PassesAt CX X σ (E σ)) (ha : PA X (e :: es) t)
    (hst : starEach (e :: es) X.env = (false, eval e X.env) :: starEach es X.env := by rfl) (hpl : (backTo pos (starEach es X.env)).any (·.1) = false := by rfl)
    (ht : eval (.Call (.Attribute o m apos) (e :: es) [] pos) X.env = (do
      let ov ← eval o X.env; standAt apos.atName; let (f, first) ← holding [ov] (getMethod ov m pl); callWith pos f first (backTo pos (starEach (e :: es) X.env)) (backToKw pos (keywordEach [] X.env))) := by rfl) :
    PE X (.Call (.Attribute o m apos) (e :: es) [] pos) (tMtS C m sp E ta t) := by
  constructor
  intro pins s σ H Q J q
  refine PySem.W.methodCall_KW (pl := pl) (thn (ho.run pins s σ H _ J q) fun u s1 hu => ?_) ht
  obtain ⟨x, H1, J1, rx, a, dx, fs, ex, ea, nl, q1⟩ := hu
  subst ex
  cases rx
  refine getmeth_ok J1 ea c hm nl (PySem.W.callWith_K (first := [.ref a]) (h₀ := X.base) J.ok.mod.kin hm.kp (thn (ha.run pos pins s1 σ H1 _ J1 q1) fun us s2 ⟨vs, H2, J2, r, q2⟩ => ⟨J2.kIn, ?_⟩) hst hpl)
  exact run_fnS (us := .ref a :: us) (vs := .ref a :: vs) G room bd (out σ) J2 (.cons rfl r) q2
end
/-- for i, x in enumerate(xs) -/
theorem for_enumL {K : PySem.W.Frag} {a : Addr} {xs : List V} {g : TG} {tb : TS} {D : Ends} {σ : L2.St} {H : Hp} (Pv : Nat → L2.St → Hp → Prop) (h0 : Pv 0 σ H) (hl : ∀ i σ H, i ≤ xs.length → Pv i σ H → SqL K H a xs)
    (hs : ∀ (i : Nat) (x : V) (T : Addr) (σ : L2.St) (H : Hp), xs[i]? = some x → Pv i σ H → H T = none → g (.ref T) σ (upd H T (.tup [.int (i : Nat), x])) fun σ2 H2 => tb { D with nx := Pv (i + 1), ct := Pv (i + 1), bk := D.nx } σ2 H2) (hd : ∀ σ H, Pv xs.length σ H → D.nx σ H) :
    ∃ W : Nat → Nat → L2.St → Hp → Prop, (∃ m, W 0 m σ H) ∧ ∀ i m σ H, W i m σ H →
      ((Ite K a).stop i H ∧ D.nx σ H) ∨ ((Ite K a).go i H ∧ ∃ N : L2.St → Hp → Prop, (∀ σ' H', N σ' H' → ∃ m', m' < m ∧ W (i + 1) m' σ' H') ∧ ∀ x H', (Ite K a).yld i H x H' → g x σ H' fun σ2 H2 => tb { D with nx := N, ct := N, bk := D.nx } σ2 H2) :=
  for_it walk_enum Pv h0 hl (fun i x σ H H' _ p y => by
    obtain ⟨T, x1, x2, rfl, nT, rfl, e1, e2⟩ := y
    cases (Option.some.inj e1)
    exact hs i x2 T σ H e2 p nT) hd
end MKX
namespace GF
/-! # Polynomials over two elements, as natural numbers -/
theorem xor_mod2 (b c : Nat) : (b ^^^ c) % 2 = (b % 2 + c % 2) % 2 := by
  have := Nat.xor_mod_two_pow (a := b) (b := c) (n := 1)
  simp at this
  rw [this]
  rcases Nat.mod_two_eq_zero_or_one b with h | h <;> rcases Nat.mod_two_eq_zero_or_one c with g | g <;> rw [h, g] <;> rfl
theorem xor_div2 (b c : Nat) : (b ^^^ c) / 2 = (b / 2) ^^^ (c / 2) := by
  apply Nat.eq_of_testBit_eq
  intro i
  simp [Nat.testBit_div_two]
theorem two_mul_xor (b c : Nat) : 2 * (b ^^^ c) = (2 * b) ^^^ (2 * c) := by
  have := Nat.shiftLeft_xor_distrib (a := b) (b := c) (i := 1)
  simp only [Nat.shiftLeft_eq, Nat.pow_one] at this
  rw [Nat.mul_comm 2, Nat.mul_comm 2, Nat.mul_comm 2]
  exact this
theorem pow_mul_xor (i b c : Nat) : 2 ^ i * (b ^^^ c) = (2 ^ i * b) ^^^ (2 ^ i * c) := by
  have := Nat.shiftLeft_xor_distrib (a := b) (b := c) (i := i)
  simp only [Nat.shiftLeft_eq] at this
  rw [Nat.mul_comm (2 ^ i), Nat.mul_comm (2 ^ i), Nat.mul_comm (2 ^ i)]
  exact this
theorem split2 (b : Nat) : b = (b % 2) ^^^ (2 * (b / 2)) := by
  apply Nat.eq_of_testBit_eq
  intro i
  cases i with
  | zero => simp [Nat.testBit_zero, Nat.mod_mod]
  | succ i =>
    rw [Nat.testBit_xor, Nat.testBit_succ, Nat.testBit_succ, Nat.testBit_succ]
    have h : b % 2 / 2 = 0 := by omega
    have g : 2 * (b / 2) / 2 = b / 2 := by omega
    rw [h, g]; simp
/-- the product, by n bits of b -/
def pm : Nat → Nat → Nat → Nat
  | 0, _, _ => 0
  | n + 1, a, b => (if b % 2 = 1 then a else 0) ^^^ (2 * pm n a (b / 2))
def mul (a b : Nat) : Nat := pm (b.log2 + 1) a b
theorem pm_zero_right (n a : Nat) : pm n a 0 = 0 := by
  induction n with
  | zero => rfl
  | succ n ih => simp [pm, ih]
theorem pm_zero_left (n b : Nat) : pm n 0 b = 0 := by
  induction n generalizing b with
  | zero => rfl
  | succ n ih => simp [pm, ih]
theorem pm_stable (n : Nat) : ∀ {k a b : Nat}, b < 2 ^ n → n ≤ k → pm k a b = pm n a b := by
  induction n with
  | zero =>
    intro k a b h _
    have : b = 0 := by simpa using h
    subst this
    rw [pm_zero_right, pm_zero_right]
  | succ n ih =>
    intro k a b h hk
    obtain ⟨k, rfl⟩ : ∃ j, k = j + 1 := ⟨k - 1, by omega⟩
    simp only [pm]
    rw [ih (a := a) (b := b / 2) (k := k) (by rw [Nat.pow_succ] at h; omega) (by omega)]
theorem lt_log2 (b : Nat) : b < 2 ^ (b.log2 + 1) := Nat.lt_log2_self
theorem pm_eq {n a b : Nat} (h : b < 2 ^ n) : pm n a b = mul a b := by
  unfold mul
  by_cases hk : n ≤ b.log2 + 1
  · exact (pm_stable n h hk).symm
  · exact pm_stable (b.log2 + 1) (lt_log2 b) (by omega)
theorem mul_zero (a : Nat) : mul a 0 = 0 := pm_zero_right _ _
theorem zero_mul (b : Nat) : mul 0 b = 0 := pm_zero_left _ _
theorem mul_step (a b : Nat) : mul a b = (if b % 2 = 1 then a else 0) ^^^ (2 * mul a (b / 2)) := by
  have h1 : b < 2 ^ (b.log2 + 2) := Nat.lt_of_lt_of_le (lt_log2 b) (Nat.pow_le_pow_right (by decide) (by omega))
  rw [← pm_eq h1]
  show (if b % 2 = 1 then a else 0) ^^^ (2 * pm (b.log2 + 1) a (b / 2)) = _
  rw [pm_eq (n := b.log2 + 1)]
  have := lt_log2 b
  omega
/-- an induction by halves -/
theorem half_ind {P : Nat → Prop} (h0 : P 0) (h : ∀ b, b ≠ 0 → P (b / 2) → P b) (b : Nat) : P b := by
  induction b using Nat.strongRecOn with
  | ind b ih =>
    by_cases hb : b = 0
    · subst hb; exact h0
    · exact h b hb (ih _ (by omega))
theorem if_xor_left (p q r : Prop) [Decidable p] [Decidable q] [Decidable r] (a : Nat) (h : r ↔ ¬ (p ↔ q)) : (if r then a else 0) = (if p then a else 0) ^^^ (if q then a else 0) := by
  by_cases hp : p <;> by_cases hq : q <;> simp_all
theorem mul_xor (a b c : Nat) : mul a (b ^^^ c) = mul a b ^^^ mul a c := by
  induction b using half_ind generalizing c with
  | h0 => rw [mul_zero, Nat.zero_xor, Nat.zero_xor]
  | h b hb ih =>
    rw [mul_step a (b ^^^ c), mul_step a b, mul_step a c, xor_div2, ih, two_mul_xor,
      if_xor_left (b % 2 = 1) (c % 2 = 1) ((b ^^^ c) % 2 = 1) a (by rw [xor_mod2]; omega)]
    ac_rfl
theorem xor_mul (a d b : Nat) : mul (a ^^^ d) b = mul a b ^^^ mul d b := by
  induction b using half_ind with
  | h0 => simp [mul_zero]
  | h b hb ih =>
    rw [mul_step (a ^^^ d) b, mul_step a b, mul_step d b, ih, two_mul_xor]
    by_cases h : b % 2 = 1
    · simp only [h, if_true]; ac_rfl
    · simp only [h, if_false, Nat.zero_xor]
theorem two_mul (a b : Nat) : mul (2 * a) b = 2 * mul a b := by
  induction b using half_ind with
  | h0 => simp [mul_zero]
  | h b hb ih =>
    rw [mul_step (2 * a) b, mul_step a b, ih, two_mul_xor]
    by_cases h : b % 2 = 1 <;> simp [h]
theorem mul_two (a b : Nat) : mul a (2 * b) = 2 * mul a b := by
  rw [mul_step a (2 * b)]
  have h1 : 2 * b % 2 = 0 := by omega
  have h2 : 2 * b / 2 = b := by omega
  rw [h1, h2]; simp
theorem mul_one (a : Nat) : mul a 1 = a := by
  rw [mul_step]; simp [mul_zero]
theorem one_mul (b : Nat) : mul 1 b = b := by
  induction b using half_ind with
  | h0 => exact mul_zero 1
  | h b hb ih =>
    rw [mul_step, ih]
    have := split2 b
    by_cases h : b % 2 = 1
    · rw [if_pos h]; rw [h] at this; exact this.symm
    · have h0 : b % 2 = 0 := by omega
      rw [if_neg h]; rw [h0] at this; exact this.symm
theorem mul_comm (a b : Nat) : mul a b = mul b a := by
  induction b using half_ind generalizing a with
  | h0 => rw [mul_zero, zero_mul]
  | h b hb ih =>
    rw [mul_step]
    conv => rhs; rw [split2 b, xor_mul, two_mul, ← ih]
    congr 1
    by_cases h : b % 2 = 1
    · rw [if_pos h, h, one_mul]
    · have h0 : b % 2 = 0 := by omega
      rw [if_neg h, h0, zero_mul]
theorem mul_assoc (a b c : Nat) : mul (mul a b) c = mul a (mul b c) := by
  induction c using half_ind with
  | h0 => simp [mul_zero]
  | h c hc ih =>
    rw [mul_step (mul a b) c, mul_step b c, mul_xor, mul_two, ih]
    by_cases h : c % 2 = 1
    · simp [h]
    · simp [h, mul_zero]
theorem mul_pow (a i : Nat) : mul a (2 ^ i) = 2 ^ i * a := by
  induction i with
  | zero => simp [mul_one]
  | succ i ih => rw [Nat.pow_succ, Nat.mul_comm (2 ^ i) 2, mul_two, ih]; rw [Nat.mul_assoc]
theorem pow_mul (i b : Nat) : mul (2 ^ i) b = 2 ^ i * b := by rw [mul_comm, mul_pow]
theorem xor_self_cancel (a b : Nat) : a ^^^ (a ^^^ b) = b := by rw [← Nat.xor_assoc, Nat.xor_self, Nat.zero_xor]
theorem xor_eq_iff {a b c : Nat} : a ^^^ b = c ↔ b = a ^^^ c := by
  constructor
  · intro h; rw [← h, xor_self_cancel]
  · intro h; rw [h, xor_self_cancel]
theorem xor_eq_zero {a b : Nat} (h : a ^^^ b = 0) : a = b := by
  have := xor_eq_iff.mp h
  rw [Nat.xor_zero] at this
  exact this.symm
theorem xor_lt {a b n : Nat} (ha : a < 2 ^ n) (hb : b < 2 ^ n) : a ^^^ b < 2 ^ n := Nat.xor_lt_two_pow ha hb
/-! ## Degrees: a is of the degree n if 2 ^ n ≤ a < 2 ^ (n + 1) -/
def Deg (a n : Nat) : Prop := 2 ^ n ≤ a ∧ a < 2 ^ (n + 1)
theorem deg_log {a : Nat} (h : a ≠ 0) : Deg a a.log2 := ⟨Nat.log2_self_le h, Nat.lt_log2_self⟩
theorem Deg.ne {a n : Nat} (h : Deg a n) : a ≠ 0 := by
  have := Nat.two_pow_pos n
  have := h.1
  omega
theorem Deg.log {a n : Nat} (h : Deg a n) : a.log2 = n := (Nat.log2_eq_iff h.ne).mpr h
theorem deg_top {a n : Nat} (h : a < 2 ^ (n + 1)) : Deg a n ↔ a.testBit n = true := by
  constructor
  · intro d
    rw [Nat.testBit_eq_decide_div_mod_eq]
    have : a / 2 ^ n = 1 := by
      rw [Nat.div_eq_of_lt_le (k := 1)]
      · rw [Nat.one_mul]; exact d.1
      · rw [Nat.pow_succ] at h; omega
    simp [this]
  · intro t
    exact ⟨Nat.ge_two_pow_of_testBit t, h⟩
/-- the top bits cancel -/
theorem deg_xor {a b n : Nat} (ha : Deg a n) (hb : Deg b n) : a ^^^ b < 2 ^ n := by
  apply Nat.lt_pow_two_of_testBit
  intro i hi
  rw [Nat.testBit_xor]
  by_cases e : i = n
  · subst e
    rw [(deg_top ha.2).mp ha, (deg_top hb.2).mp hb]; rfl
  · have : n + 1 ≤ i := by omega
    rw [Nat.testBit_lt_two_pow (Nat.lt_of_lt_of_le ha.2 (Nat.pow_le_pow_right (by decide) this)),
      Nat.testBit_lt_two_pow (Nat.lt_of_lt_of_le hb.2 (Nat.pow_le_pow_right (by decide) this))]; rfl
theorem deg_xor_lt {a b n : Nat} (ha : Deg a n) (hb : b < 2 ^ n) : Deg (a ^^^ b) n := by
  have hb' : b < 2 ^ (n + 1) := by rw [Nat.pow_succ]; omega
  rw [deg_top (xor_lt ha.2 hb'), Nat.testBit_xor, (deg_top ha.2).mp ha, Nat.testBit_lt_two_pow hb]
  rfl
theorem deg_shift {a n : Nat} (h : Deg a n) (i : Nat) : Deg (2 ^ i * a) (i + n) := by
  refine ⟨?_, ?_⟩
  · rw [Nat.pow_add]; exact Nat.mul_le_mul_left _ h.1
  · have := Nat.mul_lt_mul_of_pos_left h.2 (Nat.two_pow_pos i)
    rw [Nat.add_assoc, Nat.pow_add]; exact this
theorem mul_deg {a n : Nat} (ha : Deg a n) : ∀ {b k : Nat}, Deg b k → Deg (mul a b) (n + k) := by
  intro b k
  induction k generalizing b with
  | zero =>
    intro hb
    have : b = 1 := by have := hb.1; have := hb.2; simp at *; omega
    subst this
    rw [mul_one]; exact ha
  | succ k ih =>
    intro hb
    have h2 : Deg (b / 2) k := by
      have h1 := hb.1
      have h3 := hb.2
      rw [Nat.pow_succ] at h1 h3
      exact ⟨by omega, by omega⟩
    have h3 := deg_shift (ih h2) 1
    rw [mul_step, Nat.xor_comm]
    have e : 1 + (n + k) = n + (k + 1) := by omega
    rw [e] at h3
    rw [Nat.pow_one] at h3
    refine deg_xor_lt h3 ?_
    have hl : a < 2 ^ (n + (k + 1)) := Nat.lt_of_lt_of_le ha.2 (Nat.pow_le_pow_right (by decide) (by omega))
    by_cases hh : b % 2 = 1
    · rw [if_pos hh]; exact hl
    · rw [if_neg hh]; exact Nat.two_pow_pos _
theorem mul_ne {a b : Nat} (ha : a ≠ 0) (hb : b ≠ 0) : mul a b ≠ 0 := (mul_deg (deg_log ha) (deg_log hb)).ne
theorem mul_log {a b : Nat} (ha : a ≠ 0) (hb : b ≠ 0) : (mul a b).log2 = a.log2 + b.log2 := (mul_deg (deg_log ha) (deg_log hb)).log
theorem mul_eq_zero {a b : Nat} (h : mul a b = 0) : a = 0 ∨ b = 0 := by
  by_cases ha : a = 0
  · exact .inl ha
  · by_cases hb : b = 0
    · exact .inr hb
    · exact absurd h (mul_ne ha hb)
theorem mul_cancel {a b c : Nat} (hc : c ≠ 0) (h : mul a c = mul b c) : a = b := by
  have e : mul (a ^^^ b) c = 0 := by rw [xor_mul, h, Nat.xor_self]
  rcases mul_eq_zero e with h | h
  · exact xor_eq_zero h
  · exact absurd h hc
/-! ## Division -/
theorem div_unique {q k k' r r' : Nat} (hq : q ≠ 0) (hr : r < 2 ^ q.log2) (hr' : r' < 2 ^ q.log2) (h : mul k q ^^^ r = mul k' q ^^^ r') : k = k' ∧ r = r' := by
  have e : mul (k ^^^ k') q = r ^^^ r' := by
    rw [xor_mul]
    have h2 : mul k q ^^^ r ^^^ (mul k' q ^^^ r) = mul k' q ^^^ r' ^^^ (mul k' q ^^^ r) := by rw [h]
    have l : mul k q ^^^ r ^^^ (mul k' q ^^^ r) = mul k q ^^^ mul k' q := by
      rw [Nat.xor_assoc, Nat.xor_comm r, Nat.xor_assoc, Nat.xor_self, Nat.xor_zero]
    have rr : mul k' q ^^^ r' ^^^ (mul k' q ^^^ r) = r ^^^ r' := by
      rw [Nat.xor_comm (mul k' q) r', Nat.xor_assoc, xor_self_cancel, Nat.xor_comm]
    rw [l, rr] at h2
    exact h2
  by_cases hk : k ^^^ k' = 0
  · have := xor_eq_zero hk
    subst this
    rw [hk, zero_mul] at e
    exact ⟨rfl, xor_eq_zero e.symm⟩
  · have d := mul_deg (deg_log hk) (deg_log hq)
    rw [e] at d
    have l := xor_lt hr hr'
    have := d.1
    have m : 2 ^ q.log2 ≤ 2 ^ ((k ^^^ k').log2 + q.log2) := Nat.pow_le_pow_right (by decide) (by omega)
    omega
/-- quotient and rest, by n turns -/
def dm : Nat → Nat → Nat → Nat × Nat
  | 0, _, r => (0, r)
  | n + 1, q, r => if r.testBit (n + q.log2) then
      let z := dm n q (r ^^^ 2 ^ n * q)
      (2 ^ n ^^^ z.1, z.2)
    else dm n q r
theorem dm_spec {q : Nat} (hq : q ≠ 0) : ∀ (n r : Nat), r < 2 ^ (n + q.log2) → r = mul (dm n q r).1 q ^^^ (dm n q r).2 ∧ (dm n q r).2 < 2 ^ q.log2 := by
  intro n
  induction n with
  | zero => intro r h; simp [dm, zero_mul]; simpa using h
  | succ n ih =>
    intro r h
    have h' : r < 2 ^ (n + q.log2 + 1) := by
      have : n + 1 + q.log2 = n + q.log2 + 1 := by omega
      rw [← this]; exact h
    simp only [dm]
    by_cases t : r.testBit (n + q.log2) = true
    · rw [if_pos t]
      have dr : Deg r (n + q.log2) := (deg_top h').mpr t
      have dq := deg_shift (deg_log hq) n
      obtain ⟨e1, e2⟩ := ih _ (deg_xor dr dq)
      refine ⟨?_, e2⟩
      simp only []
      rw [xor_mul, pow_mul, Nat.xor_assoc, ← e1, Nat.xor_comm r, xor_self_cancel]
    · rw [if_neg t]
      refine ih r ?_
      rcases Nat.lt_or_ge r (2 ^ (n + q.log2)) with l | g
      · exact l
      · exact absurd ((deg_top h').mp ⟨g, h'⟩) t
def pdiv (p q : Nat) : Nat := (dm (p.log2 + 1) q p).1
def pmod (p q : Nat) : Nat := (dm (p.log2 + 1) q p).2
theorem dm_room (p q : Nat) : p < 2 ^ (p.log2 + 1 + q.log2) := Nat.lt_of_lt_of_le (lt_log2 p) (Nat.pow_le_pow_right (by decide) (by omega))
theorem div_eq {p q : Nat} (hq : q ≠ 0) : p = mul (pdiv p q) q ^^^ pmod p q := (dm_spec hq _ p (dm_room p q)).1
theorem mod_lt {p q : Nat} (hq : q ≠ 0) : pmod p q < 2 ^ q.log2 := (dm_spec hq _ p (dm_room p q)).2
theorem mod_of {p q k r : Nat} (hq : q ≠ 0) (hr : r < 2 ^ q.log2) (h : p = mul k q ^^^ r) : pdiv p q = k ∧ pmod p q = r :=
  div_unique hq (mod_lt hq) hr ((div_eq hq).symm.trans h)
theorem mod_small {p q : Nat} (hq : q ≠ 0) (h : p < 2 ^ q.log2) : pmod p q = p := (mod_of (k := 0) hq h (by rw [zero_mul, Nat.zero_xor])).2
theorem mod_xor {a b q : Nat} (hq : q ≠ 0) : pmod (a ^^^ b) q = pmod a q ^^^ pmod b q := by
  refine (mod_of (k := pdiv a q ^^^ pdiv b q) hq (xor_lt (mod_lt hq) (mod_lt hq)) ?_).2
  rw [xor_mul]
  conv => lhs; rw [div_eq (p := a) hq, div_eq (p := b) hq]
  ac_rfl
theorem mod_mul_self {k q : Nat} (hq : q ≠ 0) : pmod (mul k q) q = 0 :=
  (mod_of (k := k) hq (Nat.two_pow_pos _) (by rw [Nat.xor_zero])).2
theorem mod_mod {p q : Nat} (hq : q ≠ 0) : pmod (pmod p q) q = pmod p q := mod_small hq (mod_lt hq)
theorem mod_mul_left {a b q : Nat} (hq : q ≠ 0) : pmod (mul (pmod a q) b) q = pmod (mul a b) q := by
  conv => rhs; rw [div_eq (p := a) hq, xor_mul, mod_xor hq, mul_assoc, mul_comm q b, ← mul_assoc, mod_mul_self hq, Nat.zero_xor]
theorem mod_mul_right {a b q : Nat} (hq : q ≠ 0) : pmod (mul a (pmod b q)) q = pmod (mul a b) q := by
  rw [mul_comm, mod_mul_left hq, mul_comm]
/-! ## Divisors -/
def Dvd (q p : Nat) : Prop := ∃ k, p = mul k q
theorem dvd_mod {q p : Nat} (hq : q ≠ 0) : Dvd q p ↔ pmod p q = 0 := by
  constructor
  · rintro ⟨k, rfl⟩; exact mod_mul_self hq
  · intro h
    exact ⟨pdiv p q, by have := div_eq (p := p) hq; rw [h, Nat.xor_zero] at this; exact this⟩
theorem Dvd.xor {q a b : Nat} (ha : Dvd q a) (hb : Dvd q b) : Dvd q (a ^^^ b) := by
  obtain ⟨k, rfl⟩ := ha
  obtain ⟨l, rfl⟩ := hb
  exact ⟨k ^^^ l, by rw [xor_mul]⟩
theorem Dvd.mul {q a : Nat} (c : Nat) (ha : Dvd q a) : Dvd q (GF.mul c a) := by
  obtain ⟨k, rfl⟩ := ha
  exact ⟨GF.mul c k, by rw [mul_assoc]⟩
theorem Dvd.trans {a b c : Nat} (h : Dvd a b) (g : Dvd b c) : Dvd a c := by
  obtain ⟨k, rfl⟩ := g
  exact h.mul k
theorem dvd_self (a : Nat) : Dvd a a := ⟨1, (one_mul a).symm⟩
theorem dvd_zero (a : Nat) : Dvd a 0 := ⟨0, (zero_mul a).symm⟩
theorem one_dvd (a : Nat) : Dvd 1 a := ⟨a, (mul_one a).symm⟩
theorem Dvd.le {q p : Nat} (h : Dvd q p) (hp : p ≠ 0) : q.log2 ≤ p.log2 ∧ q ≠ 0 := by
  obtain ⟨k, rfl⟩ := h
  have hk : k ≠ 0 := fun e => hp (by rw [e, zero_mul])
  have hq : q ≠ 0 := fun e => hp (by rw [e, mul_zero])
  rw [mul_log hk hq]
  exact ⟨by omega, hq⟩
theorem dvd_mod_iff {d p q : Nat} (hq : q ≠ 0) (hd : Dvd d q) : Dvd d (pmod p q) ↔ Dvd d p := by
  have e := div_eq (p := p) hq
  constructor
  · intro h
    rw [e]
    exact (hd.mul _).xor h
  · intro h
    have e2 : pmod p q = mul (pdiv p q) q ^^^ p := by rw [eq_comm, xor_eq_iff]; exact e
    rw [e2]
    exact (hd.mul _).xor h
/-! ## The common divisor -/
def gcdF : Nat → Nat → Nat → Nat
  | 0, a, _ => a
  | n + 1, a, b => if b = 0 then a else gcdF n b (pmod a b)
/-- the measure: one more than the degree, 0 for 0 -/
def siz (b : Nat) : Nat := if b = 0 then 0 else b.log2 + 1
theorem siz_le {b n : Nat} : siz b ≤ n ↔ b < 2 ^ n := by
  unfold siz
  by_cases h : b = 0
  · subst h; simp [Nat.two_pow_pos]
  · rw [if_neg h]
    constructor
    · intro k; exact Nat.lt_of_lt_of_le (lt_log2 b) (Nat.pow_le_pow_right (by decide) k)
    · intro k
      have := (Nat.log2_lt h).mpr k
      omega
theorem siz_mod {a b : Nat} (hb : b ≠ 0) : siz (pmod a b) < siz b := by
  have : siz (pmod a b) ≤ b.log2 := siz_le.mpr (mod_lt hb)
  unfold siz at *
  rw [if_neg hb]
  omega
def gcd (a b : Nat) : Nat := gcdF (siz b) a b
theorem gcdF_zero (n a : Nat) : gcdF n a 0 = a := by cases n <;> simp [gcdF]
theorem gcdF_stable : ∀ (n k a b : Nat), siz b ≤ n → siz b ≤ k → gcdF n a b = gcdF k a b := by
  intro n
  induction n with
  | zero =>
    intro k a b h _
    have : b = 0 := by simpa using siz_le.mp h
    subst this
    rw [gcdF_zero, gcdF_zero]
  | succ n ih =>
    intro k a b h hk
    by_cases hb : b = 0
    · subst hb; rw [gcdF_zero, gcdF_zero]
    · have hm := siz_mod (a := a) hb
      obtain ⟨k, rfl⟩ : ∃ j, k = j + 1 := ⟨k - 1, by omega⟩
      simp only [gcdF, if_neg hb]
      exact ih k _ _ (by omega) (by omega)
theorem gcd_zero (a : Nat) : gcd a 0 = a := gcdF_zero _ _
theorem gcd_step (a : Nat) {b : Nat} (hb : b ≠ 0) : gcd a b = gcd b (pmod a b) := by
  have hm := siz_mod (a := a) hb
  unfold gcd
  obtain ⟨n, e⟩ : ∃ n, siz b = n + 1 := ⟨siz b - 1, by omega⟩
  rw [e]
  simp only [gcdF, if_neg hb]
  exact gcdF_stable _ _ _ _ (by omega) (by omega)
theorem gcd_ind {P : Nat → Nat → Prop} (h0 : ∀ a, P a 0) (h : ∀ a b, b ≠ 0 → P b (pmod a b) → P a b) (a b : Nat) : P a b := by
  generalize e : siz b = n
  induction n using Nat.strongRecOn generalizing a b with
  | ind n ih =>
    by_cases hb : b = 0
    · subst hb; exact h0 a
    · exact h a b hb (ih _ (by have := siz_mod (a := a) hb; omega) _ _ rfl)
theorem gcd_dvd (a b : Nat) : Dvd (gcd a b) a ∧ Dvd (gcd a b) b := by
  induction a, b using gcd_ind with
  | h0 a => rw [gcd_zero]; exact ⟨dvd_self a, dvd_zero a⟩
  | h a b hb ih =>
    rw [gcd_step a hb]
    exact ⟨(dvd_mod_iff hb ih.1).mp ih.2, ih.1⟩
theorem dvd_gcd {d : Nat} (a b : Nat) : Dvd d a → Dvd d b → Dvd d (gcd a b) := by
  induction a, b using gcd_ind with
  | h0 a => intro h _; rw [gcd_zero]; exact h
  | h a b hb ih =>
    intro h1 h2
    rw [gcd_step a hb]
    exact ih h2 ((dvd_mod_iff hb h2).mpr h1)
theorem bezout (a b : Nat) : ∃ u v, gcd a b = mul u a ^^^ mul v b := by
  induction a, b using gcd_ind with
  | h0 a => exact ⟨1, 0, by rw [gcd_zero, one_mul, zero_mul, Nat.xor_zero]⟩
  | h a b hb ih =>
    obtain ⟨u, v, e⟩ := ih
    refine ⟨v, u ^^^ mul v (pdiv a b), ?_⟩
    rw [gcd_step a hb, e]
    have e2 : pmod a b = mul (pdiv a b) b ^^^ a := by rw [eq_comm, xor_eq_iff]; exact div_eq hb
    rw [e2, mul_xor, xor_mul, mul_assoc]
    ac_rfl
/-! ## Irreducible ones -/
/-- no divisor of a degree from 1 to half the degree -/
def Irr (p : Nat) : Prop := 2 ≤ p ∧ ∀ q, 2 ≤ q → q.log2 ≤ p.log2 / 2 → ¬ Dvd q p
theorem log_pos {q : Nat} (h : 2 ≤ q) : 1 ≤ q.log2 := by
  rw [Nat.le_log2 (by omega)]; omega
theorem Irr.only {p q : Nat} (h : Irr p) (hd : Dvd q p) : q = 1 ∨ q.log2 = p.log2 := by
  have hp : p ≠ 0 := by have := h.1; omega
  obtain ⟨hl, hq⟩ := hd.le hp
  by_cases h1 : q = 1
  · exact .inl h1
  · right
    obtain ⟨k, e⟩ := hd
    have hk : k ≠ 0 := fun z => hp (by rw [e, z, zero_mul])
    have el : p.log2 = k.log2 + q.log2 := by rw [e, mul_log hk hq]
    by_cases k1 : k = 1
    · subst k1; rw [one_mul] at e; rw [e]
    · exfalso
      by_cases hh : q.log2 ≤ p.log2 / 2
      · exact h.2 q (by omega) hh ⟨k, e⟩
      · exact h.2 k (by omega) (by omega) ⟨q, by rw [mul_comm]; exact e⟩
theorem dvd_same {p q : Nat} (hp : p ≠ 0) (hd : Dvd q p) (h : q.log2 = p.log2) : q = p := by
  obtain ⟨k, e⟩ := hd
  have hk : k ≠ 0 := fun z => hp (by rw [e, z, zero_mul])
  have hq : q ≠ 0 := fun z => hp (by rw [e, z, mul_zero])
  have el : p.log2 = k.log2 + q.log2 := by
    conv => lhs; rw [e]
    exact mul_log hk hq
  have : k.log2 = 0 := by omega
  have k1 : k = 1 := by
    have d := deg_log hk
    rw [this] at d
    have a := d.1; have b := d.2
    simp at a b
    omega
  rw [e, k1, one_mul]
theorem Irr.prime {p a b : Nat} (h : Irr p) (hd : Dvd p (mul a b)) : Dvd p a ∨ Dvd p b := by
  have hp : p ≠ 0 := by have := h.1; omega
  have g := gcd_dvd p a
  rcases h.only g.1 with e | e
  · right
    obtain ⟨u, v, z⟩ := bezout p a
    rw [e] at z
    have : b = mul (mul u b) p ^^^ mul v (mul a b) := by
      have : mul 1 b = mul (mul u p ^^^ mul v a) b := by rw [← z]
      rw [one_mul, xor_mul, mul_assoc, mul_assoc, mul_comm p b, ← mul_assoc] at this
      exact this
    rw [this]
    exact ((dvd_self p).mul _).xor (hd.mul _)
  · left
    have : gcd p a = p := dvd_same hp g.1 e
    rw [this] at g
    exact g.2
theorem irr_or {p : Nat} (h2 : 2 ≤ p) (h : ¬ Irr p) : ∃ q, 2 ≤ q ∧ q.log2 ≤ p.log2 / 2 ∧ Dvd q p ∧ Irr q := by
  -- the least divisor
  have ex : ∃ q, 2 ≤ q ∧ q.log2 ≤ p.log2 / 2 ∧ Dvd q p := by
    apply Classical.byContradiction
    intro n
    refine h ⟨h2, fun q h1 h3 h4 => n ⟨q, h1, h3, h4⟩⟩
  obtain ⟨q, h1, h3, h4⟩ := ex
  induction q using Nat.strongRecOn with
  | ind q ih =>
    by_cases hi : Irr q
    · exact ⟨q, h1, h3, h4, hi⟩
    · have ex2 : ∃ r, 2 ≤ r ∧ r.log2 ≤ q.log2 / 2 ∧ Dvd r q := by
        apply Classical.byContradiction
        intro n
        refine hi ⟨h1, fun q h1 h3 h4 => n ⟨q, h1, h3, h4⟩⟩
      obtain ⟨r, r1, r2, r3⟩ := ex2
      refine ih r ?_ r1 (by omega) (r3.trans h4)
      have hq1 := log_pos h1
      have : r < 2 ^ q.log2 := (Nat.log2_lt (by omega)).mp (by omega)
      have := Nat.log2_self_le (n := q) (by omega)
      omega
end GF
namespace GF
/-! # The test of irreducibility -/
def irrB (p : Nat) : Bool := decide (2 ≤ p) && (List.range (2 ^ (p.log2 / 2 + 1))).all fun q => decide (q < 2) || decide (pmod p q ≠ 0)
theorem irrB_iff {p : Nat} : irrB p = true ↔ Irr p := by
  unfold irrB Irr
  rw [Bool.and_eq_true, decide_eq_true_eq, List.all_eq_true]
  constructor
  · rintro ⟨h1, h2⟩
    refine ⟨h1, fun q hq hl hd => ?_⟩
    have hm : q ∈ List.range (2 ^ (p.log2 / 2 + 1)) := by
      rw [List.mem_range]
      exact (Nat.log2_lt (by omega)).mp (by omega)
    have := h2 q hm
    rw [Bool.or_eq_true, decide_eq_true_eq, decide_eq_true_eq] at this
    rcases this with h | h
    · omega
    · exact h ((dvd_mod (by omega)).mp hd)
  · rintro ⟨h1, h2⟩
    refine ⟨h1, fun q hq => ?_⟩
    rw [List.mem_range] at hq
    rw [Bool.or_eq_true, decide_eq_true_eq, decide_eq_true_eq]
    by_cases h : q < 2
    · exact .inl h
    · right
      intro e
      refine h2 q (by omega) ?_ ((dvd_mod (by omega)).mpr e)
      have := (Nat.log2_lt (n := q) (by omega)).mpr hq
      omega
/-- x ** (2 ** k) + x -/
def fk (k : Nat) : Nat := 2 ^ 2 ^ k ^^^ 2
theorem fact1 : (List.range 512).all (fun q => !irrB q || decide (pmod (fk q.log2) q = 0)) = true := by decide +kernel
def fs : Nat → List Nat
  | 1 => [2, 3]
  | 2 => [2, 3, 7]
  | 3 => [2, 3, 11, 13]
  | 4 => [2, 3, 7, 19, 25, 31]
  | 5 => [2, 3, 37, 41, 47, 55, 59, 61]
  | 6 => [2, 3, 7, 11, 13, 67, 73, 87, 91, 97, 103, 109, 115, 117]
  | 7 => [2, 3, 131, 137, 143, 145, 157, 167, 171, 185, 191, 193, 203, 211, 213, 229, 239, 241, 247, 253]
  | 8 => [2, 3, 7, 19, 25, 31, 283, 285, 299, 301, 313, 319, 333, 351, 355, 357, 361, 369, 375, 379, 391, 395, 397, 415, 419, 425, 433, 445, 451, 463, 471, 477, 487, 499, 501, 505]
  | _ => []
def prod (l : List Nat) : Nat := l.foldr mul 1
theorem fact2 : [1, 2, 3, 4, 5, 6, 7, 8].all (fun k => decide (prod (fs k) = fk k) && (fs k).all fun f => decide (2 ≤ f) && decide (f.log2 ≤ k)) = true := by decide +kernel
theorem Irr.prod {p : Nat} (h : Irr p) : ∀ {l : List Nat}, Dvd p (GF.prod l) → ∃ f ∈ l, Dvd p f
  | [], hd => by
    have := hd.le (show GF.prod [] ≠ 0 by decide)
    have h1 := log_pos h.1
    have h2 : (GF.prod []).log2 = 0 := by decide
    omega
  | f :: l, hd => by
    rcases h.prime (a := f) (b := GF.prod l) hd with g | g
    · exact ⟨f, List.mem_cons_self, g⟩
    · obtain ⟨f', m, d⟩ := h.prod g
      exact ⟨f', List.mem_cons_of_mem _ m, d⟩
/-- the powers of the test -/
def fr : Nat → Nat → Nat
  | 0, _ => 2
  | k + 1, p => pmod (mul (fr k p) (fr k p)) p
theorem fr_mod {p : Nat} (hp : p ≠ 0) (k : Nat) : pmod (fr k p) p = pmod (2 ^ 2 ^ k) p := by
  induction k with
  | zero => rfl
  | succ k ih =>
    have e : (2 : Nat) ^ 2 ^ (k + 1) = mul (2 ^ 2 ^ k) (2 ^ 2 ^ k) := by
      rw [mul_pow, ← Nat.pow_add]; congr 1; omega
    rw [e]
    show pmod (pmod (mul (fr k p) (fr k p)) p) p = _
    rw [mod_mod hp, ← mod_mul_left hp, ih, mod_mul_left hp, ← mod_mul_right hp, ih, mod_mul_right hp]
theorem dvd_fr {p d : Nat} (hp : p ≠ 0) (hd : Dvd d p) (k : Nat) : Dvd d (fr k p ^^^ 2) ↔ Dvd d (fk k) := by
  rw [← dvd_mod_iff hp hd, ← dvd_mod_iff (p := fk k) hp hd]
  unfold fk
  rw [mod_xor hp, mod_xor hp, fr_mod hp]
/-- what the test says -/
def Test (p : Nat) : Prop := ∀ k, 1 ≤ k → k ≤ p.log2 / 2 → gcd (fr k p ^^^ 2) p = 1
theorem test_of_irr {p : Nat} (h : Irr p) (hp : p < 131072) : Test p := by
  intro k k1 k2
  have hp0 : p ≠ 0 := by have := h.1; omega
  have hlog : p.log2 < 17 := (Nat.log2_lt hp0).mpr hp
  obtain ⟨g1, g2⟩ := gcd_dvd (fr k p ^^^ 2) p
  rcases h.only g2 with e | e
  · exact e
  · exfalso
    have e2 := dvd_same hp0 g2 e
    rw [e2, dvd_fr hp0 (dvd_self p)] at g1
    have f2 := List.all_eq_true.mp fact2 k (by
      have : k ≤ 8 := by omega
      simp; omega)
    rw [Bool.and_eq_true, decide_eq_true_eq, List.all_eq_true] at f2
    rw [← f2.1] at g1
    obtain ⟨f, hm, hd⟩ := h.prod g1
    have f3 := f2.2 f hm
    rw [Bool.and_eq_true, decide_eq_true_eq, decide_eq_true_eq] at f3
    have := (hd.le (by omega)).1
    have := log_pos h.1
    omega
theorem irr_of_test {p : Nat} (h2 : 2 ≤ p) (hp : p < 131072) (h : Test p) : Irr p := by
  apply Classical.byContradiction
  intro n
  obtain ⟨q, q2, ql, qd, qi⟩ := irr_or h2 n
  have hp0 : p ≠ 0 := by omega
  have hlog : p.log2 < 17 := (Nat.log2_lt hp0).mpr hp
  have hq : q < 512 := by
    have := (Nat.log2_lt (n := q) (k := 9) (by omega)).mp (by omega)
    omega
  have f1 := List.all_eq_true.mp fact1 q (List.mem_range.mpr hq)
  rw [irrB_iff.mpr qi] at f1
  simp only [Bool.not_true, Bool.false_or, decide_eq_true_eq] at f1
  have hd : Dvd q (fk q.log2) := (dvd_mod (by omega)).mpr f1
  have := h q.log2 (log_pos q2) ql
  have g := dvd_gcd (fr q.log2 p ^^^ 2) p ((dvd_fr hp0 qd _).mpr hd) qd
  rw [this] at g
  have := (g.le (by decide)).1
  have h1 : Nat.log2 1 = 0 := by decide
  have := log_pos q2
  omega
theorem test_iff {p : Nat} (h2 : 2 ≤ p) (hp : p < 131072) : Test p ↔ Irr p := ⟨irr_of_test h2 hp, fun h => test_of_irr h hp⟩
/-- one of each degree -/
def some_irr (m : Nat) : Nat := [2, 2, 7, 11, 19, 37, 67, 131, 283, 515, 1033, 2053, 4105, 8219, 16417, 32771, 65579].getD m 2
theorem fact3 : [1, 2, 3, 4, 5, 6, 7, 8, 9, 10, 11, 12, 13, 14, 15, 16].all (fun m => irrB (some_irr m) && decide (2 ^ m ≤ some_irr m) && decide (some_irr m < 2 ^ (m + 1))) = true := by decide +kernel
theorem irr_some {m : Nat} (h1 : 1 ≤ m) (h2 : m ≤ 16) : Irr (some_irr m) ∧ 2 ^ m ≤ some_irr m ∧ some_irr m < 2 ^ (m + 1) := by
  have f := List.all_eq_true.mp fact3 m (by simp; omega)
  rw [Bool.and_eq_true, Bool.and_eq_true, decide_eq_true_eq, decide_eq_true_eq] at f
  exact ⟨irrB_iff.mp f.1.1, f.1.2, f.2⟩
end GF
namespace FLD
open GF
def mulm (q a b : Nat) : Nat := pmod (GF.mul a b) q
def pw (q e : Nat) : Nat → Nat
  | 0 => 1
  | k + 1 => mulm q (pw q e k) e
/-- a field of 2 ^ m elements -/
structure Fd (m q : Nat) : Prop where
  h2 : 2 ≤ m
  h8 : m ≤ 8
  irr : Irr q
  lg : q.log2 = m
section
variable {m q : Nat} (F : Fd m q)
include F
theorem q0 : q ≠ 0 := by have := F.irr.1; omega
theorem q_lt : q < 2 ^ (m + 1) := by have := Nat.lt_log2_self (n := q); rw [F.lg] at this; exact this
theorem q_512 : q < 512 := Nat.lt_of_lt_of_le (q_lt F) (Nat.le_trans (Nat.pow_le_pow_right (by decide) (show m + 1 ≤ 9 by have := F.h8; omega)) (by decide))
theorem mulm_lt (a b : Nat) : mulm q a b < 2 ^ m := by have := mod_lt (p := GF.mul a b) (q0 F); rw [F.lg] at this; exact this
omit F in
theorem mulm_comm (a b : Nat) : mulm q a b = mulm q b a := by unfold mulm; rw [GF.mul_comm]
theorem mulm_assoc (a b c : Nat) : mulm q (mulm q a b) c = mulm q a (mulm q b c) := by
  unfold mulm; rw [mod_mul_left (q0 F), mod_mul_right (q0 F), GF.mul_assoc]
theorem mulm_xor (a b c : Nat) : mulm q a (b ^^^ c) = mulm q a b ^^^ mulm q a c := by unfold mulm; rw [GF.mul_xor, mod_xor (q0 F)]
theorem xor_mulm (a b c : Nat) : mulm q (a ^^^ b) c = mulm q a c ^^^ mulm q b c := by unfold mulm; rw [GF.xor_mul, mod_xor (q0 F)]
theorem mulm_small {a : Nat} (h : a < 2 ^ m) : pmod a q = a := mod_small (q0 F) (by rw [F.lg]; exact h)
theorem mulm_one {a : Nat} (h : a < 2 ^ m) : mulm q a 1 = a := by unfold mulm; rw [GF.mul_one, mulm_small F h]
theorem one_mulm {a : Nat} (h : a < 2 ^ m) : mulm q 1 a = a := by rw [mulm_comm, mulm_one F h]
theorem mulm_zero (a : Nat) : mulm q a 0 = 0 := by unfold mulm; rw [GF.mul_zero, mulm_small F (Nat.two_pow_pos _)]
theorem zero_mulm (a : Nat) : mulm q 0 a = 0 := by rw [mulm_comm, mulm_zero F]
theorem small_dvd {a : Nat} (h : a < 2 ^ m) (hd : Dvd q a) : a = 0 := by
  have := (dvd_mod (q0 F)).mp hd
  rw [mulm_small F h] at this; exact this
theorem mulm_eq_zero {a b : Nat} (ha : a < 2 ^ m) (hb : b < 2 ^ m) (h : mulm q a b = 0) : a = 0 ∨ b = 0 := by
  rcases F.irr.prime ((dvd_mod (q0 F)).mpr h) with d | d
  · exact .inl (small_dvd F ha d)
  · exact .inr (small_dvd F hb d)
theorem mulm_ne {a b : Nat} (ha : a < 2 ^ m) (hb : b < 2 ^ m) (ha0 : a ≠ 0) (hb0 : b ≠ 0) : mulm q a b ≠ 0 := fun h => by
  rcases mulm_eq_zero F ha hb h with d | d
  · exact ha0 d
  · exact hb0 d
theorem mulm_cancel {a b c : Nat} (ha : a < 2 ^ m) (hb : b < 2 ^ m) (hc : c < 2 ^ m) (hc0 : c ≠ 0) (h : mulm q a c = mulm q b c) : a = b := by
  have e : mulm q (a ^^^ b) c = 0 := by rw [xor_mulm F, h, Nat.xor_self]
  rcases mulm_eq_zero F (xor_lt ha hb) hc e with d | d
  · exact xor_eq_zero d
  · exact absurd d hc0
theorem one_lt : 1 < 2 ^ m := Nat.lt_of_lt_of_le (by decide) (Nat.pow_le_pow_right (by decide) F.h2)
theorem pw_lt (e k : Nat) : pw q e k < 2 ^ m := by
  cases k with
  | zero => exact one_lt F
  | succ k => exact mulm_lt F _ _
theorem pw_ne {e : Nat} (he : e < 2 ^ m) (h0 : e ≠ 0) (k : Nat) : pw q e k ≠ 0 := by
  induction k with
  | zero => exact Nat.one_ne_zero
  | succ k ih => exact mulm_ne F (pw_lt F e k) he ih h0
theorem pw_add (e i k : Nat) : pw q e (i + k) = mulm q (pw q e i) (pw q e k) := by
  induction k with
  | zero => exact (mulm_one F (pw_lt F e i)).symm
  | succ k ih =>
    show mulm q (pw q e (i + k)) e = mulm q (pw q e i) (mulm q (pw q e k) e)
    rw [ih, mulm_assoc F]
theorem pw_one (k : Nat) : pw q 1 k = 1 := by
  induction k with
  | zero => rfl
  | succ k ih => show mulm q (pw q 1 k) 1 = 1; rw [ih, mulm_one F (one_lt F)]
theorem pw_pw (e j k : Nat) : pw q (pw q e j) k = pw q e (j * k) := by
  induction k with
  | zero => rfl
  | succ k ih =>
    show mulm q (pw q (pw q e j) k) (pw q e j) = _
    rw [ih, Nat.mul_succ, pw_add F]
theorem pw_first {e : Nat} (he : e < 2 ^ m) : pw q e 1 = e := one_mulm F he
/-- r has just 2 ^ m - 1 different powers -/
structure IsRoot (m q r : Nat) : Prop where
  lt : r < 2 ^ m
  ge : 2 ≤ r
  one : pw q r (2 ^ m - 1) = 1
  no : ∀ k, 1 ≤ k → k < 2 ^ m - 1 → pw q r k ≠ 1
end
theorem nodup_bound : ∀ (n : Nat) (l : List Nat), l.Nodup → (∀ x ∈ l, 1 ≤ x ∧ x ≤ n) → l.length ≤ n
  | 0, l, _, h => by
    cases l with
    | nil => exact Nat.le_refl 0
    | cons x r => have := h x List.mem_cons_self; omega
  | n + 1, l, hn, h => by
    by_cases hm : (n + 1) ∈ l
    · have e := List.length_erase_of_mem hm
      have := nodup_bound n (l.erase (n + 1)) (hn.erase _) (fun x hx => by
        rw [hn.mem_erase_iff] at hx
        have := h x hx.2
        have := hx.1
        omega)
      omega
    · have := nodup_bound n l hn (fun x hx => by
        have := h x hx
        have : x ≠ n + 1 := fun e => hm (e ▸ hx)
        omega)
      omega
section
variable {m q r : Nat} (F : Fd m q) (R : IsRoot m q r)
include F R
theorem r0 : r ≠ 0 := by have := R.ge; omega
theorem pw_inj_lt {i j : Nat} (hij : i < j) (hj : j < 2 ^ m - 1) : pw q r i ≠ pw q r j := fun e => by
  have h1 : pw q r j = mulm q (pw q r (j - i)) (pw q r i) := by rw [mulm_comm, ← pw_add F]; congr 1; omega
  have h2 : mulm q 1 (pw q r i) = mulm q (pw q r (j - i)) (pw q r i) := by rw [one_mulm F (pw_lt F r i), ← h1, e]
  have h3 := mulm_cancel F (one_lt F) (pw_lt F r (j - i)) (pw_lt F r i) (pw_ne F R.lt (r0 F R) i) h2
  exact R.no (j - i) (by omega) (by omega) h3.symm
theorem pw_inj {i j : Nat} (hi : i < 2 ^ m - 1) (hj : j < 2 ^ m - 1) (h : pw q r i = pw q r j) : i = j := by
  rcases Nat.lt_trichotomy i j with l | e | g
  · exact absurd h (pw_inj_lt F R l hj)
  · exact e
  · exact absurd h.symm (pw_inj_lt F R g hi)
theorem pw_nodup : ((List.range (2 ^ m - 1)).map (pw q r)).Nodup := by
  refine List.pairwise_map.mpr (List.Pairwise.imp_of_mem (fun {a b} ha hb h => ?_) List.pairwise_lt_range)
  exact pw_inj_lt F R h (List.mem_range.mp hb)
theorem log_ex {e : Nat} (h0 : e ≠ 0) (h : e < 2 ^ m) : ∃ j, j < 2 ^ m - 1 ∧ pw q r j = e := by
  apply Classical.byContradiction
  intro n
  have hm : e ∉ (List.range (2 ^ m - 1)).map (pw q r) := fun z => by
    obtain ⟨j, hj, ej⟩ := List.mem_map.mp z
    exact n ⟨j, List.mem_range.mp hj, ej⟩
  have := nodup_bound (2 ^ m - 1) (e :: (List.range (2 ^ m - 1)).map (pw q r)) (List.nodup_cons.mpr ⟨hm, pw_nodup F R⟩) (fun x hx => by
    rcases List.mem_cons.mp hx with z | z
    · subst z; omega
    · obtain ⟨j, hj, ej⟩ := List.mem_map.mp z
      have h1 := pw_lt F r j
      have h2 := pw_ne F R.lt (r0 F R) j
      omega)
  rw [List.length_cons, List.length_map, List.length_range] at this
  omega
theorem pw_turn (k : Nat) : pw q r ((2 ^ m - 1) * k) = 1 := by rw [← pw_pw F, R.one, pw_one F]
theorem pw_mod (k : Nat) : pw q r k = pw q r (k % (2 ^ m - 1)) := by
  conv => lhs; rw [← Nat.div_add_mod k (2 ^ m - 1), pw_add F, pw_turn F R, one_mulm F (pw_lt F r _)]
theorem pw_one_iff (k : Nat) : pw q r k = 1 ↔ (2 ^ m - 1) ∣ k := by
  have hN : 0 < 2 ^ m - 1 := by have := one_lt F; omega
  constructor
  · intro h
    rw [pw_mod F R] at h
    by_cases z : k % (2 ^ m - 1) = 0
    · exact Nat.dvd_of_mod_eq_zero z
    · exact absurd h (R.no _ (by omega) (Nat.mod_lt _ hN))
  · rintro ⟨c, rfl⟩; exact pw_turn F R c
theorem pw_all {e : Nat} (h0 : e ≠ 0) (h : e < 2 ^ m) : pw q e (2 ^ m - 1) = 1 := by
  obtain ⟨j, hj, rfl⟩ := log_ex F R h0 h
  rw [pw_pw F, Nat.mul_comm, pw_turn F R]
/-- the order of a power of the root -/
theorem ord_iff (j k : Nat) : pw q (pw q r j) k = 1 ↔ ((2 ^ m - 1) / Nat.gcd (2 ^ m - 1) j) ∣ k := by
  have hN : 0 < 2 ^ m - 1 := by have := one_lt F; omega
  have hg : 0 < Nat.gcd (2 ^ m - 1) j := Nat.gcd_pos_of_pos_left _ hN
  rw [pw_pw F, pw_one_iff F R]
  obtain ⟨a, ha⟩ := Nat.gcd_dvd_left (2 ^ m - 1) j
  obtain ⟨b, hb⟩ := Nat.gcd_dvd_right (2 ^ m - 1) j
  have hc : Nat.Coprime ((2 ^ m - 1) / Nat.gcd (2 ^ m - 1) j) (j / Nat.gcd (2 ^ m - 1) j) := Nat.coprime_div_gcd_div_gcd hg
  have e1 : (2 ^ m - 1) / Nat.gcd (2 ^ m - 1) j = a := Nat.div_eq_of_eq_mul_right hg ha
  have e2 : j / Nat.gcd (2 ^ m - 1) j = b := Nat.div_eq_of_eq_mul_right hg hb
  rw [e1, e2] at hc
  rw [e1]
  generalize Nat.gcd (2 ^ m - 1) j = g at hg ha hb
  rw [ha, hb, Nat.mul_assoc, Nat.mul_dvd_mul_iff_left hg]
  exact ⟨fun h => hc.dvd_of_dvd_mul_left h, fun h => Nat.dvd_trans h (Nat.dvd_mul_left _ _)⟩
end
/-! ### there is a root -/
def ordL (q r : Nat) : Nat → Nat → Bool
  | 0, p => p == 1
  | n + 1, p => p != 1 && ordL q r n (mulm q p r)
theorem ordL_ok {q r : Nat} : ∀ (n k : Nat), ordL q r n (pw q r k) = true → pw q r (k + n) = 1 ∧ ∀ i, k ≤ i → i < k + n → pw q r i ≠ 1
  | 0, k, h => ⟨by simpa [ordL] using h, fun i h1 h2 => by omega⟩
  | n + 1, k, h => by
    simp only [ordL, Bool.and_eq_true, bne_iff_ne] at h
    obtain ⟨h1, h2⟩ := ordL_ok n (k + 1) h.2
    refine ⟨by rw [show k + (n + 1) = k + 1 + n by omega]; exact h1, fun i h3 h4 => ?_⟩
    by_cases e : i = k
    · subst e; exact h.1
    · exact h2 i (by omega) (by omega)
def rootTab : List (Nat × Nat) := [(7, 2), (11, 2), (13, 2), (19, 2), (25, 2), (31, 3), (37, 2), (41, 2), (47, 2), (55, 2), (59, 2), (61, 2), (67, 2), (73, 3), (87, 3), (91, 2), (97, 2), (103, 2), (109, 2), (115, 2), (117, 3), (131, 2), (137, 2), (143, 2), (145, 2), (157, 2), (167, 2), (171, 2), (185, 2), (191, 2), (193, 2), (203, 2), (211, 2), (213, 2), (229, 2), (239, 2), (241, 2), (247, 2), (253, 2), (283, 3), (285, 2), (299, 2), (301, 2), (313, 3), (319, 3), (333, 2), (351, 2), (355, 2), (357, 2), (361, 2), (369, 2), (375, 3), (379, 9), (391, 2), (395, 6), (397, 2), (415, 3), (419, 3), (425, 2), (433, 6), (445, 7), (451, 2), (463, 2), (471, 7), (477, 6), (487, 2), (499, 6), (501, 2), (505, 3)]
def rootB (q r : Nat) : Bool := decide (2 ≤ r) && decide (r < 2 ^ q.log2) && decide (pw q r 1 = r) && ordL q r (2 ^ q.log2 - 2) r
theorem rootB_ok {m q r : Nat} (F : Fd m q) (h : rootB q r = true) : IsRoot m q r := by
  unfold rootB at h
  simp only [Bool.and_eq_true, decide_eq_true_eq, F.lg] at h
  obtain ⟨⟨⟨h1, h2⟩, h3⟩, h4⟩ := h
  rw [← h3] at h4
  have h5 : ordL q r (2 ^ m - 2) (pw q r 1) = true := by
    rw [h3] at h4 ⊢
    exact h4
  obtain ⟨a, b⟩ := ordL_ok _ 1 h5
  have := one_lt F
  have hp : 2 ^ 2 ≤ 2 ^ m := Nat.pow_le_pow_right (by decide) F.h2
  refine ⟨h2, h1, ?_, fun k k1 k2 => b k k1 (by omega)⟩
  rw [show 2 ^ m - 1 = 1 + (2 ^ m - 2) by omega]; exact a
theorem fact4 : (List.range 512).all (fun q => !irrB q || decide (q.log2 < 2) || (match rootTab.lookup q with | some r => rootB q r | none => false)) = true := by decide +kernel
theorem root_ex {m q : Nat} (F : Fd m q) : ∃ r, IsRoot m q r := by
  have f := List.all_eq_true.mp fact4 q (List.mem_range.mpr (q_512 F))
  rw [irrB_iff.mpr F.irr] at f
  have h2 : ¬ q.log2 < 2 := by rw [F.lg]; have := F.h2; omega
  simp only [Bool.not_true, Bool.false_or, decide_eq_false h2] at f
  split at f
  · rename_i r _; exact ⟨r, rootB_ok F f⟩
  · cases f
theorem find_least (p : Nat → Prop) : ∀ n, p n → ∃ k, p k ∧ ∀ i, i < k → ¬ p i := fun n => by
  induction n using Nat.strongRecOn with
  | ind n ih =>
    intro h
    by_cases c : ∃ i, i < n ∧ p i
    · obtain ⟨i, h1, h2⟩ := c
      exact ih i h1 h2
    · exact ⟨n, h, fun i h1 h2 => c ⟨i, h1, h2⟩⟩
/-- the least root -/
def LeastRoot (m q r : Nat) : Prop := IsRoot m q r ∧ ∀ e, e < r → ¬ IsRoot m q e
theorem least_ex {m q : Nat} (F : Fd m q) : ∃ r, LeastRoot m q r := by
  obtain ⟨r, h⟩ := root_ex F
  exact find_least (IsRoot m q) r h
end FLD
namespace K01
open PySem PySem.Spec L2 NB ER MKX
def top (i : Nat) : Stmt := PySem.Challenge.pw_farhaul_k01_fields.main.body.getD i (.Pass ⟨0, 0, 0, 0⟩)
abbrev s_init : Stmt := inClass (top 3) 0
theorem sc_init : FnScope ["self", "at"] ["self", "at"] (defScope s_init) := ⟨rfl, rfl, rfl, by decide +kernel, rfl, by decide +kernel, by decide +kernel⟩
abbrev s_degree : Stmt := top 10
theorem sc_degree : FnScope ["p"] ["p"] (defScope s_degree) := ⟨rfl, rfl, rfl, by decide +kernel, rfl, by decide +kernel, by decide +kernel⟩
abbrev s_times : Stmt := top 11
theorem sc_times : FnScope ["p", "q", "total", "i"] ["p", "q"] (defScope s_times) := ⟨rfl, rfl, rfl, by decide +kernel, rfl, by decide +kernel, by decide +kernel⟩
abbrev s_divide : Stmt := top 12
theorem sc_divide : FnScope ["p", "q", "quotient", "rest", "shift"] ["p", "q"] (defScope s_divide) := ⟨rfl, rfl, rfl, by decide +kernel, rfl, by decide +kernel, by decide +kernel⟩
abbrev s_common : Stmt := top 13
theorem sc_common : FnScope ["p", "q", "last", "rest"] ["p", "q"] (defScope s_common) := ⟨rfl, rfl, rfl, by decide +kernel, rfl, by decide +kernel, by decide +kernel⟩
abbrev s_product_rest : Stmt := top 14
theorem sc_product_rest : FnScope ["p", "q", "modulus"] ["p", "q", "modulus"] (defScope s_product_rest) := ⟨rfl, rfl, rfl, by decide +kernel, rfl, by decide +kernel, by decide +kernel⟩
abbrev s_is_irreducible : Stmt := top 15
theorem sc_is_irreducible : FnScope ["p", "power", "_"] ["p"] (defScope s_is_irreducible) := ⟨rfl, rfl, rfl, by decide +kernel, rfl, by decide +kernel, by decide +kernel⟩
abbrev s__law_numbers : Stmt := top 21
theorem sc__law_numbers : FnScope ["script", "many", "rest", "mixed", "numbers", "k", "at", "cell"] ["script", "many"] (defScope s__law_numbers) := ⟨rfl, rfl, rfl, by decide +kernel, rfl, by decide +kernel, by decide +kernel⟩
abbrev s__law_degree : Stmt := top 22
theorem sc__law_degree : FnScope ["p", "top", "k"] ["p"] (defScope s__law_degree) := ⟨rfl, rfl, rfl, by decide +kernel, rfl, by decide +kernel, by decide +kernel⟩
abbrev s__law_times : Stmt := top 23
theorem sc__law_times : FnScope ["p", "q", "total", "k"] ["p", "q"] (defScope s__law_times) := ⟨rfl, rfl, rfl, by decide +kernel, rfl, by decide +kernel, by decide +kernel⟩
abbrev s__law_divided : Stmt := top 24
theorem sc__law_divided : FnScope ["p", "q", "size", "whole", "k", "shift"] ["p", "q"] (defScope s__law_divided) := ⟨rfl, rfl, rfl, by decide +kernel, rfl, by decide +kernel, by decide +kernel⟩
abbrev s__law_common : Stmt := top 25
theorem sc__law_common : FnScope ["p", "q", "turn"] ["p", "q"] (defScope s__law_common) := ⟨rfl, rfl, rfl, by decide +kernel, rfl, by decide +kernel, by decide +kernel⟩
abbrev s__law_irreducible : Stmt := top 26
theorem sc__law_irreducible : FnScope ["p", "top", "q"] ["p"] (defScope s__law_irreducible) := ⟨rfl, rfl, rfl, by decide +kernel, rfl, by decide +kernel, by decide +kernel⟩
abbrev s__powers_of : Stmt := top 19
theorem sc__powers_of : FnScope ["e", "modulus", "powers", "power"] ["e", "modulus"] (defScope s__powers_of) := ⟨rfl, rfl, rfl, by decide +kernel, rfl, by decide +kernel, by decide +kernel⟩
abbrev s__root_powers : Stmt := top 18
theorem sc__root_powers : FnScope ["turn", "modulus", "e", "powers"] ["turn", "modulus"] (defScope s__root_powers) := ⟨rfl, rfl, rfl, by decide +kernel, rfl, by decide +kernel, by decide +kernel⟩
/-! ### the mathematics of bits -/
theorem mod_pow_succ (q i : Nat) : q % 2 ^ (i + 1) = q % 2 ^ i ^^^ (if q / 2 ^ i % 2 = 1 then 2 ^ i else 0) := by
  apply Nat.eq_of_testBit_eq
  intro j
  rw [Nat.testBit_xor, Nat.testBit_mod_two_pow, Nat.testBit_mod_two_pow]
  by_cases e : j = i
  · subst e
    by_cases h : q / 2 ^ j % 2 = 1
    · rw [if_pos h, Nat.testBit_two_pow_self]; simp [Nat.testBit_eq_decide_div_mod_eq, h]
    · rw [if_neg h]; simp [Nat.testBit_eq_decide_div_mod_eq, h]
  · have e2 : (if q / 2 ^ i % 2 = 1 then 2 ^ i else 0).testBit j = false := by
      split
      · rw [Nat.testBit_two_pow]; simp; omega
      · simp
    rw [e2]
    by_cases h : j < i
    · simp [h]; omega
    · have : ¬ j < i + 1 := by omega
      simp [h, this]
theorem times_step (p q i : Nat) : GF.mul p (q % 2 ^ (i + 1)) = GF.mul p (q % 2 ^ i) ^^^ (if q / 2 ^ i % 2 = 1 then 2 ^ i * p else 0) := by
  rw [mod_pow_succ, GF.mul_xor]
  congr 1
  split
  · exact GF.mul_pow _ _
  · exact GF.mul_zero _
theorem bits_lt (q : Nat) : q < 2 ^ NB.bits q := by
  unfold NB.bits
  split
  · rename_i h; subst h; decide
  · exact Nat.lt_log2_self
theorem bits_le {q n : Nat} : NB.bits q ≤ n ↔ q < 2 ^ n := by
  unfold NB.bits
  split
  · rename_i h; subst h; simp [Nat.two_pow_pos]
  · rename_i h2
    exact Nat.log2_lt h2
theorem bits_pos {q : Nat} (h : q ≠ 0) : NB.bits q = q.log2 + 1 := by unfold NB.bits; rw [if_neg h]
theorem bits_deg {q : Nat} (h : q ≠ 0) : GF.Deg q (NB.bits q - 1) := by rw [bits_pos h]; exact GF.deg_log h
/-- the bit is not there -/
theorem or_xor {k s : Nat} (h : k % 2 ^ (s + 1) = 0) : k ||| 2 ^ s = k ^^^ 2 ^ s := by
  have hb : k.testBit s = false := by
    have := Nat.testBit_mod_two_pow k (s + 1) s
    rw [h] at this
    simp at this
    exact this
  apply Nat.eq_of_testBit_eq
  intro j
  rw [Nat.testBit_or, Nat.testBit_xor, Nat.testBit_two_pow]
  by_cases e : s = j
  · subst e; rw [hb]; simp
  · simp [e]
theorem xor_mod_zero {k s t : Nat} (h : k % 2 ^ (s + 1) = 0) (ht : t ≤ s) : (k ^^^ 2 ^ s) % 2 ^ t = 0 := by
  rw [Nat.xor_mod_two_pow]
  have d : 2 ^ t ∣ 2 ^ (s + 1) := Nat.pow_dvd_pow 2 (by omega)
  have d2 : 2 ^ t ∣ 2 ^ s := Nat.pow_dvd_pow 2 ht
  have h1 : k % 2 ^ t = 0 := Nat.mod_eq_zero_of_dvd (Nat.dvd_trans d (Nat.dvd_of_mod_eq_zero h))
  rw [h1, Nat.mod_eq_zero_of_dvd d2]; rfl
theorem div_step {r q s : Nat} (hq : q ≠ 0) (hs : NB.bits r = NB.bits q + s) : NB.bits (r ^^^ 2 ^ s * q) < NB.bits r := by
  have hb := bits_pos hq
  have hr : r ≠ 0 := by intro z; subst z; unfold NB.bits at hs; simp at hs; rw [if_neg hq] at hs; omega
  have dr := bits_deg hr
  have dq := GF.deg_shift (bits_deg hq) s
  have e : s + (NB.bits q - 1) = NB.bits r - 1 := by omega
  rw [e] at dq
  have := bits_le.mpr (GF.deg_xor dr dq)
  omega
theorem xor_swap (a b c : Nat) : a ^^^ c ^^^ (b ^^^ c) = a ^^^ b := by rw [Nat.xor_assoc a c, Nat.xor_comm b c, ← Nat.xor_assoc c c, Nat.xor_self, Nat.zero_xor]
section
variable {P : Program} {w : World} {K : PySem.W.Frag} {mg : Str → Option Value} {base : Heap}
theorem ok_init {f : Addr} {fd : FuncData} (F : Fun K "__init__" "HaulError.__init__" s_init f fd) (mv : mg "ValueError" = none) (vV : PySem.W.findCls K (.type "ValueError") (.type "type") "__init__" = some (.val (.builtin "ValueError.__init__"))) :
    FnOk P w K mg base CX0 1 f fd ["self", "at"] (sp_init K) := by
  refine F.ok sc_init (fun vs H Q E h => ?_) (fun cdv A outer s H vs Q E hr h => ?_)
  · obtain ⟨a, C, i, rfl, _⟩ := h; rfl
  · obtain ⟨a, C, i, rfl, ⟨mg', x, fI, CH, T⟩, ha, hi, k⟩ := h
    refine ⟨_, pss_cons (ps_expr (pe_veinit rfl mv vV (pa_cons (pv 0) (pa_cons (pe_joined (.cons pe_str (.cons (pe_fmt (pv 1)) .nil))) pa_nil))))
      (pss_one (ps_ost (pv 0) (pv 1))), ?_⟩
    refine ⟨_, rfl, _, rfl, ?_, _, rfl, .inr ⟨i, rfl, hi, _, rfl, at_len hi, a, C, _, rfl, by simp, T.oex, ha, ?_⟩⟩
    · decide +kernel
    · refine ⟨_, rfl, _, rfl, a, C, rfl, T.oex, T.no, .inl ⟨ha, fun dx nx ne => k dx nx ne⟩⟩
def sp_degree : Sp := fun vs H Q _ => ∃ p : Nat, vs = [.int p] ∧ Q (.int ((NB.bits p : Nat) - 1 : Int)) H
theorem ok_degree {f : Addr} {fd : FuncData} (D : Df K mg "degree" ["p"] s_degree f fd) : FnOk P w K mg base CX0 1 f fd ["p"] sp_degree := by
  refine D.F.ok sc_degree (fun vs H Q E h => ?_) (fun cdv A outer s H vs Q E hr h => ?_)
  · obtain ⟨p, rfl, _⟩ := h; rfl
  · obtain ⟨p, rfl, k⟩ := h
    refine ⟨_, pss_one (ps_ret (pe_op op_sub (pe_bits (pv 0)) pe_int)), ?_⟩
    refine ⟨_, rfl, _, rfl, _, _, rfl, rfl, ?_⟩
    rw [intBits_nat]
    exact k
def sp_times : Sp := fun vs H Q _ => ∃ p q : Nat, vs = [.int p, .int q] ∧ p < 2 ^ 64 ∧ q < 2 ^ 64 ∧ Q (.int ((GF.mul p q : Nat) : Int)) H
theorem ok_times {f : Addr} {fd : FuncData} (D : Df K mg "times" ["p", "q"] s_times f fd) (B : Bl mg) : FnOk P w K mg base CX0 1 f fd ["p", "q"] sp_times := by
  refine D.F.ok sc_times (fun vs H Q E h => ?_) (fun cdv A outer s H vs Q E hr h => ?_)
  · obtain ⟨p, q, rfl, _⟩ := h; rfl
  · obtain ⟨p, q, rfl, hp, hq, k⟩ := h
    refine ⟨_, (pss_cons (ps_set (i := 2) sc_times.nd rfl (Or.inl rfl) (pe_nat 0))
      (pss_cons (ps_for PassesOwn.never rfl (pi_range1 rfl B.range (pa_cons (pe_bits (pv 1)) pa_nil)) (pg_name (i := 3) sc_times.nd rfl (Or.inl rfl) (Or.inr rfl))
        (pss_one (ps_if (pt_truth (pe_op nb_and (pe_op nb_shr (pv 1) (pv 3)) (pe_nat 1)) (by intro _; rfl)) (pss_one (ps_aug (i := 2) sc_times.nd rfl (Or.inl rfl) (pe_op nb_shl (pv 0) (pv 3)) nbi_xor)) pss_nil)))
      (pss_one (ps_ret (pv 2))))), ?_⟩
    have hb := bits_le.mpr hq
    refine ⟨_, rfl, _, rfl, _, rfl, by omega, by rw [intBits_nat]; omega, ?_⟩
    rw [intBits_nat]
    refine for_rangeN (lo := 0) (n := NB.bits q) (fun i σ H' => ∃ v, σ = [some (.int p), some (.int q), some (.int ((GF.mul p (q % 2 ^ i) : Nat) : Int)), v] ∧ H' = H) ⟨none, ?_, rfl⟩ ?_ ?_
    · rw [Nat.pow_zero, Nat.mod_one, GF.mul_zero]; rfl
    · rintro i σ H' hi ⟨v, rfl, rfl⟩
      rw [Nat.zero_add]
      refine ⟨_, rfl, _, rfl, _, _, rfl, rfl, _, _, rfl, rfl, _, rfl, ?_⟩
      have key := times_step p q i
      rw [Nat.and_one_is_mod]
      refine iteZ (fun c => ?_) (fun c => ?_)
      · rw [if_pos (by omega)] at key
        refine ⟨_, rfl, _, rfl, _, rfl, _, _, rfl, rfl, ⟨hp, by omega⟩, _, _, rfl, rfl, some (.int i), ?_, rfl⟩
        rw [key]; rfl
      · rw [if_neg (by omega), Nat.xor_zero] at key
        refine ⟨some (.int i), ?_, rfl⟩
        rw [key]; rfl
    · rintro σ H' ⟨v, rfl, rfl⟩
      rw [Nat.mod_eq_of_lt (bits_lt q)]
      exact ⟨_, rfl, k⟩
def sp_divide (C : Addr) : Sp := fun vs H Q E => ∃ p q : Nat, vs = [.int p, .int q] ∧ p < 2 ^ 64 ∧ q < 2 ^ 64 ∧
  (q = 0 → ∀ d, H d = none → E (.ref C) (some d) (upd H d (.xd [("at", .int 0)]))) ∧
  (q ≠ 0 → ∀ a, H a = none → Q (.ref a) (upd H a (.tup [.int ((GF.pdiv p q : Nat) : Int), .int ((GF.pmod p q : Nat) : Int)])))
theorem ok_divide {f f_degree f_init C CH : Addr} {fd fd_degree fd_init : FuncData} (D : Df K mg "divide" ["p", "q"] s_divide f fd) (D_degree : Df K mg "degree" ["p"] s_degree f_degree fd_degree)
    (X_NoDivisor : XC K mg "NoDivisor" C f_init CH) (G_init : FnOk P w K mg base CX0 1 f_init fd_init ["self", "at"] (sp_init K)) (b_init : Binds K fd_init ["self", "at"] []) : FnOk P w K mg base (L2.CX P w) 3 f fd ["p", "q"] (sp_divide C) := by
  have G_degree : FnOk P w K mg base CX0 1 f_degree fd_degree ["p"] sp_degree := ok_degree D_degree
  refine D.F.okX sc_divide (fun vs H Q E h => ?_) (fun cdv A outer s H vs Q E hr h => ?_)
  · obtain ⟨p, q, rfl, _⟩ := h; rfl
  · obtain ⟨p, q, rfl, hp, hq, kE, kQ⟩ := h
    refine ⟨_, (pss_cons (ps_if (pt_cmpR op_eq (pv 1) (pe_nat 0) (nomark _)) (pss_one (ps_err rfl X_NoDivisor G_init (hr.mono (by decide)) b_init pass0 (takes_of rfl rfl rfl rfl) (pa_cons (pe_nat 0) pa_nil))) pss_nil)
      (pss_cons (ps_set (i := 2) sc_divide.nd rfl (Or.inl rfl) (pe_nat 0))
      (pss_cons (ps_set (i := 3) sc_divide.nd rfl (Or.inl rfl) (pv 0))
      (pss_cons (ps_set (i := 4) sc_divide.nd rfl (Or.inl rfl) (pe_op op_sub (pe_call G_degree (hr.mono (by decide)) rfl D_degree.g D_degree.F.kp D_degree.b .nil pass0 (pa_cons (pv 3) pa_nil)) (pe_call G_degree (hr.mono (by decide)) rfl D_degree.g D_degree.F.kp D_degree.b .nil pass0 (pa_cons (pv 1) pa_nil))))
      (pss_cons (ps_while (passes_of rfl) (pt_cmpR op_ge (pv 4) (pe_nat 0) (nomark _))
        (pss_cons (ps_aug (i := 2) sc_divide.nd rfl (Or.inl rfl) (pe_op nb_shl (pe_nat 1) (pv 4)) nbi_or)
        (pss_cons (ps_aug (i := 3) sc_divide.nd rfl (Or.inl rfl) (pe_op nb_shl (pv 1) (pv 4)) nbi_xor)
        (pss_one (ps_set (i := 4) sc_divide.nd rfl (Or.inl rfl) (pe_op op_sub (pe_call G_degree (hr.mono (by decide)) rfl D_degree.g D_degree.F.kp D_degree.b .nil pass0 (pa_cons (pv 3) pa_nil)) (pe_call G_degree (hr.mono (by decide)) rfl D_degree.g D_degree.F.kp D_degree.b .nil pass0 (pa_cons (pv 1) pa_nil))))))))
      (pss_one (ps_ret (pe_tup (pa_cons (pv 2) (pa_cons (pv 3) pa_nil)))))))))), ?_⟩
    refine ⟨_, rfl, rfl, _, rfl, iteD (fun c => ?_) (fun c => ?_)⟩
    · have q0 : q = 0 := by have := V.int.inj c; omega
      exact ⟨0, rfl, by decide, fun d hd => kE q0 d hd⟩
    · have q0 : q ≠ 0 := fun z => c (by rw [z])
      refine ⟨_, rfl, _, rfl, p, rfl, _, rfl, q, rfl, _, _, rfl, rfl, ?_⟩
      refine while_by (fun σ H' => H' = H ∧ ∃ (k r : Nat) (z : Int), σ = [some (.int p), some (.int q), some (.int (k : Int)), some (.int (r : Int)), some (.int z)] ∧ z = (NB.bits r : Int) - NB.bits q ∧ p = GF.mul k q ^^^ r ∧ k % 2 ^ (NB.bits r + 1 - NB.bits q) = 0 ∧ r < 2 ^ 64)
        (fun σ _ => match σ with | [_, _, _, some (.int r), _] => NB.bits r.toNat | _ => 0) ⟨rfl, 0, p, _, rfl, ?_, ?_, ?_, hp⟩ ?_ ?_
      · omega
      · rw [GF.zero_mul, Nat.zero_xor]
      · exact Nat.zero_mod _
      · rintro σ H' ⟨rfl, k, r, z, rfl, hz, hpk, hk, hr64⟩
        refine ⟨_, rfl, _, _, rfl, rfl, _, rfl, iteD (fun c => ?_) (fun c => ?_)⟩
        · have c' : 0 ≤ z := c
          obtain ⟨s, rfl⟩ := Int.eq_ofNat_of_zero_le c'
          have hs : NB.bits r = NB.bits q + s := by omega
          have hb64 := bits_le.mpr hr64
          have e1 : NB.bits r + 1 - NB.bits q = s + 1 := by omega
          rw [e1] at hk
          have hd := div_step q0 hs
          refine ⟨_, rfl, _, rfl, _, _, rfl, rfl, ⟨by decide, by omega⟩, _, _, rfl, rfl, _, rfl, _, rfl, _, rfl, _, _, rfl, rfl, ⟨hq, by omega⟩, _, _, rfl, rfl, _, rfl, _, rfl, _, rfl, q, rfl, _, _, rfl, rfl, ⟨rfl, k ^^^ 2 ^ s, r ^^^ 2 ^ s * q, (NB.bits (r ^^^ 2 ^ s * q) : Int) - 1 - ((NB.bits q : Int) - 1), ?_, ?_, ?_, ?_, ?_⟩, ?_⟩
          · rw [Nat.mul_one, ← or_xor hk]; rfl
          · omega
          · rw [GF.xor_mul, GF.pow_mul, hpk, xor_swap]
          · exact xor_mod_zero hk (by omega)
          · exact Nat.lt_of_lt_of_le (bits_lt _) (Nat.pow_le_pow_right (by decide) (by omega))
          · exact hd
        · have c' : z < 0 := by have : ¬ (0 : Int) ≤ z := c; omega
          have hb := bits_pos q0
          have hrl : r < 2 ^ q.log2 := bits_le.mp (by omega)
          obtain ⟨e1, e2⟩ := GF.mod_of q0 hrl hpk
          refine ⟨_, rfl, _, rfl, (by show 2 ≤ sizeLine; decide), fun a ha => ?_⟩
          have := kQ q0 a ha
          rw [e1, e2] at this
          exact this
      · rintro σ H' Q1 Q2 kk ⟨v, e, i, j, e1, e2, b, e3, qq⟩
        exact ⟨v, e, i, j, e1, e2, b, e3, kk _ _ qq⟩
def sp_common : Sp := fun vs H Q _ => ∃ p q : Nat, vs = [.int p, .int q] ∧ p < 2 ^ 64 ∧ q < 2 ^ 64 ∧ ∀ H', Same H H' → Q (.int ((GF.gcd p q : Nat) : Int)) H'
theorem ok_common {f f_divide C : Addr} {fd fd_divide : FuncData} (D : Df K mg "common" ["p", "q"] s_common f fd) (D_divide : Df K mg "divide" ["p", "q"] s_divide f_divide fd_divide)
    (G_divide : FnOk P w K mg base (L2.CX P w) 3 f_divide fd_divide ["p", "q"] (sp_divide C)) : FnOk P w K mg base CX0 4 f fd ["p", "q"] sp_common := by
  refine D.F.ok sc_common (fun vs H Q E h => ?_) (fun cdv A outer s H vs Q E hr h => ?_)
  · obtain ⟨p, q, rfl, _⟩ := h; rfl
  · obtain ⟨p, q, rfl, hp, hq, k⟩ := h
    refine ⟨_, (pss_cons (ps_set (i := 2) sc_common.nd rfl (Or.inl rfl) (pv 0))
      (pss_cons (ps_set (i := 3) sc_common.nd rfl (Or.inl rfl) (pv 1))
      (pss_cons (ps_while PassesOwn.never (pt_cmpR op_ne (pv 3) (pe_nat 0) (nomark _))
        (pss_one (ps_par (i := 2) (j := 3) (by rfl) sc_common.nd rfl rfl (by decide) rfl rfl (pa_cons (pv 3) (pa_cons (pe_ix ix_tup (pe_call G_divide (hr.mono (by decide)) rfl D_divide.g D_divide.F.kp D_divide.b .nil passL (pa_cons (pv 2) (pa_cons (pv 3) pa_nil))) (pe_nat 1) (fun _ _ => rfl)) pa_nil)) (by rfl))))
      (pss_one (ps_ret (pv 2)))))), ?_⟩
    refine ⟨_, rfl, _, rfl, ?_⟩
    refine while_by (fun σ H' => ∃ a b : Nat, σ = [some (.int p), some (.int q), some (.int (a : Int)), some (.int (b : Int))] ∧ GF.gcd a b = GF.gcd p q ∧ a < 2 ^ 64 ∧ b < 2 ^ 64 ∧ Same H H')
      (fun σ _ => match σ with | [_, _, _, some (.int r)] => GF.siz r.toNat | _ => 0) ⟨p, q, rfl, rfl, hp, hq, Same.refl H⟩ ?_ ?_
    · rintro σ H' ⟨a, b, rfl, hg, ha, hb, sm⟩
      refine ⟨_, rfl, rfl, _, rfl, iteN (fun c => ?_) (fun c => ?_)⟩
      · have b0 : b ≠ 0 := fun z => c (by rw [z])
        refine ⟨_, rfl, _, rfl, _, rfl, a, b, rfl, ha, hb, fun z => absurd z b0, fun _ t ht => ?_⟩
        refine ⟨t, _, _, _, rfl, rfl, SqT.of upd_same, atI_nat (j := 1) rfl, _, _, rfl, ⟨b, GF.pmod a b, rfl, ?_, hb, ?_, same_new sm ht⟩, ?_⟩
        · rw [← hg, GF.gcd_step a b0]
        · exact Nat.lt_trans (GF.mod_lt b0) (Nat.pow_lt_pow_right (by decide) ((Nat.log2_lt b0).mpr hb))
        · exact GF.siz_mod b0
      · have b0 : b = 0 := by have := V.int.inj c; omega
        subst b0
        rw [GF.gcd_zero] at hg
        refine ⟨_, rfl, ?_⟩
        rw [hg]
        exact k _ sm
    · rintro σ H' Q1 Q2 kk ⟨v, e, hs, b, e3, qq⟩
      exact ⟨v, e, hs, b, e3, kk _ _ qq⟩
theorem mul_lt {p q i j : Nat} (hp : p < 2 ^ i) (hq : q < 2 ^ j) : GF.mul p q < 2 ^ (i + j) := by
  by_cases p0 : p = 0
  · subst p0; rw [GF.zero_mul]; exact Nat.two_pow_pos _
  · by_cases q0 : q = 0
    · subst q0; rw [GF.mul_zero]; exact Nat.two_pow_pos _
    · have h1 := (Nat.log2_lt p0).mpr hp
      have h2 := (Nat.log2_lt q0).mpr hq
      have := (GF.mul_deg (GF.deg_log p0) (GF.deg_log q0)).2
      exact Nat.lt_of_lt_of_le this (Nat.pow_le_pow_right (by decide) (by omega))
def sp_product_rest : Sp := fun vs H Q _ => ∃ p q n : Nat, vs = [.int p, .int q, .int n] ∧ p < 2 ^ 32 ∧ q < 2 ^ 32 ∧ n < 2 ^ 64 ∧ n ≠ 0 ∧ ∀ H', Same H H' → Q (.int ((GF.pmod (GF.mul p q) n : Nat) : Int)) H'
theorem ok_product_rest {f f_divide f_times C : Addr} {fd fd_divide fd_times : FuncData} (D : Df K mg "product_rest" ["p", "q", "modulus"] s_product_rest f fd) (D_divide : Df K mg "divide" ["p", "q"] s_divide f_divide fd_divide)
    (G_divide : FnOk P w K mg base (L2.CX P w) 3 f_divide fd_divide ["p", "q"] (sp_divide C)) (D_times : Df K mg "times" ["p", "q"] s_times f_times fd_times)
    (G_times : FnOk P w K mg base CX0 1 f_times fd_times ["p", "q"] sp_times) : FnOk P w K mg base CX0 4 f fd ["p", "q", "modulus"] sp_product_rest := by
  refine D.F.ok sc_product_rest (fun vs H Q E h => ?_) (fun cdv A outer s H vs Q E hr h => ?_)
  · obtain ⟨p, q, n, rfl, _⟩ := h; rfl
  · obtain ⟨p, q, n, rfl, hp, hq, hn, n0, k⟩ := h
    refine ⟨_, (pss_one (ps_ret (pe_ix ix_tup (pe_call G_divide (hr.mono (by decide)) rfl D_divide.g D_divide.F.kp D_divide.b .nil passL (pa_cons (pe_call G_times (hr.mono (by decide)) rfl D_times.g D_times.F.kp D_times.b .nil pass0 (pa_cons (pv 0) (pa_cons (pv 1) pa_nil))) (pa_cons (pv 2) pa_nil))) (pe_nat 1) (fun _ _ => rfl)))), ?_⟩
    refine ⟨_, rfl, _, rfl, p, q, rfl, by omega, by omega, _, rfl, GF.mul p q, n, rfl, mul_lt hp hq, hn, fun z => absurd z n0, fun _ t ht => ?_⟩
    exact ⟨t, _, _, _, rfl, rfl, SqT.of upd_same, atI_nat (j := 1) rfl, k _ (same_upd ht)⟩
def sp_irr : Sp := fun vs H Q _ => ∃ p : Nat, vs = [.int p] ∧ p < 131072 ∧ ∀ (b : Bool) H', (b = true ↔ GF.Irr p) → Same H H' → Q (.bl b) H'
theorem fr_lt {p : Nat} (h2 : 2 ≤ p) (hp : p < 131072) (i : Nat) : GF.fr i p < 2 ^ 32 := by
  have h0 : p ≠ 0 := by omega
  cases i with
  | zero => show 2 < 2 ^ 32; decide
  | succ i =>
    have h1 : p.log2 < 17 := (Nat.log2_lt h0).mpr hp
    exact Nat.lt_trans (GF.mod_lt h0) (Nat.pow_lt_pow_right (by decide) (by omega))
theorem ok_is_irreducible {f f_degree f_product_rest f_common : Addr} {fd fd_degree fd_product_rest fd_common : FuncData} {tk : Tok} (D : Df K mg "is_irreducible" ["p"] s_is_irreducible f fd) (B : Bl mg) (c_X : mg "X" = some (.int 2 tk))
    (D_degree : Df K mg "degree" ["p"] s_degree f_degree fd_degree) (G_degree : FnOk P w K mg base CX0 1 f_degree fd_degree ["p"] sp_degree)
    (D_product_rest : Df K mg "product_rest" ["p", "q", "modulus"] s_product_rest f_product_rest fd_product_rest) (G_product_rest : FnOk P w K mg base CX0 4 f_product_rest fd_product_rest ["p", "q", "modulus"] sp_product_rest)
    (D_common : Df K mg "common" ["p", "q"] s_common f_common fd_common) (G_common : FnOk P w K mg base CX0 4 f_common fd_common ["p", "q"] sp_common) : FnOk P w K mg base CX0 5 f fd ["p"] sp_irr := by
  refine D.F.ok sc_is_irreducible (fun vs H Q E h => ?_) (fun cdv A outer s H vs Q E hr h => ?_)
  · obtain ⟨p, rfl, _⟩ := h; rfl
  · obtain ⟨p, rfl, hp, k⟩ := h
    refine ⟨_, (pss_cons (ps_if (pt_cmpR op_lt (pe_call G_degree (hr.mono (by decide)) rfl D_degree.g D_degree.F.kp D_degree.b .nil pass0 (pa_cons (pv 0) pa_nil)) (pe_nat 1) (nomark _)) (pss_one (ps_ret pe_bl)) pss_nil)
      (pss_cons (ps_set (i := 1) sc_is_irreducible.nd rfl (Or.inl rfl) (pe_glob (v := .int ((2 : Nat) : Int)) rfl c_X ⟨_, rfl⟩))
      (pss_cons (ps_for PassesOwn.never rfl (pi_range1 rfl B.range (pa_cons (pe_op op_fdiv (pe_call G_degree (hr.mono (by decide)) rfl D_degree.g D_degree.F.kp D_degree.b .nil pass0 (pa_cons (pv 0) pa_nil)) (pe_nat 2)) pa_nil)) (pg_name (i := 2) sc_is_irreducible.nd rfl (Or.inl rfl) (Or.inr rfl))
        (pss_cons (ps_set (i := 1) sc_is_irreducible.nd rfl (Or.inl rfl) (pe_call G_product_rest (hr.mono (by decide)) rfl D_product_rest.g D_product_rest.F.kp D_product_rest.b .nil pass0 (pa_cons (pv 1) (pa_cons (pv 1) (pa_cons (pv 0) pa_nil)))))
        (pss_one (ps_if (pt_cmpR op_ne (pe_call G_common (hr.mono (by decide)) rfl D_common.g D_common.F.kp D_common.b .nil pass0 (pa_cons (pe_op nb_xor (pv 1) (pe_glob (v := .int ((2 : Nat) : Int)) rfl c_X ⟨_, rfl⟩)) (pa_cons (pv 0) pa_nil))) (pe_nat 1) (nomark _)) (pss_one (ps_ret pe_bl)) pss_nil))))
      (pss_one (ps_ret pe_bl))))), ?_⟩
    have hb17 : NB.bits p ≤ 17 := bits_le.mpr hp
    refine ⟨_, rfl, p, rfl, _, _, rfl, rfl, _, rfl, iteD (fun c => ?_) (fun c => ?_)⟩
    · have c' : (NB.bits p : Int) - 1 < 1 := c
      have hp1 : p < 2 ^ 1 := bits_le.mp (by omega)
      exact k false H ⟨(fun z => nomatch z), fun z => by have := z.1; omega⟩ (Same.refl H)
    · have c' : ¬ (NB.bits p : Int) - 1 < 1 := c
      have h2 : 2 ≤ p := by
        apply Classical.byContradiction
        intro n
        have : NB.bits p ≤ 1 := bits_le.mpr (by omega)
        omega
      have hp0 : p ≠ 0 := by omega
      have hbp := bits_pos hp0
      refine ⟨_, rfl, p, rfl, _, _, rfl, rfl, ⟨by decide, by decide⟩, _, rfl, by omega, by omega, ?_⟩
      have en : (((NB.bits p : Int) - 1) / ((2 : Nat) : Int)).toNat = p.log2 / 2 := by omega
      rw [en]
      refine for_rangeN (lo := 0) (n := p.log2 / 2) (fun i σ H' => ∃ v, σ = [some (.int p), some (.int ((GF.fr i p : Nat) : Int)), v] ∧ Same H H' ∧ ∀ j, 1 ≤ j → j ≤ i → GF.gcd (GF.fr j p ^^^ 2) p = 1) ⟨none, rfl, Same.refl H, fun j h1 h2 => by omega⟩ ?_ ?_
      · rintro i σ H' hi ⟨v, rfl, sm, ht⟩
        have hf := fr_lt h2 hp i
        have hf2 := fr_lt h2 hp (i + 1)
        refine ⟨_, rfl, _, rfl, _, rfl, GF.fr i p, GF.fr i p, p, rfl, hf, hf, by omega, hp0, fun H1 s1 => ?_⟩
        refine ⟨_, rfl, _, _, rfl, rfl, _, rfl, GF.fr (i + 1) p ^^^ 2, p, rfl, ?_, by omega, fun H2 s2 => ?_⟩
        · exact GF.xor_lt (n := 64) (by omega) (by decide)
        · refine ⟨rfl, _, rfl, iteN (fun d => ?_) (fun d => ?_)⟩
          · refine k false H2 ⟨(fun z => nomatch z), fun z => ?_⟩ ((sm.trans s1).trans s2)
            exfalso
            apply d
            rw [GF.test_of_irr z hp (i + 1) (by omega) (by omega)]
          · have d' : GF.gcd (GF.fr (i + 1) p ^^^ 2) p = 1 := by have := V.int.inj d; omega
            refine ⟨some (.int ((0 + i : Nat) : Int)), rfl, (sm.trans s1).trans s2, fun j h1 h3 => ?_⟩
            by_cases e : j = i + 1
            · subst e; exact d'
            · exact ht j h1 (by omega)
      · rintro σ H' ⟨v, rfl, sm, ht⟩
        exact k true H' ⟨fun _ => GF.irr_of_test h2 hp ht, fun _ => rfl⟩ sm
end
theorem V_take_more {α : Type} : ∀ {l : List α} {i : Nat} {x : α}, l[i]? = some x → l.take (i + 1) = l.take i ++ [x] := fun {l i x} h => by rw [List.take_add_one, h]; rfl
theorem map_get_int {ns : List Int} {i : Nat} {x : V} (h : (ns.map V.int)[i]? = some x) : ∃ z, ns[i]? = some z ∧ x = .int z := by
  rw [List.getElem?_map] at h
  cases e : ns[i]? with
  | none => rw [e] at h; cases h
  | some z => rw [e] at h; exact ⟨z, rfl, (Option.some.inj h).symm⟩
theorem NL_get_inv {ns : List Nat} {i : Nat} {x : V} (h : (NL ns)[i]? = some x) : ∃ z : Nat, ns[i]? = some z ∧ x = .int (z : Int) := by
  unfold NL at h
  rw [List.getElem?_map] at h
  cases e : ns[i]? with
  | none => rw [e] at h; cases h
  | some z => rw [e] at h; exact ⟨z, rfl, (Option.some.inj h).symm⟩
section
variable {P : Program} {w : World} {K : PySem.W.Frag} {mg : Str → Option Value} {base : Heap}
def sp_numbers (K : PySem.W.Frag) : Sp := fun vs H Q _ => ∃ (a : Addr) (ns : List Int) (many : Nat), vs = [.ref a, .int (many : Int)] ∧ SqL K H a (ns.map V.int) ∧ ns.length ≤ 63 ∧ many ≤ 1000 ∧
  ∀ (l : Addr) (xs : List Nat) H', Same H H' → H l = none → H' l = some (.lst (NL xs)) → xs.length = many → (∀ x ∈ xs, x < 65536) → Q (.ref l) H'
theorem ok__law_numbers {f : Addr} {fd : FuncData} (D : Df K mg "_law_numbers" ["script", "many"] s__law_numbers f fd) (B : Bl mg) : FnOk P w K mg base CX0 1 f fd ["script", "many"] (sp_numbers K) := by
  refine D.F.ok sc__law_numbers (fun vs H Q E h => ?_) (fun cdv A outer s H vs Q E hr h => ?_)
  · obtain ⟨a, ns, many, rfl, _⟩ := h; rfl
  · obtain ⟨a, ns, many, rfl, hS, hl, hm, kQ⟩ := h
    refine ⟨_, (pss_cons (ps_set (i := 2) sc__law_numbers.nd rfl (Or.inl rfl) (pe_op op_cat (pe_lc (own := [("cell", 7)]) rfl sc__law_numbers.nd (pi_list (pe_slice sl_list (pv 0) po_none (po_some (pe_nat 63)))) (blkOk_by (own := [("cell", 7)]) (N := ["script", "many", "rest", "mixed", "numbers", "k", "at", "cell"]) (sc := defScope s__law_numbers) (by decide +kernel)) (fun _ _ _ _ _ => (pg_name (i := 7) sc__law_numbers.nd rfl (Or.inl rfl) (Or.inr rfl))) (fun _ _ _ _ _ => pts_nil) (fun _ _ _ _ _ => (pe_callB call_absN (by rfl) B.abs (by decide +kernel) (pa_cons (pv 7) pa_nil)))) (pe_lst (pa_cons (pe_nat 0) pa_nil))))
      (C8.pss_cut (ps_if (pt_cmpR op_gt (pe_callB call_len_seq (by rfl) B.len PySem.boot_len (pa_cons (pv 0) pa_nil)) (pe_nat 0) (nomark _)) (pss_one (ps_set (i := 2) sc__law_numbers.nd rfl (Or.inl rfl) (pe_slice sl_list (pv 2) po_none (po_some (pe_un un_neg (pe_nat 1)))))) pss_nil)
      (pss_cons (ps_setLc (i := 3) (own := [("cell", 7)]) rfl sc__law_numbers.nd rfl rfl (sw_true rfl rfl rfl (by decide +kernel)) (pi_list (pv 2)) (blkOk_by (own := [("cell", 7)]) (N := ["script", "many", "rest", "mixed", "numbers", "k", "at", "cell"]) (sc := defScope s__law_numbers) (by decide +kernel)) (fun _ _ _ _ _ => (pg_name (i := 7) sc__law_numbers.nd rfl (Or.inl rfl) (Or.inr rfl))) (fun _ _ _ _ _ => pts_nil) (fun _ _ _ _ _ => (pe_op nb_mod (pe_callTy call_int1 (by rfl) B.int (by decide +kernel) (pa_cons (pe_op nb_add (pe_op nb_mul (pv 7) (pe_nat 48271)) (pe_nat 11)) pa_nil)) (pe_nat 2147483647))))
      (pss_cons (ps_set (i := 4) sc__law_numbers.nd rfl (Or.inl rfl) (pe_lst pa_nil))
      (pss_cons (ps_for PassesOwn.never rfl (pi_range1 rfl B.range (pa_cons (pv 1) pa_nil)) (pg_name (i := 5) sc__law_numbers.nd rfl (Or.inl rfl) (Or.inr rfl))
        (pss_cons (ps_set (i := 6) sc__law_numbers.nd rfl (Or.inl rfl) (pe_op nb_mod (pe_callTy call_int1 (by rfl) B.int (by decide +kernel) (pa_cons (pv 5) pa_nil)) (pe_callB call_len_seq (by rfl) B.len PySem.boot_len (pa_cons (pv 2) pa_nil))))
        (pss_one (ps_if (pt_cmpR op_ge (pe_ix ix_list (pv 2) (pv 6) (fun _ _ => rfl)) (pe_op nb_pow (pe_nat 10) (pe_nat 18)) (nomark _)) (pss_cons (ps_expr (pe_bm PySem.F.plainAttrs_list PySem.F.slot_list_append PySem.F.type_list_append mt_append (pv 4) (pa_cons (pe_op nb_mod (pe_callTy call_int1 (by rfl) B.int (by decide +kernel) (pa_cons (pe_ix ix_list (pv 2) (pv 6) (fun _ _ => rfl)) pa_nil)) (pe_nat 65536)) pa_nil)))
          (pss_one (ps_asg (pe_op nb_fdiv (pe_ix ix_list (pv 2) (pv 6) (fun _ _ => rfl)) (pe_nat 65536)) (pg_sub (pv 2) (pv 6) set_list)))) (pss_cons (ps_asg (pe_op nb_mod (pe_callTy call_int1 (by rfl) B.int (by decide +kernel) (pa_cons (pe_op nb_add (pe_op nb_add (pe_op nb_mul (pe_ix ix_list (pv 3) (pv 6) (fun _ _ => rfl)) (pe_nat 16807)) (pe_nat 12345)) (pe_op nb_mul (pe_nat 7919) (pv 5))) pa_nil)) (pe_nat 2147483647)) (pg_sub (pv 3) (pv 6) set_list))
          (pss_one (ps_expr (pe_bm PySem.F.plainAttrs_list PySem.F.slot_list_append PySem.F.type_list_append mt_append (pv 4) (pa_cons (pe_op nb_mod (pe_callTy call_int1 (by rfl) B.int (by decide +kernel) (pa_cons (pe_op nb_add (pe_ix ix_list (pv 2) (pv 6) (fun _ _ => rfl)) (pe_op nb_fdiv (pe_ix ix_list (pv 3) (pv 6) (fun _ _ => rfl)) (pe_nat 5))) pa_nil)) (pe_nat 65536)) pa_nil)))))))))
      (pss_one (ps_ret (pv 4)))))))), ?_⟩
    -- rest
    refine ⟨_, rfl, 63, rfl, a, _, rfl, hS, fun c nc => ⟨c, rfl, ⟨_, SqL.of upd_same⟩, fun D0 nD => ?_⟩⟩
    have ecut : cutV (ns.map V.int) none (some ((63 : Nat) : Int)) = ns.map V.int := by
      rw [cut_to, List.take_of_length_le (by rw [List.length_map]; exact hl)]
    have ncD : c ≠ D0 := fun z => by rw [z, upd_same] at nD; cases nD
    have nD' : H D0 = none := by rw [upd_ne (Ne.symm ncD)] at nD; exact nD
    refine lc_list (K := K) (a := c) (xs := ns.map V.int) (fun i H' => H' c = some (.lst (ns.map V.int)) ∧ H' D0 = some (.lst (NL ((ns.take i).map Int.natAbs))) ∧ Same H H') ⟨?_, ?_, ?_⟩ (fun i H' _ h => SqL.of h.1) ?_ ?_
    · rw [upd_ne ncD, upd_same]; exact congrArg (fun l => some (HO.lst l)) ecut
    · rw [upd_same]; rfl
    · exact same_new (same_upd nc) nD
    · rintro i x H' hi ⟨h1, h2, sm⟩
      obtain ⟨z, hz, rfl⟩ := map_get_int hi
      have hil : i < ns.length := (List.getElem?_eq_some_iff.mp hz).1
      refine ⟨rfl, ?_⟩
      refine ⟨_, rfl, z, rfl, _, h2, ?_, ?_, ?_, ?_⟩
      · rw [NL_len, List.length_map, List.length_take]; exact Nat.lt_of_le_of_lt (Nat.min_le_left _ _) (small1000 (by omega))
      · rw [upd_ne ncD]; exact h1
      · rw [upd_same, NL_app, V_take_more hz, List.map_append]; rfl
      · exact same_upd2 sm nD'
    · rintro H1 ⟨h1, h2, sm⟩
      rw [List.length_map, List.take_length] at h2
      refine ⟨by show 1 ≤ sizeLine; decide, fun z nz => ?_⟩
      have nDz : D0 ≠ z := ne_of_none h2 nz
      refine ⟨D0, z, _, _, rfl, rfl, (by rw [upd_ne nDz]; exact h2), upd_same, ?_, fun r nr => ?_⟩
      · rw [NL_len, List.length_map]; exact Nat.le_of_lt (small1000 (by simp; omega))
      have e0 : NL (ns.map Int.natAbs) ++ [V.int ((0 : Nat) : Int)] = NL (ns.map Int.natAbs ++ [0]) := NL_app _ _
      have sm1 : Same H (upd H1 z (.lst [V.int ((0 : Nat) : Int)])) := same_new sm nz
      have sm2 : Same H (upd (upd H1 z (.lst [V.int ((0 : Nat) : Int)])) r (.lst (NL (ns.map Int.natAbs ++ [0])))) := same_new sm1 nr
      rw [e0]
      have nr0 : H r = none := sm1.free nr
      generalize hH2 : upd (upd H1 z (.lst [V.int ((0 : Nat) : Int)])) r (.lst (NL (ns.map Int.natAbs ++ [0]))) = H2 at sm2
      have hr2 : H2 r = some (.lst (NL (ns.map Int.natAbs ++ [0]))) := by rw [← hH2, upd_same]
      -- rest without the 0
      refine ⟨fun σ H3 => ∃ (r3 : Addr) (R : List Nat) (v : Option V), σ = [some (.ref a), some (.int (many : Int)), some (.ref r3), none, none, none, none, v] ∧ Same H H3 ∧ H r3 = none ∧ H3 r3 = some (.lst (NL R)) ∧ 0 < R.length ∧ R.length ≤ 64, ?_, ?_⟩
      · refine ⟨_, rfl, a, _, rfl, .inl (sm2.seq hS), _, _, rfl, rfl, _, rfl, iteD (fun c0 => ?_) (fun c0 => ?_)⟩
        · have c1 : (0 : Int) < ((ns.map V.int).length : Int) := c0
          rw [List.length_map] at c1
          refine ⟨_, rfl, 1, rfl, -1, rfl, r, _, rfl, SqL.of hr2, fun q nq => ⟨q, ns.map Int.natAbs, none, ?_, same_new sm2 nq, sm2.free nq, ?_, by rw [List.length_map]; omega, by rw [List.length_map]; omega⟩⟩
          · rfl
          · rw [upd_same, cut_last]
            unfold NL
            rw [← List.map_dropLast, List.dropLast_concat]
        · exact ⟨r, _, none, rfl, sm2, nr0, hr2, by simp, by simp; omega⟩
      · rintro σ H3 ⟨r3, R, v, rfl, sm3, n3, h3, hR0, hR1⟩
        -- mixed
        refine ⟨_, rfl, r3, rfl, ⟨_, SqL.of h3⟩, fun M0 nM => ?_⟩
        have nrM : r3 ≠ M0 := ne_of_none h3 nM
        have nM' : H M0 = none := sm3.free nM
        refine lc_list (K := K) (a := r3) (xs := NL R) (fun i H' => ∃ M : List Nat, H' r3 = some (.lst (NL R)) ∧ H' M0 = some (.lst (NL M)) ∧ M.length = i ∧ Same H H') ⟨[], ?_, ?_, rfl, ?_⟩ (fun i H' _ h => by obtain ⟨M, h1, _⟩ := h; exact SqL.of h1) ?_ ?_
        · rw [upd_ne nrM]; exact h3
        · rw [upd_same]; rfl
        · exact same_new sm3 nM
        · rintro i x H' hi ⟨M, h1, h2, hM, sm⟩
          obtain ⟨z, hz, rfl⟩ := NL_get_inv hi
          have hil : i < R.length := (List.getElem?_eq_some_iff.mp hz).1
          refine ⟨rfl, ?_⟩
          refine ⟨_, rfl, _, _, rfl, rfl, .inr (by decide), _, _, rfl, rfl, .inl ⟨_, rfl, _, _, rfl, rfl, Nat.succ_pos _, _, h2, ?_, M ++ [(z * 48271 + 11) % 2147483647], ?_, ?_, ?_, ?_⟩⟩
          · rw [NL_len]; exact small1000 (by omega)
          · rw [upd_ne nrM]; exact h1
          · rw [upd_same, ← NL_app]
          · rw [List.length_append, hM]; rfl
          · exact same_upd2 sm nM'
        · rintro H4 ⟨M, h1, h2, hM, sm4⟩
          rw [NL_len] at hM
          -- numbers
          refine ⟨Nat.zero_le _, fun l nl => ?_⟩
          have nrl : r3 ≠ l := ne_of_none h1 nl
          have nMl : M0 ≠ l := ne_of_none h2 nl
          have nl' : H l = none := sm4.free nl
          refine ⟨_, rfl, _, rfl, by omega, by omega, ?_⟩
          refine for_rangeN (lo := 0) (n := many) (fun i σ H' => ∃ (R' M' N : List Nat) (v5 v6 v7 : Option V), σ = [some (.ref a), some (.int (many : Int)), some (.ref r3), some (.ref M0), some (.ref l), v5, v6, v7] ∧ H' r3 = some (.lst (NL R')) ∧ H' M0 = some (.lst (NL M')) ∧ H' l = some (.lst (NL N)) ∧
            R'.length = R.length ∧ M'.length = R.length ∧ N.length = i ∧ (∀ x ∈ N, x < 65536) ∧ Same H H') ⟨R, M, [], none, none, v, rfl, ?_, ?_, ?_, rfl, hM, rfl, (fun x hx => nomatch hx), ?_⟩ ?_ ?_
          · rw [upd_ne nrl]; exact h1
          · rw [upd_ne nMl]; exact h2
          · rw [upd_same]; rfl
          · exact same_new sm4 nl
          · rintro i σ H' hi ⟨R', M', N, v5, v6, v7, rfl, g1, g2, g3, e1, e2, e3, hN, sm⟩
            have hat : i % R.length < R.length := Nat.mod_lt _ hR0
            obtain ⟨x, hx⟩ : ∃ x, R'[i % R.length]? = some x := ⟨_, List.getElem?_eq_getElem (by omega)⟩
            obtain ⟨y, hy⟩ : ∃ y, M'[i % R.length]? = some y := ⟨_, List.getElem?_eq_getElem (by omega)⟩
            have hN3 : (NL N).length < sizeLine := by rw [NL_len]; exact small1000 (by omega)
            rw [Nat.zero_add]
            refine ⟨_, rfl, .inl ⟨_, rfl, _, rfl, r3, _, rfl, .inl (SqL.of g1), i, _, rfl, rfl, by rw [NL_len]; omega, ?_⟩⟩
            rw [NL_len, e1]
            refine ⟨_, rfl, _, rfl, r3, _, _, _, rfl, rfl, SqL.of g1, NL_at0 hx, _, _, rfl, rfl, ⟨by decide, by decide⟩, _, _, rfl, rfl, _, rfl, iteD (fun c => ?_) (fun c => ?_)⟩
            · refine ⟨_, rfl, .inl ⟨rfl, _, SqL.of g3⟩, _, rfl, _, rfl, r3, _, _, _, rfl, rfl, SqL.of g1, NL_at0 hx, .inl ⟨_, rfl, _, _, rfl, rfl, Nat.succ_pos _, l, _, _, rfl, rfl, g3, hN3, ?_⟩⟩
              have g1' : (upd H' l (.lst (NL N ++ [V.int ((x % 65536 : Nat) : Int)]))) r3 = some (.lst (NL R')) := by rw [upd_ne nrl]; exact g1
              refine ⟨_, rfl, _, rfl, r3, _, _, _, rfl, rfl, SqL.of g1', NL_at0 hx, _, _, rfl, rfl, ⟨by decide, by decide⟩, _, rfl, _, rfl, r3, _, _, i % R.length, rfl, rfl, g1', ixN_nat (by rw [NL_len]; omega), ?_⟩
              refine ⟨R'.set (i % R.length) (x / 65536), M', N ++ [x % 65536], _, _, v7, rfl, ?_, ?_, ?_, ?_, e2, ?_, ?_, ?_⟩
              · rw [upd_same, NL_set]
              · rw [upd_ne (Ne.symm nrM), upd_ne nMl]; exact g2
              · rw [upd_ne (Ne.symm nrl), upd_same, NL_app]
              · rw [List.length_set]; exact e1
              · rw [List.length_append, e3]; rfl
              · intro z hz
                rcases List.mem_append.mp hz with h | h
                · exact hN z h
                · rw [List.mem_singleton] at h; subst h; exact Nat.mod_lt _ (by decide)
              · exact same_upd2 (same_upd2 sm nl') n3
            · refine ⟨_, rfl, _, rfl, M0, _, _, _, rfl, rfl, SqL.of g2, NL_at0 hy, _, _, rfl, rfl, .inr (by decide), _, _, rfl, rfl, _, rfl, _, _, rfl, rfl, .inl (by decide), _, _, rfl, rfl, .inl ⟨_, rfl, _, _, rfl, rfl, Nat.succ_pos _, _, rfl, _, rfl, M0, _, _, i % R.length, rfl, rfl, g2, ixN_nat (by rw [NL_len]; omega), ?_⟩⟩
              rw [NL_set]
              generalize hy2 : (y * 16807 + 12345 + 7919 * i) % 2147483647 = y2
              have g1' : (upd H' M0 (.lst (NL (M'.set (i % R.length) y2)))) r3 = some (.lst (NL R')) := by rw [upd_ne nrM]; exact g1
              have g3' : (upd H' M0 (.lst (NL (M'.set (i % R.length) y2)))) l = some (.lst (NL N)) := by rw [upd_ne (Ne.symm nMl)]; exact g3
              have hy3 : (M'.set (i % R.length) y2)[i % R.length]? = some y2 := List.getElem?_set_self (by omega)
              refine ⟨_, rfl, .inl ⟨rfl, _, SqL.of g3'⟩, _, rfl, _, rfl, r3, _, _, _, rfl, rfl, SqL.of g1', NL_at0 hx, _, rfl, _, rfl, M0, _, _, _, rfl, rfl, SqL.of upd_same, NL_at0 hy3, _, _, rfl, rfl, ⟨by decide, by decide⟩, _, _, rfl, rfl, .inl ⟨_, rfl, _, _, rfl, rfl, Nat.succ_pos _, l, _, _, rfl, rfl, g3', hN3, ?_⟩⟩
              refine ⟨R', M'.set (i % R.length) y2, N ++ [(x + y2 / 5) % 65536], _, _, v7, rfl, ?_, ?_, ?_, e1, ?_, ?_, ?_, ?_⟩
              · rw [upd_ne nrl]; exact g1'
              · rw [upd_ne nMl, upd_same]
              · rw [upd_same, NL_app]
              · rw [List.length_set]; exact e2
              · rw [List.length_append, e3]; rfl
              · intro z hz
                rcases List.mem_append.mp hz with h | h
                · exact hN z h
                · rw [List.mem_singleton] at h; subst h; exact Nat.mod_lt _ (by decide)
              · exact same_upd2 (same_upd2 sm nM') nl'
          · rintro σ H' ⟨R', M', N, v5, v6, v7, rfl, g1, g2, g3, e1, e2, e3, hN, sm⟩
            exact ⟨_, rfl, kQ l N H' sm nl' g3 e3 hN⟩
end
section
variable {P : Program} {w : World} {K : PySem.W.Frag} {mg : Str → Option Value} {base : Heap}
theorem shr_pos {p k : Nat} : 0 < p / 2 ^ k ↔ k < NB.bits p := by
  constructor
  · intro h
    apply Classical.byContradiction
    intro n
    have := bits_le.mp (show NB.bits p ≤ k by omega)
    rw [Nat.div_eq_of_lt this] at h
    omega
  · intro h
    apply Nat.div_pos _ (Nat.two_pow_pos k)
    apply Classical.byContradiction
    intro n
    have := bits_le.mpr (show p < 2 ^ k by omega)
    omega
theorem odd_of {x : Nat} (c : V.int ((x &&& 1 : Nat) : Int) = .int ((1 : Nat) : Int)) : x % 2 = 1 := by
  have := V.int.inj c
  rw [Nat.and_one_is_mod] at this; omega
theorem odd_mk {x : Nat} (c : x % 2 = 1) : V.int ((x &&& 1 : Nat) : Int) = .int ((1 : Nat) : Int) := by rw [Nat.and_one_is_mod, c]
def sp_ldegree : Sp := fun vs H Q _ => ∃ p : Nat, vs = [.int p] ∧ p < 2 ^ 70 ∧ Q (.int ((NB.bits p : Nat) - 1 : Int)) H
theorem ok__law_degree {f : Addr} {fd : FuncData} (D : Df K mg "_law_degree" ["p"] s__law_degree f fd) (B : Bl mg) : FnOk P w K mg base CX0 1 f fd ["p"] sp_ldegree := by
  refine D.F.ok sc__law_degree (fun vs H Q E h => ?_) (fun cdv A outer s H vs Q E hr h => ?_)
  · obtain ⟨p, rfl, _⟩ := h; rfl
  · obtain ⟨p, rfl, hp, k⟩ := h
    refine ⟨_, (pss_cons (ps_set (i := 1) sc__law_degree.nd rfl (Or.inl rfl) (pe_un un_neg (pe_nat 1)))
      (pss_cons (ps_for PassesOwn.never rfl (pi_range1 rfl B.range (pa_cons (pe_nat 70) pa_nil)) (pg_name (i := 2) sc__law_degree.nd rfl (Or.inl rfl) (Or.inr rfl))
        (pss_one (ps_if (pt_cmpR op_gt (pe_op nb_shr (pv 0) (pv 2)) (pe_nat 0) (nomark _)) (pss_one (ps_set (i := 1) sc__law_degree.nd rfl (Or.inl rfl) (pv 2))) pss_nil)))
      (pss_one (ps_ret (pv 1))))), ?_⟩
    have hb := bits_le.mpr hp
    refine ⟨1, rfl, _, rfl, by omega, by omega, ?_⟩
    refine for_rangeN (lo := 0) (n := 70) (fun i σ H' => ∃ v, σ = [some (.int p), some (.int ((Nat.min i (NB.bits p) : Nat) - 1 : Int)), v] ∧ H' = H) ⟨none, ?_, rfl⟩ ?_ ?_
    · rw [show Nat.min 0 (NB.bits p) = 0 from Nat.zero_min _]; rfl
    · rintro i σ H' hi ⟨v, rfl, rfl⟩
      rw [Nat.zero_add]
      refine ⟨_, rfl, _, rfl, _, _, rfl, rfl, _, _, rfl, rfl, _, rfl, iteD (fun c => ?_) (fun c => ?_)⟩
      · have c1 : i < NB.bits p := shr_pos.mp (by have : (0 : Int) < ((p / 2 ^ i : Nat) : Int) := c; omega)
        refine ⟨_, rfl, some (.int i), ?_, rfl⟩
        have e : ((Nat.min (i + 1) (NB.bits p) : Nat) - 1 : Int) = (i : Int) := by
          have : Nat.min (i + 1) (NB.bits p) = i + 1 := Nat.min_eq_left (by omega)
          rw [this]; omega
        rw [e]; rfl
      · have c1 : ¬ i < NB.bits p := fun z => c (by have := shr_pos.mpr z; show (0 : Int) < ((p / 2 ^ i : Nat) : Int); omega)
        refine ⟨some (.int i), ?_, rfl⟩
        have e : Nat.min (i + 1) (NB.bits p) = Nat.min i (NB.bits p) := by
          rw [show Nat.min (i + 1) (NB.bits p) = NB.bits p from Nat.min_eq_right (by omega), show Nat.min i (NB.bits p) = NB.bits p from Nat.min_eq_right (by omega)]
        rw [e]; rfl
    · rintro σ H' ⟨v, rfl, rfl⟩
      rw [show Nat.min 70 (NB.bits p) = NB.bits p from Nat.min_eq_right (by omega)]
      exact ⟨_, rfl, k⟩
def sp_ltimes : Sp := fun vs H Q _ => ∃ p q : Nat, vs = [.int p, .int q] ∧ p < 2 ^ 64 ∧ q < 2 ^ 36 ∧ Q (.int ((GF.mul p q : Nat) : Int)) H
theorem ok__law_times {f : Addr} {fd : FuncData} (D : Df K mg "_law_times" ["p", "q"] s__law_times f fd) (B : Bl mg) : FnOk P w K mg base CX0 1 f fd ["p", "q"] sp_ltimes := by
  refine D.F.ok sc__law_times (fun vs H Q E h => ?_) (fun cdv A outer s H vs Q E hr h => ?_)
  · obtain ⟨p, q, rfl, _⟩ := h; rfl
  · obtain ⟨p, q, rfl, hp, hq, k⟩ := h
    refine ⟨_, (pss_cons (ps_set (i := 2) sc__law_times.nd rfl (Or.inl rfl) (pe_nat 0))
      (pss_cons (ps_for PassesOwn.never rfl (pi_range1 rfl B.range (pa_cons (pe_nat 36) pa_nil)) (pg_name (i := 3) sc__law_times.nd rfl (Or.inl rfl) (Or.inr rfl))
        (pss_one (ps_if (pt_cmpR op_eq (pe_op nb_and (pe_op nb_shr (pv 1) (pv 3)) (pe_nat 1)) (pe_nat 1) (nomark _)) (pss_one (ps_set (i := 2) sc__law_times.nd rfl (Or.inl rfl) (pe_op nb_xor (pv 2) (pe_op nb_shl (pv 0) (pv 3))))) pss_nil)))
      (pss_one (ps_ret (pv 2))))), ?_⟩
    refine ⟨_, rfl, by omega, by omega, ?_⟩
    refine for_rangeN (lo := 0) (n := 36) (fun i σ H' => ∃ v, σ = [some (.int p), some (.int q), some (.int ((GF.mul p (q % 2 ^ i) : Nat) : Int)), v] ∧ H' = H) ⟨none, ?_, rfl⟩ ?_ ?_
    · rw [Nat.pow_zero, Nat.mod_one, GF.mul_zero]; rfl
    · rintro i σ H' hi ⟨v, rfl, rfl⟩
      rw [Nat.zero_add]
      have key := times_step p q i
      refine ⟨_, rfl, _, rfl, _, _, rfl, rfl, _, _, rfl, rfl, rfl, _, rfl, ?_⟩
      refine iteD (fun c => ?_) (fun c => ?_)
      · rw [if_pos (odd_of c)] at key
        refine ⟨_, rfl, _, rfl, _, rfl, _, _, rfl, rfl, ⟨hp, by omega⟩, _, _, rfl, rfl, some (.int i), ?_, rfl⟩
        rw [key]; rfl
      · rw [if_neg (fun z => c (odd_mk z)), Nat.xor_zero] at key
        refine ⟨some (.int i), ?_, rfl⟩
        rw [key]; rfl
    · rintro σ H' ⟨v, rfl, rfl⟩
      rw [Nat.mod_eq_of_lt hq]
      exact ⟨_, rfl, k⟩
def sp_ldivided : Sp := fun vs H Q _ => ∃ p q : Nat, vs = [.int p, .int q] ∧ p < 2 ^ 64 ∧ q < 2 ^ 64 ∧ q ≠ 0 ∧
  ∀ a, H a = none → Q (.ref a) (upd H a (.tup [.int ((GF.pdiv p q : Nat) : Int), .int ((GF.pmod p q : Nat) : Int)]))
theorem or_add {k s : Nat} (h : k % 2 ^ (s + 1) = 0) : k + 2 ^ s = k ^^^ 2 ^ s := by
  rw [← or_xor h]
  have e : k = 2 ^ (s + 1) * (k / 2 ^ (s + 1)) := by
    have := Nat.div_add_mod k (2 ^ (s + 1)); omega
  rw [e]
  exact Nat.two_pow_add_eq_or_of_lt (Nat.pow_lt_pow_right (by decide) (by omega)) _
theorem bit_test {p n : Nat} (h : p < 2 ^ (n + 1)) : p / 2 ^ n % 2 = 1 ↔ GF.Deg p n := by
  rw [GF.deg_top h, Nat.testBit_eq_decide_div_mod_eq, decide_eq_true_eq]
theorem ok__law_divided {f f__law_degree : Addr} {fd fd__law_degree : FuncData} (D : Df K mg "_law_divided" ["p", "q"] s__law_divided f fd) (B : Bl mg)
    (D__law_degree : Df K mg "_law_degree" ["p"] s__law_degree f__law_degree fd__law_degree) (G__law_degree : FnOk P w K mg base CX0 1 f__law_degree fd__law_degree ["p"] sp_ldegree) : FnOk P w K mg base CX0 2 f fd ["p", "q"] sp_ldivided := by
  refine D.F.ok sc__law_divided (fun vs H Q E h => ?_) (fun cdv A outer s H vs Q E hr h => ?_)
  · obtain ⟨p, q, rfl, _⟩ := h; rfl
  · obtain ⟨p, q, rfl, hp, hq, q0, k⟩ := h
    refine ⟨_, (pss_cons (ps_set (i := 2) sc__law_divided.nd rfl (Or.inl rfl) (pe_call G__law_degree (hr.mono (by decide)) rfl D__law_degree.g D__law_degree.F.kp D__law_degree.b .nil pass0 (pa_cons (pv 1) pa_nil)))
      (pss_cons (ps_set (i := 3) sc__law_divided.nd rfl (Or.inl rfl) (pe_nat 0))
      (pss_cons (ps_for PassesOwn.never rfl (pi_range1 rfl B.range (pa_cons (pe_nat 70) pa_nil)) (pg_name (i := 4) sc__law_divided.nd rfl (Or.inl rfl) (Or.inr rfl))
        (pss_cons (ps_set (i := 5) sc__law_divided.nd rfl (Or.inl rfl) (pe_op nb_sub (pe_nat 69) (pv 4)))
        (pss_one (ps_if (pt_cmpR op_eq (pe_op nb_and (pe_op nb_shr (pv 0) (pe_op nb_add (pv 5) (pv 2))) (pe_nat 1)) (pe_nat 1) (nomark _)) (pss_cons (ps_set (i := 0) sc__law_divided.nd rfl (Or.inl rfl) (pe_op nb_xor (pv 0) (pe_op nb_shl (pv 1) (pv 5))))
          (pss_one (ps_set (i := 3) sc__law_divided.nd rfl (Or.inl rfl) (pe_op nb_add (pv 3) (pe_op nb_shl (pe_nat 1) (pv 5)))))) pss_nil))))
      (pss_one (ps_ret (pe_tup (pa_cons (pv 3) (pa_cons (pv 0) pa_nil)))))))), ?_⟩
    have hb := bits_pos q0
    have hl64 : q.log2 < 64 := (Nat.log2_lt q0).mpr hq
    refine ⟨_, rfl, q, rfl, by omega, ?_⟩
    rw [show ((NB.bits q : Nat) - 1 : Int) = ((q.log2 : Nat) : Int) by omega]
    refine ⟨_, rfl, by omega, by omega, ?_⟩
    refine for_rangeN (lo := 0) (n := 70) (fun i σ H' => ∃ (r ww : Nat) (v5 v6 : Option V), σ = [some (.int (r : Int)), some (.int q), some (.int ((q.log2 : Nat) : Int)), some (.int (ww : Int)), v5, v6] ∧ H' = H ∧ p = GF.mul ww q ^^^ r ∧ r < 2 ^ (70 - i + q.log2) ∧ ww % 2 ^ (70 - i) = 0) ⟨p, 0, none, none, rfl, rfl, ?_, ?_, Nat.zero_mod _⟩ ?_ ?_
    · rw [GF.zero_mul, Nat.zero_xor]
    · exact Nat.lt_of_lt_of_le hp (Nat.pow_le_pow_right (by decide) (by omega))
    · rintro i σ H' hi ⟨r, ww, v5, v6, rfl, rfl, hpk, hr', hw⟩
      rw [Nat.zero_add]
      have e1 : 70 - i = (69 - i) + 1 := by omega
      have e2 : 70 - (i + 1) = 69 - i := by omega
      have e3 : 70 - i + q.log2 = (69 - i + q.log2) + 1 := by omega
      rw [e3] at hr'
      rw [e1] at hw
      refine ⟨_, rfl, _, _, rfl, rfl, by show i ≤ 69; omega, _, rfl, _, rfl, _, rfl, _, _, rfl, rfl, _, _, rfl, rfl, _, _, rfl, rfl, rfl, _, rfl, ?_⟩
      refine iteD (fun c => ?_) (fun c => ?_)
      · have dr := (bit_test hr').mp (odd_of c)
        have dq := GF.deg_shift (GF.deg_log q0) (69 - i)
        refine ⟨_, rfl, _, rfl, _, rfl, _, _, rfl, rfl, ⟨hq, by omega⟩, _, _, rfl, rfl, _, rfl, _, rfl, _, _, rfl, rfl, ⟨by decide, by omega⟩, _, _, rfl, rfl, r ^^^ 2 ^ (69 - i) * q, ww ^^^ 2 ^ (69 - i), some (.int i), some (.int ((69 - i : Nat) : Int)), ?_, rfl, ?_, ?_, ?_⟩
        · rw [← or_add hw, Nat.mul_one]; rfl
        · rw [GF.xor_mul, GF.pow_mul, hpk, xor_swap]
        · rw [e2]; exact GF.deg_xor dr dq
        · rw [e2]; exact xor_mod_zero hw (Nat.le_refl _)
      · have dr : ¬ GF.Deg r (69 - i + q.log2) := fun z => c (odd_mk ((bit_test hr').mpr z))
        refine ⟨r, ww, some (.int i), some (.int ((69 - i : Nat) : Int)), rfl, rfl, hpk, ?_, ?_⟩
        · rw [e2]
          rcases Nat.lt_or_ge r (2 ^ (69 - i + q.log2)) with l | g
          · exact l
          · exact absurd ⟨g, hr'⟩ dr
        · rw [e2]
          exact Nat.mod_eq_zero_of_dvd (Nat.dvd_trans (Nat.pow_dvd_pow 2 (by omega)) (Nat.dvd_of_mod_eq_zero hw))
    · rintro σ H' ⟨r, ww, v5, v6, rfl, rfl, hpk, hr', hw⟩
      rw [Nat.sub_self, Nat.zero_add] at hr'
      obtain ⟨e1, e2⟩ := GF.mod_of q0 hr' hpk
      refine ⟨_, rfl, _, rfl, (by show 2 ≤ sizeLine; decide), fun a ha => ?_⟩
      have := k a ha
      rw [e1, e2] at this
      exact this
def sp_lcommon : Sp := fun vs H Q _ => ∃ p q : Nat, vs = [.int p, .int q] ∧ p < 2 ^ 64 ∧ q < 2 ^ 64 ∧ ∀ H', Same H H' → Q (.int ((GF.gcd p q : Nat) : Int)) H'
theorem ok__law_common {f f__law_divided : Addr} {fd fd__law_divided : FuncData} (D : Df K mg "_law_common" ["p", "q"] s__law_common f fd) (B : Bl mg)
    (D__law_divided : Df K mg "_law_divided" ["p", "q"] s__law_divided f__law_divided fd__law_divided) (G__law_divided : FnOk P w K mg base CX0 2 f__law_divided fd__law_divided ["p", "q"] sp_ldivided) : FnOk P w K mg base CX0 3 f fd ["p", "q"] sp_lcommon := by
  refine D.F.ok sc__law_common (fun vs H Q E h => ?_) (fun cdv A outer s H vs Q E hr h => ?_)
  · obtain ⟨p, q, rfl, _⟩ := h; rfl
  · obtain ⟨p, q, rfl, hp, hq, k⟩ := h
    refine ⟨_, (pss_cons (ps_for PassesOwn.never rfl (pi_range1 rfl B.range (pa_cons (pe_nat 70) pa_nil)) (pg_name (i := 2) sc__law_common.nd rfl (Or.inl rfl) (Or.inr rfl))
        (pss_cons (ps_if (pt_cmpR op_eq (pv 1) (pe_nat 0) (nomark _)) (pss_one (ps_ret (pv 0))) pss_nil)
        (pss_one (ps_par (i := 0) (j := 1) (by rfl) sc__law_common.nd rfl rfl (by decide) rfl rfl (pa_cons (pv 1) (pa_cons (pe_ix ix_tup (pe_call G__law_divided (hr.mono (by decide)) rfl D__law_divided.g D__law_divided.F.kp D__law_divided.b .nil pass0 (pa_cons (pv 0) (pa_cons (pv 1) pa_nil))) (pe_nat 1) (fun _ _ => rfl)) pa_nil)) (by rfl)))))
      (pss_one (ps_ret (pv 0)))), ?_⟩
    refine ⟨_, rfl, by omega, by omega, ?_⟩
    refine for_rangeN (lo := 0) (n := 70) (fun i σ H' => ∃ (a b : Nat) (v : Option V), σ = [some (.int (a : Int)), some (.int (b : Int)), v] ∧ GF.gcd a b = GF.gcd p q ∧ a < 2 ^ 64 ∧ b < 2 ^ 64 ∧ GF.siz b + i ≤ 64 ∧ Same H H') ⟨p, q, none, rfl, rfl, hp, hq, GF.siz_le.mpr hq, Same.refl H⟩ ?_ ?_
    · rintro i σ H' hi ⟨a, b, v, rfl, hg, ha, hb, hs, sm⟩
      refine ⟨_, rfl, rfl, _, rfl, iteD (fun c => ?_) (fun c => ?_)⟩
      · have b0 : b = 0 := by have := V.int.inj c; omega
        subst b0
        rw [GF.gcd_zero] at hg
        refine ⟨_, rfl, ?_⟩
        rw [hg]
        exact k _ sm
      · have b0 : b ≠ 0 := fun z => c (by rw [z])
        have hm := GF.siz_mod (a := a) b0
        refine ⟨_, rfl, _, rfl, _, rfl, a, b, rfl, ha, hb, b0, fun t ht => ?_⟩
        refine ⟨t, _, _, _, rfl, rfl, SqT.of upd_same, atI_nat (j := 1) rfl, _, _, rfl, b, GF.pmod a b, _, rfl, ?_, hb, ?_, by omega, same_new sm ht⟩
        · rw [← hg, GF.gcd_step a b0]
        · exact Nat.lt_trans (GF.mod_lt b0) (Nat.pow_lt_pow_right (by decide) ((Nat.log2_lt b0).mpr hb))
    · rintro σ H' ⟨a, b, v, rfl, hg, ha, hb, hs, sm⟩
      omega
def sp_lirr : Sp := fun vs H Q _ => ∃ p : Nat, vs = [.int p] ∧ p < 2 ^ 32 ∧ ∀ (b : Bool) H', (b = true ↔ GF.Irr p) → Same H H' → Q (.bl b) H'
theorem ok__law_irreducible {f f__law_degree f__law_divided : Addr} {fd fd__law_degree fd__law_divided : FuncData} (D : Df K mg "_law_irreducible" ["p"] s__law_irreducible f fd) (B : Bl mg)
    (D__law_degree : Df K mg "_law_degree" ["p"] s__law_degree f__law_degree fd__law_degree) (G__law_degree : FnOk P w K mg base CX0 1 f__law_degree fd__law_degree ["p"] sp_ldegree)
    (D__law_divided : Df K mg "_law_divided" ["p", "q"] s__law_divided f__law_divided fd__law_divided) (G__law_divided : FnOk P w K mg base CX0 2 f__law_divided fd__law_divided ["p", "q"] sp_ldivided) : FnOk P w K mg base CX0 3 f fd ["p"] sp_lirr := by
  refine D.F.ok sc__law_irreducible (fun vs H Q E h => ?_) (fun cdv A outer s H vs Q E hr h => ?_)
  · obtain ⟨p, rfl, _⟩ := h; rfl
  · obtain ⟨p, rfl, hp, k⟩ := h
    refine ⟨_, (pss_cons (ps_set (i := 1) sc__law_irreducible.nd rfl (Or.inl rfl) (pe_call G__law_degree (hr.mono (by decide)) rfl D__law_degree.g D__law_degree.F.kp D__law_degree.b .nil pass0 (pa_cons (pv 0) pa_nil)))
      (pss_cons (ps_if (pt_cmpR op_lt (pv 1) (pe_nat 1) (nomark _)) (pss_one (ps_ret pe_bl)) pss_nil)
      (pss_cons (ps_for PassesOwn.never rfl (pi_range2 rfl B.range (pa_cons (pe_nat 2) (pa_cons (pe_op nb_shl (pe_nat 1) (pe_op nb_add (pe_op nb_fdiv (pv 1) (pe_nat 2)) (pe_nat 1))) pa_nil))) (pg_name (i := 2) sc__law_irreducible.nd rfl (Or.inl rfl) (Or.inr rfl))
        (pss_one (ps_if (pt_cmpR op_eq (pe_ix ix_tup (pe_call G__law_divided (hr.mono (by decide)) rfl D__law_divided.g D__law_divided.F.kp D__law_divided.b .nil pass0 (pa_cons (pv 0) (pa_cons (pv 2) pa_nil))) (pe_nat 1) (fun _ _ => rfl)) (pe_nat 0) (nomark _)) (pss_one (ps_ret pe_bl)) pss_nil)))
      (pss_one (ps_ret pe_bl))))), ?_⟩
    have hb32 : NB.bits p ≤ 32 := bits_le.mpr hp
    refine ⟨_, rfl, p, rfl, by omega, _, rfl, _, _, rfl, rfl, _, rfl, iteD (fun c => ?_) (fun c => ?_)⟩
    · have c' : (NB.bits p : Int) - 1 < 1 := c
      have hp1 : p < 2 ^ 1 := bits_le.mp (by omega)
      exact k false H ⟨(fun z => nomatch z), fun z => by have := z.1; omega⟩ (Same.refl H)
    · have c' : ¬ (NB.bits p : Int) - 1 < 1 := c
      have h2 : 2 ≤ p := by
        apply Classical.byContradiction
        intro n
        have : NB.bits p ≤ 1 := bits_le.mpr (by omega)
        omega
      have hp0 : p ≠ 0 := by omega
      have hbp := bits_pos hp0
      have hlt := GF.log_pos h2
      rw [show ((NB.bits p : Nat) - 1 : Int) = ((p.log2 : Nat) : Int) by omega]
      have hpw : (2 : Nat) ^ (p.log2 / 2 + 1) ≤ 2 ^ 32 := Nat.pow_le_pow_right (by decide) (by omega)
      have hpw2 : (2 : Nat) ≤ 2 ^ (p.log2 / 2 + 1) := Nat.le_trans (by decide) (Nat.pow_le_pow_right (by decide) (show 1 ≤ p.log2 / 2 + 1 by omega))
      refine ⟨_, rfl, _, _, rfl, rfl, ⟨by decide, by decide⟩, _, _, rfl, rfl, _, _, rfl, rfl, ⟨by decide, by omega⟩, _, _, rfl, ⟨by decide, by decide, by omega, by omega⟩, ?_⟩
      rw [Nat.mul_one, show (((2 ^ (p.log2 / 2 + 1) : Nat) : Int) - ((2 : Nat) : Int)).toNat = 2 ^ (p.log2 / 2 + 1) - 2 by omega]
      refine for_rangeN (lo := 2) (n := 2 ^ (p.log2 / 2 + 1) - 2) (fun i σ H' => ∃ v, σ = [some (.int p), some (.int ((p.log2 : Nat) : Int)), v] ∧ Same H H' ∧ ∀ q, 2 ≤ q → q < 2 + i → ¬ GF.Dvd q p) ⟨none, rfl, Same.refl H, fun q h1 h2 => by omega⟩ ?_ ?_
      · rintro i σ H' hi ⟨v, rfl, sm, hd⟩
        have hq0 : 2 + i ≠ 0 := by omega
        refine ⟨_, rfl, _, rfl, p, 2 + i, rfl, by omega, by omega, hq0, fun t ht => ⟨t, _, _, _, rfl, rfl, SqT.of upd_same, atI_nat (j := 1) rfl, rfl, _, rfl, iteD (fun d => ?_) (fun d => ?_)⟩⟩
        · have d' : GF.pmod p (2 + i) = 0 := by have := V.int.inj d; omega
          refine k false _ ⟨(fun z => nomatch z), fun z => ?_⟩ (same_new sm ht)
          exfalso
          refine z.2 (2 + i) (by omega) ?_ ((GF.dvd_mod hq0).mpr d')
          have : (2 + i).log2 < p.log2 / 2 + 1 := (Nat.log2_lt hq0).mpr (by omega)
          omega
        · have d' : GF.pmod p (2 + i) ≠ 0 := fun z => d (by rw [z])
          refine ⟨some (.int ((2 + i : Nat) : Int)), rfl, same_new sm ht, fun q g1 g2 => ?_⟩
          by_cases e : q = 2 + i
          · subst e; exact fun z => d' ((GF.dvd_mod hq0).mp z)
          · exact hd q g1 (by omega)
      · rintro σ H' ⟨v, rfl, sm, hd⟩
        refine k true H' ⟨fun _ => ⟨h2, fun q g1 g2 => hd q g1 ?_⟩, fun _ => rfl⟩ sm
        have : q < 2 ^ (p.log2 / 2 + 1) := (Nat.log2_lt (by omega)).mp (by omega)
        omega
end
end K01
namespace K01
open PySem PySem.Spec L2 NB ER MKX
section
variable {P : Program} {w : World} {K : PySem.W.Frag} {mg : Str → Option Value} {base : Heap}
open FLD
/-- the powers of e from 0 to k - 1 -/
def pws (q e k : Nat) : List Nat := (List.range k).map (pw q e)
theorem pws_len (q e k : Nat) : (pws q e k).length = k := by unfold pws; rw [List.length_map, List.length_range]
theorem pws_get {q e k i : Nat} (h : i < k) : (pws q e k)[i]? = some (pw q e i) := by unfold pws; rw [List.getElem?_map, List.getElem?_range h]; rfl
theorem pws_more (q e k : Nat) : pws q e (k + 1) = pws q e k ++ [pw q e k] := by unfold pws; rw [List.range_succ, List.map_append]; rfl
def sp_powers_of : Sp := fun vs H Q _ => ∃ e q m : Nat, vs = [.int e, .int q] ∧ Fd m q ∧ e ≠ 0 ∧ e < 2 ^ m ∧
  ∀ (a : Addr) H' (k : Nat), Same H H' → H a = none → H' a = some (.lst (NL (pws q e k))) → 1 ≤ k → k ≤ 2 ^ m - 1 → pw q e k = 1 → (∀ i, 1 ≤ i → i < k → pw q e i ≠ 1) → Q (.ref a) H'
theorem pow_m {m q : Nat} (F : Fd m q) : 4 ≤ 2 ^ m ∧ 2 ^ m ≤ 256 :=
  ⟨Nat.le_trans (by decide) (Nat.pow_le_pow_right (n := 2) (by decide) F.h2), Nat.le_trans (Nat.pow_le_pow_right (n := 2) (by decide) F.h8) (by decide)⟩
theorem ok__powers_of {f f_product_rest : Addr} {fd fd_product_rest : FuncData} (D : Df K mg "_powers_of" ["e", "modulus"] s__powers_of f fd)
    (D_product_rest : Df K mg "product_rest" ["p", "q", "modulus"] s_product_rest f_product_rest fd_product_rest) (G_product_rest : FnOk P w K mg base CX0 4 f_product_rest fd_product_rest ["p", "q", "modulus"] sp_product_rest) :
    FnOk P w K mg base CX0 5 f fd ["e", "modulus"] sp_powers_of := by
  refine D.F.ok sc__powers_of (fun vs H Q E h => ?_) (fun cdv A outer s H vs Q E hr h => ?_)
  · obtain ⟨e, q, m, rfl, _⟩ := h; rfl
  · obtain ⟨e, q, m, rfl, F, e0, elt, k⟩ := h
    refine ⟨_, (pss_cons (ps_set (i := 2) sc__powers_of.nd rfl (Or.inl rfl) (pe_lst (pa_cons (pe_nat 1) pa_nil)))
      (pss_cons (ps_set (i := 3) sc__powers_of.nd rfl (Or.inl rfl) (pv 0))
      (pss_cons (ps_while PassesOwn.never (pt_cmpR op_ne (pv 3) (pe_nat 1) (nomark _))
        (pss_cons (ps_expr (pe_bm PySem.F.plainAttrs_list PySem.F.slot_list_append PySem.F.type_list_append mt_append (pv 2) (pa_cons (pv 3) pa_nil)))
        (pss_one (ps_set (i := 3) sc__powers_of.nd rfl (Or.inl rfl) (pe_call G_product_rest (hr.mono (by decide)) rfl D_product_rest.g D_product_rest.F.kp D_product_rest.b .nil pass0 (pa_cons (pv 3) (pa_cons (pv 0) (pa_cons (pv 1) pa_nil))))))))
      (pss_one (ps_ret (pv 2)))))), ?_⟩
    obtain ⟨hm4, hm256⟩ := pow_m F
    have hq5 := q_512 F
    obtain ⟨r, hR⟩ := root_ex F
    have hall := pw_all F hR e0 elt
    refine ⟨(by show 1 ≤ sizeLine; decide), fun a na => ⟨_, rfl, ?_⟩⟩
    refine while_by (fun σ H' => ∃ j : Nat, σ = [some (.int e), some (.int q), some (.ref a), some (.int ((pw q e j : Nat) : Int))] ∧ 1 ≤ j ∧ j ≤ 2 ^ m - 1 ∧ H' a = some (.lst (NL (pws q e j))) ∧ Same H H' ∧ ∀ i, 1 ≤ i → i < j → pw q e i ≠ 1)
      (fun _ H' => match H' a with | some (.lst l) => 256 - l.length | _ => 0) ⟨1, ?_, Nat.le_refl _, by omega, ?_, same_upd na, fun i h1 h2 => by omega⟩ ?_ ?_
    · rw [pw_first F elt]; rfl
    · rw [upd_same]; rfl
    · rintro σ H' ⟨j, rfl, hj, hjN, ha, sm, hno⟩
      have hpl := pw_lt F e j
      refine ⟨_, rfl, rfl, _, rfl, iteN (fun c => ?_) (fun c => ?_)⟩
      · have c' : pw q e j ≠ 1 := fun z => c (by rw [z])
        have hj2 : j ≠ 2 ^ m - 1 := fun z => c' (by rw [z]; exact hall)
        refine ⟨_, rfl, .inl ⟨rfl, _, SqL.of ha⟩, _, rfl, a, _, _, rfl, rfl, ha, by rw [NL_len, pws_len]; exact small1000 (by omega), ?_⟩
        refine ⟨_, rfl, _, rfl, _, rfl, pw q e j, e, q, rfl, by omega, by omega, by omega, q0 F, fun H1 s1 => ⟨⟨j + 1, rfl, by omega, by omega, ?_, (same_upd2 sm na).trans s1, fun i h1 h2 => ?_⟩, ?_⟩⟩
        · refine s1 _ _ ?_
          rw [upd_same, NL_app, ← pws_more]
        · by_cases z : i = j
          · subst z; exact c'
          · exact hno i h1 (by omega)
        · have h1 : H1 a = some (.lst (NL (pws q e (j + 1)))) := s1 _ _ (by rw [upd_same, NL_app, ← pws_more])
          show (match H1 a with | some (.lst l) => 256 - l.length | _ => 0) < (match H' a with | some (.lst l) => 256 - l.length | _ => 0)
          rw [h1, ha]
          show 256 - (NL (pws q e (j + 1))).length < 256 - (NL (pws q e j)).length
          rw [NL_len, NL_len, pws_len, pws_len]; omega
      · have c' : pw q e j = 1 := by have := V.int.inj c; omega
        exact ⟨_, rfl, k a H' j sm na ha hj hjN c' hno⟩
    · rintro σ H' Q1 Q2 kk ⟨v, e1, hs, b, e3, qq⟩
      exact ⟨v, e1, hs, b, e3, kk _ _ qq⟩
def sp_root_powers : Sp := fun vs H Q _ => ∃ q m : Nat, vs = [.int ((2 ^ m - 1 : Nat) : Int), .int q] ∧ Fd m q ∧
  ∀ (a : Addr) H' (r : Nat), Same H H' → H a = none → LeastRoot m q r → H' a = some (.lst (NL (pws q r (2 ^ m - 1)))) → Q (.ref a) H'
theorem ok__root_powers {f f__powers_of : Addr} {fd fd__powers_of : FuncData} (D : Df K mg "_root_powers" ["turn", "modulus"] s__root_powers f fd) (B : Bl mg)
    (D__powers_of : Df K mg "_powers_of" ["e", "modulus"] s__powers_of f__powers_of fd__powers_of) (G__powers_of : FnOk P w K mg base CX0 5 f__powers_of fd__powers_of ["e", "modulus"] sp_powers_of) :
    FnOk P w K mg base CX0 6 f fd ["turn", "modulus"] sp_root_powers := by
  refine D.F.ok sc__root_powers (fun vs H Q E h => ?_) (fun cdv A outer s H vs Q E hr h => ?_)
  · obtain ⟨q, m, rfl, _⟩ := h; rfl
  · obtain ⟨q, m, rfl, F, k⟩ := h
    refine ⟨_, (pss_cons (ps_set (i := 2) sc__root_powers.nd rfl (Or.inl rfl) (pe_nat 2))
      (pss_cons (ps_set (i := 3) sc__root_powers.nd rfl (Or.inl rfl) (pe_call G__powers_of (hr.mono (by decide)) rfl D__powers_of.g D__powers_of.F.kp D__powers_of.b .nil pass0 (pa_cons (pv 2) (pa_cons (pv 1) pa_nil))))
      (pss_cons (ps_while PassesOwn.never (pt_cmpR op_lt (pe_callB call_len_seq (by rfl) B.len PySem.boot_len (pa_cons (pv 3) pa_nil)) (pv 0) (nomark _))
        (pss_cons (ps_aug (i := 2) sc__root_powers.nd rfl (Or.inl rfl) (pe_nat 1) nbi_add)
        (pss_one (ps_set (i := 3) sc__root_powers.nd rfl (Or.inl rfl) (pe_call G__powers_of (hr.mono (by decide)) rfl D__powers_of.g D__powers_of.F.kp D__powers_of.b .nil pass0 (pa_cons (pv 2) (pa_cons (pv 1) pa_nil)))))))
      (pss_one (ps_ret (pv 3)))))), ?_⟩
    obtain ⟨hm4, hm256⟩ := pow_m F
    obtain ⟨r, hR, hleast⟩ := least_ex F
    have hr2 := hR.ge
    have hrl := hR.lt
    have done : ∀ (e k0 : Nat), 2 ≤ e → e ≤ r → 1 ≤ k0 → k0 ≤ 2 ^ m - 1 → pw q e k0 = 1 → (∀ i, 1 ≤ i → i < k0 → pw q e i ≠ 1) → ¬ k0 < 2 ^ m - 1 → e = r ∧ k0 = 2 ^ m - 1 := fun e k0 h1 h2 h3 h4 h5 h6 h7 => by
      have e1 : k0 = 2 ^ m - 1 := by omega
      subst e1
      refine ⟨?_, rfl⟩
      apply Classical.byContradiction
      intro n
      exact hleast e (by omega) ⟨by omega, h1, h5, h6⟩
    refine ⟨_, rfl, _, rfl, 2, q, m, rfl, F, by decide, by omega, fun a H1 k0 s1 na h1 hk1 hk2 hk3 hk4 => ?_⟩
    refine while_by (fun σ H' => ∃ (e : Nat) (b : Addr) (k0 : Nat), σ = [some (.int ((2 ^ m - 1 : Nat) : Int)), some (.int q), some (.int (e : Int)), some (.ref b)] ∧ 2 ≤ e ∧ e ≤ r ∧ Same H H' ∧ H b = none ∧ H' b = some (.lst (NL (pws q e k0))) ∧ 1 ≤ k0 ∧ k0 ≤ 2 ^ m - 1 ∧ pw q e k0 = 1 ∧ ∀ i, 1 ≤ i → i < k0 → pw q e i ≠ 1)
      (fun σ _ => match σ with | [_, _, some (.int e), _] => r - e.toNat | _ => 0) ⟨2, a, k0, rfl, Nat.le_refl _, hr2, s1, na, h1, hk1, hk2, hk3, hk4⟩ ?_ ?_
    · rintro σ H' ⟨e, b, k0, rfl, e2, er, sm, nb, hb, hk1, hk2, hk3, hk4⟩
      refine ⟨_, rfl, b, _, rfl, .inl (SqL.of hb), _, rfl, _, _, rfl, rfl, _, rfl, iteD (fun c => ?_) (fun c => ?_)⟩
      · have c' : k0 < 2 ^ m - 1 := by
          have : ((NL (pws q e k0)).length : Int) < ((2 ^ m - 1 : Nat) : Int) := c
          rw [NL_len, pws_len] at this; omega
        have ne : e ≠ r := fun z => by subst z; exact hR.no k0 hk1 c' hk3
        refine ⟨_, rfl, _, _, rfl, rfl, _, rfl, _, rfl, e + 1, q, m, rfl, F, by omega, by omega, fun a2 H2 k2 s2 na2 g1 g2 g3 g4 g5 => ⟨⟨e + 1, a2, k2, rfl, by omega, by omega, sm.trans s2, sm.free na2, g1, g2, g3, g4, g5⟩, ?_⟩⟩
        show r - (e + 1) < r - e
        omega
      · have c' : ¬ k0 < 2 ^ m - 1 := fun z => c (by
          show ((NL (pws q e k0)).length : Int) < ((2 ^ m - 1 : Nat) : Int)
          rw [NL_len, pws_len]; omega)
        obtain ⟨e1, e3⟩ := done e k0 e2 er hk1 hk2 hk3 hk4 c'
        subst e1 e3
        exact ⟨_, rfl, k b H' e sm nb ⟨hR, hleast⟩ hb⟩
    · rintro σ H' Q1 Q2 kk ⟨v, e1, p, ys, e2, hp, u, e3, i, j, e4, e5, b, e6, qq⟩
      exact ⟨v, e1, p, ys, e2, hp, u, e3, i, j, e4, e5, b, e6, kk _ _ qq⟩
end
end K01
namespace K01
open PySem PySem.Spec L2 NB ER MKX
abbrev s_Field___init__ : Stmt := inClass (top 17) 0
theorem sc_Field___init__ : FnScope ["self", "m", "modulus", "k", "e"] ["self", "m", "modulus"] (defScope s_Field___init__) := ⟨rfl, rfl, rfl, by decide +kernel, rfl, by decide +kernel, by decide +kernel⟩
abbrev s_Field_bits : Stmt := inClass (top 17) 1
theorem sc_Field_bits : FnScope ["self"] ["self"] (defScope s_Field_bits) := ⟨rfl, rfl, rfl, by decide +kernel, rfl, by decide +kernel, by decide +kernel⟩
abbrev s_Field_modulus : Stmt := inClass (top 17) 2
theorem sc_Field_modulus : FnScope ["self"] ["self"] (defScope s_Field_modulus) := ⟨rfl, rfl, rfl, by decide +kernel, rfl, by decide +kernel, by decide +kernel⟩
abbrev s_Field_size : Stmt := inClass (top 17) 3
theorem sc_Field_size : FnScope ["self"] ["self"] (defScope s_Field_size) := ⟨rfl, rfl, rfl, by decide +kernel, rfl, by decide +kernel, by decide +kernel⟩
abbrev s_Field_add : Stmt := inClass (top 17) 4
theorem sc_Field_add : FnScope ["self", "e", "f"] ["self", "e", "f"] (defScope s_Field_add) := ⟨rfl, rfl, rfl, by decide +kernel, rfl, by decide +kernel, by decide +kernel⟩
abbrev s_Field_times : Stmt := inClass (top 17) 5
theorem sc_Field_times : FnScope ["self", "e", "f"] ["self", "e", "f"] (defScope s_Field_times) := ⟨rfl, rfl, rfl, by decide +kernel, rfl, by decide +kernel, by decide +kernel⟩
abbrev s_Field_inverse : Stmt := inClass (top 17) 6
theorem sc_Field_inverse : FnScope ["self", "e"] ["self", "e"] (defScope s_Field_inverse) := ⟨rfl, rfl, rfl, by decide +kernel, rfl, by decide +kernel, by decide +kernel⟩
abbrev s_Field_power : Stmt := inClass (top 17) 7
theorem sc_Field_power : FnScope ["self", "e", "k"] ["self", "e", "k"] (defScope s_Field_power) := ⟨rfl, rfl, rfl, by decide +kernel, rfl, by decide +kernel, by decide +kernel⟩
abbrev s_Field_order : Stmt := inClass (top 17) 8
theorem sc_Field_order : FnScope ["self", "e"] ["self", "e"] (defScope s_Field_order) := ⟨rfl, rfl, rfl, by decide +kernel, rfl, by decide +kernel, by decide +kernel⟩
abbrev s_Field_log : Stmt := inClass (top 17) 9
theorem sc_Field_log : FnScope ["self", "e"] ["self", "e"] (defScope s_Field_log) := ⟨rfl, rfl, rfl, by decide +kernel, rfl, by decide +kernel, by decide +kernel⟩
abbrev s_Field_root : Stmt := inClass (top 17) 10
theorem sc_Field_root : FnScope ["self"] ["self"] (defScope s_Field_root) := ⟨rfl, rfl, rfl, by decide +kernel, rfl, by decide +kernel, by decide +kernel⟩
section
variable {P : Program} {w : World} {K : PySem.W.Frag} {mg : Str → Option Value} {base : Heap}
open FLD
/-- the attributes of a field, before the products stand -/
def ffl0 (m q : Nat) (a b : Addr) : List (Str × V) :=
  putF "_logs" (.ref b) (putF "_powers" (.ref a) (putF "_turn" (.int ((2 ^ m - 1 : Nat) : Int)) (putF "_modulus" (.int (q : Int)) (putF "_bits" (.int (m : Int)) []))))
/-- the attributes of a field -/
def ffl (m q : Nat) (a b c : Addr) : List (Str × V) := putF "_products" (.ref c) (ffl0 m q a b)
theorem str1 : ¬ (("_bits" : Str) = "_logs") ∧ ¬ (("_bits" : Str) = "_powers") ∧ ¬ (("_bits" : Str) = "_turn") ∧ ¬ (("_bits" : Str) = "_modulus") ∧ ¬ (("_bits" : Str) = "_products") := by decide +kernel
theorem str2 : ¬ (("_modulus" : Str) = "_logs") ∧ ¬ (("_modulus" : Str) = "_powers") ∧ ¬ (("_modulus" : Str) = "_turn") ∧ ¬ (("_turn" : Str) = "_logs") ∧ ¬ (("_turn" : Str) = "_powers") ∧ ¬ (("_powers" : Str) = "_logs") := by decide +kernel
theorem str3 : ¬ (("_modulus" : Str) = "_products") ∧ ¬ (("_turn" : Str) = "_products") ∧ ¬ (("_powers" : Str) = "_products") ∧ ¬ (("_logs" : Str) = "_products") := by decide +kernel
theorem ffl0_turn (m q : Nat) (a b : Addr) : (ffl0 m q a b).lookup ("_turn" : Str) = some (.int ((2 ^ m - 1 : Nat) : Int)) := by
  obtain ⟨b1, b2, b3, b4, b5, b6⟩ := str2
  unfold ffl0; simp only [lookup_putF, b4, b5, if_false, if_true]
theorem ffl0_powers (m q : Nat) (a b : Addr) : (ffl0 m q a b).lookup ("_powers" : Str) = some (.ref a) := by
  obtain ⟨b1, b2, b3, b4, b5, b6⟩ := str2
  unfold ffl0; simp only [lookup_putF, b6, if_false, if_true]
theorem ffl0_logs (m q : Nat) (a b : Addr) : (ffl0 m q a b).lookup ("_logs" : Str) = some (.ref b) := by unfold ffl0; simp only [lookup_putF, if_true]
def fl4 (m q : Nat) (a : Addr) : List (Str × V) := putF "_powers" (.ref a) (putF "_turn" (.int ((2 ^ m - 1 : Nat) : Int)) (putF "_modulus" (.int (q : Int)) (putF "_bits" (.int (m : Int)) [])))
theorem fl4_turn (m q : Nat) (a : Addr) : (fl4 m q a).lookup ("_turn" : Str) = some (.int ((2 ^ m - 1 : Nat) : Int)) := by
  obtain ⟨b1, b2, b3, b4, b5, b6⟩ := str2
  unfold fl4; simp only [lookup_putF, b5, if_false, if_true]
theorem ffl0_len (m q : Nat) (a b : Addr) : (ffl0 m q a b).length = 5 := by
  obtain ⟨a1, a2, a3, a4, a5⟩ := str1
  obtain ⟨b1, b2, b3, b4, b5, b6⟩ := str2
  unfold ffl0
  simp only [putF, a1, a2, a3, a4, b1, b2, b3, b4, b5, b6, if_false]
  rfl
theorem ffl_bits (m q : Nat) (a b c : Addr) : (ffl m q a b c).lookup ("_bits" : Str) = some (.int (m : Int)) := by
  obtain ⟨a1, a2, a3, a4, a5⟩ := str1
  unfold ffl ffl0; simp only [lookup_putF, a1, a2, a3, a4, a5, if_false, if_true]
theorem ffl_modulus (m q : Nat) (a b c : Addr) : (ffl m q a b c).lookup ("_modulus" : Str) = some (.int (q : Int)) := by
  obtain ⟨b1, b2, b3, b4, b5, b6⟩ := str2
  obtain ⟨c1, c2, c3, c4⟩ := str3
  unfold ffl ffl0; simp only [lookup_putF, b1, b2, b3, c1, if_false, if_true]
theorem ffl_turn (m q : Nat) (a b c : Addr) : (ffl m q a b c).lookup ("_turn" : Str) = some (.int ((2 ^ m - 1 : Nat) : Int)) := by
  obtain ⟨b1, b2, b3, b4, b5, b6⟩ := str2
  obtain ⟨c1, c2, c3, c4⟩ := str3
  unfold ffl ffl0; simp only [lookup_putF, b4, b5, c2, if_false, if_true]
theorem ffl_powers (m q : Nat) (a b c : Addr) : (ffl m q a b c).lookup ("_powers" : Str) = some (.ref a) := by
  obtain ⟨b1, b2, b3, b4, b5, b6⟩ := str2
  obtain ⟨c1, c2, c3, c4⟩ := str3
  unfold ffl ffl0; simp only [lookup_putF, b6, c3, if_false, if_true]
theorem ffl_logs (m q : Nat) (a b c : Addr) : (ffl m q a b c).lookup ("_logs" : Str) = some (.ref b) := by
  obtain ⟨c1, c2, c3, c4⟩ := str3
  unfold ffl ffl0; simp only [lookup_putF, c4, if_false, if_true]
theorem ffl_products (m q : Nat) (a b c : Addr) : (ffl m q a b c).lookup ("_products" : Str) = some (.ref c) := by unfold ffl; simp only [lookup_putF, if_true]
theorem ffl_no (m q : Nat) (a b c : Addr) {x : Str} (h1 : ¬ x = "_logs") (h2 : ¬ x = "_powers") (h3 : ¬ x = "_turn") (h4 : ¬ x = "_modulus") (h5 : ¬ x = "_bits") (h6 : ¬ x = "_products" := by decide +kernel) : (ffl m q a b c).lookup x = none := by
  unfold ffl ffl0; simp only [lookup_putF, h1, h2, h3, h4, h5, h6, if_false]; rfl
/-- the products, by the sums of the logarithms -/
def prods (m q r : Nat) : List Nat := pws q r (2 ^ m - 1) ++ pws q r (2 ^ m - 1) ++ List.replicate (2 * (2 ^ m - 1) + 1) 0
theorem prods_get {m q r i j : Nat} (hi : i < 2 ^ m - 1) (hj : j < 2 ^ m - 1) : (prods m q r)[i + j]? = some (if i + j < 2 ^ m - 1 then pw q r (i + j) else pw q r (i + j - (2 ^ m - 1))) := by
  unfold prods
  rw [List.getElem?_append_left (by rw [List.length_append, pws_len]; omega)]
  by_cases z : i + j < 2 ^ m - 1
  · rw [if_pos z, List.getElem?_append_left (by rw [pws_len]; exact z), pws_get z]
  · rw [if_neg z, List.getElem?_append_right (by rw [pws_len]; omega), pws_len, pws_get (by omega)]
theorem prods_zero {m q r k : Nat} (h : 2 * (2 ^ m - 1) ≤ k) (h2 : k < 4 * (2 ^ m - 1) + 1) : (prods m q r)[k]? = some 0 := by
  unfold prods
  rw [List.getElem?_append_right (by rw [List.length_append, pws_len]; omega), List.getElem?_replicate, if_pos (by rw [List.length_append, pws_len]; omega)]
/-- a field stands at p -/
structure FieldAt (C : Addr) (H : Hp) (p : Addr) (m q r : Nat) : Prop where
  fd : Fd m q
  lr : LeastRoot m q r
  ex : ∃ (dx a b c : Addr) (logs : List Nat), H p = some (.ins C dx (ffl m q a b c)) ∧ H a = some (.lst (NL (pws q r (2 ^ m - 1)))) ∧ H b = some (.lst (NL logs)) ∧ (∀ k, k < 2 ^ m - 1 → logs[pw q r k]? = some k) ∧ H c = some (.lst (NL (prods m q r))) ∧ logs[0]? = some (2 * (2 ^ m - 1))
theorem FieldAt.mono {C : Addr} {H H' : Hp} {p : Addr} {m q r : Nat} (h : FieldAt C H p m q r) (s : Same H H') : FieldAt C H' p m q r := by
  obtain ⟨dx, a, b, c, logs, h1, h2, h3, h4, h5, h6⟩ := h.ex
  exact ⟨h.fd, h.lr, dx, a, b, c, logs, s _ _ h1, s _ _ h2, s _ _ h3, h4, s _ _ h5, h6⟩
/-- what the top says of the class -/
structure FC (K : PySem.W.Frag) (C : Addr) : Prop where
  cl : Cls K C
  n1 : NoAttr K C "_bits"
  n2 : NoAttr K C "_modulus"
  n3 : NoAttr K C "_turn"
  n4 : NoAttr K C "_powers"
  n5 : NoAttr K C "_logs"
  n6 : NoAttr K C "_products"
def sp_finit (C C1 C2 : Addr) : Sp := fun vs H Q E => ∃ (p dx : Addr) (m q : Int), vs = [.ref p, .int m, .int q] ∧ H p = some (.ins C dx []) ∧ m.natAbs.log2 < 1920 ∧ q.natAbs.log2 < 1920 ∧ q.natAbs < 2 ^ 64 ∧
  (¬ (2 ≤ m ∧ m ≤ 8) → ∀ d, H d = none → E (.ref C1) (some d) (upd H d (.xd [("at", .int m)]))) ∧
  (2 ≤ m → m ≤ 8 → ¬ (0 ≤ q ∧ Fd m.toNat q.toNat) → ∀ d H', Same H H' → H' d = none → E (.ref C2) (some d) (upd H' d (.xd [("at", .int q)]))) ∧
  (∀ mn qn r : Nat, m = (mn : Int) → q = (qn : Int) → Fd mn qn → ∀ H', (∀ b o, H b = some o → b ≠ p → H' b = some o) → FieldAt C H' p mn qn r → Q .non H')
theorem ok_Field___init__ {f f_degree f_is_irreducible f__root_powers f_init C C_OutOfRange C_NotIrreducible CH : Addr} {fd fd_degree fd_is_irreducible fd__root_powers fd_init : FuncData} (F : Fun K "__init__" "Field.__init__" s_Field___init__ f fd) (B : Bl mg) (T : FC K C)
    (D_degree : Df K mg "degree" ["p"] s_degree f_degree fd_degree) (G_degree : FnOk P w K mg base CX0 1 f_degree fd_degree ["p"] sp_degree)
    (D_is_irreducible : Df K mg "is_irreducible" ["p"] s_is_irreducible f_is_irreducible fd_is_irreducible) (G_is_irreducible : FnOk P w K mg base CX0 5 f_is_irreducible fd_is_irreducible ["p"] sp_irr)
    (D__root_powers : Df K mg "_root_powers" ["turn", "modulus"] s__root_powers f__root_powers fd__root_powers) (G__root_powers : FnOk P w K mg base CX0 6 f__root_powers fd__root_powers ["turn", "modulus"] sp_root_powers)
    (X_OutOfRange : XC K mg "OutOfRange" C_OutOfRange f_init CH) (X_NotIrreducible : XC K mg "NotIrreducible" C_NotIrreducible f_init CH) (G_init : FnOk P w K mg base CX0 1 f_init fd_init ["self", "at"] (sp_init K)) (b_init : Binds K fd_init ["self", "at"] []) :
    FnOk P w K mg base (L2.CX P w) 8 f fd ["self", "m", "modulus"] (sp_finit C C_OutOfRange C_NotIrreducible) := by
  refine F.okX sc_Field___init__ (fun vs H Q E h => ?_) (fun cdv A outer s H vs Q E hr h => ?_)
  · obtain ⟨p, dx, m, q, rfl, _⟩ := h; rfl
  · obtain ⟨p, dx, m, q, rfl, hp, hm, hq, hq64, kM, kN, kQ⟩ := h
    refine ⟨_, (pss_cons (ps_if (PW.pt (pw_or (pt_cmpR op_lt (pv 1) (pe_nat 2) (nomark _)) (pw_or1 (pt_cmpR op_gt (pv 1) (pe_nat 8) (nomark _))))) (pss_one (ps_err rfl X_OutOfRange G_init (hr.mono (by decide)) b_init pass0 (takes_of rfl rfl rfl rfl) (pa_cons (pv 1) pa_nil))) pss_nil)
      (pss_cons (ps_if (PW.pt (pw_or (pt_cmpR op_lt (pv 2) (pe_nat 0) (nomark _)) (pw_or (pt_cmpR op_ne (pe_call G_degree (hr.mono (by decide)) rfl D_degree.g D_degree.F.kp D_degree.b .nil pass0 (pa_cons (pv 2) pa_nil)) (pv 1) (nomark _)) (pw_or1 (pt_not (pt_val (pe_call G_is_irreducible (hr.mono (by decide)) rfl D_is_irreducible.g D_is_irreducible.F.kp D_is_irreducible.b .nil pass0 (pa_cons (pv 2) pa_nil)))))))) (pss_one (ps_err rfl X_NotIrreducible G_init (hr.mono (by decide)) b_init pass0 (takes_of rfl rfl rfl rfl) (pa_cons (pv 2) pa_nil))) pss_nil)
      (pss_cons (ps_fld (pv 0) (pv 1) rfl)
      (pss_cons (ps_fld (pv 0) (pv 2) rfl)
      (pss_cons (ps_fld (pv 0) (pe_op nb_sub (pe_op nb_shl (pe_nat 1) (pv 1)) (pe_nat 1)) rfl)
      (pss_cons (ps_fld (pv 0) (pe_call G__root_powers (hr.mono (by decide)) rfl D__root_powers.g D__root_powers.F.kp D__root_powers.b .nil pass0 (pa_cons (pe_fld (pv 0) rfl) (pa_cons (pv 2) pa_nil))) rfl)
      (pss_cons (ps_fld (pv 0) (pe_op op_rep (pe_lst (pa_cons (pe_op nb_mul (pe_nat 2) (pe_fld (pv 0) rfl)) pa_nil)) (pe_op nb_shl (pe_nat 1) (pv 1))) rfl)
      (pss_cons (ps_for (passes_of rfl) rfl (pi_enum rfl B.enumerate (pa_cons (pe_fld (pv 0) rfl) pa_nil)) (pg_tup rfl (pgs_cons (pg_name (i := 3) sc_Field___init__.nd rfl (Or.inl rfl) (Or.inr rfl)) (pgs_cons (pg_name (i := 4) sc_Field___init__.nd rfl (Or.inl rfl) (Or.inr rfl)) pgs_nil)))
        (pss_one (ps_asg (pv 3) (pg_sub (pe_fld (pv 0) rfl) (pv 4) set_list))))
      (pss_one (ps_fld (pv 0) (pe_op op_cat (pe_op op_cat (pe_fld (pv 0) rfl) (pe_fld (pv 0) rfl)) (pe_op op_rep (pe_lst (pa_cons (pe_nat 0) pa_nil)) (pe_op nb_add (pe_op nb_mul (pe_nat 2) (pe_fld (pv 0) rfl)) (pe_nat 1)))) rfl)))))))))), ?_⟩
    refine ⟨_, rfl, _, _, rfl, rfl, _, rfl, iteD (fun c => ?_) (fun c => ?_)⟩
    · have c' : m < 2 := c
      refine iteT ?_
      exact ⟨_, rfl, m, rfl, hm, fun d hd => kM (by omega) d hd⟩
    have c1 : ¬ m < 2 := c
    refine ⟨_, rfl, _, _, rfl, rfl, _, rfl, iteD (fun c => ?_) (fun c => ?_)⟩
    · have c' : 8 < m := c
      exact ⟨_, rfl, m, rfl, hm, fun d hd => kM (by omega) d hd⟩
    have c2 : ¬ 8 < m := c
    obtain ⟨mn, rfl⟩ := Int.eq_ofNat_of_zero_le (show 0 ≤ m by omega)
    have bad : ¬ (0 ≤ q ∧ Fd mn q.toNat) → ∀ H', Same H H' → tRaise C_NotIrreducible (fun cls d _ H => E cls d H) (tCons (tVar 2) tNil) { nx := fun _ _ => True, rt := fun _ _ => True } [some (.ref p), some (.int (mn : Int)), some (.int q), none, none] H' := fun hb H' sm => ⟨_, rfl, q, rfl, hq, fun d hd => kN (by omega) (by omega) hb d H' sm hd⟩
    refine ⟨_, rfl, _, _, rfl, rfl, _, rfl, iteD (fun c => ?_) (fun c => ?_)⟩
    · have c' : q < 0 := c
      refine iteT ?_
      exact bad (fun z => by omega) H (Same.refl H)
    have c3 : ¬ q < 0 := c
    obtain ⟨qn, rfl⟩ := Int.eq_ofNat_of_zero_le (show 0 ≤ q by omega)
    refine ⟨_, rfl, qn, rfl, _, rfl, rfl, _, rfl, iteN (fun c => ?_) (fun c => ?_)⟩
    · refine bad (fun z => c ?_) H (Same.refl H)
      have hl := z.2.lg
      have h0 := q0 z.2
      have := bits_pos (q := qn) h0
      have hl2 : qn.log2 = mn := hl
      show V.int ((NB.bits qn : Int) - 1) = V.int (mn : Int)
      exact congrArg V.int (by omega)
    have c4 : (NB.bits qn : Int) - 1 = (mn : Int) := V.int.inj c
    have hq0 : qn ≠ 0 := fun z => by subst z; unfold NB.bits at c4; simp at c4
    have hb := bits_pos hq0
    have hlg : qn.log2 = mn := by omega
    have hq131 : qn < 131072 := Nat.lt_of_lt_of_le (bits_lt qn) (Nat.le_trans (Nat.pow_le_pow_right (n := 2) (by decide) (show NB.bits qn ≤ 17 by omega)) (by decide))
    refine ⟨_, rfl, qn, rfl, hq131, fun b H1 hb1 s1 => ⟨b, rfl, ?_⟩⟩
    cases b with
    | false =>
      refine iteT ?_
      exact bad (fun z => nomatch hb1.mpr z.2.irr) H1 s1
    | true =>
      refine iteF ?_
      have FD : Fd mn qn := ⟨by omega, by omega, hb1.mp rfl, hlg⟩
      obtain ⟨hm4, hm256⟩ := pow_m FD
      have hp1 := s1 _ _ hp
      refine ⟨_, rfl, _, rfl, p, C, dx, _, rfl, hp1, T.cl, T.n1, (by show 0 < 1000; decide), ?_⟩
      refine ⟨_, rfl, _, rfl, p, C, dx, _, rfl, upd_same, T.cl, T.n2, (by show 1 < 1000; decide), ?_⟩
      refine ⟨_, rfl, _, _, rfl, rfl, ⟨by decide, by omega⟩, _, _, rfl, rfl, (by show 1 ≤ 2 ^ mn * 1; omega), _, rfl, p, C, dx, _, rfl, upd_same, T.cl, T.n3, (by show 2 < 1000; decide), ?_⟩
      rw [Nat.mul_one]
      refine ⟨_, rfl, p, C, dx, _, _, rfl, upd_same, T.cl, T.n3, rfl, _, rfl, qn, mn, rfl, FD, fun a H2 r s2 na hL ha => ?_⟩
      have hpa : p ≠ a := ne_of_none upd_same na
      have hp2 := s2 _ _ upd_same
      refine ⟨_, rfl, p, C, dx, _, rfl, hp2, T.cl, T.n4, (by show 3 < 1000; decide), ?_⟩
      -- logs
      have e2t : (2 : Int) * ((2 ^ mn - 1 : Nat) : Int) = ((2 * (2 ^ mn - 1) : Nat) : Int) := by rw [Int.natCast_mul]; rfl
      refine ⟨_, rfl, p, C, dx, _, _, rfl, upd_same, T.cl, T.n3, fl4_turn mn qn a, 2, 2 ^ mn - 1, rfl, rfl, .inl (by decide), (by show 1 ≤ sizeLine; decide), fun z nz => ?_⟩
      have hpz : p ≠ z := ne_of_none upd_same nz
      have haz : a ≠ z := ne_of_none (by rw [upd_ne (Ne.symm hpa)]; exact ha) nz
      refine ⟨_, rfl, _, _, rfl, rfl, ⟨by decide, by omega⟩, z, ((2 ^ mn * 1 : Nat) : Int), _, rfl, rfl, upd_same, by omega, by omega, ?_, fun b nb => ?_⟩
      · have : sizeLine = 16777216 := sizeLine_eq
        show 1 * ((2 ^ mn * 1 : Nat) : Int).toNat ≤ sizeLine
        rw [Int.toNat_natCast]; omega
      have hpb : p ≠ b := ne_of_none (by rw [upd_ne hpz]; exact upd_same) nb
      have hab : a ≠ b := ne_of_none (by rw [upd_ne haz, upd_ne (Ne.symm hpa)]; exact ha) nb
      have erep : (List.replicate ((2 ^ mn * 1 : Nat) : Int).toNat [V.int ((2 * (2 ^ mn - 1) : Nat) : Int)]).flatten = NL (List.replicate (2 ^ mn) (2 * (2 ^ mn - 1))) := by
        rw [Int.toNat_natCast, Nat.mul_one]
        generalize 2 * (2 ^ mn - 1) = w
        generalize 2 ^ mn = n
        induction n with
        | zero => rfl
        | succ n ih => rw [List.replicate_succ, List.flatten_cons, ih, List.replicate_succ, NL_cons]; rfl
      rw [erep]
      refine ⟨_, rfl, p, C, dx, fl4 mn qn a, rfl, ?_, T.cl, T.n5, (by show 4 < 1000; decide), ?_⟩
      · rw [upd_ne hpb, upd_ne hpz]; exact upd_same
      -- the loop
      refine ⟨_, rfl, p, C, dx, _, _, rfl, upd_same, T.cl, T.n4, ffl0_powers mn qn a b, a, NL (pws qn r (2 ^ mn - 1)), rfl, SqL.of ?_, ?_⟩
      · rw [upd_ne (Ne.symm hpa), upd_ne hab, upd_ne haz, upd_ne (Ne.symm hpa)]; exact ha
      have keep : ∀ x o, H x = some o → x ≠ p → (upd (upd (upd (upd H2 p (.ins C dx (putF "_powers" (.ref a) (putF "_turn" (.int ((2 ^ mn - 1 : Nat) : Int)) (putF "_modulus" (.int (qn : Int)) (putF "_bits" (.int (mn : Int)) [])))))) z (.lst [V.int ((2 * (2 ^ mn - 1) : Nat) : Int)])) b (.lst (NL (List.replicate (2 ^ mn) (2 * (2 ^ mn - 1)))))) p (.ins C dx (ffl0 mn qn a b))) x = some o := fun x o hx hxp => by
        have h1 := s1 _ _ hx
        have h2 : H2 x = some o := s2 _ _ (by rw [upd_ne hxp, upd_ne hxp, upd_ne hxp]; exact h1)
        have h3 : (upd H2 p (.ins C dx (putF "_powers" (.ref a) (putF "_turn" (.int ((2 ^ mn - 1 : Nat) : Int)) (putF "_modulus" (.int (qn : Int)) (putF "_bits" (.int (mn : Int)) [])))))) x = some o := by rw [upd_ne hxp]; exact h2
        have hxz : x ≠ z := ne_of_none h3 nz
        have h4 : (upd (upd H2 p (.ins C dx (putF "_powers" (.ref a) (putF "_turn" (.int ((2 ^ mn - 1 : Nat) : Int)) (putF "_modulus" (.int (qn : Int)) (putF "_bits" (.int (mn : Int)) [])))))) z (.lst [V.int ((2 * (2 ^ mn - 1) : Nat) : Int)])) x = some o := by rw [upd_ne hxz]; exact h3
        have hxb : x ≠ b := ne_of_none h4 nb
        rw [upd_ne hxp, upd_ne hxb]; exact h4
      have nbH : ∀ x o, H x = some o → x ≠ p → x ≠ b := fun x o hx hxp hxb => by
        have h1 := s1 _ _ hx
        have h2 : H2 x = some o := s2 _ _ (by rw [upd_ne hxp, upd_ne hxp, upd_ne hxp]; exact h1)
        subst hxb
        rw [upd_ne (ne_of_none (by rw [upd_ne hxp]; exact h2) nz), upd_ne hxp, h2] at nb
        cases nb
      refine for_enumL (K := K) (a := a) (xs := NL (pws qn r (2 ^ mn - 1))) (fun i σ H' => ∃ (logs : List Nat) (v3 v4 : Option V), σ = [some (.ref p), some (.int (mn : Int)), some (.int (qn : Int)), v3, v4] ∧ H' p = some (.ins C dx (ffl0 mn qn a b)) ∧ H' a = some (.lst (NL (pws qn r (2 ^ mn - 1)))) ∧ H' b = some (.lst (NL logs)) ∧ logs.length = 2 ^ mn ∧
        (∀ k, k < i → logs[pw qn r k]? = some k) ∧ logs[0]? = some (2 * (2 ^ mn - 1)) ∧ ∀ x o, H x = some o → x ≠ p → H' x = some o) ⟨List.replicate (2 ^ mn) (2 * (2 ^ mn - 1)), none, none, rfl, upd_same, ?_, ?_, List.length_replicate, fun k hk => by omega, by rw [List.getElem?_replicate, if_pos (by omega)], keep⟩ (fun i σ H' _ h => by obtain ⟨logs, v3, v4, _, _, h2, _⟩ := h; exact SqL.of h2) ?_ ?_
      · rw [upd_ne (Ne.symm hpa), upd_ne hab, upd_ne haz, upd_ne (Ne.symm hpa)]; exact ha
      · rw [upd_ne (Ne.symm hpb), upd_same]
      · rintro i x t σ H' hx ⟨logs, v3, v4, rfl, g1, g2, g3, hll, hlk, hl0, kp⟩ nt
        obtain ⟨e, he, rfl⟩ := NL_get_inv hx
        have hiN : i < 2 ^ mn - 1 := by have := (List.getElem?_eq_some_iff.mp he).1; rw [pws_len] at this; exact this
        rw [pws_get hiN] at he
        cases he
        have hpl := pw_lt FD r i
        have hpt : p ≠ t := ne_of_none g1 nt
        have hat : a ≠ t := ne_of_none g2 nt
        have hbt : b ≠ t := ne_of_none g3 nt
        refine ⟨t, [_, _], rfl, SqT.of upd_same, rfl, _, _, rfl, _, _, rfl, rfl, ?_⟩
        refine ⟨_, rfl, _, rfl, p, C, dx, _, _, rfl, (by rw [upd_ne hpt]; exact g1), T.cl, T.n5, ffl0_logs _ _ _ _, _, rfl, b, _, _, pw qn r i, rfl, rfl, (by rw [upd_ne hbt]; exact g3), ixN_nat (by rw [NL_len]; omega), ?_⟩
        refine ⟨logs.set (pw qn r i) i, _, _, rfl, ?_, ?_, ?_, ?_, ?_, ?_, ?_⟩
        · rw [upd_ne hpb, upd_ne hpt]; exact g1
        · rw [upd_ne hab, upd_ne hat]; exact g2
        · rw [upd_same, NL_set]
        · rw [List.length_set]; exact hll
        · intro k hk
          by_cases z : k = i
          · subst z; exact List.getElem?_set_self (by omega)
          · rw [List.getElem?_set_ne (fun w => z (pw_inj FD hL.1 (by omega) hiN w.symm))]
            exact hlk k (by omega)
        · rw [List.getElem?_set_ne (pw_ne FD hL.1.lt (r0 FD hL.1) _)]; exact hl0
        · intro y o hy hyp
          have hy1 := kp y o hy hyp
          rw [upd_ne (nbH y o hy hyp), upd_ne (ne_of_none hy1 nt)]
          exact hy1
      · rintro σ H' ⟨logs, v3, v4, rfl, g1, g2, g3, hll, hlk, hl0, kp⟩
        rw [NL_len, pws_len] at hlk
        have sl := sizeLine_eq
        have lp := pws_len qn r (2 ^ mn - 1)
        have nlp : (NL (pws qn r (2 ^ mn - 1))).length = 2 ^ mn - 1 := by rw [NL_len, lp]
        refine ⟨_, rfl, p, C, dx, _, _, rfl, g1, T.cl, T.n4, ffl0_powers _ _ _ _, _, rfl, p, C, dx, _, _, rfl, g1, T.cl, T.n4, ffl0_powers _ _ _ _, a, a, _, _, rfl, rfl, g2, g2, by rw [nlp]; omega, fun x1 n1 => ?_⟩
        have p1 : p ≠ x1 := ne_of_none g1 n1
        have k1 : upd H' x1 (.lst (NL (pws qn r (2 ^ mn - 1)) ++ NL (pws qn r (2 ^ mn - 1)))) p = some (.ins C dx (ffl0 mn qn a b)) := by rw [upd_ne p1]; exact g1
        refine ⟨(by show 1 ≤ sizeLine; decide), fun x2 n2 => ?_⟩
        have p2 : p ≠ x2 := ne_of_none k1 n2
        have x12 : x1 ≠ x2 := ne_of_none upd_same n2
        refine ⟨_, rfl, p, C, dx, _, _, rfl, (by rw [upd_ne p2]; exact k1), T.cl, T.n3, ffl0_turn _ _ _ _, 2, 2 ^ mn - 1, rfl, rfl, .inl (by decide), 2 * (2 ^ mn - 1), 1, rfl, rfl, x2, ((2 * (2 ^ mn - 1) + 1 : Nat) : Int), _, rfl, rfl, upd_same, by omega, by omega, ?_, fun x3 n3 => ?_⟩
        · show 1 * ((2 * (2 ^ mn - 1) + 1 : Nat) : Int).toNat ≤ sizeLine
          rw [Int.toNat_natCast]; omega
        have erep0 : ∀ n : Nat, (List.replicate ((n : Nat) : Int).toNat [V.int ((0 : Nat) : Int)]).flatten = NL (List.replicate n 0) := fun n => by
          rw [Int.toNat_natCast]
          induction n with
          | zero => rfl
          | succ n ih => rw [List.replicate_succ, List.flatten_cons, ih, List.replicate_succ, NL_cons]; rfl
        have er := erep0 (2 * (2 ^ mn - 1) + 1)
        have p3 : p ≠ x3 := ne_of_none (by rw [upd_ne p2]; exact k1) n3
        have x13 : x1 ≠ x3 := ne_of_none (by rw [upd_ne x12]; exact upd_same) n3
        have nlz : (NL (List.replicate (2 * (2 ^ mn - 1) + 1) 0)).length = 2 * (2 ^ mn - 1) + 1 := by rw [NL_len, List.length_replicate]
        refine ⟨x1, x3, NL (pws qn r (2 ^ mn - 1)) ++ NL (pws qn r (2 ^ mn - 1)), NL (List.replicate (2 * (2 ^ mn - 1) + 1) 0), rfl, rfl, ?_, ?_, ?_, fun c nc => ?_⟩
        · rw [upd_ne x13, upd_ne x12]; exact upd_same
        · rw [upd_same, ← er]
        · rw [List.length_append, nlp, nlz]; omega
        have pc : p ≠ c := ne_of_none (by rw [upd_ne p3, upd_ne p2]; exact k1) nc
        refine ⟨_, rfl, p, C, dx, _, rfl, (by rw [upd_ne pc, upd_ne p3, upd_ne p2]; exact k1), T.cl, T.n6, (by rw [ffl0_len]; decide), ?_⟩
        have old : ∀ x o, H' x = some o → x ≠ p → (upd (upd (upd (upd (upd H' x1 (.lst (NL (pws qn r (2 ^ mn - 1)) ++ NL (pws qn r (2 ^ mn - 1))))) x2 (.lst [V.int ((0 : Nat) : Int)])) x3 (.lst ((List.replicate ((2 * (2 ^ mn - 1) + 1 : Nat) : Int).toNat [V.int ((0 : Nat) : Int)]).flatten))) c (.lst ((NL (pws qn r (2 ^ mn - 1)) ++ NL (pws qn r (2 ^ mn - 1))) ++ NL (List.replicate (2 * (2 ^ mn - 1) + 1) 0)))) p (.ins C dx (putF "_products" (.ref c) (ffl0 mn qn a b)))) x = some o := fun x o hx hxp => by
          have q1 : x ≠ x1 := ne_of_none hx n1
          have h1 : upd H' x1 (.lst (NL (pws qn r (2 ^ mn - 1)) ++ NL (pws qn r (2 ^ mn - 1)))) x = some o := by rw [upd_ne q1]; exact hx
          have q2 : x ≠ x2 := ne_of_none h1 n2
          have h2 : upd (upd H' x1 (.lst (NL (pws qn r (2 ^ mn - 1)) ++ NL (pws qn r (2 ^ mn - 1))))) x2 (.lst [V.int ((0 : Nat) : Int)]) x = some o := by rw [upd_ne q2]; exact h1
          have q3 : x ≠ x3 := ne_of_none h2 n3
          have q4 : x ≠ c := ne_of_none (by rw [upd_ne q3]; exact h2) nc
          rw [upd_ne hxp, upd_ne q4, upd_ne q3]; exact h2
        have ap : a ≠ p := Ne.symm hpa
        have bp : b ≠ p := Ne.symm hpb
        refine kQ mn qn r rfl rfl FD _ (fun x o hx hxp => old x o (kp x o hx hxp) hxp) ⟨FD, hL, dx, a, b, c, logs, upd_same, old a _ g2 ap, old b _ g3 bp, hlk, ?_, hl0⟩
        rw [upd_ne (Ne.symm pc), upd_same]
        unfold prods
        rw [NL_app2, NL_app2]
end
end K01
namespace K01
open PySem PySem.Spec L2 NB ER MKX
section
variable {P : Program} {w : World} {K : PySem.W.Frag} {mg : Str → Option Value} {base : Heap}
open FLD
/-- what a method of a field asks and says: the field at p, two numbers of it -/
def sp_fbits (C : Addr) : Sp := fun vs H Q _ => ∃ (p : Addr) (m q r : Nat), vs = [.ref p] ∧ FieldAt C H p m q r ∧ Q (.int (m : Int)) H
def sp_fmodulus (C : Addr) : Sp := fun vs H Q _ => ∃ (p : Addr) (m q r : Nat), vs = [.ref p] ∧ FieldAt C H p m q r ∧ Q (.int (q : Int)) H
def sp_fsize (C : Addr) : Sp := fun vs H Q _ => ∃ (p : Addr) (m q r : Nat), vs = [.ref p] ∧ FieldAt C H p m q r ∧ Q (.int ((2 ^ m : Nat) : Int)) H
def sp_froot (C : Addr) : Sp := fun vs H Q _ => ∃ (p : Addr) (m q r : Nat), vs = [.ref p] ∧ FieldAt C H p m q r ∧ Q (.int (r : Int)) H
def sp_fadd : Sp := fun vs H Q _ => ∃ (p : Addr) (e f : Nat), vs = [.ref p, .int (e : Int), .int (f : Int)] ∧ Q (.int ((e ^^^ f : Nat) : Int)) H
def sp_ftimes (C : Addr) : Sp := fun vs H Q _ => ∃ (p : Addr) (e f m q r : Nat), vs = [.ref p, .int (e : Int), .int (f : Int)] ∧ FieldAt C H p m q r ∧ e < 2 ^ m ∧ f < 2 ^ m ∧ Q (.int ((mulm q e f : Nat) : Int)) H
/-- the error of the element 0 -/
def noInv (C3 : Addr) (H : Hp) (E : XK) : Prop := ∀ d, H d = none → E (.ref C3) (some d) (upd H d (.xd [("at", .int 0)]))
def sp_flog (C C3 : Addr) : Sp := fun vs H Q E => ∃ (p : Addr) (e m q r : Nat), vs = [.ref p, .int (e : Int)] ∧ FieldAt C H p m q r ∧ e < 2 ^ m ∧ (e = 0 → noInv C3 H E) ∧ ∀ j, j < 2 ^ m - 1 → pw q r j = e → Q (.int (j : Int)) H
def sp_finverse (C C3 : Addr) : Sp := fun vs H Q E => ∃ (p : Addr) (e m q r : Nat), vs = [.ref p, .int (e : Int)] ∧ FieldAt C H p m q r ∧ e < 2 ^ m ∧ (e = 0 → noInv C3 H E) ∧ ∀ v, v < 2 ^ m → v ≠ 0 → mulm q v e = 1 → Q (.int (v : Int)) H
def sp_fpower (C C3 : Addr) : Sp := fun vs H Q E => ∃ (p : Addr) (e m q r : Nat) (k : Int), vs = [.ref p, .int (e : Int), .int k] ∧ FieldAt C H p m q r ∧ e < 2 ^ m ∧ (e = 0 → k = 0 → Q (.int 1) H) ∧ (e = 0 → 0 < k → Q (.int 0) H) ∧ (e = 0 → k < 0 → noInv C3 H E) ∧
  ∀ j, j < 2 ^ m - 1 → pw q r j = e → Q (.int ((pw q r (((j : Int) * k) % ((2 ^ m - 1 : Nat) : Int)).toNat : Nat) : Int)) H
def sp_forder (C C3 : Addr) : Sp := fun vs H Q E => ∃ (p : Addr) (e m q r : Nat), vs = [.ref p, .int (e : Int)] ∧ FieldAt C H p m q r ∧ e < 2 ^ m ∧ (e = 0 → noInv C3 H E) ∧ ∀ j, j < 2 ^ m - 1 → pw q r j = e → Q (.int (((2 ^ m - 1) / Nat.gcd (2 ^ m - 1) j : Nat) : Int)) H
theorem ok_Field_bits {f C : Addr} {fd : FuncData} (F : Fun K "bits" "Field.bits" s_Field_bits f fd) (T : FC K C) : FnOk P w K mg base CX0 1 f fd ["self"] (sp_fbits C) := by
  refine F.ok sc_Field_bits (fun vs H Q E h => ?_) (fun cdv A outer s H vs Q E hr h => ?_)
  · obtain ⟨p, m, q, r, rfl, _⟩ := h; rfl
  · obtain ⟨p, m, q, r, rfl, FA, k⟩ := h
    obtain ⟨dx, a, b, cc, logs, h1, h2, h3, h4, h5c, h6c⟩ := FA.ex
    exact ⟨_, (pss_one (ps_ret (pe_fld (pv 0) rfl))), _, rfl, p, C, dx, _, _, rfl, h1, T.cl, T.n1, ffl_bits _ _ _ _ _, k⟩
theorem ok_Field_modulus {f C : Addr} {fd : FuncData} (F : Fun K "modulus" "Field.modulus" s_Field_modulus f fd) (T : FC K C) : FnOk P w K mg base CX0 1 f fd ["self"] (sp_fmodulus C) := by
  refine F.ok sc_Field_modulus (fun vs H Q E h => ?_) (fun cdv A outer s H vs Q E hr h => ?_)
  · obtain ⟨p, m, q, r, rfl, _⟩ := h; rfl
  · obtain ⟨p, m, q, r, rfl, FA, k⟩ := h
    obtain ⟨dx, a, b, cc, logs, h1, h2, h3, h4, h5c, h6c⟩ := FA.ex
    exact ⟨_, (pss_one (ps_ret (pe_fld (pv 0) rfl))), _, rfl, p, C, dx, _, _, rfl, h1, T.cl, T.n2, ffl_modulus _ _ _ _ _, k⟩
theorem ok_Field_size {f C : Addr} {fd : FuncData} (F : Fun K "size" "Field.size" s_Field_size f fd) (T : FC K C) : FnOk P w K mg base CX0 1 f fd ["self"] (sp_fsize C) := by
  refine F.ok sc_Field_size (fun vs H Q E h => ?_) (fun cdv A outer s H vs Q E hr h => ?_)
  · obtain ⟨p, m, q, r, rfl, _⟩ := h; rfl
  · obtain ⟨p, m, q, r, rfl, FA, k⟩ := h
    obtain ⟨dx, a, b, cc, logs, h1, h2, h3, h4, h5c, h6c⟩ := FA.ex
    refine ⟨_, (pss_one (ps_ret (pe_op nb_add (pe_fld (pv 0) rfl) (pe_nat 1)))), ?_⟩
    refine ⟨_, rfl, p, C, dx, _, _, rfl, h1, T.cl, T.n3, ffl_turn _ _ _ _ _, _, _, rfl, rfl, ?_⟩
    have := (pow_m FA.fd).1
    have k2 : Q (.int ((2 ^ m - 1 + 1 : Nat) : Int)) H := by rw [show 2 ^ m - 1 + 1 = 2 ^ m by omega]; exact k
    exact k2
theorem ok_Field_add {f : Addr} {fd : FuncData} (F : Fun K "add" "Field.add" s_Field_add f fd) : FnOk P w K mg base CX0 1 f fd ["self", "e", "f"] sp_fadd := by
  refine F.ok sc_Field_add (fun vs H Q E h => ?_) (fun cdv A outer s H vs Q E hr h => ?_)
  · obtain ⟨p, e, f, rfl, _⟩ := h; rfl
  · obtain ⟨p, e, f, rfl, k⟩ := h
    exact ⟨_, (pss_one (ps_ret (pe_op nb_xor (pv 1) (pv 2)))), _, rfl, _, rfl, _, _, rfl, rfl, k⟩
theorem ok_Field_root {f C : Addr} {fd : FuncData} (F : Fun K "root" "Field.root" s_Field_root f fd) (T : FC K C) : FnOk P w K mg base CX0 1 f fd ["self"] (sp_froot C) := by
  refine F.ok sc_Field_root (fun vs H Q E h => ?_) (fun cdv A outer s H vs Q E hr h => ?_)
  · obtain ⟨p, m, q, r, rfl, _⟩ := h; rfl
  · obtain ⟨p, m, q, r, rfl, FA, k⟩ := h
    obtain ⟨dx, a, b, cc, logs, h1, h2, h3, h4, h5c, h6c⟩ := FA.ex
    have h5 := (pow_m FA.fd).1
    refine ⟨_, (pss_one (ps_ret (pe_ix ix_list (pe_fld (pv 0) rfl) (pe_nat 1) (fun _ _ => rfl)))), ?_⟩
    refine ⟨_, rfl, p, C, dx, _, _, rfl, h1, T.cl, T.n4, ffl_powers _ _ _ _ _, a, _, _, _, rfl, rfl, SqL.of h2, NL_at0 (pws_get (i := 1) (by omega)), ?_⟩
    rw [pw_first FA.fd FA.lr.1.lt]
    exact k
theorem ok_Field_times {f C : Addr} {fd : FuncData} (F : Fun K "times" "Field.times" s_Field_times f fd) (T : FC K C) : FnOk P w K mg base CX0 1 f fd ["self", "e", "f"] (sp_ftimes C) := by
  refine F.ok sc_Field_times (fun vs H Q E h => ?_) (fun cdv A outer s H vs Q E hr h => ?_)
  · obtain ⟨p, e, f, m, q, r, rfl, _⟩ := h; rfl
  · obtain ⟨p, e, f, m, q, r, rfl, FA, he, hf, k⟩ := h
    obtain ⟨dx, a, b, cc, logs, h1, h2, h3, h4, h5c, h6c⟩ := FA.ex
    have hm := (pow_m FA.fd).1
    refine ⟨_, (pss_one (ps_ret (pe_ix ix_list (pe_fld (pv 0) rfl) (pe_op nb_add (pe_ix ix_list (pe_fld (pv 0) rfl) (pv 1) (fun _ _ => rfl)) (pe_ix ix_list (pe_fld (pv 0) rfl) (pv 2) (fun _ _ => rfl))) (fun _ _ => rfl)))), ?_⟩
    suffices h : ∃ i j v : Nat, logs[e]? = some i ∧ logs[f]? = some j ∧ (prods m q r)[i + j]? = some v ∧ v = mulm q e f by
      obtain ⟨i, j, v, g1, g2, g3, rfl⟩ := h
      exact ⟨_, rfl, p, C, dx, _, _, rfl, h1, T.cl, T.n6, ffl_products _ _ _ _ _, _, rfl, p, C, dx, _, _, rfl, h1, T.cl, T.n5, ffl_logs _ _ _ _ _, _, rfl, b, _, _, _, rfl, rfl, SqL.of h3, NL_at0 g1,
        _, rfl, p, C, dx, _, _, rfl, h1, T.cl, T.n5, ffl_logs _ _ _ _ _, _, rfl, b, _, _, _, rfl, rfl, SqL.of h3, NL_at0 g2, _, _, rfl, rfl, cc, _, _, _, rfl, rfl, SqL.of h5c, NL_at0 g3, k⟩
    by_cases e0 : e = 0
    · subst e0
      have : ∃ j, logs[f]? = some j ∧ j ≤ 2 * (2 ^ m - 1) := by
        by_cases f0 : f = 0
        · subst f0; exact ⟨_, h6c, Nat.le_refl _⟩
        · obtain ⟨j, hj, ej⟩ := log_ex FA.fd FA.lr.1 f0 hf
          exact ⟨j, by rw [← ej]; exact h4 j hj, by omega⟩
      obtain ⟨j, g1, g2⟩ := this
      exact ⟨_, j, 0, h6c, g1, prods_zero (by omega) (by omega), (zero_mulm FA.fd f).symm⟩
    · obtain ⟨i, hi, ei⟩ := log_ex FA.fd FA.lr.1 e0 he
      have gi : logs[e]? = some i := by rw [← ei]; exact h4 i hi
      by_cases f0 : f = 0
      · subst f0
        exact ⟨i, _, 0, gi, h6c, prods_zero (by omega) (by omega), (mulm_zero FA.fd e).symm⟩
      · obtain ⟨j, hj, ej⟩ := log_ex FA.fd FA.lr.1 f0 hf
        have gj : logs[f]? = some j := by rw [← ej]; exact h4 j hj
        refine ⟨i, j, _, gi, gj, prods_get hi hj, ?_⟩
        rw [← ei, ← ej, ← pw_add FA.fd]
        by_cases z : i + j < 2 ^ m - 1
        · rw [if_pos z]
        · rw [if_neg z, pw_mod FA.fd FA.lr.1 (i + j)]
          congr 1
          rw [Nat.mod_eq_sub_mod (by omega), Nat.mod_eq_of_lt (by omega)]
theorem ok_Field_log {f f_init C C_NoInverse CH : Addr} {fd fd_init : FuncData} (F : Fun K "log" "Field.log" s_Field_log f fd) (T : FC K C)
    (X_NoInverse : XC K mg "NoInverse" C_NoInverse f_init CH) (G_init : FnOk P w K mg base CX0 1 f_init fd_init ["self", "at"] (sp_init K)) (b_init : Binds K fd_init ["self", "at"] []) : FnOk P w K mg base (L2.CX P w) 3 f fd ["self", "e"] (sp_flog C C_NoInverse) := by
  refine F.okX sc_Field_log (fun vs H Q E h => ?_) (fun cdv A outer s H vs Q E hr h => ?_)
  · obtain ⟨p, e, m, q, r, rfl, _⟩ := h; rfl
  · obtain ⟨p, e, m, q, r, rfl, FA, he, k0, k⟩ := h
    obtain ⟨dx, a, b, cc, logs, h1, h2, h3, h4, h5c, h6c⟩ := FA.ex
    refine ⟨_, (pss_cons (ps_if (pt_cmpR op_eq (pv 1) (pe_nat 0) (nomark _)) (pss_one (ps_err rfl X_NoInverse G_init (hr.mono (by decide)) b_init pass0 (takes_of rfl rfl rfl rfl) (pa_cons (pe_nat 0) pa_nil))) pss_nil)
      (pss_one (ps_ret (pe_ix ix_list (pe_fld (pv 0) rfl) (pv 1) (fun _ _ => rfl))))), ?_⟩
    refine ⟨_, rfl, rfl, _, rfl, iteD (fun c => ?_) (fun c => ?_)⟩
    · have e0 : e = 0 := by have := V.int.inj c; omega
      exact ⟨0, rfl, by decide, fun d hd => k0 e0 d hd⟩
    · have e0 : e ≠ 0 := fun z => c (by rw [z])
      obtain ⟨i, hi, rfl⟩ := log_ex FA.fd FA.lr.1 e0 he
      exact ⟨_, rfl, p, C, dx, _, _, rfl, h1, T.cl, T.n5, ffl_logs _ _ _ _ _, _, rfl, b, _, _, _, rfl, rfl, SqL.of h3, NL_at0 (h4 i hi), k i hi rfl⟩
theorem flog_no (m q : Nat) (a b c : Addr) : (ffl m q a b c).lookup ("log" : Str) = none := ffl_no m q a b c (by decide +kernel) (by decide +kernel) (by decide +kernel) (by decide +kernel) (by decide +kernel)
theorem ok_Field_inverse {f f_Field_log C C_NoInverse : Addr} {fd fd_Field_log : FuncData} (F : Fun K "inverse" "Field.inverse" s_Field_inverse f fd) (T : FC K C)
    (M_Field_log : Meth K C "log" f_Field_log) (b_Field_log : Binds K fd_Field_log ["self", "e"] []) (G_Field_log : FnOk P w K mg base (L2.CX P w) 3 f_Field_log fd_Field_log ["self", "e"] (sp_flog C C_NoInverse)) :
    FnOk P w K mg base (L2.CX P w) 4 f fd ["self", "e"] (sp_finverse C C_NoInverse) := by
  refine F.okX sc_Field_inverse (fun vs H Q E h => ?_) (fun cdv A outer s H vs Q E hr h => ?_)
  · obtain ⟨p, e, m, q, r, rfl, _⟩ := h; rfl
  · obtain ⟨p, e, m, q, r, rfl, FA, he, k0, k⟩ := h
    obtain ⟨dx, a, b, cc, logs, h1, h2, h3, h4, h5c, h6c⟩ := FA.ex
    have hm := (pow_m FA.fd).1
    have K_Field := T.cl
    refine ⟨_, (pss_one (ps_ret (pe_ix ix_list (pe_fld (pv 0) rfl) (pe_op nb_modI (pe_un un_neg (pe_mtS (pv 0) K_Field M_Field_log G_Field_log (hr.mono (by decide)) b_Field_log (fun σ => passAt (W := fun cls d _ H => E cls d H) (takes_of rfl rfl rfl rfl) σ) (by exact (pa_cons (pv 1) pa_nil)))) (pe_fld (pv 0) rfl)) (fun _ _ => rfl)))), ?_⟩
    refine ⟨_, rfl, p, C, dx, _, _, rfl, h1, T.cl, T.n4, ffl_powers _ _ _ _ _, _, rfl, p, dx, _, rfl, h1, flog_no _ _ _ _ _, _, rfl, p, e, m, q, r, rfl, FA, he, k0, fun j hj ej => ?_⟩
    have hN : (0 : Int) < ((2 ^ m - 1 : Nat) : Int) := by omega
    have hlt := Int.emod_lt_of_pos (-(j : Int)) hN
    have hnn := Int.emod_nonneg (-(j : Int)) (show ((2 ^ m - 1 : Nat) : Int) ≠ 0 by omega)
    refine ⟨_, rfl, _, rfl, p, C, dx, _, _, rfl, h1, T.cl, T.n3, ffl_turn _ _ _ _ _, _, _, rfl, rfl, by omega, a, _, _, _, rfl, rfl, SqL.of h2, NL_at0 (pws_get (i := (-(j : Int) % ((2 ^ m - 1 : Nat) : Int)).toNat) (by omega)), ?_⟩
    refine k _ (pw_lt FA.fd r _) (pw_ne FA.fd FA.lr.1.lt (r0 FA.fd FA.lr.1) _) ?_
    rw [← ej, ← pw_add FA.fd, pw_one_iff FA.fd FA.lr.1]
    have hd : ((2 ^ m - 1 : Nat) : Int) ∣ (-(j : Int) % ((2 ^ m - 1 : Nat) : Int)) + (j : Int) := by
      have := Int.emod_add_mul_ediv (-(j : Int)) ((2 ^ m - 1 : Nat) : Int)
      exact ⟨-(-(j : Int) / ((2 ^ m - 1 : Nat) : Int)), by rw [Int.mul_neg]; omega⟩
    have e2 : (((-(j : Int) % ((2 ^ m - 1 : Nat) : Int)).toNat + j : Nat) : Int) = (-(j : Int) % ((2 ^ m - 1 : Nat) : Int)) + (j : Int) := by omega
    rw [← e2] at hd
    exact Int.natCast_dvd_natCast.mp hd
theorem ok_Field_power {f f_Field_log C C_NoInverse : Addr} {fd fd_Field_log : FuncData} (F : Fun K "power" "Field.power" s_Field_power f fd) (T : FC K C)
    (M_Field_log : Meth K C "log" f_Field_log) (b_Field_log : Binds K fd_Field_log ["self", "e"] []) (G_Field_log : FnOk P w K mg base (L2.CX P w) 3 f_Field_log fd_Field_log ["self", "e"] (sp_flog C C_NoInverse)) :
    FnOk P w K mg base (L2.CX P w) 4 f fd ["self", "e", "k"] (sp_fpower C C_NoInverse) := by
  refine F.okX sc_Field_power (fun vs H Q E h => ?_) (fun cdv A outer s H vs Q E hr h => ?_)
  · obtain ⟨p, e, m, q, r, kk, rfl, _⟩ := h; rfl
  · obtain ⟨p, e, m, q, r, kk, rfl, FA, he, k1, k2, k3, k⟩ := h
    obtain ⟨dx, a, b, cc, logs, h1, h2, h3, h4, h5c, h6c⟩ := FA.ex
    have hm := (pow_m FA.fd).1
    have K_Field := T.cl
    refine ⟨_, (pss_cons (ps_if (pt_cmpR op_eq (pv 2) (pe_nat 0) (nomark _)) (pss_one (ps_ret (pe_nat 1))) pss_nil)
      (pss_cons (ps_if (PW.pt (pw_and (pt_cmpR op_eq (pv 1) (pe_nat 0) (nomark _)) (pw_and1 (pt_cmpR op_gt (pv 2) (pe_nat 0) (nomark _))))) (pss_one (ps_ret (pe_nat 0))) pss_nil)
      (pss_one (ps_ret (pe_ix ix_list (pe_fld (pv 0) rfl) (pe_op nb_modI (pe_op op_mul (pe_mtS (pv 0) K_Field M_Field_log G_Field_log (hr.mono (by decide)) b_Field_log (fun σ => passAt (W := fun cls d _ H => E cls d H) (takes_of rfl rfl rfl rfl) σ) (by exact (pa_cons (pv 1) pa_nil))) (pv 2)) (pe_fld (pv 0) rfl)) (fun _ _ => rfl)))))), ?_⟩
    refine ⟨_, rfl, rfl, _, rfl, iteD (fun c => ?_) (fun c => ?_)⟩
    · have e0 : kk = 0 := V.int.inj c
      subst e0
      by_cases e1 : e = 0
      · exact k1 e1 rfl
      · obtain ⟨i, hi, ei⟩ := log_ex FA.fd FA.lr.1 e1 he
        have := k i hi ei
        rw [Int.mul_zero, Int.zero_emod] at this
        exact this
    · have kn : kk ≠ 0 := fun z => c (by rw [z]; rfl)
      have hN : (0 : Int) < ((2 ^ m - 1 : Nat) : Int) := by omega
      refine ⟨_, rfl, rfl, _, rfl, iteD (fun c2 => ?_) (fun c2 => ?_)⟩
      · have e0 : e = 0 := by have := V.int.inj c2; omega
        refine ⟨_, rfl, _, _, rfl, rfl, _, rfl, iteD (fun c3 => ?_) (fun c3 => ?_)⟩
        · exact k2 e0 c3
        · have c4 : ¬ (0 : Int) < kk := c3
          exact ⟨_, rfl, p, C, dx, _, _, rfl, h1, T.cl, T.n4, ffl_powers _ _ _ _ _, _, rfl, p, dx, _, rfl, h1, flog_no _ _ _ _ _, _, rfl, p, e, m, q, r, rfl, FA, he, fun z => k3 z (by omega), fun j hj ej => absurd (ej.trans e0) (pw_ne FA.fd FA.lr.1.lt (r0 FA.fd FA.lr.1) _)⟩
      · have e0 : e ≠ 0 := fun z => c2 (by rw [z])
        refine iteF ?_
        refine ⟨_, rfl, p, C, dx, _, _, rfl, h1, T.cl, T.n4, ffl_powers _ _ _ _ _, _, rfl, p, dx, _, rfl, h1, flog_no _ _ _ _ _, _, rfl, p, e, m, q, r, rfl, FA, he, fun z => absurd z e0, fun j hj ej => ?_⟩
        have hlt := Int.emod_lt_of_pos ((j : Int) * kk) hN
        have hnn := Int.emod_nonneg ((j : Int) * kk) (show ((2 ^ m - 1 : Nat) : Int) ≠ 0 by omega)
        have hj2 := (pow_m FA.fd).2
        exact ⟨_, rfl, _, _, rfl, rfl, .inl ⟨by omega, by omega⟩, _, rfl, p, C, dx, _, _, rfl, h1, T.cl, T.n3, ffl_turn _ _ _ _ _, _, _, rfl, rfl, by omega, a, _, _, _, rfl, rfl, SqL.of h2, NL_at0 (pws_get (i := ((j : Int) * kk % ((2 ^ m - 1 : Nat) : Int)).toNat) (by omega)), k j hj ej⟩
theorem ok_Field_order {f f_Field_log C C_NoInverse : Addr} {fd fd_Field_log : FuncData} (F : Fun K "order" "Field.order" s_Field_order f fd) (T : FC K C) (c_gcd : mg "gcd" = some (.builtin "math.gcd"))
    (M_Field_log : Meth K C "log" f_Field_log) (b_Field_log : Binds K fd_Field_log ["self", "e"] []) (G_Field_log : FnOk P w K mg base (L2.CX P w) 3 f_Field_log fd_Field_log ["self", "e"] (sp_flog C C_NoInverse)) :
    FnOk P w K mg base (L2.CX P w) 4 f fd ["self", "e"] (sp_forder C C_NoInverse) := by
  refine F.okX sc_Field_order (fun vs H Q E h => ?_) (fun cdv A outer s H vs Q E hr h => ?_)
  · obtain ⟨p, e, m, q, r, rfl, _⟩ := h; rfl
  · obtain ⟨p, e, m, q, r, rfl, FA, he, k0, k⟩ := h
    obtain ⟨dx, a, b, cc, logs, h1, h2, h3, h4, h5c, h6c⟩ := FA.ex
    have hm := pow_m FA.fd
    have K_Field := T.cl
    refine ⟨_, (pss_one (ps_ret (pe_op nb_fdiv (pe_fld (pv 0) rfl) (pe_callBfun cr_gcd rfl c_gcd (by exact (pa_cons (pe_fld (pv 0) rfl) (pa_cons (pe_mtS (pv 0) K_Field M_Field_log G_Field_log (hr.mono (by decide)) b_Field_log (fun σ => passAt (W := fun cls d _ H => E cls d H) (takes_of rfl rfl rfl rfl) σ) (by exact (pa_cons (pv 1) pa_nil))) pa_nil))))))), ?_⟩
    refine ⟨_, rfl, p, C, dx, _, _, rfl, h1, T.cl, T.n3, ffl_turn _ _ _ _ _, _, rfl, p, C, dx, _, _, rfl, h1, T.cl, T.n3, ffl_turn _ _ _ _ _, _, rfl, p, dx, _, rfl, h1, flog_no _ _ _ _ _, _, rfl, p, e, m, q, r, rfl, FA, he, k0, fun j hj ej => ?_⟩
    have hg : 0 < Nat.gcd (2 ^ m - 1) j := Nat.gcd_pos_of_pos_left _ (by omega)
    have hg2 : Nat.gcd (2 ^ m - 1) j ≤ 2 ^ m - 1 := Nat.gcd_le_left _ (by omega)
    exact ⟨_, _, rfl, _, _, rfl, rfl, ⟨hg, by show Nat.gcd (2 ^ m - 1) j < 1073741824; omega⟩, k j hj ej⟩
end
end K01
namespace K01
open PySem PySem.Spec L2 NB ER MKX
abbrev s__law_modulus : Stmt := top 27
theorem sc__law_modulus : FnScope ["m", "drawn", "found", "p"] ["m", "drawn"] (defScope s__law_modulus) := ⟨rfl, rfl, rfl, by decide +kernel, rfl, by decide +kernel, by decide +kernel⟩
abbrev s__law_product : Stmt := top 28
theorem sc__law_product : FnScope ["modulus", "e", "f"] ["modulus", "e", "f"] (defScope s__law_product) := ⟨rfl, rfl, rfl, by decide +kernel, rfl, by decide +kernel, by decide +kernel⟩
abbrev s__law_power : Stmt := top 29
theorem sc__law_power : FnScope ["modulus", "e", "k", "total", "turn"] ["modulus", "e", "k"] (defScope s__law_power) := ⟨rfl, rfl, rfl, by decide +kernel, rfl, by decide +kernel, by decide +kernel⟩
abbrev s__law_made : Stmt := top 31
theorem sc__law_made : FnScope ["m", "modulus", "error"] ["m", "modulus"] (defScope s__law_made) := ⟨rfl, rfl, rfl, by decide +kernel, rfl, by decide +kernel, by decide +kernel⟩
abbrev s__law_refused : Stmt := top 32
theorem sc__law_refused : FnScope ["m", "modulus", "told"] ["m", "modulus"] (defScope s__law_refused) := ⟨rfl, rfl, rfl, by decide +kernel, rfl, by decide +kernel, by decide +kernel⟩
abbrev s__law_order : Stmt := top 33
theorem sc__law_order : FnScope ["modulus", "e", "total", "k"] ["modulus", "e"] (defScope s__law_order) := ⟨rfl, rfl, rfl, by decide +kernel, rfl, by decide +kernel, by decide +kernel⟩
abbrev s__law_no_inverse : Stmt := top 34
theorem sc__law_no_inverse : FnScope ["field", "told", "turn", "error"] ["field"] (defScope s__law_no_inverse) := ⟨rfl, rfl, rfl, by decide +kernel, rfl, by decide +kernel, by decide +kernel⟩
abbrev s__law_element : Stmt := top 35
theorem sc__law_element : FnScope ["field", "m", "modulus", "e", "f", "k", "most", "period", "at"] ["field", "m", "modulus", "e", "f", "k"] (defScope s__law_element) := ⟨rfl, rfl, rfl, by decide +kernel, rfl, by decide +kernel, by decide +kernel⟩
abbrev s_law : Stmt := top 36
theorem sc_law : FnScope ["script", "numbers", "turn", "some", "m", "modulus", "field", "e", "at", "k"] ["script"] (defScope s_law) := ⟨rfl, rfl, rfl, by decide +kernel, rfl, by decide +kernel, by decide +kernel⟩
section
variable {P : Program} {w : World} {K : PySem.W.Frag} {mg : Str → Option Value} {base : Heap}
open FLD
def sp_lmodulus : Sp := fun vs H Q _ => ∃ m x : Nat, vs = [.int (m : Int), .int (x : Int)] ∧ 2 ≤ m ∧ m ≤ 8 ∧ ∀ (q : Nat) H', Fd m q → Same H H' → Q (.int (q : Int)) H'
theorem ok__law_modulus {f f__law_irreducible : Addr} {fd fd__law_irreducible : FuncData} (D : Df K mg "_law_modulus" ["m", "drawn"] s__law_modulus f fd) (B : Bl mg)
    (D__law_irreducible : Df K mg "_law_irreducible" ["p"] s__law_irreducible f__law_irreducible fd__law_irreducible) (G__law_irreducible : FnOk P w K mg base CX0 3 f__law_irreducible fd__law_irreducible ["p"] sp_lirr) :
    FnOk P w K mg base CX0 4 f fd ["m", "drawn"] sp_lmodulus := by
  refine D.F.ok sc__law_modulus (fun vs H Q E h => ?_) (fun cdv A outer s H vs Q E hr h => ?_)
  · obtain ⟨m, x, rfl, _⟩ := h; rfl
  · obtain ⟨m, x, rfl, hm2, hm8, k⟩ := h
    refine ⟨_, (pss_cons (ps_setLc (i := 2) (own := [("p", 3)]) rfl sc__law_modulus.nd rfl rfl (sw_true rfl rfl rfl (by decide +kernel)) (pi_range2 rfl B.range (pa_cons (pe_op nb_shl (pe_nat 1) (pv 0)) (pa_cons (pe_op nb_shl (pe_nat 2) (pv 0)) pa_nil))) (blkOk_by (own := [("p", 3)]) (N := ["m", "drawn", "found", "p"]) (sc := defScope s__law_modulus) (by decide +kernel)) (fun _ _ _ _ _ => (pg_name (i := 3) sc__law_modulus.nd rfl (Or.inl rfl) (Or.inr rfl))) (fun _ _ _ _ _ => (pts_one (pt_val (pe_call G__law_irreducible (hr.mono (by decide)) rfl D__law_irreducible.g D__law_irreducible.F.kp D__law_irreducible.b .nil pass0 (pa_cons (pv 3) pa_nil))))) (fun _ _ _ _ _ => (pv 3)))
      (pss_one (ps_ret (pe_ix ix_list (pv 2) (pe_op nb_mod (pe_callTy call_int1 (by rfl) B.int (by decide +kernel) (pa_cons (pv 1) pa_nil)) (pe_callB call_len_seq (by rfl) B.len PySem.boot_len (pa_cons (pv 2) pa_nil))) (fun _ _ => rfl))))), ?_⟩
    have h4 : (4 : Nat) ≤ 2 ^ m := Nat.le_trans (by decide) (Nat.pow_le_pow_right (n := 2) (by decide) hm2)
    have h256 : (2 : Nat) ^ m ≤ 256 := Nat.le_trans (Nat.pow_le_pow_right (n := 2) (by decide) hm8) (by decide)
    have hpp := Nat.pow_succ 2 m
    refine ⟨_, rfl, _, _, rfl, rfl, ⟨by decide, by omega⟩, _, rfl, _, _, rfl, rfl, ⟨by decide, by omega⟩, _, _, rfl, ⟨by omega, by omega, by omega, by omega⟩, fun D0 nD => ?_⟩
    rw [show (((2 ^ m * 2 : Nat) : Int) - ((2 ^ m * 1 : Nat) : Int)).toNat = 2 ^ m by omega]
    refine lc_rangeN (lo := 2 ^ m * 1) (n := 2 ^ m) (fun i H' => ∃ acc : List Nat, H' D0 = some (.lst (NL acc)) ∧ acc.length ≤ i ∧ (∀ x ∈ acc, GF.Irr x ∧ 2 ^ m ≤ x ∧ x < 2 ^ (m + 1)) ∧ (∀ x, 2 ^ m ≤ x → x < 2 ^ m + i → GF.Irr x → x ∈ acc) ∧ Same H H') ⟨[], upd_same, Nat.le_refl _, (fun x hx => nomatch hx), fun x h1 h2 => by omega, same_upd nD⟩ ?_ ?_
    · rintro i H' hi ⟨acc, h1, h2, h3, h5, sm⟩
      rw [Nat.mul_one]
      refine ⟨rfl, _, rfl, 2 ^ m + i, rfl, by omega, fun b H1 hb s1 => ⟨b, rfl, ?_⟩⟩
      cases b with
      | true =>
        refine iteT ?_
        have hi2 := hb.mp rfl
        refine ⟨_, rfl, _, s1 _ _ h1, by rw [NL_len]; exact small1000 (by omega), acc ++ [2 ^ m + i], ?_, ?_, ?_, ?_, same_upd2 (sm.trans s1) nD⟩
        · rw [upd_same, NL_app]
        · rw [List.length_append]; show acc.length + 1 ≤ i + 1; omega
        · intro x hx
          rcases List.mem_append.mp hx with h | h
          · exact h3 x h
          · rw [List.mem_singleton] at h; subst h; exact ⟨hi2, by omega, by omega⟩
        · intro x g1 g2 g3
          by_cases e : x = 2 ^ m + i
          · subst e; exact List.mem_append.mpr (.inr (List.mem_singleton.mpr rfl))
          · exact List.mem_append.mpr (.inl (h5 x g1 (by omega) g3))
      | false =>
        refine iteF ?_
        refine ⟨acc, s1 _ _ h1, by omega, h3, fun x g1 g2 g3 => ?_, sm.trans s1⟩
        by_cases e : x = 2 ^ m + i
        · subst e; exact nomatch hb.mpr g3
        · exact h5 x g1 (by omega) g3
    · rintro H1 ⟨acc, h1, h2, h3, h5, sm⟩
      obtain ⟨i1, i2, i3⟩ := GF.irr_some (m := m) (by omega) (by omega)
      have hmem := h5 _ i2 (by omega) i1
      have hpos : 0 < acc.length := List.length_pos_of_mem hmem
      obtain ⟨q, hq⟩ : ∃ q, acc[x % acc.length]? = some q := ⟨_, List.getElem?_eq_getElem (Nat.mod_lt _ hpos)⟩
      obtain ⟨j1, j2, j3⟩ := h3 q (List.mem_of_getElem? hq)
      refine ⟨_, rfl, _, rfl, .inl ⟨_, rfl, _, rfl, D0, _, rfl, .inl (SqL.of h1), x, _, rfl, rfl, by rw [NL_len]; exact hpos, D0, NL acc, _, _, rfl, rfl, SqL.of h1, ?_, k q H1 ⟨hm2, hm8, j1, (GF.Deg.log ⟨j2, j3⟩)⟩ sm⟩⟩
      rw [NL_len]
      exact NL_at0 hq
def sp_lproduct : Sp := fun vs H Q _ => ∃ q e f : Nat, vs = [.int (q : Int), .int (e : Int), .int (f : Int)] ∧ q ≠ 0 ∧ q < 2 ^ 32 ∧ e < 2 ^ 16 ∧ f < 2 ^ 16 ∧ ∀ H', Same H H' → Q (.int ((mulm q e f : Nat) : Int)) H'
theorem ok__law_product {f f__law_divided f__law_times : Addr} {fd fd__law_divided fd__law_times : FuncData} (D : Df K mg "_law_product" ["modulus", "e", "f"] s__law_product f fd) (B : Bl mg)
    (D__law_divided : Df K mg "_law_divided" ["p", "q"] s__law_divided f__law_divided fd__law_divided) (G__law_divided : FnOk P w K mg base CX0 2 f__law_divided fd__law_divided ["p", "q"] sp_ldivided)
    (D__law_times : Df K mg "_law_times" ["p", "q"] s__law_times f__law_times fd__law_times) (G__law_times : FnOk P w K mg base CX0 1 f__law_times fd__law_times ["p", "q"] sp_ltimes) :
    FnOk P w K mg base CX0 3 f fd ["modulus", "e", "f"] sp_lproduct := by
  refine D.F.ok sc__law_product (fun vs H Q E h => ?_) (fun cdv A outer s H vs Q E hr h => ?_)
  · obtain ⟨q, e, f, rfl, _⟩ := h; rfl
  · obtain ⟨q, e, f, rfl, hq0, hq, he, hf, k⟩ := h
    refine ⟨_, (pss_one (ps_ret (pe_ix ix_tup (pe_call G__law_divided (hr.mono (by decide)) rfl D__law_divided.g D__law_divided.F.kp D__law_divided.b .nil pass0 (pa_cons (pe_call G__law_times (hr.mono (by decide)) rfl D__law_times.g D__law_times.F.kp D__law_times.b .nil pass0 (pa_cons (pv 1) (pa_cons (pv 2) pa_nil))) (pa_cons (pv 0) pa_nil))) (pe_nat 1) (fun _ _ => rfl)))), ?_⟩
    refine ⟨_, rfl, _, rfl, e, f, rfl, by omega, by omega, _, rfl, GF.mul e f, q, rfl, Nat.lt_trans (mul_lt he hf) (by decide), by omega, hq0, fun t ht => ?_⟩
    exact ⟨t, _, _, _, rfl, rfl, SqT.of upd_same, atI_nat (j := 1) rfl, k _ (same_upd ht)⟩
def sp_lpower : Sp := fun vs H Q _ => ∃ q e k m : Nat, vs = [.int (q : Int), .int (e : Int), .int (k : Int)] ∧ Fd m q ∧ e < 2 ^ m ∧ k < 2 ^ 20 ∧ ∀ H', Same H H' → Q (.int ((pw q e k : Nat) : Int)) H'
theorem ok__law_power {f f__law_product : Addr} {fd fd__law_product : FuncData} (D : Df K mg "_law_power" ["modulus", "e", "k"] s__law_power f fd) (B : Bl mg)
    (D__law_product : Df K mg "_law_product" ["modulus", "e", "f"] s__law_product f__law_product fd__law_product) (G__law_product : FnOk P w K mg base CX0 3 f__law_product fd__law_product ["modulus", "e", "f"] sp_lproduct) :
    FnOk P w K mg base CX0 4 f fd ["modulus", "e", "k"] sp_lpower := by
  refine D.F.ok sc__law_power (fun vs H Q E h => ?_) (fun cdv A outer s H vs Q E hr h => ?_)
  · obtain ⟨q, e, kk, m, rfl, _⟩ := h; rfl
  · obtain ⟨q, e, kk, m, rfl, F, he, hk, k⟩ := h
    obtain ⟨hm4, hm256⟩ := pow_m F
    have hq5 := q_512 F
    refine ⟨_, (pss_cons (ps_set (i := 3) sc__law_power.nd rfl (Or.inl rfl) (pe_nat 1))
      (pss_cons (ps_for PassesOwn.never rfl (pi_range1 rfl B.range (pa_cons (pv 2) pa_nil)) (pg_name (i := 4) sc__law_power.nd rfl (Or.inl rfl) (Or.inr rfl))
        (pss_one (ps_set (i := 3) sc__law_power.nd rfl (Or.inl rfl) (pe_call G__law_product (hr.mono (by decide)) rfl D__law_product.g D__law_product.F.kp D__law_product.b .nil pass0 (pa_cons (pv 0) (pa_cons (pv 3) (pa_cons (pv 1) pa_nil)))))))
      (pss_one (ps_ret (pv 3))))), ?_⟩
    refine ⟨_, rfl, _, rfl, by omega, by omega, ?_⟩
    refine for_rangeN (lo := 0) (n := kk) (fun i σ H' => ∃ v : Option V, σ = [some (.int (q : Int)), some (.int (e : Int)), some (.int (kk : Int)), some (.int ((pw q e i : Nat) : Int)), v] ∧ Same H H') ⟨none, rfl, Same.refl H⟩ ?_ ?_
    · rintro i σ H1 hi ⟨v, rfl, sm⟩
      have hpl := pw_lt F e i
      exact ⟨_, rfl, _, rfl, _, rfl, q, pw q e i, e, rfl, q0 F, by omega, by omega, by omega, fun H2 s2 => ⟨some (.int ((0 + i : Nat) : Int)), rfl, sm.trans s2⟩⟩
    · rintro σ H1 ⟨v, rfl, sm⟩
      exact ⟨_, rfl, k H1 sm⟩
def sp_lorder : Sp := fun vs H Q _ => ∃ q e m : Nat, vs = [.int (q : Int), .int (e : Int)] ∧ Fd m q ∧ e ≠ 0 ∧ e < 2 ^ m ∧ ∀ (k : Nat) H', 1 ≤ k → k ≤ 2 ^ m - 1 → pw q e k = 1 → (∀ i, 1 ≤ i → i < k → pw q e i ≠ 1) → Same H H' → Q (.int (k : Int)) H'
theorem ok__law_order {f f__law_product : Addr} {fd fd__law_product : FuncData} (D : Df K mg "_law_order" ["modulus", "e"] s__law_order f fd) (B : Bl mg)
    (D__law_product : Df K mg "_law_product" ["modulus", "e", "f"] s__law_product f__law_product fd__law_product) (G__law_product : FnOk P w K mg base CX0 3 f__law_product fd__law_product ["modulus", "e", "f"] sp_lproduct) :
    FnOk P w K mg base CX0 4 f fd ["modulus", "e"] sp_lorder := by
  refine D.F.ok sc__law_order (fun vs H Q E h => ?_) (fun cdv A outer s H vs Q E hr h => ?_)
  · obtain ⟨q, e, m, rfl, _⟩ := h; rfl
  · obtain ⟨q, e, m, rfl, F, e0, he, k⟩ := h
    obtain ⟨hm4, hm256⟩ := pow_m F
    have hq5 := q_512 F
    obtain ⟨r, hR⟩ := root_ex F
    have hall := pw_all F hR e0 he
    refine ⟨_, (pss_cons (ps_set (i := 2) sc__law_order.nd rfl (Or.inl rfl) (pv 1))
      (pss_cons (ps_for PassesOwn.never rfl (pi_range2 rfl B.range (pa_cons (pe_nat 1) (pa_cons (pe_nat 256) pa_nil))) (pg_name (i := 3) sc__law_order.nd rfl (Or.inl rfl) (Or.inr rfl))
        (pss_cons (ps_if (pt_cmpR op_eq (pv 2) (pe_nat 1) (nomark _)) (pss_one (ps_ret (pv 3))) pss_nil)
        (pss_one (ps_set (i := 2) sc__law_order.nd rfl (Or.inl rfl) (pe_call G__law_product (hr.mono (by decide)) rfl D__law_product.g D__law_product.F.kp D__law_product.b .nil pass0 (pa_cons (pv 0) (pa_cons (pv 2) (pa_cons (pv 1) pa_nil))))))))
      (pss_one (ps_ret pe_non)))), ?_⟩
    refine ⟨_, rfl, _, _, rfl, ⟨by decide, by decide, by decide, by decide⟩, ?_⟩
    refine for_rangeN (lo := 1) (n := 255) (fun i σ H' => ∃ v : Option V, σ = [some (.int (q : Int)), some (.int (e : Int)), some (.int ((pw q e (1 + i) : Nat) : Int)), v] ∧ Same H H' ∧ ∀ j, 1 ≤ j → j < 1 + i → pw q e j ≠ 1) ⟨none, ?_, Same.refl H, fun j h1 h2 => by omega⟩ ?_ ?_
    · rw [show 1 + 0 = 1 from rfl, pw_first F he]; rfl
    · rintro i σ H1 hi ⟨v, rfl, sm, hno⟩
      have hpl := pw_lt F e (1 + i)
      refine ⟨_, rfl, rfl, _, rfl, iteD (fun c => ?_) (fun c => ?_)⟩
      · have c' : pw q e (1 + i) = 1 := by have := V.int.inj c; omega
        refine ⟨_, rfl, k (1 + i) H1 (by omega) ?_ c' hno sm⟩
        apply Classical.byContradiction
        intro n
        exact hno (2 ^ m - 1) (by omega) (by omega) hall
      · have c' : pw q e (1 + i) ≠ 1 := fun z => c (by rw [z])
        refine ⟨_, rfl, _, rfl, _, rfl, q, pw q e (1 + i), e, rfl, q0 F, by omega, by omega, by omega, fun H2 s2 => ⟨some (.int ((1 + i : Nat) : Int)), rfl, sm.trans s2, fun j h1 h2 => ?_⟩⟩
        by_cases z : j = 1 + i
        · subst z; exact c'
        · exact hno j h1 (by omega)
    · rintro σ H1 ⟨v, rfl, sm, hno⟩
      exact absurd hall (hno (2 ^ m - 1) (by omega) (by omega))
end
end K01
namespace K01
open PySem PySem.Spec L2 NB ER MKX
theorem kit_self {K : PySem.W.Frag} {D : Addr} : PySem.W.kitOne K (.ref D) (.ref D) = some true := by unfold PySem.W.kitOne; rw [if_pos (by simp)]
section
variable {P : Program} {w : World} {K : PySem.W.Frag} {mg : Str → Option Value} {base : Heap}
open FLD
/-- what is due of a field that is made -/
def due (m q : Int) (t : Addr) (H : Hp) : Prop := ∃ a b : Bool, ∃ z : Int, H t = some (.tup [.bl a, .bl b, .int z]) ∧ ((a = true ∧ b = false ∧ z = m ∧ ¬ (2 ≤ m ∧ m ≤ 8)) ∨ (a = false ∧ b = true ∧ z = q ∧ 2 ≤ m ∧ m ≤ 8 ∧ ¬ (0 ≤ q ∧ Fd m.toNat q.toNat)))
def sp_lmade : Sp := fun vs H Q _ => ∃ m q : Int, vs = [.int m, .int q] ∧ m.natAbs.log2 < 1920 ∧ q.natAbs.log2 < 1920 ∧ q.natAbs < 2 ^ 64 ∧
  (∀ t H', Same H H' → due m q t H' → Q (.ref t) H') ∧ (2 ≤ m → m ≤ 8 → 0 ≤ q → Fd m.toNat q.toNat → ∀ H', Same H H' → Q .non H')
theorem fl_same {H H2 : Hp} {x dx C : Addr} (nx : H x = none) (nd : H dx = none) (kp : ∀ b o, (upd (upd H dx (.own x)) x (.ins C dx [])) b = some o → b ≠ x → H2 b = some o) : Same H H2 := fun b o e =>
  kp b o (by rw [upd_ne (ne_of_none e nx), upd_ne (ne_of_none e nd)]; exact e) (ne_of_none e nx)
theorem ok__law_made {f f_Field___init__ f_init C_Field C_OutOfRange C_NotIrreducible C_HaulError : Addr} {fd fd_Field___init__ : FuncData} (D : Df K mg "_law_made" ["m", "modulus"] s__law_made f fd) (B : Bl mg)
    (M_Field : Mk K C_Field f_Field___init__) (g_Field : mg "Field" = some (.ref C_Field)) (b_Field___init__ : Binds K fd_Field___init__ ["self", "m", "modulus"] [])
    (G_Field___init__ : FnOk P w K mg base (L2.CX P w) 8 f_Field___init__ fd_Field___init__ ["self", "m", "modulus"] (sp_finit C_Field C_OutOfRange C_NotIrreducible))
    (X_OutOfRange : XC K mg "OutOfRange" C_OutOfRange f_init C_HaulError) (X_NotIrreducible : XC K mg "NotIrreducible" C_NotIrreducible f_init C_HaulError) (X_HaulError : XC K mg "HaulError" C_HaulError f_init C_HaulError)
    (k12 : PySem.W.kitOne K (.ref C_OutOfRange) (.ref C_NotIrreducible) = some false) (k21 : PySem.W.kitOne K (.ref C_NotIrreducible) (.ref C_OutOfRange) = some false) : FnOk P w K mg base CX0 10 f fd ["m", "modulus"] sp_lmade := by
  refine D.F.ok sc__law_made (fun vs H Q E h => ?_) (fun cdv A outer s H vs Q E hr h => ?_)
  · obtain ⟨m, q, rfl, _⟩ := h; rfl
  · obtain ⟨m, q, rfl, hm, hq, hq64, kT, kN⟩ := h
    refine ⟨_, (C8.pss_cut (ps_tryE (i := 2) rfl rfl sc__law_made.nd rfl rfl ⟨rfl, by decide, Or.inl X_HaulError.g⟩ takes0 (fun W pn xe tk po => (pss_one (ps_expr (pe_mkS M_Field G_Field___init__ (hr.mono (by decide)) rfl g_Field b_Field___init__ (fun σ => passAt tk σ) (by exact (pa_cons (pv 0) (pa_cons (pv 1) pa_nil))))))) (fun a oe cls d pn hz hf => (pss_one (ps_ret (pe_tup (pa_cons (pe_callB (call_isE hz hf) (by rfl) B.isinstance (by decide +kernel) (pa_cons (pv 2) (pa_cons (pe_glob (v := .ref C_OutOfRange) rfl X_OutOfRange.g rfl) pa_nil))) (pa_cons (pe_callB (call_isE hz hf) (by rfl) B.isinstance (by decide +kernel) (pa_cons (pv 2) (pa_cons (pe_glob (v := .ref C_NotIrreducible) rfl X_NotIrreducible.g rfl) pa_nil))) (pa_cons (pe_at hz hf (pv 2)) pa_nil))))))))
      (pss_one (ps_ret pe_non))), ?_⟩
    refine ⟨fun σ H' => Same H H' ∧ 2 ≤ m ∧ m ≤ 8 ∧ 0 ≤ q ∧ Fd m.toNat q.toNat, ?_, ?_⟩
    · refine ⟨_, rfl, _, rfl, fun x dx nx nd ne => ?_⟩
      have sm0 : Same H (upd (upd H dx (.own x)) x (.ins C_Field dx [])) := fun b o e => by rw [upd_ne (ne_of_none e nx), upd_ne (ne_of_none e nd)]; exact e
      refine ⟨x, dx, m, q, rfl, upd_same, hm, hq, hq64, fun hb d hd => ?_, fun h2 h8 hb d H' s1 hd => ?_, fun mn qn r e1 e2 F H' kp FA => ⟨rfl, fl_same nx nd kp, ?_⟩⟩
      · refine ⟨true, X_OutOfRange.te, fun _ a na => ?_, (fun z => nomatch z)⟩
        refine ⟨_, rfl, C_OutOfRange, .ref C_OutOfRange, .ref C_OutOfRange, true, d, _, rfl, rfl, ⟨_, _, _, _, X_OutOfRange⟩, rfl, upd_same, fun u r => r, kit_self, ?_⟩
        refine ⟨_, rfl, C_OutOfRange, .ref C_NotIrreducible, .ref C_NotIrreducible, false, d, _, rfl, rfl, ⟨_, _, _, _, X_OutOfRange⟩, rfl, upd_same, fun u r => r, k12, ?_⟩
        refine ⟨_, rfl, C_OutOfRange, d, _, rfl, rfl, ⟨_, _, _, _, X_OutOfRange⟩, rfl, upd_same, (by show 3 ≤ sizeLine; decide), fun t nt => ?_⟩
        exact kT t _ (same_new (same_new sm0 hd) nt) ⟨true, false, m, upd_same, .inl ⟨rfl, rfl, rfl, hb⟩⟩
      · refine ⟨true, X_NotIrreducible.te, fun _ a na => ?_, (fun z => nomatch z)⟩
        refine ⟨_, rfl, C_NotIrreducible, .ref C_OutOfRange, .ref C_OutOfRange, false, d, _, rfl, rfl, ⟨_, _, _, _, X_NotIrreducible⟩, rfl, upd_same, fun u r => r, k21, ?_⟩
        refine ⟨_, rfl, C_NotIrreducible, .ref C_NotIrreducible, .ref C_NotIrreducible, true, d, _, rfl, rfl, ⟨_, _, _, _, X_NotIrreducible⟩, rfl, upd_same, fun u r => r, kit_self, ?_⟩
        refine ⟨_, rfl, C_NotIrreducible, d, _, rfl, rfl, ⟨_, _, _, _, X_NotIrreducible⟩, rfl, upd_same, (by show 3 ≤ sizeLine; decide), fun t nt => ?_⟩
        exact kT t _ (same_new (same_new (sm0.trans s1) hd) nt) ⟨false, true, q, upd_same, .inr ⟨rfl, rfl, rfl, h2, h8, hb⟩⟩
      · subst e1 e2
        have h2 := F.h2; have h8 := F.h8
        exact ⟨by omega, by omega, by omega, F⟩
    · rintro σ H' ⟨sm, h2, h8, h0, F⟩
      exact kN h2 h8 h0 F H' sm
theorem eqv_t3 (a b : Bool) (z : Int) : PyData.eqv (.tuple [.bool a, .bool b, .int z]) (.tuple [.bool a, .bool b, .int z]) = true := by simp [PyData.eqv, PyData.eqvAll]
def sp_lrefused : Sp := fun vs H Q _ => ∃ m q : Int, vs = [.int m, .int q] ∧ 0 ≤ m ∧ m ≤ 1000 ∧ -1000 ≤ q ∧ q < 2 ^ 32 ∧ ∀ H', Same H H' → Q (.bl true) H'
theorem log_small2 {m : Int} (h : m.natAbs < 2 ^ 64) : m.natAbs.log2 < 1920 := by
  by_cases h0 : m.natAbs = 0
  · rw [h0]; decide
  · exact Nat.lt_of_lt_of_le ((Nat.log2_lt (k := 64) h0).mpr h) (by decide)
theorem ok__law_refused {f f__law_made f__law_degree f__law_irreducible : Addr} {fd fd__law_made fd__law_degree fd__law_irreducible : FuncData} (D : Df K mg "_law_refused" ["m", "modulus"] s__law_refused f fd) (B : Bl mg)
    (D__law_made : Df K mg "_law_made" ["m", "modulus"] s__law_made f__law_made fd__law_made) (G__law_made : FnOk P w K mg base CX0 10 f__law_made fd__law_made ["m", "modulus"] sp_lmade)
    (D__law_degree : Df K mg "_law_degree" ["p"] s__law_degree f__law_degree fd__law_degree) (G__law_degree : FnOk P w K mg base CX0 1 f__law_degree fd__law_degree ["p"] sp_ldegree)
    (D__law_irreducible : Df K mg "_law_irreducible" ["p"] s__law_irreducible f__law_irreducible fd__law_irreducible) (G__law_irreducible : FnOk P w K mg base CX0 3 f__law_irreducible fd__law_irreducible ["p"] sp_lirr) :
    FnOk P w K mg base CX0 11 f fd ["m", "modulus"] sp_lrefused := by
  refine D.F.ok sc__law_refused (fun vs H Q E h => ?_) (fun cdv A outer s H vs Q E hr h => ?_)
  · obtain ⟨m, q, rfl, _⟩ := h; rfl
  · obtain ⟨m, q, rfl, hm0, hm1, hq0, hq1, k⟩ := h
    refine ⟨_, (pss_cons (ps_set (i := 2) sc__law_refused.nd rfl (Or.inl rfl) (pe_call G__law_made (hr.mono (by decide)) rfl D__law_made.g D__law_made.F.kp D__law_made.b .nil pass0 (pa_cons (pv 0) (pa_cons (pv 1) pa_nil))))
      (pss_cons (ps_if (pt_not (pt_chain op_le op_le (pe_nat 2) (pv 0) (pe_nat 8))) (pss_one (ps_ret (pe_cmpR (op_eqD hr.units) (pv 2) (pe_tup (pa_cons pe_bl (pa_cons pe_bl (pa_cons (pv 0) pa_nil)))) (nomark _)))) pss_nil)
      (pss_cons (ps_if (PW.pt (pw_or (pt_cmpR op_lt (pv 1) (pe_nat 0) (nomark _)) (pw_or (pt_cmpR op_ne (pe_call G__law_degree (hr.mono (by decide)) rfl D__law_degree.g D__law_degree.F.kp D__law_degree.b .nil pass0 (pa_cons (pv 1) pa_nil)) (pv 0) (nomark _)) (pw_or1 (pt_not (pt_val (pe_call G__law_irreducible (hr.mono (by decide)) rfl D__law_irreducible.g D__law_irreducible.F.kp D__law_irreducible.b .nil pass0 (pa_cons (pv 1) pa_nil)))))))) (pss_one (ps_ret (pe_cmpR (op_eqD hr.units) (pv 2) (pe_tup (pa_cons pe_bl (pa_cons pe_bl (pa_cons (pv 1) pa_nil)))) (nomark _)))) pss_nil)
      (pss_one (ps_ret (pe_cmpR op_isN (pv 2) pe_non (nomark _))))))), ?_⟩
    refine ⟨_, rfl, _, rfl, m, q, rfl, log_small2 (by omega), log_small2 (by omega), by omega, fun t H1 s1 hdue => ?_, fun h2 h8 h0 F H1 s1 => ?_⟩
    · obtain ⟨a, b, z, ht, hc⟩ := hdue
      rcases hc with ⟨rfl, rfl, rfl, hb⟩ | ⟨rfl, rfl, rfl, h2, h8, hb⟩
      · have hfin : ∀ {H2 : Hp}, Same H H2 → H2 t = some (.tup [.bl true, .bl false, .int z]) → tRet (tOp (rEqD K) (tVar 2) (tTup (tCons (tC (.bl true)) (tCons (tC (.bl false)) (tCons (tVar 0) tNil))))) { nx := fun _ H' => Q .non H', rt := Q } [some (.int z), some (.int q), some (.ref t)] H2 := fun {H2} sm h2 => by
          refine ⟨_, rfl, _, rfl, (by show 3 ≤ sizeLine; decide), fun u nu => ?_⟩
          refine ⟨.tuple [.bool true, .bool false, .int z], .tuple [.bool true, .bool false, .int z], .tup (SqT.of (by rw [upd_ne (ne_of_none h2 nu)]; exact h2)) (.cons (.bl _) (.cons (.bl _) (.cons (.int _) .nil))), .tup (SqT.of upd_same) (.cons (.bl _) (.cons (.bl _) (.cons (.int _) .nil))), rfl, rfl, ?_⟩
          rw [eqv_t3]
          exact k _ (same_new sm nu)
        refine ⟨_, rfl, _, _, rfl, rfl, _, rfl, iteD (fun c1 => ⟨_, _, rfl, rfl, _, rfl, iteN (fun c2 => ?_) (fun c2 => absurd (show 2 ≤ z ∧ z ≤ 8 from ⟨c1, c2⟩) hb)⟩) (fun c1 => ⟨_, rfl, iteT ?_⟩)⟩
        · exact hfin s1 ht
        · exact hfin s1 ht
      · have hfin : ∀ {H2 : Hp}, Same H H2 → H2 t = some (.tup [.bl false, .bl true, .int z]) → tRet (tOp (rEqD K) (tVar 2) (tTup (tCons (tC (.bl false)) (tCons (tC (.bl true)) (tCons (tVar 1) tNil))))) { nx := fun _ H' => Q .non H', rt := Q } [some (.int m), some (.int z), some (.ref t)] H2 := fun {H2} sm h2 => by
          refine ⟨_, rfl, _, rfl, (by show 3 ≤ sizeLine; decide), fun u nu => ?_⟩
          refine ⟨.tuple [.bool false, .bool true, .int z], .tuple [.bool false, .bool true, .int z], .tup (SqT.of (by rw [upd_ne (ne_of_none h2 nu)]; exact h2)) (.cons (.bl _) (.cons (.bl _) (.cons (.int _) .nil))), .tup (SqT.of upd_same) (.cons (.bl _) (.cons (.bl _) (.cons (.int _) .nil))), rfl, rfl, ?_⟩
          rw [eqv_t3]
          exact k _ (same_new sm nu)
        refine ⟨_, rfl, _, _, rfl, rfl, _, rfl, iteY h2 ⟨_, _, rfl, rfl, _, rfl, iteNS h8 ?_⟩⟩
        refine ⟨_, rfl, _, _, rfl, rfl, _, rfl, iteD (fun c => iteT (hfin s1 ht)) (fun c => ?_)⟩
        have c3 : ¬ z < 0 := c
        obtain ⟨qn, rfl⟩ := Int.eq_ofNat_of_zero_le (show 0 ≤ z by omega)
        obtain ⟨mn, rfl⟩ := Int.eq_ofNat_of_zero_le hm0
        refine ⟨_, rfl, qn, rfl, by omega, _, rfl, rfl, _, rfl, iteN (fun c => iteT (hfin s1 ht)) (fun c => ?_)⟩
        have c4 : (NB.bits qn : Int) - 1 = (mn : Int) := V.int.inj c
        have hq0 : qn ≠ 0 := fun w => by subst w; unfold NB.bits at c4; simp at c4
        have hb2 := bits_pos hq0
        refine ⟨_, rfl, qn, rfl, by omega, fun b H2 hb1 s2 => ⟨b, rfl, ?_⟩⟩
        cases b with
        | false => exact iteT (hfin (s1.trans s2) (s2 _ _ ht))
        | true => exact absurd ⟨by omega, by omega, by omega, hb1.mp rfl, by show qn.log2 = mn; omega⟩ hb
    · obtain ⟨qn, rfl⟩ := Int.eq_ofNat_of_zero_le h0
      obtain ⟨mn, rfl⟩ := Int.eq_ofNat_of_zero_le hm0
      have F' : Fd mn qn := F
      have hq0 := q0 F'
      have hb2 := bits_pos hq0
      have hlg := F'.lg
      refine ⟨_, rfl, _, _, rfl, rfl, _, rfl, iteY h2 ⟨_, _, rfl, rfl, _, rfl, iteNS h8 ?_⟩⟩
      refine ⟨_, rfl, _, _, rfl, rfl, _, rfl, iteX (by omega) ?_⟩
      refine ⟨_, rfl, qn, rfl, by omega, _, rfl, rfl, _, rfl, iteNS (congrArg V.int (by omega)) ?_⟩
      refine ⟨_, rfl, qn, rfl, by omega, fun b H2 hb1 s2 => ⟨b, rfl, ?_⟩⟩
      have : b = true := hb1.mpr F'.irr
      subst this
      refine iteF ?_
      exact ⟨_, rfl, rfl, k H2 (s1.trans s2)⟩
end
end K01
namespace K01
open PySem PySem.Spec L2 NB ER MKX
section
variable {P : Program} {w : World} {K : PySem.W.Frag} {mg : Str → Option Value} {base : Heap}
open FLD
theorem fno (m q : Nat) (a b c : Addr) : (ffl m q a b c).lookup ("inverse" : Str) = none ∧ (ffl m q a b c).lookup ("power" : Str) = none ∧ (ffl m q a b c).lookup ("order" : Str) = none ∧ (ffl m q a b c).lookup ("add" : Str) = none ∧ (ffl m q a b c).lookup ("times" : Str) = none ∧
    (ffl m q a b c).lookup ("root" : Str) = none ∧ (ffl m q a b c).lookup ("bits" : Str) = none ∧ (ffl m q a b c).lookup ("modulus" : Str) = none ∧ (ffl m q a b c).lookup ("size" : Str) = none := by
  refine ⟨?_, ?_, ?_, ?_, ?_, ?_, ?_, ?_, ?_⟩ <;> exact ffl_no m q a b c (by decide +kernel) (by decide +kernel) (by decide +kernel) (by decide +kernel) (by decide +kernel)
/-- the class Field with the methods that are used: where they stand, and what they keep -/
structure FM (P : Program) (w : World) (K : PySem.W.Frag) (mg : Str → Option Value) (base : Heap) (C C3 : Addr) : Prop where
  fc : FC K C
  bits : ∃ f fd, Meth K C "bits" f ∧ Binds K fd ["self"] [] ∧ FnOk P w K mg base CX0 1 f fd ["self"] (sp_fbits C)
  modulus : ∃ f fd, Meth K C "modulus" f ∧ Binds K fd ["self"] [] ∧ FnOk P w K mg base CX0 1 f fd ["self"] (sp_fmodulus C)
  size : ∃ f fd, Meth K C "size" f ∧ Binds K fd ["self"] [] ∧ FnOk P w K mg base CX0 1 f fd ["self"] (sp_fsize C)
  root : ∃ f fd, Meth K C "root" f ∧ Binds K fd ["self"] [] ∧ FnOk P w K mg base CX0 1 f fd ["self"] (sp_froot C)
  add : ∃ f fd, Meth K C "add" f ∧ Binds K fd ["self", "e", "f"] [] ∧ FnOk P w K mg base CX0 1 f fd ["self", "e", "f"] sp_fadd
  times : ∃ f fd, Meth K C "times" f ∧ Binds K fd ["self", "e", "f"] [] ∧ FnOk P w K mg base CX0 1 f fd ["self", "e", "f"] (sp_ftimes C)
  log : ∃ f fd, Meth K C "log" f ∧ Binds K fd ["self", "e"] [] ∧ FnOk P w K mg base (L2.CX P w) 3 f fd ["self", "e"] (sp_flog C C3)
  inverse : ∃ f fd, Meth K C "inverse" f ∧ Binds K fd ["self", "e"] [] ∧ FnOk P w K mg base (L2.CX P w) 4 f fd ["self", "e"] (sp_finverse C C3)
  power : ∃ f fd, Meth K C "power" f ∧ Binds K fd ["self", "e", "k"] [] ∧ FnOk P w K mg base (L2.CX P w) 4 f fd ["self", "e", "k"] (sp_fpower C C3)
  order : ∃ f fd, Meth K C "order" f ∧ Binds K fd ["self", "e"] [] ∧ FnOk P w K mg base (L2.CX P w) 4 f fd ["self", "e"] (sp_forder C C3)
def sp_lnoinv (C : Addr) : Sp := fun vs H Q _ => ∃ (p : Addr) (m q r : Nat), vs = [.ref p] ∧ FieldAt C H p m q r ∧ ∀ H', Same H H' → Q (.bl true) H'
theorem ok__law_no_inverse {f f_init C C_NoInverse C_HaulError : Addr} {fd : FuncData} (D : Df K mg "_law_no_inverse" ["field"] s__law_no_inverse f fd) (B : Bl mg) (M : FM P w K mg base C C_NoInverse)
    (X_NoInverse : XC K mg "NoInverse" C_NoInverse f_init C_HaulError) (X_HaulError : XC K mg "HaulError" C_HaulError f_init C_HaulError) : FnOk P w K mg base CX0 5 f fd ["field"] (sp_lnoinv C) := by
  obtain ⟨f_i, fd_i, M_Field_inverse, b_Field_inverse, G_Field_inverse⟩ := M.inverse
  obtain ⟨f_p, fd_p, M_Field_power, b_Field_power, G_Field_power⟩ := M.power
  obtain ⟨f_o, fd_o, M_Field_order, b_Field_order, G_Field_order⟩ := M.order
  obtain ⟨f_l, fd_l, M_Field_log, b_Field_log, G_Field_log⟩ := M.log
  have K_Field := M.fc.cl
  refine D.F.ok sc__law_no_inverse (fun vs H Q E h => ?_) (fun cdv A outer s H vs Q E hr h => ?_)
  · obtain ⟨p, m, q, r, rfl, _⟩ := h; rfl
  · obtain ⟨p, m, q, r, rfl, FA, k⟩ := h
    refine ⟨_, (pss_cons (ps_set (i := 1) sc__law_no_inverse.nd rfl (Or.inl rfl) (pe_nat 0))
      (pss_cons (ps_for PassesOwn.never rfl (pi_range1 rfl B.range (pa_cons (pe_nat 4) pa_nil)) (pg_name (i := 2) sc__law_no_inverse.nd rfl (Or.inl rfl) (Or.inr rfl))
        (pss_one (ps_tryE (i := 3) rfl rfl sc__law_no_inverse.nd rfl rfl ⟨rfl, by decide, Or.inl X_HaulError.g⟩ takes0 (fun W pn xe tk po => (pss_one (ps_if (pt_cmpR op_eq (pv 2) (pe_nat 0) (nomark _)) (pss_one (ps_expr (pe_mtS (pv 0) K_Field M_Field_inverse G_Field_inverse (hr.mono (by decide)) b_Field_inverse (fun σ => passAt tk σ) (by exact (pa_cons (pe_nat 0) pa_nil))))) (pss_one (ps_if (pt_cmpR op_eq (pv 2) (pe_nat 1) (nomark _)) (pss_one (ps_expr (pe_mtS (pv 0) K_Field M_Field_power G_Field_power (hr.mono (by decide)) b_Field_power (fun σ => passAt tk σ) (by exact (pa_cons (pe_nat 0) (pa_cons (pe_un un_neg (pe_nat 1)) pa_nil)))))) (pss_one (ps_if (pt_cmpR op_eq (pv 2) (pe_nat 2) (nomark _)) (pss_one (ps_expr (pe_mtS (pv 0) K_Field M_Field_order G_Field_order (hr.mono (by decide)) b_Field_order (fun σ => passAt tk σ) (by exact (pa_cons (pe_nat 0) pa_nil))))) (pss_one (ps_expr (pe_mtS (pv 0) K_Field M_Field_log G_Field_log (hr.mono (by decide)) b_Field_log (fun σ => passAt tk σ) (by exact (pa_cons (pe_nat 0) pa_nil)))))))))))) (fun a oe cls d pn hz hf => (pss_one (ps_set (i := 1) sc__law_no_inverse.nd rfl (Or.inl rfl) (pe_op op_add (pv 1) (pe_callTy call_int1 (by rfl) B.int (by decide +kernel) (pa_cons (pe_and (pe_callB (call_isE hz hf) (by rfl) B.isinstance (by decide +kernel) (pa_cons (pv 3) (pa_cons (pe_glob (v := .ref C_NoInverse) rfl X_NoInverse.g rfl) pa_nil))) (pe_one (pe_cmpR op_eq (pe_at hz hf (pv 3)) (pe_nat 0) (nomark _)))) pa_nil)))))))))
      (pss_one (ps_ret (pe_and (pe_cmpR op_eq (pv 1) (pe_nat 4) (nomark _)) (pe_and (pe_cmpR op_eq (pe_meth (pv 0) K_Field M_Field_power G_Field_power (hr.mono (by decide)) b_Field_power .nil passL (by exact (pa_cons (pe_nat 0) (pa_cons (pe_nat 0) pa_nil)))) (pe_nat 1) (nomark _)) (pe_one (pe_cmpR op_eq (pe_meth (pv 0) K_Field M_Field_power G_Field_power (hr.mono (by decide)) b_Field_power .nil passL (by exact (pa_cons (pe_nat 0) (pa_cons (pe_nat 5) pa_nil)))) (pe_nat 0) (nomark _))))))))), ?_⟩
    have hpos : 0 < 2 ^ m := Nat.two_pow_pos m
    refine ⟨_, rfl, by omega, by omega, ?_⟩
    refine for_rangeN (lo := 0) (n := 4) (fun i σ H' => ∃ v : Option V, σ = [some (.ref p), some (.int (i : Int)), v, none] ∧ Same H H') ⟨none, rfl, Same.refl H⟩ ?_ ?_
    · rintro i σ H1 hi ⟨v, rfl, sm⟩
      rw [Nat.zero_add]
      have FA1 := FA.mono sm
      obtain ⟨dx, a, b, cc, logs, h1, h2, h3, h4, h5c, h6c⟩ := FA1.ex
      obtain ⟨n1, n2, n3, _⟩ := fno m q a b cc
      have n4 := flog_no m q a b cc
      have ne0 : ∀ j, pw q r j ≠ 0 := pw_ne FA.fd FA.lr.1.lt (r0 FA.fd FA.lr.1)
      -- what follows the error
      have suite : ∀ (D : Ends), (∀ σ' H', (∃ v : Option V, σ' = [some (.ref p), some (.int ((i + 1 : Nat) : Int)), v, none] ∧ Same H H') → D.nx σ' H') → ∀ d, H1 d = none → wAs K (.ref C_HaulError) 3 (fun a cls d => tAsg (tOp (rI0 fun i j => .int (i + j)) (tVar 1) (tCB (fun xs H Q => (∃ i, xs = [.int i] ∧ Q (.int i) H) ∨ ∃ k, xs = [.bl k] ∧ Q (.int (if k then 1 else 0)) H) (tCons (tAndV (tCB (rIsE K a cls d) (tCons (tVar 3) (tCons (tC (.ref C_NoInverse)) tNil))) (tOp rEq (tAt K a cls d (tVar 3)) (tC (.int ((0 : Nat) : Int))))) tNil))) (gName 1)) (fun _ _ _ _ => False)
          D (.ref C_NoInverse) (some d) [some (.ref p), some (.int (i : Int)), some (.int (i : Int)), none] (upd H1 d (.xd [("at", .int 0)])) := fun D hD d hd => by
        refine ⟨true, X_NoInverse.te, fun _ a na => ?_, (fun z => nomatch z)⟩
        refine ⟨_, rfl, _, rfl, C_NoInverse, .ref C_NoInverse, .ref C_NoInverse, true, d, _, rfl, rfl, ⟨_, _, _, _, X_NoInverse⟩, rfl, upd_same, fun u r => r, kit_self, true, rfl, iteT ?_⟩
        refine ⟨_, rfl, C_NoInverse, d, _, rfl, rfl, ⟨_, _, _, _, X_NoInverse⟩, rfl, upd_same, rfl, .inr ⟨_, rfl, _, _, rfl, rfl, hD _ _ ⟨some (.int (i : Int)), ?_, same_new sm hd⟩⟩⟩
        rfl
      refine ⟨_, rfl, rfl, _, rfl, iteD (fun c => ?_) (fun c => ?_)⟩
      · refine ⟨_, rfl, p, dx, _, rfl, h1, n1, p, 0, m, q, r, rfl, FA1, hpos, fun _ d hd => suite _ (fun _ _ h => h) d hd, fun v _ _ hv => ?_⟩
        rw [mulm_zero FA.fd] at hv
        exact absurd hv (by decide)
      · refine ⟨_, rfl, rfl, _, rfl, iteD (fun c => ?_) (fun c => ?_)⟩
        · exact ⟨_, rfl, p, dx, _, rfl, h1, n2, _, rfl, p, 0, m, q, r, -((1 : Nat) : Int), rfl, FA1, hpos, fun _ z => absurd z (by decide), fun _ z => absurd z (by decide), fun _ _ d hd => suite _ (fun _ _ h => h) d hd, fun j _ ej => absurd ej (ne0 j)⟩
        · refine ⟨_, rfl, rfl, _, rfl, iteD (fun c => ?_) (fun c => ?_)⟩
          · exact ⟨_, rfl, p, dx, _, rfl, h1, n3, p, 0, m, q, r, rfl, FA1, hpos, fun _ d hd => suite _ (fun _ _ h => h) d hd, fun j _ ej => absurd ej (ne0 j)⟩
          · exact ⟨_, rfl, p, dx, _, rfl, h1, n4, p, 0, m, q, r, rfl, FA1, hpos, fun _ d hd => suite _ (fun _ _ h => h) d hd, fun j _ ej => absurd ej (ne0 j)⟩
    · rintro σ H1 ⟨v, rfl, sm⟩
      have FA1 := FA.mono sm
      obtain ⟨dx, a, b, cc, logs, h1, h2, h3, h4, h5c, h6c⟩ := FA1.ex
      obtain ⟨n1, n2, n3, _⟩ := fno m q a b cc
      have ne0 : ∀ j, pw q r j ≠ 0 := pw_ne FA.fd FA.lr.1.lt (r0 FA.fd FA.lr.1)
      refine ⟨_, rfl, rfl, _, rfl, iteY rfl ?_⟩
      refine ⟨_, rfl, p, dx, _, rfl, h1, n2, p, 0, m, q, r, ((0 : Nat) : Int), rfl, FA1, hpos, fun _ _ => ⟨rfl, _, rfl, iteY rfl ?_⟩, fun _ z => absurd z (by decide), fun _ z => absurd z (by decide), fun j _ ej => absurd ej (ne0 j)⟩
      refine ⟨_, rfl, p, dx, _, rfl, h1, n2, p, 0, m, q, r, ((5 : Nat) : Int), rfl, FA1, hpos, fun _ z => absurd z (by decide), fun _ _ => ⟨rfl, k H1 sm⟩, fun _ z => absurd z (by decide), fun j _ ej => absurd ej (ne0 j)⟩
/-- a field's element, as the law asks -/
def sp_lelement (C : Addr) : Sp := fun vs H Q _ => ∃ (p : Addr) (m q r e f : Nat) (k : Int), vs = [.ref p, .int (m : Int), .int (q : Int), .int (e : Int), .int (f : Int), .int k] ∧ FieldAt C H p m q r ∧ e < 2 ^ m ∧ f < 2 ^ m ∧ ∀ H', Same H H' → Q (.bl true) H'
theorem ok__law_element {f f__law_product f__law_order f__law_power C C3 : Addr} {fd fd__law_product fd__law_order fd__law_power : FuncData} (D : Df K mg "_law_element" ["field", "m", "modulus", "e", "f", "k"] s__law_element f fd) (B : Bl mg) (M : FM P w K mg base C C3)
    (D__law_product : Df K mg "_law_product" ["modulus", "e", "f"] s__law_product f__law_product fd__law_product) (G__law_product : FnOk P w K mg base CX0 3 f__law_product fd__law_product ["modulus", "e", "f"] sp_lproduct)
    (D__law_order : Df K mg "_law_order" ["modulus", "e"] s__law_order f__law_order fd__law_order) (G__law_order : FnOk P w K mg base CX0 4 f__law_order fd__law_order ["modulus", "e"] sp_lorder)
    (D__law_power : Df K mg "_law_power" ["modulus", "e", "k"] s__law_power f__law_power fd__law_power) (G__law_power : FnOk P w K mg base CX0 4 f__law_power fd__law_power ["modulus", "e", "k"] sp_lpower) :
    FnOk P w K mg base CX0 5 f fd ["field", "m", "modulus", "e", "f", "k"] (sp_lelement C) := by
  obtain ⟨f_i, fd_i, M_Field_inverse, b_Field_inverse, G_Field_inverse⟩ := M.inverse
  obtain ⟨f_p, fd_p, M_Field_power, b_Field_power, G_Field_power⟩ := M.power
  obtain ⟨f_o, fd_o, M_Field_order, b_Field_order, G_Field_order⟩ := M.order
  obtain ⟨f_l, fd_l, M_Field_log, b_Field_log, G_Field_log⟩ := M.log
  obtain ⟨f_a, fd_a, M_Field_add, b_Field_add, G_Field_add⟩ := M.add
  obtain ⟨f_t, fd_t, M_Field_times, b_Field_times, G_Field_times⟩ := M.times
  obtain ⟨f_r, fd_r, M_Field_root, b_Field_root, G_Field_root⟩ := M.root
  have K_Field := M.fc.cl
  refine D.F.ok sc__law_element (fun vs H Q E h => ?_) (fun cdv A outer s H vs Q E hr h => ?_)
  · obtain ⟨p, m, q, r, e, f, k, rfl, _⟩ := h; rfl
  · obtain ⟨p, m, q, r, e, f, k, rfl, FA, he, hf, kQ⟩ := h
    refine ⟨_, (pss_cons (ps_if (PW.pt (pw_or (pt_cmpR op_ne (pe_meth (pv 0) K_Field M_Field_add G_Field_add (hr.mono (by decide)) b_Field_add .nil pass0 (by exact (pa_cons (pv 3) (pa_cons (pv 4) pa_nil)))) (pe_op nb_xor (pv 3) (pv 4)) (nomark _)) (pw_or1 (pt_cmpR op_ne (pe_meth (pv 0) K_Field M_Field_times G_Field_times (hr.mono (by decide)) b_Field_times .nil pass0 (by exact (pa_cons (pv 3) (pa_cons (pv 4) pa_nil)))) (pe_call G__law_product (hr.mono (by decide)) rfl D__law_product.g D__law_product.F.kp D__law_product.b .nil pass0 (pa_cons (pv 2) (pa_cons (pv 3) (pa_cons (pv 4) pa_nil)))) (nomark _))))) (pss_one (ps_ret pe_bl)) pss_nil)
      (pss_cons (ps_if (pt_cmpR op_eq (pv 3) (pe_nat 0) (nomark _)) (pss_one (ps_ret pe_bl)) pss_nil)
      (pss_cons (ps_set (i := 6) sc__law_element.nd rfl (Or.inl rfl) (pe_op nb_sub (pe_op nb_shl (pe_nat 1) (pv 1)) (pe_nat 1)))
      (pss_cons (ps_if (PW.pt (pw_or (pt_cmpR op_ne (pe_call G__law_product (hr.mono (by decide)) rfl D__law_product.g D__law_product.F.kp D__law_product.b .nil pass0 (pa_cons (pv 2) (pa_cons (pe_meth (pv 0) K_Field M_Field_inverse G_Field_inverse (hr.mono (by decide)) b_Field_inverse .nil passL (by exact (pa_cons (pv 3) pa_nil))) (pa_cons (pv 3) pa_nil)))) (pe_nat 1) (nomark _)) (pw_or1 (pt_not (pt_chain op_lt op_le (pe_nat 0) (pe_meth (pv 0) K_Field M_Field_inverse G_Field_inverse (hr.mono (by decide)) b_Field_inverse .nil passL (by exact (pa_cons (pv 3) pa_nil))) (pv 6)))))) (pss_one (ps_ret pe_bl)) pss_nil)
      (pss_cons (ps_set (i := 7) sc__law_element.nd rfl (Or.inl rfl) (pe_call G__law_order (hr.mono (by decide)) rfl D__law_order.g D__law_order.F.kp D__law_order.b .nil pass0 (pa_cons (pv 2) (pa_cons (pv 3) pa_nil))))
      (pss_cons (ps_if (PW.pt (pw_or (pt_cmpR op_ne (pe_meth (pv 0) K_Field M_Field_order G_Field_order (hr.mono (by decide)) b_Field_order .nil passL (by exact (pa_cons (pv 3) pa_nil))) (pv 7) (nomark _)) (pw_or1 (pt_cmpR op_ne (pe_meth (pv 0) K_Field M_Field_power G_Field_power (hr.mono (by decide)) b_Field_power .nil passL (by exact (pa_cons (pv 3) (pa_cons (pv 5) pa_nil)))) (pe_call G__law_power (hr.mono (by decide)) rfl D__law_power.g D__law_power.F.kp D__law_power.b .nil pass0 (pa_cons (pv 2) (pa_cons (pv 3) (pa_cons (pe_op nb_modI (pv 5) (pv 7)) pa_nil)))) (nomark _))))) (pss_one (ps_ret pe_bl)) pss_nil)
      (pss_cons (ps_set (i := 8) sc__law_element.nd rfl (Or.inl rfl) (pe_meth (pv 0) K_Field M_Field_log G_Field_log (hr.mono (by decide)) b_Field_log .nil passL (by exact (pa_cons (pv 3) pa_nil))))
      (pss_one (ps_ret (pe_and (pe_chain op_le op_lt (pe_nat 0) (pv 8) (pv 6)) (pe_one (pe_cmpR op_eq (pe_call G__law_power (hr.mono (by decide)) rfl D__law_power.g D__law_power.F.kp D__law_power.b .nil pass0 (pa_cons (pv 2) (pa_cons (pe_meth0 (pv 0) K_Field M_Field_root G_Field_root (hr.mono (by decide)) b_Field_root .nil pass0) (pa_cons (pv 8) pa_nil)))) (pv 3) (nomark _))))))))))))), ?_⟩
    have F := FA.fd
    have R := FA.lr.1
    have hq5 := q_512 F
    have hqq := q0 F
    have hm8 := F.h8
    obtain ⟨hm4, hm256⟩ := pow_m F
    obtain ⟨dx, a, b, cc, logs, h1, h2, h3, h4, h5c, h6c⟩ := FA.ex
    obtain ⟨n1, n2, n3, n5, n6, n7, _⟩ := fno m q a b cc
    have n4 := flog_no m q a b cc
    -- add, times
    refine ⟨_, rfl, p, dx, _, rfl, h1, n5, _, rfl, _, rfl, p, e, f, rfl, _, rfl, _, rfl, _, _, rfl, rfl, rfl, _, rfl, iteNS rfl ?_⟩
    refine ⟨_, rfl, p, dx, _, rfl, h1, n6, _, rfl, _, rfl, p, e, f, m, q, r, rfl, FA, he, hf, _, rfl, _, rfl, _, rfl, q, e, f, rfl, hqq, by omega, by omega, by omega, fun H1 s1 => ⟨rfl, _, rfl, iteNS rfl ?_⟩⟩
    refine ⟨_, rfl, rfl, _, rfl, iteD (fun c => kQ H1 s1) (fun c => ?_)⟩
    have e0 : e ≠ 0 := fun z => c (by rw [z])
    obtain ⟨j, hj, ej⟩ := log_ex F R e0 he
    have FA1 := FA.mono s1
    have g1 := s1 _ _ h1
    refine ⟨_, rfl, _, _, rfl, rfl, ⟨by decide, by omega⟩, _, _, rfl, rfl, (by show 1 ≤ 2 ^ m * 1; omega), ?_⟩
    rw [Nat.mul_one]
    -- the inverse
    refine ⟨_, rfl, _, rfl, p, dx, _, rfl, g1, n1, _, rfl, p, e, m, q, r, rfl, FA1, he, fun z => absurd z e0, fun v v1 v2 v3 => ⟨_, rfl, q, v, e, rfl, hqq, by omega, by omega, by omega, fun H2 s2 => ⟨rfl, _, rfl, iteNS (by rw [v3]) ?_⟩⟩⟩
    have FA2 := FA1.mono s2
    have g2 := s2 _ _ g1
    refine ⟨_, rfl, p, dx, _, rfl, g2, n1, _, rfl, p, e, m, q, r, rfl, FA2, he, fun z => absurd z e0, fun v1' w1 w2 w3 => ⟨_, _, rfl, rfl, _, rfl, iteY (by show (0 : Int) < (v1' : Int); omega) ⟨_, rfl, _, _, rfl, rfl, _, rfl, iteNS (by show (v1' : Int) ≤ ((2 ^ m - 1 : Nat) : Int); omega) ?_⟩⟩⟩
    -- the order
    refine ⟨_, rfl, _, rfl, q, e, m, rfl, F, e0, he, fun per H3 p1 p2 p3 p4 s3 => ?_⟩
    have FA3 := FA2.mono s3
    have g3 := s3 _ _ g2
    have hper : (2 ^ m - 1) / Nat.gcd (2 ^ m - 1) j = per := by
      have d1 := (ord_iff F R j per).mp (by rw [ej]; exact p3)
      have hg : 0 < Nat.gcd (2 ^ m - 1) j := Nat.gcd_pos_of_pos_left _ (by omega)
      have d2 : 1 ≤ (2 ^ m - 1) / Nat.gcd (2 ^ m - 1) j := Nat.div_pos (Nat.gcd_le_left _ (by omega)) hg
      have d3 := (ord_iff F R j _).mpr (Nat.dvd_refl ((2 ^ m - 1) / Nat.gcd (2 ^ m - 1) j))
      rw [ej] at d3
      have d4 := Nat.le_of_dvd (by omega) d1
      apply Classical.byContradiction
      intro n
      exact p4 _ d2 (by omega) d3
    refine ⟨_, rfl, p, dx, _, rfl, g3, n3, _, rfl, p, e, m, q, r, rfl, FA3, he, fun z => absurd z e0, fun j1 i1 i2 => ?_⟩
    have ej1 : j = j1 := (pw_inj F R i1 hj (i2.trans ej.symm)).symm
    subst ej1
    rw [hper]
    refine ⟨_, rfl, rfl, _, rfl, iteNS rfl ?_⟩
    have hN : (0 : Int) < ((2 ^ m - 1 : Nat) : Int) := by omega
    refine ⟨_, rfl, p, dx, _, rfl, g3, n2, _, rfl, _, rfl, p, e, m, q, r, k, rfl, FA3, he, fun z => absurd z e0, fun z => absurd z e0, fun z => absurd z e0, fun j1 i1 i2 => ?_⟩
    have ej1 : j = j1 := (pw_inj F R i1 hj (i2.trans ej.symm)).symm
    subst ej1
    have ht1 := Int.emod_lt_of_pos k (show (0 : Int) < (per : Int) by omega)
    have ht0 := Int.emod_nonneg k (show (per : Int) ≠ 0 by omega)
    have hpk : pw q r (((j : Int) * k) % ((2 ^ m - 1 : Nat) : Int)).toNat = pw q e (k % (per : Int)).toNat := by
      rw [← ej, pw_pw F, pw_mod F R (j * (k % (per : Int)).toNat)]
      congr 1
      have hd : (2 ^ m - 1) ∣ j * per := (pw_one_iff F R _).mp (by rw [← pw_pw F, ej]; exact p3)
      obtain ⟨c, hc⟩ := hd
      have e1 : (j : Int) * k = (j : Int) * (k % (per : Int)) + ((2 ^ m - 1 : Nat) : Int) * ((c : Int) * (k / (per : Int))) := by
        have h5 : k = k % (per : Int) + (per : Int) * (k / (per : Int)) := (Int.emod_add_mul_ediv k (per : Int)).symm
        have h6 : (j : Int) * (per : Int) = ((2 ^ m - 1 : Nat) : Int) * (c : Int) := by rw [← Int.natCast_mul, ← Int.natCast_mul, hc]
        conv => lhs; rw [h5, Int.mul_add, ← Int.mul_assoc, h6, Int.mul_assoc]
      rw [e1, Int.add_mul_emod_self_left]
      have e2 : (j : Int) * (k % (per : Int)) = ((j * (k % (per : Int)).toNat : Nat) : Int) := by rw [Int.natCast_mul, Int.toNat_of_nonneg ht0]
      rw [e2, ← Int.natCast_emod, Int.toNat_natCast]
    refine ⟨_, rfl, _, rfl, _, rfl, _, rfl, _, _, rfl, rfl, (by show 0 < per; omega), q, e, (k % (per : Int)).toNat, m, rfl, F, he, by omega, fun H4 s4 => ?_⟩
    rw [hpk]
    refine ⟨rfl, _, rfl, iteNS rfl ?_⟩
    have FA4 := FA3.mono s4
    have g4 := s4 _ _ g3
    -- the logarithm
    refine ⟨_, rfl, p, dx, _, rfl, g4, n4, _, rfl, p, e, m, q, r, rfl, FA4, he, fun z => absurd z e0, fun j2 i3 i4 => ?_⟩
    refine ⟨_, rfl, _, _, rfl, rfl, _, rfl, iteY (by show (0 : Int) ≤ (j2 : Int); omega) ⟨_, rfl, _, _, rfl, rfl, _, rfl, iteY (by show (j2 : Int) < ((2 ^ m - 1 : Nat) : Int); omega) ?_⟩⟩
    refine ⟨_, rfl, _, rfl, p, dx, _, rfl, g4, n7, p, m, q, r, rfl, FA4, _, rfl, q, r, j2, m, rfl, F, R.lt, by omega, fun H5 s5 => ⟨_, rfl, rfl, ?_⟩⟩
    rw [i4, decide_eq_true rfl]
    exact kQ H5 ((((s1.trans s2).trans s3).trans s4).trans s5)
end
end K01
namespace K01
open PySem PySem.Spec L2 NB ER MKX
section
variable {P : Program} {w : World} {K : PySem.W.Frag} {mg : Str → Option Value} {base : Heap}
open FLD
theorem eqv_t3i (a b c : Int) : PyData.eqv (.tuple [.int a, .int b, .int c]) (.tuple [.int a, .int b, .int c]) = true := by simp [PyData.eqv, PyData.eqvAll]
def sp_law (K : PySem.W.Frag) : Sp := fun vs H Q _ => ∃ (a : Addr) (ns : List Int), vs = [.ref a] ∧ SqL K H a (ns.map V.int) ∧ ns.length ≤ 63 ∧ ∀ H', Q (.bl true) H'
theorem ok_law {f f__law_numbers f__law_refused f__law_modulus f_Field___init__ f__law_no_inverse f__law_order f__law_element C_Field C_OutOfRange C_NotIrreducible C_NoInverse : Addr} {fd fd__law_numbers fd__law_refused fd__law_modulus fd_Field___init__ fd__law_no_inverse fd__law_order fd__law_element : FuncData}
    (D : Df K mg "law" ["script"] s_law f fd) (B : Bl mg) (M : FM P w K mg base C_Field C_NoInverse)
    (D__law_numbers : Df K mg "_law_numbers" ["script", "many"] s__law_numbers f__law_numbers fd__law_numbers) (G__law_numbers : FnOk P w K mg base CX0 1 f__law_numbers fd__law_numbers ["script", "many"] (sp_numbers K))
    (D__law_refused : Df K mg "_law_refused" ["m", "modulus"] s__law_refused f__law_refused fd__law_refused) (G__law_refused : FnOk P w K mg base CX0 11 f__law_refused fd__law_refused ["m", "modulus"] sp_lrefused)
    (D__law_modulus : Df K mg "_law_modulus" ["m", "drawn"] s__law_modulus f__law_modulus fd__law_modulus) (G__law_modulus : FnOk P w K mg base CX0 4 f__law_modulus fd__law_modulus ["m", "drawn"] sp_lmodulus)
    (M_Field : Mk K C_Field f_Field___init__) (g_Field : mg "Field" = some (.ref C_Field)) (b_Field___init__ : Binds K fd_Field___init__ ["self", "m", "modulus"] [])
    (G_Field___init__ : FnOk P w K mg base (L2.CX P w) 8 f_Field___init__ fd_Field___init__ ["self", "m", "modulus"] (sp_finit C_Field C_OutOfRange C_NotIrreducible))
    (D__law_no_inverse : Df K mg "_law_no_inverse" ["field"] s__law_no_inverse f__law_no_inverse fd__law_no_inverse) (G__law_no_inverse : FnOk P w K mg base CX0 5 f__law_no_inverse fd__law_no_inverse ["field"] (sp_lnoinv C_Field))
    (D__law_order : Df K mg "_law_order" ["modulus", "e"] s__law_order f__law_order fd__law_order) (G__law_order : FnOk P w K mg base CX0 4 f__law_order fd__law_order ["modulus", "e"] sp_lorder)
    (D__law_element : Df K mg "_law_element" ["field", "m", "modulus", "e", "f", "k"] s__law_element f__law_element fd__law_element) (G__law_element : FnOk P w K mg base CX0 5 f__law_element fd__law_element ["field", "m", "modulus", "e", "f", "k"] (sp_lelement C_Field)) :
    FnOk P w K mg base CX0 12 f fd ["script"] (sp_law K) := by
  obtain ⟨f_b, fd_b, M_Field_bits, b_Field_bits, G_Field_bits⟩ := M.bits
  obtain ⟨f_m, fd_m, M_Field_modulus, b_Field_modulus, G_Field_modulus⟩ := M.modulus
  obtain ⟨f_s, fd_s, M_Field_size, b_Field_size, G_Field_size⟩ := M.size
  obtain ⟨f_r, fd_r, M_Field_root, b_Field_root, G_Field_root⟩ := M.root
  have K_Field := M.fc.cl
  refine D.F.ok sc_law (fun vs H Q E h => ?_) (fun cdv A outer s H vs Q E hr h => ?_)
  · obtain ⟨a, ns, rfl, _⟩ := h; rfl
  · obtain ⟨a, ns, rfl, hS, hl, k⟩ := h
    refine ⟨_, (pss_cons (ps_set (i := 1) sc_law.nd rfl (Or.inl rfl) (pe_call G__law_numbers (hr.mono (by decide)) rfl D__law_numbers.g D__law_numbers.F.kp D__law_numbers.b .nil pass0 (pa_cons (pv 0) (pa_cons (pe_nat 60) pa_nil))))
      (pss_cons (ps_for PassesOwn.never rfl (pi_range1 rfl B.range (pa_cons (pe_nat 3) pa_nil)) (pg_name (i := 2) sc_law.nd rfl (Or.inl rfl) (Or.inr rfl))
        (pss_cons (ps_set (i := 3) sc_law.nd rfl (Or.inl rfl) (pe_op nb_mod (pe_callTy call_int1 (by rfl) B.int (by decide +kernel) (pa_cons (pe_op nb_add (pe_ix ix_list (pv 1) (pv 2) (fun _ _ => rfl)) (pe_op nb_mul (pe_nat 65536) (pe_ix ix_list (pv 1) (pe_op nb_add (pe_nat 3) (pv 2)) (fun _ _ => rfl)))) pa_nil)) (pe_ix ix_list (pe_lst (pa_cons (pe_nat 40) (pa_cons (pe_nat 600) (pa_cons (pe_nat 5000000) pa_nil)))) (pv 2) (fun _ _ => rfl))))
        (pss_one (ps_if (pt_not (pt_val (pe_call G__law_refused (hr.mono (by decide)) rfl D__law_refused.g D__law_refused.F.kp D__law_refused.b .nil pass0 (pa_cons (pe_op nb_mod (pe_callTy call_int1 (by rfl) B.int (by decide +kernel) (pa_cons (pe_ix ix_list (pv 1) (pe_op nb_add (pe_nat 6) (pv 2)) (fun _ _ => rfl)) pa_nil)) (pe_nat 11)) (pa_cons (pe_op op_sub (pv 3) (pe_nat 3)) pa_nil))))) (pss_one (ps_ret pe_bl)) pss_nil))))
      (pss_cons (ps_set (i := 4) sc_law.nd rfl (Or.inl rfl) (pe_op nb_add (pe_nat 2) (pe_op nb_mod (pe_callTy call_int1 (by rfl) B.int (by decide +kernel) (pa_cons (pe_ix ix_list (pv 1) (pe_nat 9) (fun _ _ => rfl)) pa_nil)) (pe_nat 7))))
      (pss_cons (ps_set (i := 5) sc_law.nd rfl (Or.inl rfl) (pe_call G__law_modulus (hr.mono (by decide)) rfl D__law_modulus.g D__law_modulus.F.kp D__law_modulus.b .nil pass0 (pa_cons (pv 4) (pa_cons (pe_ix ix_list (pv 1) (pe_nat 10) (fun _ _ => rfl)) pa_nil))))
      (pss_cons (ps_if (pt_not (pt_val (pe_call G__law_refused (hr.mono (by decide)) rfl D__law_refused.g D__law_refused.F.kp D__law_refused.b .nil pass0 (pa_cons (pv 4) (pa_cons (pv 5) pa_nil))))) (pss_one (ps_ret pe_bl)) pss_nil)
      (pss_cons (ps_set (i := 6) sc_law.nd rfl (Or.inl rfl) (pe_make M_Field G_Field___init__ (hr.mono (by decide)) rfl g_Field b_Field___init__ .nil passL (by exact (pa_cons (pv 4) (pa_cons (pv 5) pa_nil)))))
      (pss_cons (ps_if (PW.pt (pw_or (pt_cmpR (op_neD hr.units) (pe_tup (pa_cons (pe_meth0 (pv 6) K_Field M_Field_bits G_Field_bits (hr.mono (by decide)) b_Field_bits .nil pass0) (pa_cons (pe_meth0 (pv 6) K_Field M_Field_modulus G_Field_modulus (hr.mono (by decide)) b_Field_modulus .nil pass0) (pa_cons (pe_meth0 (pv 6) K_Field M_Field_size G_Field_size (hr.mono (by decide)) b_Field_size .nil pass0) pa_nil)))) (pe_tup (pa_cons (pv 4) (pa_cons (pv 5) (pa_cons (pe_op nb_shl (pe_nat 1) (pv 4)) pa_nil)))) (nomark _)) (pw_or1 (pt_not (pt_val (pe_call G__law_no_inverse (hr.mono (by decide)) rfl D__law_no_inverse.g D__law_no_inverse.F.kp D__law_no_inverse.b .nil pass0 (pa_cons (pv 6) pa_nil))))))) (pss_one (ps_ret pe_bl)) pss_nil)
      (pss_cons (ps_for PassesOwn.never rfl (pi_range2 rfl B.range (pa_cons (pe_nat 1) (pa_cons (pe_op nb_add (pe_meth0 (pv 6) K_Field M_Field_root G_Field_root (hr.mono (by decide)) b_Field_root .nil pass0) (pe_nat 1)) pa_nil))) (pg_name (i := 7) sc_law.nd rfl (Or.inl rfl) (Or.inr rfl))
        (pss_one (ps_if (pt_cmpR op_ne (pe_cmpR op_eq (pe_call G__law_order (hr.mono (by decide)) rfl D__law_order.g D__law_order.F.kp D__law_order.b .nil pass0 (pa_cons (pv 5) (pa_cons (pv 7) pa_nil))) (pe_op nb_sub (pe_op nb_shl (pe_nat 1) (pv 4)) (pe_nat 1)) (nomark _)) (pe_cmpR op_eq (pv 7) (pe_meth0 (pv 6) K_Field M_Field_root G_Field_root (hr.mono (by decide)) b_Field_root .nil pass0) (nomark _)) (nomark _)) (pss_one (ps_ret pe_bl)) pss_nil)))
      (pss_cons (ps_for PassesOwn.never rfl (pi_range1 rfl B.range (pa_cons (pe_nat 6) pa_nil)) (pg_name (i := 2) sc_law.nd rfl (Or.inl rfl) (Or.inr rfl))
        (pss_cons (ps_set (i := 8) sc_law.nd rfl (Or.inl rfl) (pe_op nb_add (pe_nat 12) (pe_op nb_mul (pe_nat 4) (pv 2))))
        (pss_cons (ps_set (i := 7) sc_law.nd rfl (Or.inl rfl) (pe_op nb_mod (pe_callTy call_int1 (by rfl) B.int (by decide +kernel) (pa_cons (pe_ix ix_list (pv 1) (pv 8) (fun _ _ => rfl)) pa_nil)) (pe_op nb_shl (pe_nat 1) (pv 4))))
        (pss_cons (ps_set (i := 9) sc_law.nd rfl (Or.inl rfl) (pe_op nb_mod (pe_callTy call_int1 (by rfl) B.int (by decide +kernel) (pa_cons (pe_op nb_add (pe_ix ix_list (pv 1) (pe_op nb_add (pv 8) (pe_nat 3)) (fun _ _ => rfl)) (pe_op nb_mul (pe_nat 65536) (pe_ix ix_list (pv 1) (pe_op nb_add (pv 8) (pe_nat 1)) (fun _ _ => rfl)))) pa_nil)) (pe_ix ix_list (pe_lst (pa_cons (pe_nat 4) (pa_cons (pe_nat 300) (pa_cons (pe_nat 70000) (pa_cons (pe_nat 4294967297) pa_nil))))) (pe_op nb_mod (pe_callTy call_int1 (by rfl) B.int (by decide +kernel) (pa_cons (pe_op nb_fdiv (pe_ix ix_list (pv 1) (pe_op nb_add (pv 8) (pe_nat 2)) (fun _ _ => rfl)) (pe_nat 2)) pa_nil)) (pe_nat 4)) (fun _ _ => rfl))))
        (pss_cons (ps_set (i := 9) sc_law.nd rfl (Or.inl rfl) (pe_op op_mul (pe_ix ix_list (pe_lst (pa_cons (pe_un un_neg (pe_nat 1)) (pa_cons (pe_nat 1) pa_nil))) (pe_op nb_mod (pe_callTy call_int1 (by rfl) B.int (by decide +kernel) (pa_cons (pe_ix ix_list (pv 1) (pe_op nb_add (pv 8) (pe_nat 2)) (fun _ _ => rfl)) pa_nil)) (pe_nat 2)) (fun _ _ => rfl)) (pv 9)))
        (pss_one (ps_if (pt_not (pt_val (pe_call G__law_element (hr.mono (by decide)) rfl D__law_element.g D__law_element.F.kp D__law_element.b .nil pass0 (pa_cons (pv 6) (pa_cons (pv 4) (pa_cons (pv 5) (pa_cons (pv 7) (pa_cons (pe_op nb_mod (pe_callTy call_int1 (by rfl) B.int (by decide +kernel) (pa_cons (pe_ix ix_list (pv 1) (pe_op nb_add (pv 8) (pe_nat 1)) (fun _ _ => rfl)) pa_nil)) (pe_op nb_shl (pe_nat 1) (pv 4))) (pa_cons (pv 9) pa_nil))))))))) (pss_one (ps_ret pe_bl)) pss_nil)))))))
      (pss_one (ps_ret pe_bl))))))))))), ?_⟩
    refine ⟨_, rfl, a, ns, 60, rfl, hS, hl, by decide, fun l xs H1 s1 nl hxs hlen hx => ?_⟩
    have hL : ∀ {H3 : Hp}, Same H1 H3 → SqL K H3 l (NL xs) := fun e => e.seq (SqL.of hxs)
    have hg : ∀ i, i < 60 → ∃ x, xs[i]? = some x ∧ x < 65536 := fun i hi => ⟨_, List.getElem?_eq_getElem (by omega), hx _ (List.getElem_mem _)⟩
    refine ⟨_, rfl, by omega, by omega, ?_⟩
    refine for_rangeN (lo := 0) (n := 3) (fun i σ H' => ∃ v2 v3 : Option V, σ = [some (.ref a), some (.ref l), v2, v3, none, none, none, none, none, none] ∧ Same H1 H') ⟨none, none, rfl, Same.refl _⟩ ?_ ?_
    · rintro i σ H2 hi ⟨v2, v3, rfl, s2⟩
      rw [Nat.zero_add]
      obtain ⟨x0, hx0, l0⟩ := hg i (by omega)
      obtain ⟨x3, hx3, l3⟩ := hg (3 + i) (by omega)
      obtain ⟨x6, hx6, l6⟩ := hg (6 + i) (by omega)
      obtain ⟨d, hd⟩ : ∃ d, ([40, 600, 5000000] : List Nat)[i]? = some d := ⟨_, List.getElem?_eq_getElem (by simpa using hi)⟩
      have hdm := List.mem_of_getElem? hd
      have hd1 : 0 < d ∧ d ≤ 5000000 := by simp at hdm; omega
      refine ⟨_, rfl, _, rfl, l, _, _, _, rfl, rfl, hL s2, NL_at0 hx0, _, rfl, _, rfl, _, _, rfl, rfl, l, _, _, _, rfl, rfl, hL s2, NL_at0 hx3, _, _, rfl, rfl, .inl (by decide), _, _, rfl, rfl, .inl ⟨_, rfl, ?_⟩⟩
      refine ⟨(by show 3 ≤ sizeLine; decide), fun t nt => ?_⟩
      have s3 := same_new (o := HO.lst (NL [40, 600, 5000000])) s2 nt
      refine ⟨_, rfl, t, NL [40, 600, 5000000], _, _, rfl, rfl, SqL.of upd_same, NL_at0 hd, _, _, rfl, rfl, hd1.1, ?_⟩
      have hz : (x0 + 65536 * x3) % d < 5000000 := Nat.lt_of_lt_of_le (Nat.mod_lt _ hd1.1) hd1.2
      dsimp (config := { proj := false, iota := false, zeta := false, eta := false }) only
      generalize (x0 + 65536 * x3) % d = z at hz ⊢
      have h11 : x6 % 11 < 11 := Nat.mod_lt _ (by decide)
      refine ⟨_, rfl, _, rfl, _, _, rfl, rfl, l, _, _, _, rfl, rfl, hL s3, NL_at0 hx6, .inl ⟨_, rfl, _, _, rfl, rfl, Nat.succ_pos _, _, rfl, _, _, rfl, rfl, _, _, rfl, by omega, by omega, by omega, by omega, fun H4 s4 => ⟨true, rfl, iteF ?_⟩⟩⟩
      exact ⟨_, _, rfl, s3.trans s4⟩
    · rintro σ H2 ⟨v2, v3, rfl, s2⟩
      obtain ⟨x9, hx9, l9⟩ := hg 9 (by omega)
      obtain ⟨x10, hx10, l10⟩ := hg 10 (by omega)
      have h7 : x9 % 7 < 7 := Nat.mod_lt _ (by decide)
      refine ⟨_, rfl, l, _, _, _, rfl, rfl, hL s2, NL_at0 hx9, .inl ⟨_, rfl, _, _, rfl, rfl, Nat.succ_pos _, _, _, rfl, rfl, ?_⟩⟩
      have hm2 : 2 ≤ 2 + x9 % 7 := by omega
      have hm8 : 2 + x9 % 7 ≤ 8 := by omega
      dsimp (config := { proj := false, iota := false, zeta := false, eta := false }) only
      generalize 2 + x9 % 7 = m at hm2 hm8 ⊢
      refine ⟨_, rfl, _, rfl, l, _, _, _, rfl, rfl, hL s2, NL_at0 hx10, m, x10, rfl, hm2, hm8, fun q H3 F s3 => ?_⟩
      obtain ⟨hm4, hm256⟩ := pow_m F
      have hq5 := q_512 F
      have hpow : (2 : Nat) ^ 9 = 512 := by decide
      refine ⟨_, rfl, _, rfl, _, _, rfl, by omega, by omega, by omega, by omega, fun H4 s4 => ⟨true, rfl, iteF ?_⟩⟩
      -- the field
      refine ⟨_, rfl, _, rfl, fun x dx nx nd ne => ?_⟩
      refine ⟨x, dx, (m : Int), (q : Int), rfl, upd_same, log_small2 (by omega), log_small2 (by omega), by omega, fun hb => absurd (show 2 ≤ (m : Int) ∧ (m : Int) ≤ 8 by omega) hb, fun _ _ hb => absurd (show 0 ≤ (q : Int) ∧ Fd m q from ⟨by omega, F⟩) hb, fun mn qn r e1 e2 F' H5 kp FA => ⟨rfl, ?_⟩⟩
      have e1 : m = mn := by omega
      have e2 : q = qn := by omega
      subst e1 e2
      have s5 : Same H1 H5 := ((s2.trans s3).trans s4).trans (fl_same nx nd kp)
      obtain ⟨dx', fa, fb, fc, logs, g1, g2, g3, g4, g5c, g6c⟩ := FA.ex
      obtain ⟨n1, n2, n3, n5, n6, n7, n8, n9, n10⟩ := fno m q fa fb fc
      refine ⟨_, rfl, x, dx', _, rfl, g1, n8, x, m, q, r, rfl, FA, _, rfl, x, dx', _, rfl, g1, n9, x, m, q, r, rfl, FA, _, rfl, x, dx', _, rfl, g1, n10, x, m, q, r, rfl, FA, (by show 3 ≤ sizeLine; decide), fun t1 nt1 => ?_⟩
      refine ⟨_, rfl, _, rfl, _, rfl, _, _, rfl, rfl, ⟨by decide, by omega⟩, (by show 3 ≤ sizeLine; decide), fun t2 nt2 => ?_⟩
      have d1 : t1 ≠ t2 := ne_of_none upd_same nt2
      refine ⟨.tuple [.int m, .int q, .int (2 ^ m : Nat)], .tuple [.int m, .int q, .int (2 ^ m * 1 : Nat)], .tup (SqT.of (by rw [upd_ne d1]; exact upd_same)) (.cons (.int _) (.cons (.int _) (.cons (.int _) .nil))), .tup (SqT.of upd_same) (.cons (.int _) (.cons (.int _) (.cons (.int _) .nil))), rfl, rfl, ?_⟩
      rw [Nat.mul_one, eqv_t3i]
      have s6 : Same H5 (upd (upd H5 t1 (.tup [.int m, .int q, .int (2 ^ m : Nat)])) t2 (.tup [.int m, .int q, .int (2 ^ m * 1 : Nat)])) := same_new (same_upd nt1) nt2
      have FA6 := FA.mono s6
      have hr2 := FA.lr.1.ge
      have hrl := FA.lr.1.lt
      refine ⟨false, rfl, iteF ⟨_, rfl, x, m, q, r, rfl, FA6, fun H7 s7 => ⟨true, rfl, iteF ?_⟩⟩⟩
      have s67 := s6.trans s7
      refine ⟨_, rfl, x, dx', _, rfl, s67 _ _ g1, n7, x, m, q, r, rfl, FA.mono s67, _, _, rfl, rfl, _, _, rfl, ⟨by omega, by omega, by omega, by omega⟩, ?_⟩
      rw [show (((r + 1 : Nat) : Int) - ((1 : Nat) : Int)).toNat = r by omega]
      refine for_rangeN (lo := 1) (n := r) (fun i σ H' => ∃ v2 v7 : Option V, σ = [some (.ref a), some (.ref l), v2, v3, some (.int (m : Int)), some (.int (q : Int)), some (.ref x), v7, none, none] ∧ Same H5 H') ⟨_, _, rfl, s67⟩ ?_ ?_
      · rintro i σ H8 hi ⟨v2, v7, rfl, s8⟩
        have he : 1 + i < 2 ^ m := by omega
        refine ⟨_, rfl, _, rfl, q, 1 + i, m, rfl, F, by omega, he, fun per H9 p1 p2 p3 p4 s9 => ?_⟩
        have s89 := s8.trans s9
        have key : per = 2 ^ m - 1 ↔ 1 + i = r := by
          by_cases z : 1 + i = r
          · refine ⟨fun _ => z, fun _ => ?_⟩
            subst z
            apply Classical.byContradiction
            intro n
            exact FA.lr.1.no per p1 (by omega) p3
          · refine ⟨fun n => absurd ?_ not_false, fun w => absurd w z⟩
            have h1i : 1 + i ≠ 1 := fun w => by
              have := p4 1 (by omega) (by omega)
              rw [pw_first F he] at this
              exact this w
            exact FA.lr.2 (1 + i) (by omega) ⟨he, by omega, n ▸ p3, fun k h1 h2 => p4 k h1 (by omega)⟩
        refine ⟨_, rfl, _, _, rfl, rfl, ⟨by decide, by omega⟩, _, _, rfl, rfl, (by show 1 ≤ 2 ^ m * 1; omega), rfl, _, rfl, _, rfl, x, dx', _, rfl, s89 _ _ g1, n7, x, m, q, r, rfl, FA.mono s89, rfl, rfl, _, rfl, iteNS (congrArg V.bl (decide_eq_decide.mpr (by show V.int (per : Int) = V.int ((2 ^ m * 1 - 1 : Nat) : Int) ↔ V.int ((1 + i : Nat) : Int) = V.int (r : Int); rw [V.int.injEq, V.int.injEq]; omega))) ?_⟩
        exact ⟨_, _, rfl, s89⟩
      · rintro σ H8 ⟨v2, v7, rfl, s8⟩
        refine ⟨_, rfl, by omega, by omega, ?_⟩
        refine for_rangeN (lo := 0) (n := 6) (fun i σ H' => ∃ v2 v7 v8 v9 : Option V, σ = [some (.ref a), some (.ref l), v2, v3, some (.int (m : Int)), some (.int (q : Int)), some (.ref x), v7, v8, v9] ∧ Same H5 H') ⟨_, _, _, _, rfl, s8⟩ ?_ ?_
        · rintro i σ H9 hi ⟨v2, v7, v8, v9, rfl, s9⟩
          rw [Nat.zero_add]
          have s19 := s5.trans s9
          obtain ⟨x0, hx0, l0⟩ := hg (12 + 4 * i) (by omega)
          obtain ⟨x1, hx1, l1⟩ := hg (12 + 4 * i + 1) (by omega)
          obtain ⟨x2, hx2, l2⟩ := hg (12 + 4 * i + 2) (by omega)
          obtain ⟨x3, hx3, l3⟩ := hg (12 + 4 * i + 3) (by omega)
          refine ⟨_, rfl, _, _, rfl, rfl, .inl (by decide), _, _, rfl, rfl, ?_⟩
          refine ⟨_, rfl, _, rfl, l, _, _, _, rfl, rfl, hL s19, NL_at0 hx0, .inl ⟨_, rfl, _, rfl, _, _, rfl, rfl, ⟨by decide, by omega⟩, _, _, rfl, rfl, (by show 0 < 2 ^ m * 1; omega), ?_⟩⟩
          have he : x0 % (2 ^ m * 1) < 2 ^ m := by rw [Nat.mul_one]; exact Nat.mod_lt _ (by omega)
          have hf : x1 % (2 ^ m * 1) < 2 ^ m := by rw [Nat.mul_one]; exact Nat.mod_lt _ (by omega)
          have hi4 : x2 / 2 % 4 < 4 := Nat.mod_lt _ (by decide)
          obtain ⟨d, hd⟩ : ∃ d, ([4, 300, 70000, 4294967297] : List Nat)[x2 / 2 % 4]? = some d := ⟨_, List.getElem?_eq_getElem (by simpa using hi4)⟩
          have hdm := List.mem_of_getElem? hd
          have hd1 : 0 < d ∧ d ≤ 4294967297 := by simp at hdm; omega
          refine ⟨_, rfl, _, rfl, _, _, rfl, rfl, l, _, _, _, rfl, rfl, hL s19, NL_at0 hx3, _, rfl, _, rfl, _, _, rfl, rfl, l, _, _, _, rfl, rfl, hL s19, NL_at0 hx1, _, _, rfl, rfl, .inl (by decide), _, _, rfl, rfl, .inl ⟨_, rfl, (by show 4 ≤ sizeLine; decide), fun t nt => ?_⟩⟩
          have s21 := same_new (o := HO.lst (NL [4, 300, 70000, 4294967297])) s9 nt
          have s20 := s5.trans s21
          refine ⟨_, rfl, _, rfl, _, _, rfl, rfl, l, _, _, _, rfl, rfl, hL s20, NL_at0 hx2, _, _, rfl, rfl, ⟨by decide, by decide⟩, .inl ⟨_, rfl, _, _, rfl, rfl, Nat.succ_pos _, t, NL [4, 300, 70000, 4294967297], _, _, rfl, rfl, SqL.of upd_same, NL_at0 hd, _, _, rfl, rfl, hd1.1, ?_⟩⟩
          have hz : (x3 + 65536 * x1) % d < 4294967297 := Nat.lt_of_lt_of_le (Nat.mod_lt _ hd1.1) hd1.2
          refine ⟨_, rfl, (by show 2 ≤ sizeLine; decide), fun t2 nt2 => ?_⟩
          have s22 := same_new (o := HO.lst [V.int (-((1 : Nat) : Int)), V.int ((1 : Nat) : Int)]) s21 nt2
          have s23 := s5.trans s22
          obtain ⟨sg, hsg, hs1, hs2⟩ : ∃ sg : Int, atI [V.int (-((1 : Nat) : Int)), V.int ((1 : Nat) : Int)] ((x2 % 2 : Nat) : Int) = some (.int sg) ∧ -2 < sg ∧ sg < 2 := by
            rcases Nat.mod_two_eq_zero_or_one x2 with e | e
            · rw [e]; exact ⟨-1, rfl, by decide, by decide⟩
            · rw [e]; exact ⟨1, rfl, by decide, by decide⟩
          refine ⟨_, rfl, _, rfl, _, _, rfl, rfl, l, _, _, _, rfl, rfl, hL s23, NL_at0 hx2, .inl ⟨_, rfl, _, _, rfl, rfl, Nat.succ_pos _, t2, [V.int (-((1 : Nat) : Int)), V.int ((1 : Nat) : Int)], _, _, rfl, rfl, SqL.of upd_same, hsg, _, rfl, _, _, rfl, rfl, .inl ⟨by omega, by omega⟩, ?_⟩⟩
          refine ⟨_, rfl, _, rfl, _, rfl, _, rfl, _, rfl, _, rfl, _, _, rfl, rfl, l, _, _, _, rfl, rfl, hL s23, NL_at0 hx1, .inl ⟨_, rfl, _, rfl, _, _, rfl, rfl, ⟨by decide, by omega⟩, _, _, rfl, rfl, (by show 0 < 2 ^ m * 1; omega), _, rfl, x, m, q, r, x0 % (2 ^ m * 1), x1 % (2 ^ m * 1), _, rfl, FA.mono s22, he, hf, fun H10 s24 => ⟨true, rfl, iteF ?_⟩⟩⟩
          exact ⟨_, _, _, _, rfl, s22.trans s24⟩
        · rintro σ H9 ⟨v2, v7, v8, v9, rfl, s9⟩
          exact k H9
end
end K01
namespace K01
open PySem PySem.Spec L2 NB ER MKX
theorem all_mk {l : PySem.W.OpenLaw} {w : World} {K : PySem.W.Frag} {h : Heap} {mg : Str → Option Value} {fa : Addr} (X : K.In h) (G : h.Ns mainGlobals mg) (hfa : mg "law" = some (.ref fa))
    {C_Field : Addr}
    {f_Field___init__ : Addr} {od_Field___init__ an_Field___init__ : Option Addr} {sl_Field___init__ : Array (Option Value)} {oc_Field___init__ kV_Field___init__ dc_Field___init__ pm_Field___init__ cd_Field___init__ ct_Field___init__ : Value}
    {f_Field_bits : Addr} {od_Field_bits an_Field_bits : Option Addr} {sl_Field_bits : Array (Option Value)} {oc_Field_bits kV_Field_bits dc_Field_bits pm_Field_bits cd_Field_bits ct_Field_bits : Value}
    {f_Field_modulus : Addr} {od_Field_modulus an_Field_modulus : Option Addr} {sl_Field_modulus : Array (Option Value)} {oc_Field_modulus kV_Field_modulus dc_Field_modulus pm_Field_modulus cd_Field_modulus ct_Field_modulus : Value}
    {f_Field_size : Addr} {od_Field_size an_Field_size : Option Addr} {sl_Field_size : Array (Option Value)} {oc_Field_size kV_Field_size dc_Field_size pm_Field_size cd_Field_size ct_Field_size : Value}
    {f_Field_add : Addr} {od_Field_add an_Field_add : Option Addr} {sl_Field_add : Array (Option Value)} {oc_Field_add kV_Field_add dc_Field_add pm_Field_add cd_Field_add ct_Field_add : Value}
    {f_Field_times : Addr} {od_Field_times an_Field_times : Option Addr} {sl_Field_times : Array (Option Value)} {oc_Field_times kV_Field_times dc_Field_times pm_Field_times cd_Field_times ct_Field_times : Value}
    {f_Field_inverse : Addr} {od_Field_inverse an_Field_inverse : Option Addr} {sl_Field_inverse : Array (Option Value)} {oc_Field_inverse kV_Field_inverse dc_Field_inverse pm_Field_inverse cd_Field_inverse ct_Field_inverse : Value}
    {f_Field_power : Addr} {od_Field_power an_Field_power : Option Addr} {sl_Field_power : Array (Option Value)} {oc_Field_power kV_Field_power dc_Field_power pm_Field_power cd_Field_power ct_Field_power : Value}
    {f_Field_order : Addr} {od_Field_order an_Field_order : Option Addr} {sl_Field_order : Array (Option Value)} {oc_Field_order kV_Field_order dc_Field_order pm_Field_order cd_Field_order ct_Field_order : Value}
    {f_Field_log : Addr} {od_Field_log an_Field_log : Option Addr} {sl_Field_log : Array (Option Value)} {oc_Field_log kV_Field_log dc_Field_log pm_Field_log cd_Field_log ct_Field_log : Value}
    {f_Field_root : Addr} {od_Field_root an_Field_root : Option Addr} {sl_Field_root : Array (Option Value)} {oc_Field_root kV_Field_root dc_Field_root pm_Field_root cd_Field_root ct_Field_root : Value}
    {f_degree : Addr} {od_degree an_degree : Option Addr} {sl_degree : Array (Option Value)} {oc_degree kV_degree dc_degree pm_degree cd_degree ct_degree : Value}
    {f_times : Addr} {od_times an_times : Option Addr} {sl_times : Array (Option Value)} {oc_times kV_times dc_times pm_times cd_times ct_times : Value}
    {f_divide : Addr} {od_divide an_divide : Option Addr} {sl_divide : Array (Option Value)} {oc_divide kV_divide dc_divide pm_divide cd_divide ct_divide : Value}
    {f_common : Addr} {od_common an_common : Option Addr} {sl_common : Array (Option Value)} {oc_common kV_common dc_common pm_common cd_common ct_common : Value}
    {f_product_rest : Addr} {od_product_rest an_product_rest : Option Addr} {sl_product_rest : Array (Option Value)} {oc_product_rest kV_product_rest dc_product_rest pm_product_rest cd_product_rest ct_product_rest : Value}
    {f_is_irreducible : Addr} {od_is_irreducible an_is_irreducible : Option Addr} {sl_is_irreducible : Array (Option Value)} {oc_is_irreducible kV_is_irreducible dc_is_irreducible pm_is_irreducible cd_is_irreducible ct_is_irreducible : Value}
    {f__powers_of : Addr} {od__powers_of an__powers_of : Option Addr} {sl__powers_of : Array (Option Value)} {oc__powers_of kV__powers_of dc__powers_of pm__powers_of cd__powers_of ct__powers_of : Value}
    {f__root_powers : Addr} {od__root_powers an__root_powers : Option Addr} {sl__root_powers : Array (Option Value)} {oc__root_powers kV__root_powers dc__root_powers pm__root_powers cd__root_powers ct__root_powers : Value}
    {f__law_numbers : Addr} {od__law_numbers an__law_numbers : Option Addr} {sl__law_numbers : Array (Option Value)} {oc__law_numbers kV__law_numbers dc__law_numbers pm__law_numbers cd__law_numbers ct__law_numbers : Value}
    {f__law_degree : Addr} {od__law_degree an__law_degree : Option Addr} {sl__law_degree : Array (Option Value)} {oc__law_degree kV__law_degree dc__law_degree pm__law_degree cd__law_degree ct__law_degree : Value}
    {f__law_times : Addr} {od__law_times an__law_times : Option Addr} {sl__law_times : Array (Option Value)} {oc__law_times kV__law_times dc__law_times pm__law_times cd__law_times ct__law_times : Value}
    {f__law_divided : Addr} {od__law_divided an__law_divided : Option Addr} {sl__law_divided : Array (Option Value)} {oc__law_divided kV__law_divided dc__law_divided pm__law_divided cd__law_divided ct__law_divided : Value}
    {f__law_irreducible : Addr} {od__law_irreducible an__law_irreducible : Option Addr} {sl__law_irreducible : Array (Option Value)} {oc__law_irreducible kV__law_irreducible dc__law_irreducible pm__law_irreducible cd__law_irreducible ct__law_irreducible : Value}
    {f__law_modulus : Addr} {od__law_modulus an__law_modulus : Option Addr} {sl__law_modulus : Array (Option Value)} {oc__law_modulus kV__law_modulus dc__law_modulus pm__law_modulus cd__law_modulus ct__law_modulus : Value}
    {f__law_product : Addr} {od__law_product an__law_product : Option Addr} {sl__law_product : Array (Option Value)} {oc__law_product kV__law_product dc__law_product pm__law_product cd__law_product ct__law_product : Value}
    {f__law_power : Addr} {od__law_power an__law_power : Option Addr} {sl__law_power : Array (Option Value)} {oc__law_power kV__law_power dc__law_power pm__law_power cd__law_power ct__law_power : Value}
    {f__law_order : Addr} {od__law_order an__law_order : Option Addr} {sl__law_order : Array (Option Value)} {oc__law_order kV__law_order dc__law_order pm__law_order cd__law_order ct__law_order : Value}
    {f__law_made : Addr} {od__law_made an__law_made : Option Addr} {sl__law_made : Array (Option Value)} {oc__law_made kV__law_made dc__law_made pm__law_made cd__law_made ct__law_made : Value}
    {f__law_refused : Addr} {od__law_refused an__law_refused : Option Addr} {sl__law_refused : Array (Option Value)} {oc__law_refused kV__law_refused dc__law_refused pm__law_refused cd__law_refused ct__law_refused : Value}
    {f__law_no_inverse : Addr} {od__law_no_inverse an__law_no_inverse : Option Addr} {sl__law_no_inverse : Array (Option Value)} {oc__law_no_inverse kV__law_no_inverse dc__law_no_inverse pm__law_no_inverse cd__law_no_inverse ct__law_no_inverse : Value}
    {f__law_element : Addr} {od__law_element an__law_element : Option Addr} {sl__law_element : Array (Option Value)} {oc__law_element kV__law_element dc__law_element pm__law_element cd__law_element ct__law_element : Value}
    {f_law : Addr} {od_law an_law : Option Addr} {sl_law : Array (Option Value)} {oc_law kV_law dc_law pm_law cd_law ct_law : Value}
    {f_init : Addr} {od_init an_init : Option Addr} {sl_init : Array (Option Value)} {oc_init kV_init dc_init pm_init cd_init ct_init : Value}
    {C_HaulError C_OutOfRange C_NotIrreducible C_NoInverse C_NoDivisor : Addr}
    {nm_HaulError q_HaulError : Str} {N_HaulError : Addr} {bs_HaulError bm_HaulError : List Value} {sn_HaulError : List Str} {sub_HaulError : List Value} {ab_HaulError : Bool} {col_HaulError : Option Bool} {dd_HaulError : Option Addr} {k0_HaulError k1_HaulError k2_HaulError k3_HaulError k5_HaulError : Option Value}
    {nm_OutOfRange q_OutOfRange : Str} {N_OutOfRange : Addr} {bs_OutOfRange bm_OutOfRange : List Value} {sn_OutOfRange : List Str} {sub_OutOfRange : List Value} {ab_OutOfRange : Bool} {col_OutOfRange : Option Bool} {dd_OutOfRange : Option Addr} {k0_OutOfRange k1_OutOfRange k2_OutOfRange k3_OutOfRange k5_OutOfRange : Option Value}
    {nm_NotIrreducible q_NotIrreducible : Str} {N_NotIrreducible : Addr} {bs_NotIrreducible bm_NotIrreducible : List Value} {sn_NotIrreducible : List Str} {sub_NotIrreducible : List Value} {ab_NotIrreducible : Bool} {col_NotIrreducible : Option Bool} {dd_NotIrreducible : Option Addr} {k0_NotIrreducible k1_NotIrreducible k2_NotIrreducible k3_NotIrreducible k5_NotIrreducible : Option Value}
    {nm_NoInverse q_NoInverse : Str} {N_NoInverse : Addr} {bs_NoInverse bm_NoInverse : List Value} {sn_NoInverse : List Str} {sub_NoInverse : List Value} {ab_NoInverse : Bool} {col_NoInverse : Option Bool} {dd_NoInverse : Option Addr} {k0_NoInverse k1_NoInverse k2_NoInverse k3_NoInverse k5_NoInverse : Option Value}
    {nm_NoDivisor q_NoDivisor : Str} {N_NoDivisor : Addr} {bs_NoDivisor bm_NoDivisor : List Value} {sn_NoDivisor : List Str} {sub_NoDivisor : List Value} {ab_NoDivisor : Bool} {col_NoDivisor : Option Bool} {dd_NoDivisor : Option Addr} {k0_NoDivisor k1_NoDivisor k2_NoDivisor k3_NoDivisor k5_NoDivisor : Option Value}
    {t_X : Tok}
    (a_HaulError : PySem.W.nsIn K mainGlobals "HaulError" = some (some (.ref C_HaulError)))
    (a_OutOfRange : PySem.W.nsIn K mainGlobals "OutOfRange" = some (some (.ref C_OutOfRange)))
    (a_NotIrreducible : PySem.W.nsIn K mainGlobals "NotIrreducible" = some (some (.ref C_NotIrreducible)))
    (a_NoInverse : PySem.W.nsIn K mainGlobals "NoInverse" = some (some (.ref C_NoInverse)))
    (a_NoDivisor : PySem.W.nsIn K mainGlobals "NoDivisor" = some (some (.ref C_NoDivisor)))
    (i_init : PySem.W.findIn K (.ref C_HaulError) "__init__" = some (some (.ref f_init)))
    (ti_init : PySem.W.typeIn K (.ref f_init) = some (.type "function"))
    (l_init : K.lookup f_init = some ⟨oc_init, od_init, .func (PySem.W.fnOf "__init__" "HaulError.__init__" (defArgs s_init) (defBody s_init) (defScope s_init) .none kV_init dc_init pm_init an_init cd_init ct_init), sl_init⟩)
    (c_init : PySem.W.codeIn K cd_init "HaulError.__init__" = true)
    (k_init : PySem.W.keepIn K (.ref f_init) = true)
    (v_init : PySem.W.findCls K (.type "ValueError") (.type "type") "__init__" = some (.val (.builtin "ValueError.__init__")))
    (sp_cls : PySem.W.specialIn K (.builtin "object.__class__") "__get__" = some (some (.builtin "getset_descriptor.__get__")))
    (tk_cls : PySem.W.takesIn K (.builtin "object.__class__") = some true)
    (x_HaulError : K.lookup C_HaulError = some (excClassObj nm_HaulError q_HaulError C_HaulError N_HaulError bs_HaulError bm_HaulError true sn_HaulError sub_HaulError ab_HaulError col_HaulError dd_HaulError k0_HaulError k1_HaulError k2_HaulError k3_HaulError k5_HaulError "ValueError.__new__"))
    (r_HaulError : PySem.HandSPX.refsVE bm_HaulError = true)
    (sa_HaulError : PySem.W.findIn K (.ref C_HaulError) "__setattr__" = some (some (.builtin "object.__setattr__")))
    (ga_HaulError : PySem.W.findIn K (.ref C_HaulError) "__getattribute__" = some (some (.builtin "BaseException.__getattribute__")))
    (gg_HaulError : PySem.W.findIn K (.ref C_HaulError) "__getattr__" = some none)
    (cl_HaulError : PySem.W.findIn K (.ref C_HaulError) "__class__" = some (some (.builtin "object.__class__")))
    (no_HaulError : PySem.W.findIn K (.ref C_HaulError) "at" = some none)
    (e_HaulError : PySem.W.subIn K (.ref C_HaulError) (.type "BaseException") = some true)
    (ty_HaulError : PySem.W.typeIn K (.ref C_HaulError) = some (.type "type"))
    (kc_HaulError : PySem.W.keepIn K (.ref C_HaulError) = true)
    (hd_HaulError : PySem.W.hasDictIn K C_HaulError = true)
    (mo_HaulError : PySem.W.mroIn K C_HaulError (.type "object") = some true)
    (su_HaulError : PySem.W.subIn K (.ref C_HaulError) (.ref C_HaulError) = some true)
    (x_OutOfRange : K.lookup C_OutOfRange = some (excClassObj nm_OutOfRange q_OutOfRange C_OutOfRange N_OutOfRange bs_OutOfRange bm_OutOfRange true sn_OutOfRange sub_OutOfRange ab_OutOfRange col_OutOfRange dd_OutOfRange k0_OutOfRange k1_OutOfRange k2_OutOfRange k3_OutOfRange k5_OutOfRange "ValueError.__new__"))
    (r_OutOfRange : PySem.HandSPX.refsVE bm_OutOfRange = true)
    (sa_OutOfRange : PySem.W.findIn K (.ref C_OutOfRange) "__setattr__" = some (some (.builtin "object.__setattr__")))
    (ga_OutOfRange : PySem.W.findIn K (.ref C_OutOfRange) "__getattribute__" = some (some (.builtin "BaseException.__getattribute__")))
    (gg_OutOfRange : PySem.W.findIn K (.ref C_OutOfRange) "__getattr__" = some none)
    (cl_OutOfRange : PySem.W.findIn K (.ref C_OutOfRange) "__class__" = some (some (.builtin "object.__class__")))
    (no_OutOfRange : PySem.W.findIn K (.ref C_OutOfRange) "at" = some none)
    (ii_OutOfRange : PySem.W.findIn K (.ref C_OutOfRange) "__init__" = some (some (.ref f_init)))
    (e_OutOfRange : PySem.W.subIn K (.ref C_OutOfRange) (.type "BaseException") = some true)
    (ty_OutOfRange : PySem.W.typeIn K (.ref C_OutOfRange) = some (.type "type"))
    (kc_OutOfRange : PySem.W.keepIn K (.ref C_OutOfRange) = true)
    (hd_OutOfRange : PySem.W.hasDictIn K C_OutOfRange = true)
    (mo_OutOfRange : PySem.W.mroIn K C_OutOfRange (.type "object") = some true)
    (su_OutOfRange : PySem.W.subIn K (.ref C_OutOfRange) (.ref C_HaulError) = some true)
    (x_NotIrreducible : K.lookup C_NotIrreducible = some (excClassObj nm_NotIrreducible q_NotIrreducible C_NotIrreducible N_NotIrreducible bs_NotIrreducible bm_NotIrreducible true sn_NotIrreducible sub_NotIrreducible ab_NotIrreducible col_NotIrreducible dd_NotIrreducible k0_NotIrreducible k1_NotIrreducible k2_NotIrreducible k3_NotIrreducible k5_NotIrreducible "ValueError.__new__"))
    (r_NotIrreducible : PySem.HandSPX.refsVE bm_NotIrreducible = true)
    (sa_NotIrreducible : PySem.W.findIn K (.ref C_NotIrreducible) "__setattr__" = some (some (.builtin "object.__setattr__")))
    (ga_NotIrreducible : PySem.W.findIn K (.ref C_NotIrreducible) "__getattribute__" = some (some (.builtin "BaseException.__getattribute__")))
    (gg_NotIrreducible : PySem.W.findIn K (.ref C_NotIrreducible) "__getattr__" = some none)
    (cl_NotIrreducible : PySem.W.findIn K (.ref C_NotIrreducible) "__class__" = some (some (.builtin "object.__class__")))
    (no_NotIrreducible : PySem.W.findIn K (.ref C_NotIrreducible) "at" = some none)
    (ii_NotIrreducible : PySem.W.findIn K (.ref C_NotIrreducible) "__init__" = some (some (.ref f_init)))
    (e_NotIrreducible : PySem.W.subIn K (.ref C_NotIrreducible) (.type "BaseException") = some true)
    (ty_NotIrreducible : PySem.W.typeIn K (.ref C_NotIrreducible) = some (.type "type"))
    (kc_NotIrreducible : PySem.W.keepIn K (.ref C_NotIrreducible) = true)
    (hd_NotIrreducible : PySem.W.hasDictIn K C_NotIrreducible = true)
    (mo_NotIrreducible : PySem.W.mroIn K C_NotIrreducible (.type "object") = some true)
    (su_NotIrreducible : PySem.W.subIn K (.ref C_NotIrreducible) (.ref C_HaulError) = some true)
    (x_NoInverse : K.lookup C_NoInverse = some (excClassObj nm_NoInverse q_NoInverse C_NoInverse N_NoInverse bs_NoInverse bm_NoInverse true sn_NoInverse sub_NoInverse ab_NoInverse col_NoInverse dd_NoInverse k0_NoInverse k1_NoInverse k2_NoInverse k3_NoInverse k5_NoInverse "ValueError.__new__"))
    (r_NoInverse : PySem.HandSPX.refsVE bm_NoInverse = true)
    (sa_NoInverse : PySem.W.findIn K (.ref C_NoInverse) "__setattr__" = some (some (.builtin "object.__setattr__")))
    (ga_NoInverse : PySem.W.findIn K (.ref C_NoInverse) "__getattribute__" = some (some (.builtin "BaseException.__getattribute__")))
    (gg_NoInverse : PySem.W.findIn K (.ref C_NoInverse) "__getattr__" = some none)
    (cl_NoInverse : PySem.W.findIn K (.ref C_NoInverse) "__class__" = some (some (.builtin "object.__class__")))
    (no_NoInverse : PySem.W.findIn K (.ref C_NoInverse) "at" = some none)
    (ii_NoInverse : PySem.W.findIn K (.ref C_NoInverse) "__init__" = some (some (.ref f_init)))
    (e_NoInverse : PySem.W.subIn K (.ref C_NoInverse) (.type "BaseException") = some true)
    (ty_NoInverse : PySem.W.typeIn K (.ref C_NoInverse) = some (.type "type"))
    (kc_NoInverse : PySem.W.keepIn K (.ref C_NoInverse) = true)
    (hd_NoInverse : PySem.W.hasDictIn K C_NoInverse = true)
    (mo_NoInverse : PySem.W.mroIn K C_NoInverse (.type "object") = some true)
    (su_NoInverse : PySem.W.subIn K (.ref C_NoInverse) (.ref C_HaulError) = some true)
    (x_NoDivisor : K.lookup C_NoDivisor = some (excClassObj nm_NoDivisor q_NoDivisor C_NoDivisor N_NoDivisor bs_NoDivisor bm_NoDivisor true sn_NoDivisor sub_NoDivisor ab_NoDivisor col_NoDivisor dd_NoDivisor k0_NoDivisor k1_NoDivisor k2_NoDivisor k3_NoDivisor k5_NoDivisor "ValueError.__new__"))
    (r_NoDivisor : PySem.HandSPX.refsVE bm_NoDivisor = true)
    (sa_NoDivisor : PySem.W.findIn K (.ref C_NoDivisor) "__setattr__" = some (some (.builtin "object.__setattr__")))
    (ga_NoDivisor : PySem.W.findIn K (.ref C_NoDivisor) "__getattribute__" = some (some (.builtin "BaseException.__getattribute__")))
    (gg_NoDivisor : PySem.W.findIn K (.ref C_NoDivisor) "__getattr__" = some none)
    (cl_NoDivisor : PySem.W.findIn K (.ref C_NoDivisor) "__class__" = some (some (.builtin "object.__class__")))
    (no_NoDivisor : PySem.W.findIn K (.ref C_NoDivisor) "at" = some none)
    (ii_NoDivisor : PySem.W.findIn K (.ref C_NoDivisor) "__init__" = some (some (.ref f_init)))
    (e_NoDivisor : PySem.W.subIn K (.ref C_NoDivisor) (.type "BaseException") = some true)
    (ty_NoDivisor : PySem.W.typeIn K (.ref C_NoDivisor) = some (.type "type"))
    (kc_NoDivisor : PySem.W.keepIn K (.ref C_NoDivisor) = true)
    (hd_NoDivisor : PySem.W.hasDictIn K C_NoDivisor = true)
    (mo_NoDivisor : PySem.W.mroIn K C_NoDivisor (.type "object") = some true)
    (su_NoDivisor : PySem.W.subIn K (.ref C_NoDivisor) (.ref C_HaulError) = some true)
    (a_degree : PySem.W.nsIn K mainGlobals "degree" = some (some (.ref f_degree)))
    (l_degree : K.lookup f_degree = some ⟨oc_degree, od_degree, .func (PySem.W.fnOf "degree" "degree" (defArgs s_degree) (defBody s_degree) (defScope s_degree) .none kV_degree dc_degree pm_degree an_degree cd_degree ct_degree), sl_degree⟩)
    (c_degree : PySem.W.codeIn K cd_degree "degree" = true)
    (k_degree : PySem.W.keepIn K (.ref f_degree) = true)
    (a_times : PySem.W.nsIn K mainGlobals "times" = some (some (.ref f_times)))
    (l_times : K.lookup f_times = some ⟨oc_times, od_times, .func (PySem.W.fnOf "times" "times" (defArgs s_times) (defBody s_times) (defScope s_times) .none kV_times dc_times pm_times an_times cd_times ct_times), sl_times⟩)
    (c_times : PySem.W.codeIn K cd_times "times" = true)
    (k_times : PySem.W.keepIn K (.ref f_times) = true)
    (a_divide : PySem.W.nsIn K mainGlobals "divide" = some (some (.ref f_divide)))
    (l_divide : K.lookup f_divide = some ⟨oc_divide, od_divide, .func (PySem.W.fnOf "divide" "divide" (defArgs s_divide) (defBody s_divide) (defScope s_divide) .none kV_divide dc_divide pm_divide an_divide cd_divide ct_divide), sl_divide⟩)
    (c_divide : PySem.W.codeIn K cd_divide "divide" = true)
    (k_divide : PySem.W.keepIn K (.ref f_divide) = true)
    (a_common : PySem.W.nsIn K mainGlobals "common" = some (some (.ref f_common)))
    (l_common : K.lookup f_common = some ⟨oc_common, od_common, .func (PySem.W.fnOf "common" "common" (defArgs s_common) (defBody s_common) (defScope s_common) .none kV_common dc_common pm_common an_common cd_common ct_common), sl_common⟩)
    (c_common : PySem.W.codeIn K cd_common "common" = true)
    (k_common : PySem.W.keepIn K (.ref f_common) = true)
    (a_product_rest : PySem.W.nsIn K mainGlobals "product_rest" = some (some (.ref f_product_rest)))
    (l_product_rest : K.lookup f_product_rest = some ⟨oc_product_rest, od_product_rest, .func (PySem.W.fnOf "product_rest" "product_rest" (defArgs s_product_rest) (defBody s_product_rest) (defScope s_product_rest) .none kV_product_rest dc_product_rest pm_product_rest an_product_rest cd_product_rest ct_product_rest), sl_product_rest⟩)
    (c_product_rest : PySem.W.codeIn K cd_product_rest "product_rest" = true)
    (k_product_rest : PySem.W.keepIn K (.ref f_product_rest) = true)
    (a_is_irreducible : PySem.W.nsIn K mainGlobals "is_irreducible" = some (some (.ref f_is_irreducible)))
    (l_is_irreducible : K.lookup f_is_irreducible = some ⟨oc_is_irreducible, od_is_irreducible, .func (PySem.W.fnOf "is_irreducible" "is_irreducible" (defArgs s_is_irreducible) (defBody s_is_irreducible) (defScope s_is_irreducible) .none kV_is_irreducible dc_is_irreducible pm_is_irreducible an_is_irreducible cd_is_irreducible ct_is_irreducible), sl_is_irreducible⟩)
    (c_is_irreducible : PySem.W.codeIn K cd_is_irreducible "is_irreducible" = true)
    (k_is_irreducible : PySem.W.keepIn K (.ref f_is_irreducible) = true)
    (a__powers_of : PySem.W.nsIn K mainGlobals "_powers_of" = some (some (.ref f__powers_of)))
    (l__powers_of : K.lookup f__powers_of = some ⟨oc__powers_of, od__powers_of, .func (PySem.W.fnOf "_powers_of" "_powers_of" (defArgs s__powers_of) (defBody s__powers_of) (defScope s__powers_of) .none kV__powers_of dc__powers_of pm__powers_of an__powers_of cd__powers_of ct__powers_of), sl__powers_of⟩)
    (c__powers_of : PySem.W.codeIn K cd__powers_of "_powers_of" = true)
    (k__powers_of : PySem.W.keepIn K (.ref f__powers_of) = true)
    (a__root_powers : PySem.W.nsIn K mainGlobals "_root_powers" = some (some (.ref f__root_powers)))
    (l__root_powers : K.lookup f__root_powers = some ⟨oc__root_powers, od__root_powers, .func (PySem.W.fnOf "_root_powers" "_root_powers" (defArgs s__root_powers) (defBody s__root_powers) (defScope s__root_powers) .none kV__root_powers dc__root_powers pm__root_powers an__root_powers cd__root_powers ct__root_powers), sl__root_powers⟩)
    (c__root_powers : PySem.W.codeIn K cd__root_powers "_root_powers" = true)
    (k__root_powers : PySem.W.keepIn K (.ref f__root_powers) = true)
    (a__law_numbers : PySem.W.nsIn K mainGlobals "_law_numbers" = some (some (.ref f__law_numbers)))
    (l__law_numbers : K.lookup f__law_numbers = some ⟨oc__law_numbers, od__law_numbers, .func (PySem.W.fnOf "_law_numbers" "_law_numbers" (defArgs s__law_numbers) (defBody s__law_numbers) (defScope s__law_numbers) .none kV__law_numbers dc__law_numbers pm__law_numbers an__law_numbers cd__law_numbers ct__law_numbers), sl__law_numbers⟩)
    (c__law_numbers : PySem.W.codeIn K cd__law_numbers "_law_numbers" = true)
    (k__law_numbers : PySem.W.keepIn K (.ref f__law_numbers) = true)
    (a__law_degree : PySem.W.nsIn K mainGlobals "_law_degree" = some (some (.ref f__law_degree)))
    (l__law_degree : K.lookup f__law_degree = some ⟨oc__law_degree, od__law_degree, .func (PySem.W.fnOf "_law_degree" "_law_degree" (defArgs s__law_degree) (defBody s__law_degree) (defScope s__law_degree) .none kV__law_degree dc__law_degree pm__law_degree an__law_degree cd__law_degree ct__law_degree), sl__law_degree⟩)
    (c__law_degree : PySem.W.codeIn K cd__law_degree "_law_degree" = true)
    (k__law_degree : PySem.W.keepIn K (.ref f__law_degree) = true)
    (a__law_times : PySem.W.nsIn K mainGlobals "_law_times" = some (some (.ref f__law_times)))
    (l__law_times : K.lookup f__law_times = some ⟨oc__law_times, od__law_times, .func (PySem.W.fnOf "_law_times" "_law_times" (defArgs s__law_times) (defBody s__law_times) (defScope s__law_times) .none kV__law_times dc__law_times pm__law_times an__law_times cd__law_times ct__law_times), sl__law_times⟩)
    (c__law_times : PySem.W.codeIn K cd__law_times "_law_times" = true)
    (k__law_times : PySem.W.keepIn K (.ref f__law_times) = true)
    (a__law_divided : PySem.W.nsIn K mainGlobals "_law_divided" = some (some (.ref f__law_divided)))
    (l__law_divided : K.lookup f__law_divided = some ⟨oc__law_divided, od__law_divided, .func (PySem.W.fnOf "_law_divided" "_law_divided" (defArgs s__law_divided) (defBody s__law_divided) (defScope s__law_divided) .none kV__law_divided dc__law_divided pm__law_divided an__law_divided cd__law_divided ct__law_divided), sl__law_divided⟩)
    (c__law_divided : PySem.W.codeIn K cd__law_divided "_law_divided" = true)
    (k__law_divided : PySem.W.keepIn K (.ref f__law_divided) = true)
    (a__law_irreducible : PySem.W.nsIn K mainGlobals "_law_irreducible" = some (some (.ref f__law_irreducible)))
    (l__law_irreducible : K.lookup f__law_irreducible = some ⟨oc__law_irreducible, od__law_irreducible, .func (PySem.W.fnOf "_law_irreducible" "_law_irreducible" (defArgs s__law_irreducible) (defBody s__law_irreducible) (defScope s__law_irreducible) .none kV__law_irreducible dc__law_irreducible pm__law_irreducible an__law_irreducible cd__law_irreducible ct__law_irreducible), sl__law_irreducible⟩)
    (c__law_irreducible : PySem.W.codeIn K cd__law_irreducible "_law_irreducible" = true)
    (k__law_irreducible : PySem.W.keepIn K (.ref f__law_irreducible) = true)
    (a__law_modulus : PySem.W.nsIn K mainGlobals "_law_modulus" = some (some (.ref f__law_modulus)))
    (l__law_modulus : K.lookup f__law_modulus = some ⟨oc__law_modulus, od__law_modulus, .func (PySem.W.fnOf "_law_modulus" "_law_modulus" (defArgs s__law_modulus) (defBody s__law_modulus) (defScope s__law_modulus) .none kV__law_modulus dc__law_modulus pm__law_modulus an__law_modulus cd__law_modulus ct__law_modulus), sl__law_modulus⟩)
    (c__law_modulus : PySem.W.codeIn K cd__law_modulus "_law_modulus" = true)
    (k__law_modulus : PySem.W.keepIn K (.ref f__law_modulus) = true)
    (a__law_product : PySem.W.nsIn K mainGlobals "_law_product" = some (some (.ref f__law_product)))
    (l__law_product : K.lookup f__law_product = some ⟨oc__law_product, od__law_product, .func (PySem.W.fnOf "_law_product" "_law_product" (defArgs s__law_product) (defBody s__law_product) (defScope s__law_product) .none kV__law_product dc__law_product pm__law_product an__law_product cd__law_product ct__law_product), sl__law_product⟩)
    (c__law_product : PySem.W.codeIn K cd__law_product "_law_product" = true)
    (k__law_product : PySem.W.keepIn K (.ref f__law_product) = true)
    (a__law_power : PySem.W.nsIn K mainGlobals "_law_power" = some (some (.ref f__law_power)))
    (l__law_power : K.lookup f__law_power = some ⟨oc__law_power, od__law_power, .func (PySem.W.fnOf "_law_power" "_law_power" (defArgs s__law_power) (defBody s__law_power) (defScope s__law_power) .none kV__law_power dc__law_power pm__law_power an__law_power cd__law_power ct__law_power), sl__law_power⟩)
    (c__law_power : PySem.W.codeIn K cd__law_power "_law_power" = true)
    (k__law_power : PySem.W.keepIn K (.ref f__law_power) = true)
    (a__law_order : PySem.W.nsIn K mainGlobals "_law_order" = some (some (.ref f__law_order)))
    (l__law_order : K.lookup f__law_order = some ⟨oc__law_order, od__law_order, .func (PySem.W.fnOf "_law_order" "_law_order" (defArgs s__law_order) (defBody s__law_order) (defScope s__law_order) .none kV__law_order dc__law_order pm__law_order an__law_order cd__law_order ct__law_order), sl__law_order⟩)
    (c__law_order : PySem.W.codeIn K cd__law_order "_law_order" = true)
    (k__law_order : PySem.W.keepIn K (.ref f__law_order) = true)
    (a__law_made : PySem.W.nsIn K mainGlobals "_law_made" = some (some (.ref f__law_made)))
    (l__law_made : K.lookup f__law_made = some ⟨oc__law_made, od__law_made, .func (PySem.W.fnOf "_law_made" "_law_made" (defArgs s__law_made) (defBody s__law_made) (defScope s__law_made) .none kV__law_made dc__law_made pm__law_made an__law_made cd__law_made ct__law_made), sl__law_made⟩)
    (c__law_made : PySem.W.codeIn K cd__law_made "_law_made" = true)
    (k__law_made : PySem.W.keepIn K (.ref f__law_made) = true)
    (a__law_refused : PySem.W.nsIn K mainGlobals "_law_refused" = some (some (.ref f__law_refused)))
    (l__law_refused : K.lookup f__law_refused = some ⟨oc__law_refused, od__law_refused, .func (PySem.W.fnOf "_law_refused" "_law_refused" (defArgs s__law_refused) (defBody s__law_refused) (defScope s__law_refused) .none kV__law_refused dc__law_refused pm__law_refused an__law_refused cd__law_refused ct__law_refused), sl__law_refused⟩)
    (c__law_refused : PySem.W.codeIn K cd__law_refused "_law_refused" = true)
    (k__law_refused : PySem.W.keepIn K (.ref f__law_refused) = true)
    (a__law_no_inverse : PySem.W.nsIn K mainGlobals "_law_no_inverse" = some (some (.ref f__law_no_inverse)))
    (l__law_no_inverse : K.lookup f__law_no_inverse = some ⟨oc__law_no_inverse, od__law_no_inverse, .func (PySem.W.fnOf "_law_no_inverse" "_law_no_inverse" (defArgs s__law_no_inverse) (defBody s__law_no_inverse) (defScope s__law_no_inverse) .none kV__law_no_inverse dc__law_no_inverse pm__law_no_inverse an__law_no_inverse cd__law_no_inverse ct__law_no_inverse), sl__law_no_inverse⟩)
    (c__law_no_inverse : PySem.W.codeIn K cd__law_no_inverse "_law_no_inverse" = true)
    (k__law_no_inverse : PySem.W.keepIn K (.ref f__law_no_inverse) = true)
    (a__law_element : PySem.W.nsIn K mainGlobals "_law_element" = some (some (.ref f__law_element)))
    (l__law_element : K.lookup f__law_element = some ⟨oc__law_element, od__law_element, .func (PySem.W.fnOf "_law_element" "_law_element" (defArgs s__law_element) (defBody s__law_element) (defScope s__law_element) .none kV__law_element dc__law_element pm__law_element an__law_element cd__law_element ct__law_element), sl__law_element⟩)
    (c__law_element : PySem.W.codeIn K cd__law_element "_law_element" = true)
    (k__law_element : PySem.W.keepIn K (.ref f__law_element) = true)
    (a_law : PySem.W.nsIn K mainGlobals "law" = some (some (.ref f_law)))
    (l_law : K.lookup f_law = some ⟨oc_law, od_law, .func (PySem.W.fnOf "law" "law" (defArgs s_law) (defBody s_law) (defScope s_law) .none kV_law dc_law pm_law an_law cd_law ct_law), sl_law⟩)
    (c_law : PySem.W.codeIn K cd_law "law" = true)
    (k_law : PySem.W.keepIn K (.ref f_law) = true)
    (a_X : PySem.W.nsIn K mainGlobals "X" = some (some (.int 2 t_X)))
    (a_Field : PySem.W.nsIn K mainGlobals "Field" = some (some (.ref C_Field)))
    (pg_Field : PySem.W.plainGet K C_Field Str.empty = true)
    (hd_Field : PySem.W.hasDictIn K C_Field = true)
    (po_Field : PySem.W.plainOver K C_Field = true)
    (sa_Field : PySem.W.findIn K (.ref C_Field) "__setattr__" = some (some (.builtin "object.__setattr__")))
    (mk_Field : PySem.W.makesIn K C_Field = true)
    (kc_Field : PySem.W.keepIn K (.ref C_Field) = true)
    (n_Field__bits : PySem.W.findIn K (.ref C_Field) "_bits" = some none)
    (n_Field__modulus : PySem.W.findIn K (.ref C_Field) "_modulus" = some none)
    (n_Field__turn : PySem.W.findIn K (.ref C_Field) "_turn" = some none)
    (n_Field__powers : PySem.W.findIn K (.ref C_Field) "_powers" = some none)
    (n_Field__logs : PySem.W.findIn K (.ref C_Field) "_logs" = some none)
    (n_Field__products : PySem.W.findIn K (.ref C_Field) "_products" = some none)
    (a_Field___init__ : PySem.W.findIn K (.ref C_Field) "__init__" = some (some (.ref f_Field___init__)))
    (i_Field___init__ : PySem.W.isFn K (.ref f_Field___init__) = true)
    (l_Field___init__ : K.lookup f_Field___init__ = some ⟨oc_Field___init__, od_Field___init__, .func (PySem.W.fnOf "__init__" "Field.__init__" (defArgs s_Field___init__) (defBody s_Field___init__) (defScope s_Field___init__) .none kV_Field___init__ dc_Field___init__ pm_Field___init__ an_Field___init__ cd_Field___init__ ct_Field___init__), sl_Field___init__⟩)
    (c_Field___init__ : PySem.W.codeIn K cd_Field___init__ "Field.__init__" = true)
    (k_Field___init__ : PySem.W.keepIn K (.ref f_Field___init__) = true)
    (a_Field_bits : PySem.W.findIn K (.ref C_Field) "bits" = some (some (.ref f_Field_bits)))
    (i_Field_bits : PySem.W.isFn K (.ref f_Field_bits) = true)
    (l_Field_bits : K.lookup f_Field_bits = some ⟨oc_Field_bits, od_Field_bits, .func (PySem.W.fnOf "bits" "Field.bits" (defArgs s_Field_bits) (defBody s_Field_bits) (defScope s_Field_bits) .none kV_Field_bits dc_Field_bits pm_Field_bits an_Field_bits cd_Field_bits ct_Field_bits), sl_Field_bits⟩)
    (c_Field_bits : PySem.W.codeIn K cd_Field_bits "Field.bits" = true)
    (k_Field_bits : PySem.W.keepIn K (.ref f_Field_bits) = true)
    (a_Field_modulus : PySem.W.findIn K (.ref C_Field) "modulus" = some (some (.ref f_Field_modulus)))
    (i_Field_modulus : PySem.W.isFn K (.ref f_Field_modulus) = true)
    (l_Field_modulus : K.lookup f_Field_modulus = some ⟨oc_Field_modulus, od_Field_modulus, .func (PySem.W.fnOf "modulus" "Field.modulus" (defArgs s_Field_modulus) (defBody s_Field_modulus) (defScope s_Field_modulus) .none kV_Field_modulus dc_Field_modulus pm_Field_modulus an_Field_modulus cd_Field_modulus ct_Field_modulus), sl_Field_modulus⟩)
    (c_Field_modulus : PySem.W.codeIn K cd_Field_modulus "Field.modulus" = true)
    (k_Field_modulus : PySem.W.keepIn K (.ref f_Field_modulus) = true)
    (a_Field_size : PySem.W.findIn K (.ref C_Field) "size" = some (some (.ref f_Field_size)))
    (i_Field_size : PySem.W.isFn K (.ref f_Field_size) = true)
    (l_Field_size : K.lookup f_Field_size = some ⟨oc_Field_size, od_Field_size, .func (PySem.W.fnOf "size" "Field.size" (defArgs s_Field_size) (defBody s_Field_size) (defScope s_Field_size) .none kV_Field_size dc_Field_size pm_Field_size an_Field_size cd_Field_size ct_Field_size), sl_Field_size⟩)
    (c_Field_size : PySem.W.codeIn K cd_Field_size "Field.size" = true)
    (k_Field_size : PySem.W.keepIn K (.ref f_Field_size) = true)
    (a_Field_add : PySem.W.findIn K (.ref C_Field) "add" = some (some (.ref f_Field_add)))
    (i_Field_add : PySem.W.isFn K (.ref f_Field_add) = true)
    (l_Field_add : K.lookup f_Field_add = some ⟨oc_Field_add, od_Field_add, .func (PySem.W.fnOf "add" "Field.add" (defArgs s_Field_add) (defBody s_Field_add) (defScope s_Field_add) .none kV_Field_add dc_Field_add pm_Field_add an_Field_add cd_Field_add ct_Field_add), sl_Field_add⟩)
    (c_Field_add : PySem.W.codeIn K cd_Field_add "Field.add" = true)
    (k_Field_add : PySem.W.keepIn K (.ref f_Field_add) = true)
    (a_Field_times : PySem.W.findIn K (.ref C_Field) "times" = some (some (.ref f_Field_times)))
    (i_Field_times : PySem.W.isFn K (.ref f_Field_times) = true)
    (l_Field_times : K.lookup f_Field_times = some ⟨oc_Field_times, od_Field_times, .func (PySem.W.fnOf "times" "Field.times" (defArgs s_Field_times) (defBody s_Field_times) (defScope s_Field_times) .none kV_Field_times dc_Field_times pm_Field_times an_Field_times cd_Field_times ct_Field_times), sl_Field_times⟩)
    (c_Field_times : PySem.W.codeIn K cd_Field_times "Field.times" = true)
    (k_Field_times : PySem.W.keepIn K (.ref f_Field_times) = true)
    (a_Field_inverse : PySem.W.findIn K (.ref C_Field) "inverse" = some (some (.ref f_Field_inverse)))
    (i_Field_inverse : PySem.W.isFn K (.ref f_Field_inverse) = true)
    (l_Field_inverse : K.lookup f_Field_inverse = some ⟨oc_Field_inverse, od_Field_inverse, .func (PySem.W.fnOf "inverse" "Field.inverse" (defArgs s_Field_inverse) (defBody s_Field_inverse) (defScope s_Field_inverse) .none kV_Field_inverse dc_Field_inverse pm_Field_inverse an_Field_inverse cd_Field_inverse ct_Field_inverse), sl_Field_inverse⟩)
    (c_Field_inverse : PySem.W.codeIn K cd_Field_inverse "Field.inverse" = true)
    (k_Field_inverse : PySem.W.keepIn K (.ref f_Field_inverse) = true)
    (a_Field_power : PySem.W.findIn K (.ref C_Field) "power" = some (some (.ref f_Field_power)))
    (i_Field_power : PySem.W.isFn K (.ref f_Field_power) = true)
    (l_Field_power : K.lookup f_Field_power = some ⟨oc_Field_power, od_Field_power, .func (PySem.W.fnOf "power" "Field.power" (defArgs s_Field_power) (defBody s_Field_power) (defScope s_Field_power) .none kV_Field_power dc_Field_power pm_Field_power an_Field_power cd_Field_power ct_Field_power), sl_Field_power⟩)
    (c_Field_power : PySem.W.codeIn K cd_Field_power "Field.power" = true)
    (k_Field_power : PySem.W.keepIn K (.ref f_Field_power) = true)
    (a_Field_order : PySem.W.findIn K (.ref C_Field) "order" = some (some (.ref f_Field_order)))
    (i_Field_order : PySem.W.isFn K (.ref f_Field_order) = true)
    (l_Field_order : K.lookup f_Field_order = some ⟨oc_Field_order, od_Field_order, .func (PySem.W.fnOf "order" "Field.order" (defArgs s_Field_order) (defBody s_Field_order) (defScope s_Field_order) .none kV_Field_order dc_Field_order pm_Field_order an_Field_order cd_Field_order ct_Field_order), sl_Field_order⟩)
    (c_Field_order : PySem.W.codeIn K cd_Field_order "Field.order" = true)
    (k_Field_order : PySem.W.keepIn K (.ref f_Field_order) = true)
    (a_Field_log : PySem.W.findIn K (.ref C_Field) "log" = some (some (.ref f_Field_log)))
    (i_Field_log : PySem.W.isFn K (.ref f_Field_log) = true)
    (l_Field_log : K.lookup f_Field_log = some ⟨oc_Field_log, od_Field_log, .func (PySem.W.fnOf "log" "Field.log" (defArgs s_Field_log) (defBody s_Field_log) (defScope s_Field_log) .none kV_Field_log dc_Field_log pm_Field_log an_Field_log cd_Field_log ct_Field_log), sl_Field_log⟩)
    (c_Field_log : PySem.W.codeIn K cd_Field_log "Field.log" = true)
    (k_Field_log : PySem.W.keepIn K (.ref f_Field_log) = true)
    (a_Field_root : PySem.W.findIn K (.ref C_Field) "root" = some (some (.ref f_Field_root)))
    (i_Field_root : PySem.W.isFn K (.ref f_Field_root) = true)
    (l_Field_root : K.lookup f_Field_root = some ⟨oc_Field_root, od_Field_root, .func (PySem.W.fnOf "root" "Field.root" (defArgs s_Field_root) (defBody s_Field_root) (defScope s_Field_root) .none kV_Field_root dc_Field_root pm_Field_root an_Field_root cd_Field_root ct_Field_root), sl_Field_root⟩)
    (c_Field_root : PySem.W.codeIn K cd_Field_root "Field.root" = true)
    (k_Field_root : PySem.W.keepIn K (.ref f_Field_root) = true)
    (k12 : PySem.W.kitOne K (.ref C_OutOfRange) (.ref C_NotIrreducible) = some false)
    (k21 : PySem.W.kitOne K (.ref C_NotIrreducible) (.ref C_OutOfRange) = some false)
    (g_gcd : PySem.W.nsIn K mainGlobals "gcd" = some (some (.builtin "math.gcd")))
    (z_range : PySem.W.nsIn K mainGlobals "range" = some none)
    (z_len : PySem.W.nsIn K mainGlobals "len" = some none)
    (z_abs : PySem.W.nsIn K mainGlobals "abs" = some none)
    (z_int : PySem.W.nsIn K mainGlobals "int" = some none)
    (z_max : PySem.W.nsIn K mainGlobals "max" = some none)
    (z_min : PySem.W.nsIn K mainGlobals "min" = some none)
    (z_sum : PySem.W.nsIn K mainGlobals "sum" = some none)
    (z_list : PySem.W.nsIn K mainGlobals "list" = some none)
    (z_isinstance : PySem.W.nsIn K mainGlobals "isinstance" = some none)
    (z_enumerate : PySem.W.nsIn K mainGlobals "enumerate" = some none)
    (z_zip : PySem.W.nsIn K mainGlobals "zip" = some none)
    (z_reversed : PySem.W.nsIn K mainGlobals "reversed" = some none)
    (z_any : PySem.W.nsIn K mainGlobals "any" = some none)
    (z_all : PySem.W.nsIn K mainGlobals "all" = some none)
    (z_ValueError : PySem.W.nsIn K mainGlobals "ValueError" = some none)
    : ∃ fd : FuncData, (∀ (s : Shared) (v : Value), BindsTo s fd ⟨[v], []⟩ [("script", v)]) ∧ ∀ base : Heap, K.In base → base.Ns mainGlobals mg → FnOk l.prog w K mg base CX0 12 fa fd ["script"] (sp_law K) := by
  have e := hfa.symm.trans (PySem.W.mg_of X G a_law)
  cases e
  have B : Bl mg := ⟨PySem.W.mg_none_of X G z_range, PySem.W.mg_none_of X G z_len, PySem.W.mg_none_of X G z_abs, PySem.W.mg_none_of X G z_int, PySem.W.mg_none_of X G z_max, PySem.W.mg_none_of X G z_min, PySem.W.mg_none_of X G z_sum, PySem.W.mg_none_of X G z_list, PySem.W.mg_none_of X G z_isinstance, PySem.W.mg_none_of X G z_enumerate, PySem.W.mg_none_of X G z_zip, PySem.W.mg_none_of X G z_reversed, PySem.W.mg_none_of X G z_any, PySem.W.mg_none_of X G z_all, PySem.W.mg_none_of X G z_ValueError⟩
  have F_degree := fun_mk (st := s_degree) l_degree c_degree k_degree
  have D_degree : Df K mg "degree" ["p"] s_degree _ _ := ⟨F_degree, PySem.W.mg_of X G a_degree, F_degree.binds (ps := ["p"]) fun _ _ _ _ _ _ us hl => match us, hl with | [_], _ => rfl⟩
  have F_times := fun_mk (st := s_times) l_times c_times k_times
  have D_times : Df K mg "times" ["p", "q"] s_times _ _ := ⟨F_times, PySem.W.mg_of X G a_times, F_times.binds (ps := ["p", "q"]) fun _ _ _ _ _ _ us hl => match us, hl with | [_, _], _ => rfl⟩
  have F_divide := fun_mk (st := s_divide) l_divide c_divide k_divide
  have D_divide : Df K mg "divide" ["p", "q"] s_divide _ _ := ⟨F_divide, PySem.W.mg_of X G a_divide, F_divide.binds (ps := ["p", "q"]) fun _ _ _ _ _ _ us hl => match us, hl with | [_, _], _ => rfl⟩
  have F_common := fun_mk (st := s_common) l_common c_common k_common
  have D_common : Df K mg "common" ["p", "q"] s_common _ _ := ⟨F_common, PySem.W.mg_of X G a_common, F_common.binds (ps := ["p", "q"]) fun _ _ _ _ _ _ us hl => match us, hl with | [_, _], _ => rfl⟩
  have F_product_rest := fun_mk (st := s_product_rest) l_product_rest c_product_rest k_product_rest
  have D_product_rest : Df K mg "product_rest" ["p", "q", "modulus"] s_product_rest _ _ := ⟨F_product_rest, PySem.W.mg_of X G a_product_rest, F_product_rest.binds (ps := ["p", "q", "modulus"]) fun _ _ _ _ _ _ us hl => match us, hl with | [_, _, _], _ => rfl⟩
  have F_is_irreducible := fun_mk (st := s_is_irreducible) l_is_irreducible c_is_irreducible k_is_irreducible
  have D_is_irreducible : Df K mg "is_irreducible" ["p"] s_is_irreducible _ _ := ⟨F_is_irreducible, PySem.W.mg_of X G a_is_irreducible, F_is_irreducible.binds (ps := ["p"]) fun _ _ _ _ _ _ us hl => match us, hl with | [_], _ => rfl⟩
  have F__powers_of := fun_mk (st := s__powers_of) l__powers_of c__powers_of k__powers_of
  have D__powers_of : Df K mg "_powers_of" ["e", "modulus"] s__powers_of _ _ := ⟨F__powers_of, PySem.W.mg_of X G a__powers_of, F__powers_of.binds (ps := ["e", "modulus"]) fun _ _ _ _ _ _ us hl => match us, hl with | [_, _], _ => rfl⟩
  have F__root_powers := fun_mk (st := s__root_powers) l__root_powers c__root_powers k__root_powers
  have D__root_powers : Df K mg "_root_powers" ["turn", "modulus"] s__root_powers _ _ := ⟨F__root_powers, PySem.W.mg_of X G a__root_powers, F__root_powers.binds (ps := ["turn", "modulus"]) fun _ _ _ _ _ _ us hl => match us, hl with | [_, _], _ => rfl⟩
  have F__law_numbers := fun_mk (st := s__law_numbers) l__law_numbers c__law_numbers k__law_numbers
  have D__law_numbers : Df K mg "_law_numbers" ["script", "many"] s__law_numbers _ _ := ⟨F__law_numbers, PySem.W.mg_of X G a__law_numbers, F__law_numbers.binds (ps := ["script", "many"]) fun _ _ _ _ _ _ us hl => match us, hl with | [_, _], _ => rfl⟩
  have F__law_degree := fun_mk (st := s__law_degree) l__law_degree c__law_degree k__law_degree
  have D__law_degree : Df K mg "_law_degree" ["p"] s__law_degree _ _ := ⟨F__law_degree, PySem.W.mg_of X G a__law_degree, F__law_degree.binds (ps := ["p"]) fun _ _ _ _ _ _ us hl => match us, hl with | [_], _ => rfl⟩
  have F__law_times := fun_mk (st := s__law_times) l__law_times c__law_times k__law_times
  have D__law_times : Df K mg "_law_times" ["p", "q"] s__law_times _ _ := ⟨F__law_times, PySem.W.mg_of X G a__law_times, F__law_times.binds (ps := ["p", "q"]) fun _ _ _ _ _ _ us hl => match us, hl with | [_, _], _ => rfl⟩
  have F__law_divided := fun_mk (st := s__law_divided) l__law_divided c__law_divided k__law_divided
  have D__law_divided : Df K mg "_law_divided" ["p", "q"] s__law_divided _ _ := ⟨F__law_divided, PySem.W.mg_of X G a__law_divided, F__law_divided.binds (ps := ["p", "q"]) fun _ _ _ _ _ _ us hl => match us, hl with | [_, _], _ => rfl⟩
  have F__law_irreducible := fun_mk (st := s__law_irreducible) l__law_irreducible c__law_irreducible k__law_irreducible
  have D__law_irreducible : Df K mg "_law_irreducible" ["p"] s__law_irreducible _ _ := ⟨F__law_irreducible, PySem.W.mg_of X G a__law_irreducible, F__law_irreducible.binds (ps := ["p"]) fun _ _ _ _ _ _ us hl => match us, hl with | [_], _ => rfl⟩
  have F__law_modulus := fun_mk (st := s__law_modulus) l__law_modulus c__law_modulus k__law_modulus
  have D__law_modulus : Df K mg "_law_modulus" ["m", "drawn"] s__law_modulus _ _ := ⟨F__law_modulus, PySem.W.mg_of X G a__law_modulus, F__law_modulus.binds (ps := ["m", "drawn"]) fun _ _ _ _ _ _ us hl => match us, hl with | [_, _], _ => rfl⟩
  have F__law_product := fun_mk (st := s__law_product) l__law_product c__law_product k__law_product
  have D__law_product : Df K mg "_law_product" ["modulus", "e", "f"] s__law_product _ _ := ⟨F__law_product, PySem.W.mg_of X G a__law_product, F__law_product.binds (ps := ["modulus", "e", "f"]) fun _ _ _ _ _ _ us hl => match us, hl with | [_, _, _], _ => rfl⟩
  have F__law_power := fun_mk (st := s__law_power) l__law_power c__law_power k__law_power
  have D__law_power : Df K mg "_law_power" ["modulus", "e", "k"] s__law_power _ _ := ⟨F__law_power, PySem.W.mg_of X G a__law_power, F__law_power.binds (ps := ["modulus", "e", "k"]) fun _ _ _ _ _ _ us hl => match us, hl with | [_, _, _], _ => rfl⟩
  have F__law_order := fun_mk (st := s__law_order) l__law_order c__law_order k__law_order
  have D__law_order : Df K mg "_law_order" ["modulus", "e"] s__law_order _ _ := ⟨F__law_order, PySem.W.mg_of X G a__law_order, F__law_order.binds (ps := ["modulus", "e"]) fun _ _ _ _ _ _ us hl => match us, hl with | [_, _], _ => rfl⟩
  have F__law_made := fun_mk (st := s__law_made) l__law_made c__law_made k__law_made
  have D__law_made : Df K mg "_law_made" ["m", "modulus"] s__law_made _ _ := ⟨F__law_made, PySem.W.mg_of X G a__law_made, F__law_made.binds (ps := ["m", "modulus"]) fun _ _ _ _ _ _ us hl => match us, hl with | [_, _], _ => rfl⟩
  have F__law_refused := fun_mk (st := s__law_refused) l__law_refused c__law_refused k__law_refused
  have D__law_refused : Df K mg "_law_refused" ["m", "modulus"] s__law_refused _ _ := ⟨F__law_refused, PySem.W.mg_of X G a__law_refused, F__law_refused.binds (ps := ["m", "modulus"]) fun _ _ _ _ _ _ us hl => match us, hl with | [_, _], _ => rfl⟩
  have F__law_no_inverse := fun_mk (st := s__law_no_inverse) l__law_no_inverse c__law_no_inverse k__law_no_inverse
  have D__law_no_inverse : Df K mg "_law_no_inverse" ["field"] s__law_no_inverse _ _ := ⟨F__law_no_inverse, PySem.W.mg_of X G a__law_no_inverse, F__law_no_inverse.binds (ps := ["field"]) fun _ _ _ _ _ _ us hl => match us, hl with | [_], _ => rfl⟩
  have F__law_element := fun_mk (st := s__law_element) l__law_element c__law_element k__law_element
  have D__law_element : Df K mg "_law_element" ["field", "m", "modulus", "e", "f", "k"] s__law_element _ _ := ⟨F__law_element, PySem.W.mg_of X G a__law_element, F__law_element.binds (ps := ["field", "m", "modulus", "e", "f", "k"]) fun _ _ _ _ _ _ us hl => match us, hl with | [_, _, _, _, _, _], _ => rfl⟩
  have F_law := fun_mk (st := s_law) l_law c_law k_law
  have D_law : Df K mg "law" ["script"] s_law _ _ := ⟨F_law, PySem.W.mg_of X G a_law, F_law.binds (ps := ["script"]) fun _ _ _ _ _ _ us hl => match us, hl with | [_], _ => rfl⟩
  have F_init := fun_mk (st := s_init) l_init c_init k_init
  have b_init := F_init.binds (ps := ["self", "at"]) fun _ _ _ _ _ _ us hl => match us, hl with | [_, _], _ => rfl
  have X_HaulError : XC K mg "HaulError" C_HaulError f_init C_HaulError := ⟨⟨⟨nm_HaulError, q_HaulError, N_HaulError, bs_HaulError, bm_HaulError, sn_HaulError, sub_HaulError, ab_HaulError, col_HaulError, dd_HaulError, k0_HaulError, k1_HaulError, k2_HaulError, k3_HaulError, k5_HaulError, x_HaulError, r_HaulError⟩, sa_HaulError, e_HaulError, ty_HaulError, kc_HaulError⟩, ga_HaulError, gg_HaulError, hd_HaulError, cl_HaulError, sp_cls, tk_cls, mo_HaulError, no_HaulError, PySem.W.mg_of X G a_HaulError, i_init, ti_init, PySem.W.exm_ref e_HaulError hd_HaulError ty_HaulError su_HaulError⟩
  have X_OutOfRange : XC K mg "OutOfRange" C_OutOfRange f_init C_HaulError := ⟨⟨⟨nm_OutOfRange, q_OutOfRange, N_OutOfRange, bs_OutOfRange, bm_OutOfRange, sn_OutOfRange, sub_OutOfRange, ab_OutOfRange, col_OutOfRange, dd_OutOfRange, k0_OutOfRange, k1_OutOfRange, k2_OutOfRange, k3_OutOfRange, k5_OutOfRange, x_OutOfRange, r_OutOfRange⟩, sa_OutOfRange, e_OutOfRange, ty_OutOfRange, kc_OutOfRange⟩, ga_OutOfRange, gg_OutOfRange, hd_OutOfRange, cl_OutOfRange, sp_cls, tk_cls, mo_OutOfRange, no_OutOfRange, PySem.W.mg_of X G a_OutOfRange, ii_OutOfRange, ti_init, PySem.W.exm_ref e_HaulError hd_HaulError ty_HaulError su_OutOfRange⟩
  have X_NotIrreducible : XC K mg "NotIrreducible" C_NotIrreducible f_init C_HaulError := ⟨⟨⟨nm_NotIrreducible, q_NotIrreducible, N_NotIrreducible, bs_NotIrreducible, bm_NotIrreducible, sn_NotIrreducible, sub_NotIrreducible, ab_NotIrreducible, col_NotIrreducible, dd_NotIrreducible, k0_NotIrreducible, k1_NotIrreducible, k2_NotIrreducible, k3_NotIrreducible, k5_NotIrreducible, x_NotIrreducible, r_NotIrreducible⟩, sa_NotIrreducible, e_NotIrreducible, ty_NotIrreducible, kc_NotIrreducible⟩, ga_NotIrreducible, gg_NotIrreducible, hd_NotIrreducible, cl_NotIrreducible, sp_cls, tk_cls, mo_NotIrreducible, no_NotIrreducible, PySem.W.mg_of X G a_NotIrreducible, ii_NotIrreducible, ti_init, PySem.W.exm_ref e_HaulError hd_HaulError ty_HaulError su_NotIrreducible⟩
  have X_NoInverse : XC K mg "NoInverse" C_NoInverse f_init C_HaulError := ⟨⟨⟨nm_NoInverse, q_NoInverse, N_NoInverse, bs_NoInverse, bm_NoInverse, sn_NoInverse, sub_NoInverse, ab_NoInverse, col_NoInverse, dd_NoInverse, k0_NoInverse, k1_NoInverse, k2_NoInverse, k3_NoInverse, k5_NoInverse, x_NoInverse, r_NoInverse⟩, sa_NoInverse, e_NoInverse, ty_NoInverse, kc_NoInverse⟩, ga_NoInverse, gg_NoInverse, hd_NoInverse, cl_NoInverse, sp_cls, tk_cls, mo_NoInverse, no_NoInverse, PySem.W.mg_of X G a_NoInverse, ii_NoInverse, ti_init, PySem.W.exm_ref e_HaulError hd_HaulError ty_HaulError su_NoInverse⟩
  have X_NoDivisor : XC K mg "NoDivisor" C_NoDivisor f_init C_HaulError := ⟨⟨⟨nm_NoDivisor, q_NoDivisor, N_NoDivisor, bs_NoDivisor, bm_NoDivisor, sn_NoDivisor, sub_NoDivisor, ab_NoDivisor, col_NoDivisor, dd_NoDivisor, k0_NoDivisor, k1_NoDivisor, k2_NoDivisor, k3_NoDivisor, k5_NoDivisor, x_NoDivisor, r_NoDivisor⟩, sa_NoDivisor, e_NoDivisor, ty_NoDivisor, kc_NoDivisor⟩, ga_NoDivisor, gg_NoDivisor, hd_NoDivisor, cl_NoDivisor, sp_cls, tk_cls, mo_NoDivisor, no_NoDivisor, PySem.W.mg_of X G a_NoDivisor, ii_NoDivisor, ti_init, PySem.W.exm_ref e_HaulError hd_HaulError ty_HaulError su_NoDivisor⟩
  have K_Field : Cls K C_Field := ⟨pg_Field, hd_Field, po_Field, sa_Field⟩
  have g_Field := PySem.W.mg_of X G a_Field
  have F_Field___init__ := fun_mk (st := s_Field___init__) l_Field___init__ c_Field___init__ k_Field___init__
  have b_Field___init__ := F_Field___init__.binds (ps := ["self", "m", "modulus"]) fun _ _ _ _ _ _ us hl => match us, hl with | [_, _, _], _ => rfl
  have M_Field : Mk K C_Field f_Field___init__ := ⟨mk_Field, a_Field___init__, i_Field___init__, kc_Field⟩
  have F_Field_bits := fun_mk (st := s_Field_bits) l_Field_bits c_Field_bits k_Field_bits
  have b_Field_bits := F_Field_bits.binds (ps := ["self"]) fun _ _ _ _ _ _ us hl => match us, hl with | [_], _ => rfl
  have M_Field_bits : Meth K C_Field "bits" f_Field_bits := ⟨a_Field_bits, i_Field_bits, k_Field_bits⟩
  have F_Field_modulus := fun_mk (st := s_Field_modulus) l_Field_modulus c_Field_modulus k_Field_modulus
  have b_Field_modulus := F_Field_modulus.binds (ps := ["self"]) fun _ _ _ _ _ _ us hl => match us, hl with | [_], _ => rfl
  have M_Field_modulus : Meth K C_Field "modulus" f_Field_modulus := ⟨a_Field_modulus, i_Field_modulus, k_Field_modulus⟩
  have F_Field_size := fun_mk (st := s_Field_size) l_Field_size c_Field_size k_Field_size
  have b_Field_size := F_Field_size.binds (ps := ["self"]) fun _ _ _ _ _ _ us hl => match us, hl with | [_], _ => rfl
  have M_Field_size : Meth K C_Field "size" f_Field_size := ⟨a_Field_size, i_Field_size, k_Field_size⟩
  have F_Field_add := fun_mk (st := s_Field_add) l_Field_add c_Field_add k_Field_add
  have b_Field_add := F_Field_add.binds (ps := ["self", "e", "f"]) fun _ _ _ _ _ _ us hl => match us, hl with | [_, _, _], _ => rfl
  have M_Field_add : Meth K C_Field "add" f_Field_add := ⟨a_Field_add, i_Field_add, k_Field_add⟩
  have F_Field_times := fun_mk (st := s_Field_times) l_Field_times c_Field_times k_Field_times
  have b_Field_times := F_Field_times.binds (ps := ["self", "e", "f"]) fun _ _ _ _ _ _ us hl => match us, hl with | [_, _, _], _ => rfl
  have M_Field_times : Meth K C_Field "times" f_Field_times := ⟨a_Field_times, i_Field_times, k_Field_times⟩
  have F_Field_inverse := fun_mk (st := s_Field_inverse) l_Field_inverse c_Field_inverse k_Field_inverse
  have b_Field_inverse := F_Field_inverse.binds (ps := ["self", "e"]) fun _ _ _ _ _ _ us hl => match us, hl with | [_, _], _ => rfl
  have M_Field_inverse : Meth K C_Field "inverse" f_Field_inverse := ⟨a_Field_inverse, i_Field_inverse, k_Field_inverse⟩
  have F_Field_power := fun_mk (st := s_Field_power) l_Field_power c_Field_power k_Field_power
  have b_Field_power := F_Field_power.binds (ps := ["self", "e", "k"]) fun _ _ _ _ _ _ us hl => match us, hl with | [_, _, _], _ => rfl
  have M_Field_power : Meth K C_Field "power" f_Field_power := ⟨a_Field_power, i_Field_power, k_Field_power⟩
  have F_Field_order := fun_mk (st := s_Field_order) l_Field_order c_Field_order k_Field_order
  have b_Field_order := F_Field_order.binds (ps := ["self", "e"]) fun _ _ _ _ _ _ us hl => match us, hl with | [_, _], _ => rfl
  have M_Field_order : Meth K C_Field "order" f_Field_order := ⟨a_Field_order, i_Field_order, k_Field_order⟩
  have F_Field_log := fun_mk (st := s_Field_log) l_Field_log c_Field_log k_Field_log
  have b_Field_log := F_Field_log.binds (ps := ["self", "e"]) fun _ _ _ _ _ _ us hl => match us, hl with | [_, _], _ => rfl
  have M_Field_log : Meth K C_Field "log" f_Field_log := ⟨a_Field_log, i_Field_log, k_Field_log⟩
  have F_Field_root := fun_mk (st := s_Field_root) l_Field_root c_Field_root k_Field_root
  have b_Field_root := F_Field_root.binds (ps := ["self"]) fun _ _ _ _ _ _ us hl => match us, hl with | [_], _ => rfl
  have M_Field_root : Meth K C_Field "root" f_Field_root := ⟨a_Field_root, i_Field_root, k_Field_root⟩
  have c_X := PySem.W.mg_of X G a_X
  refine ⟨PySem.W.fnOf "law" "law" (defArgs s_law) (defBody s_law) (defScope s_law) .none kV_law dc_law pm_law an_law cd_law ct_law, fun s v => .of_eq rfl, fun base _ _ => ?_⟩
  have c_gcd := PySem.W.mg_of X G g_gcd
  have T : FC K C_Field := ⟨K_Field, n_Field__bits, n_Field__modulus, n_Field__turn, n_Field__powers, n_Field__logs, n_Field__products⟩
  have G_init := ok_init (P := l.prog) (w := w) (base := base) (mg := mg) F_init B.ValueError v_init
  have G_degree := ok_degree (P := l.prog) (w := w) (base := base) (mg := mg) D_degree
  have G_times := ok_times (P := l.prog) (w := w) (base := base) (mg := mg) D_times B
  have G_divide := ok_divide (P := l.prog) (w := w) (base := base) (mg := mg) D_divide D_degree X_NoDivisor G_init b_init
  have G_common := ok_common (P := l.prog) (w := w) (base := base) (mg := mg) D_common D_divide G_divide
  have G_product_rest := ok_product_rest (P := l.prog) (w := w) (base := base) (mg := mg) D_product_rest D_divide G_divide D_times G_times
  have G_is_irreducible := ok_is_irreducible (P := l.prog) (w := w) (base := base) (mg := mg) D_is_irreducible B c_X D_degree G_degree D_product_rest G_product_rest D_common G_common
  have G__powers_of := ok__powers_of (P := l.prog) (w := w) (base := base) (mg := mg) D__powers_of D_product_rest G_product_rest
  have G__root_powers := ok__root_powers (P := l.prog) (w := w) (base := base) (mg := mg) D__root_powers B D__powers_of G__powers_of
  have G_Field___init__ := ok_Field___init__ (P := l.prog) (w := w) (base := base) (mg := mg) F_Field___init__ B T D_degree G_degree D_is_irreducible G_is_irreducible D__root_powers G__root_powers X_OutOfRange X_NotIrreducible G_init b_init
  have G_Field_log := ok_Field_log (P := l.prog) (w := w) (base := base) (mg := mg) F_Field_log T X_NoInverse G_init b_init
  have G_Field_bits := ok_Field_bits (P := l.prog) (w := w) (base := base) (mg := mg) F_Field_bits T
  have G_Field_modulus := ok_Field_modulus (P := l.prog) (w := w) (base := base) (mg := mg) F_Field_modulus T
  have G_Field_size := ok_Field_size (P := l.prog) (w := w) (base := base) (mg := mg) F_Field_size T
  have G_Field_root := ok_Field_root (P := l.prog) (w := w) (base := base) (mg := mg) F_Field_root T
  have G_Field_add := ok_Field_add (P := l.prog) (w := w) (base := base) (mg := mg) F_Field_add
  have G_Field_times := ok_Field_times (P := l.prog) (w := w) (base := base) (mg := mg) F_Field_times T
  have G_Field_inverse := ok_Field_inverse (P := l.prog) (w := w) (base := base) (mg := mg) F_Field_inverse T M_Field_log b_Field_log G_Field_log
  have G_Field_power := ok_Field_power (P := l.prog) (w := w) (base := base) (mg := mg) F_Field_power T M_Field_log b_Field_log G_Field_log
  have G_Field_order := ok_Field_order (P := l.prog) (w := w) (base := base) (mg := mg) F_Field_order T c_gcd M_Field_log b_Field_log G_Field_log
  have G_M := FM.mk (P := l.prog) (w := w) (base := base) T ⟨_, _, M_Field_bits, b_Field_bits, G_Field_bits⟩ ⟨_, _, M_Field_modulus, b_Field_modulus, G_Field_modulus⟩ ⟨_, _, M_Field_size, b_Field_size, G_Field_size⟩ ⟨_, _, M_Field_root, b_Field_root, G_Field_root⟩ ⟨_, _, M_Field_add, b_Field_add, G_Field_add⟩ ⟨_, _, M_Field_times, b_Field_times, G_Field_times⟩ ⟨_, _, M_Field_log, b_Field_log, G_Field_log⟩ ⟨_, _, M_Field_inverse, b_Field_inverse, G_Field_inverse⟩ ⟨_, _, M_Field_power, b_Field_power, G_Field_power⟩ ⟨_, _, M_Field_order, b_Field_order, G_Field_order⟩
  have G__law_numbers := ok__law_numbers (P := l.prog) (w := w) (base := base) (mg := mg) D__law_numbers B
  have G__law_degree := ok__law_degree (P := l.prog) (w := w) (base := base) (mg := mg) D__law_degree B
  have G__law_times := ok__law_times (P := l.prog) (w := w) (base := base) (mg := mg) D__law_times B
  have G__law_divided := ok__law_divided (P := l.prog) (w := w) (base := base) (mg := mg) D__law_divided B D__law_degree G__law_degree
  have G__law_irreducible := ok__law_irreducible (P := l.prog) (w := w) (base := base) (mg := mg) D__law_irreducible B D__law_degree G__law_degree D__law_divided G__law_divided
  have G__law_modulus := ok__law_modulus (P := l.prog) (w := w) (base := base) (mg := mg) D__law_modulus B D__law_irreducible G__law_irreducible
  have G__law_product := ok__law_product (P := l.prog) (w := w) (base := base) (mg := mg) D__law_product B D__law_divided G__law_divided D__law_times G__law_times
  have G__law_power := ok__law_power (P := l.prog) (w := w) (base := base) (mg := mg) D__law_power B D__law_product G__law_product
  have G__law_order := ok__law_order (P := l.prog) (w := w) (base := base) (mg := mg) D__law_order B D__law_product G__law_product
  have G__law_made := ok__law_made (P := l.prog) (w := w) (base := base) (mg := mg) D__law_made B M_Field g_Field b_Field___init__ G_Field___init__ X_OutOfRange X_NotIrreducible X_HaulError k12 k21
  have G__law_refused := ok__law_refused (P := l.prog) (w := w) (base := base) (mg := mg) D__law_refused B D__law_made G__law_made D__law_degree G__law_degree D__law_irreducible G__law_irreducible
  have G__law_no_inverse := ok__law_no_inverse (P := l.prog) (w := w) (base := base) (mg := mg) D__law_no_inverse B G_M X_NoInverse X_HaulError
  have G__law_element := ok__law_element (P := l.prog) (w := w) (base := base) (mg := mg) D__law_element B G_M D__law_product G__law_product D__law_order G__law_order D__law_power G__law_power
  exact ok_law (P := l.prog) (w := w) (base := base) (mg := mg) D_law B G_M D__law_numbers G__law_numbers D__law_refused G__law_refused D__law_modulus G__law_modulus M_Field g_Field b_Field___init__ G_Field___init__ D__law_no_inverse G__law_no_inverse D__law_order G__law_order D__law_element G__law_element
end K01
open PySem PySem.W PyProof.Rows
set_option maxRecDepth 100000 in
set_option maxHeartbeats 0 in
theorem PySem.Challenge.cw_farhaul_k01_fields_holds : PySem.Challenge.rw_farhaul_k01_fields.Holds := by
  w_on; o_law; k_head; (case hw => w_witness2)
  k_fill
  refine L2.walk_of (l := PySem.Challenge.rw_farhaul_k01_fields) (n := 63) (k := 12) (x := "script") (CX := fun _ => L2.CX0) (sp := fun w => K01.sp_law _) rfl (by decide) rfl ⟨rfl, by decide, by decide⟩ (fun w h Y => PySem.W.kIn_of Y) ?F (fun _ _ a ns hl _ hS => ⟨a, ns, rfl, hS, hl, fun _ => rfl⟩) (fun _ _ _ _ _ h => h)
  case F =>
    intro w mg fa h KX G hmg
    refine' K01.all_mk KX G hmg ?a_HaulError ?a_OutOfRange ?a_NotIrreducible ?a_NoInverse ?a_NoDivisor ?i_init ?ti_init ?l_init ?c_init ?k_init ?v_init ?sp_cls ?tk_cls ?x_HaulError ?r_HaulError ?sa_HaulError ?ga_HaulError ?gg_HaulError ?cl_HaulError ?no_HaulError ?e_HaulError ?ty_HaulError ?kc_HaulError ?hd_HaulError ?mo_HaulError ?su_HaulError ?x_OutOfRange ?r_OutOfRange ?sa_OutOfRange ?ga_OutOfRange ?gg_OutOfRange ?cl_OutOfRange ?no_OutOfRange ?ii_OutOfRange ?e_OutOfRange ?ty_OutOfRange ?kc_OutOfRange ?hd_OutOfRange ?mo_OutOfRange ?su_OutOfRange ?x_NotIrreducible ?r_NotIrreducible ?sa_NotIrreducible ?ga_NotIrreducible ?gg_NotIrreducible ?cl_NotIrreducible ?no_NotIrreducible ?ii_NotIrreducible ?e_NotIrreducible ?ty_NotIrreducible ?kc_NotIrreducible ?hd_NotIrreducible ?mo_NotIrreducible ?su_NotIrreducible ?x_NoInverse ?r_NoInverse ?sa_NoInverse ?ga_NoInverse ?gg_NoInverse ?cl_NoInverse ?no_NoInverse ?ii_NoInverse ?e_NoInverse ?ty_NoInverse ?kc_NoInverse ?hd_NoInverse ?mo_NoInverse ?su_NoInverse ?x_NoDivisor ?r_NoDivisor ?sa_NoDivisor ?ga_NoDivisor ?gg_NoDivisor ?cl_NoDivisor ?no_NoDivisor ?ii_NoDivisor ?e_NoDivisor ?ty_NoDivisor ?kc_NoDivisor ?hd_NoDivisor ?mo_NoDivisor ?su_NoDivisor ?a_degree ?l_degree ?c_degree ?k_degree ?a_times ?l_times ?c_times ?k_times ?a_divide ?l_divide ?c_divide ?k_divide ?a_common ?l_common ?c_common ?k_common ?a_product_rest ?l_product_rest ?c_product_rest ?k_product_rest ?a_is_irreducible ?l_is_irreducible ?c_is_irreducible ?k_is_irreducible ?a__powers_of ?l__powers_of ?c__powers_of ?k__powers_of ?a__root_powers ?l__root_powers ?c__root_powers ?k__root_powers ?a__law_numbers ?l__law_numbers ?c__law_numbers ?k__law_numbers ?a__law_degree ?l__law_degree ?c__law_degree ?k__law_degree ?a__law_times ?l__law_times ?c__law_times ?k__law_times ?a__law_divided ?l__law_divided ?c__law_divided ?k__law_divided ?a__law_irreducible ?l__law_irreducible ?c__law_irreducible ?k__law_irreducible ?a__law_modulus ?l__law_modulus ?c__law_modulus ?k__law_modulus ?a__law_product ?l__law_product ?c__law_product ?k__law_product ?a__law_power ?l__law_power ?c__law_power ?k__law_power ?a__law_order ?l__law_order ?c__law_order ?k__law_order ?a__law_made ?l__law_made ?c__law_made ?k__law_made ?a__law_refused ?l__law_refused ?c__law_refused ?k__law_refused ?a__law_no_inverse ?l__law_no_inverse ?c__law_no_inverse ?k__law_no_inverse ?a__law_element ?l__law_element ?c__law_element ?k__law_element ?a_law ?l_law ?c_law ?k_law ?a_X ?a_Field ?pg_Field ?hd_Field ?po_Field ?sa_Field ?mk_Field ?kc_Field ?n_Field__bits ?n_Field__modulus ?n_Field__turn ?n_Field__powers ?n_Field__logs ?n_Field__products ?a_Field___init__ ?i_Field___init__ ?l_Field___init__ ?c_Field___init__ ?k_Field___init__ ?a_Field_bits ?i_Field_bits ?l_Field_bits ?c_Field_bits ?k_Field_bits ?a_Field_modulus ?i_Field_modulus ?l_Field_modulus ?c_Field_modulus ?k_Field_modulus ?a_Field_size ?i_Field_size ?l_Field_size ?c_Field_size ?k_Field_size ?a_Field_add ?i_Field_add ?l_Field_add ?c_Field_add ?k_Field_add ?a_Field_times ?i_Field_times ?l_Field_times ?c_Field_times ?k_Field_times ?a_Field_inverse ?i_Field_inverse ?l_Field_inverse ?c_Field_inverse ?k_Field_inverse ?a_Field_power ?i_Field_power ?l_Field_power ?c_Field_power ?k_Field_power ?a_Field_order ?i_Field_order ?l_Field_order ?c_Field_order ?k_Field_order ?a_Field_log ?i_Field_log ?l_Field_log ?c_Field_log ?k_Field_log ?a_Field_root ?i_Field_root ?l_Field_root ?c_Field_root ?k_Field_root ?k12 ?k21 ?g_gcd ?z_range ?z_len ?z_abs ?z_int ?z_max ?z_min ?z_sum ?z_list ?z_isinstance ?z_enumerate ?z_zip ?z_reversed ?z_any ?z_all ?z_ValueError
    (case a_HaulError => k_is)
    (case a_OutOfRange => k_is)
    (case a_NotIrreducible => k_is)
    (case a_NoInverse => k_is)
    (case a_NoDivisor => k_is)
    (case i_init => k_is)
    (case ti_init => k_is)
    (case l_init => k_is)
    (case c_init => k_is)
    (case k_init => k_is)
    (case v_init => first | k_is | decide +kernel | rfl)
    (case sp_cls => first | k_is | decide +kernel | rfl)
    (case tk_cls => first | k_is | decide +kernel | rfl)
    (case x_HaulError => k_is)
    (case r_HaulError => first | rfl | decide +kernel)
    (case sa_HaulError => k_is)
    (case ga_HaulError => k_is)
    (case gg_HaulError => k_is)
    (case cl_HaulError => k_is)
    (case no_HaulError => k_is)
    (case e_HaulError => k_is)
    (case ty_HaulError => k_is)
    (case kc_HaulError => k_is)
    (case hd_HaulError => k_is)
    (case mo_HaulError => k_is)
    (case su_HaulError => first | rfl | k_is)
    (case x_OutOfRange => k_is)
    (case r_OutOfRange => first | rfl | decide +kernel)
    (case sa_OutOfRange => k_is)
    (case ga_OutOfRange => k_is)
    (case gg_OutOfRange => k_is)
    (case cl_OutOfRange => k_is)
    (case no_OutOfRange => k_is)
    (case ii_OutOfRange => k_is)
    (case e_OutOfRange => k_is)
    (case ty_OutOfRange => k_is)
    (case kc_OutOfRange => k_is)
    (case hd_OutOfRange => k_is)
    (case mo_OutOfRange => k_is)
    (case su_OutOfRange => first | rfl | k_is)
    (case x_NotIrreducible => k_is)
    (case r_NotIrreducible => first | rfl | decide +kernel)
    (case sa_NotIrreducible => k_is)
    (case ga_NotIrreducible => k_is)
    (case gg_NotIrreducible => k_is)
    (case cl_NotIrreducible => k_is)
    (case no_NotIrreducible => k_is)
    (case ii_NotIrreducible => k_is)
    (case e_NotIrreducible => k_is)
    (case ty_NotIrreducible => k_is)
    (case kc_NotIrreducible => k_is)
    (case hd_NotIrreducible => k_is)
    (case mo_NotIrreducible => k_is)
    (case su_NotIrreducible => first | rfl | k_is)
    (case x_NoInverse => k_is)
    (case r_NoInverse => first | rfl | decide +kernel)
    (case sa_NoInverse => k_is)
    (case ga_NoInverse => k_is)
    (case gg_NoInverse => k_is)
    (case cl_NoInverse => k_is)
    (case no_NoInverse => k_is)
    (case ii_NoInverse => k_is)
    (case e_NoInverse => k_is)
    (case ty_NoInverse => k_is)
    (case kc_NoInverse => k_is)
    (case hd_NoInverse => k_is)
    (case mo_NoInverse => k_is)
    (case su_NoInverse => first | rfl | k_is)
    (case x_NoDivisor => k_is)
    (case r_NoDivisor => first | rfl | decide +kernel)
    (case sa_NoDivisor => k_is)
    (case ga_NoDivisor => k_is)
    (case gg_NoDivisor => k_is)
    (case cl_NoDivisor => k_is)
    (case no_NoDivisor => k_is)
    (case ii_NoDivisor => k_is)
    (case e_NoDivisor => k_is)
    (case ty_NoDivisor => k_is)
    (case kc_NoDivisor => k_is)
    (case hd_NoDivisor => k_is)
    (case mo_NoDivisor => k_is)
    (case su_NoDivisor => first | rfl | k_is)
    (case a_degree => k_is)
    (case l_degree => k_is)
    (case c_degree => k_is)
    (case k_degree => k_is)
    (case a_times => k_is)
    (case l_times => k_is)
    (case c_times => k_is)
    (case k_times => k_is)
    (case a_divide => k_is)
    (case l_divide => k_is)
    (case c_divide => k_is)
    (case k_divide => k_is)
    (case a_common => k_is)
    (case l_common => k_is)
    (case c_common => k_is)
    (case k_common => k_is)
    (case a_product_rest => k_is)
    (case l_product_rest => k_is)
    (case c_product_rest => k_is)
    (case k_product_rest => k_is)
    (case a_is_irreducible => k_is)
    (case l_is_irreducible => k_is)
    (case c_is_irreducible => k_is)
    (case k_is_irreducible => k_is)
    (case a__powers_of => k_is)
    (case l__powers_of => k_is)
    (case c__powers_of => k_is)
    (case k__powers_of => k_is)
    (case a__root_powers => k_is)
    (case l__root_powers => k_is)
    (case c__root_powers => k_is)
    (case k__root_powers => k_is)
    (case a__law_numbers => k_is)
    (case l__law_numbers => k_is)
    (case c__law_numbers => k_is)
    (case k__law_numbers => k_is)
    (case a__law_degree => k_is)
    (case l__law_degree => k_is)
    (case c__law_degree => k_is)
    (case k__law_degree => k_is)
    (case a__law_times => k_is)
    (case l__law_times => k_is)
    (case c__law_times => k_is)
    (case k__law_times => k_is)
    (case a__law_divided => k_is)
    (case l__law_divided => k_is)
    (case c__law_divided => k_is)
    (case k__law_divided => k_is)
    (case a__law_irreducible => k_is)
    (case l__law_irreducible => k_is)
    (case c__law_irreducible => k_is)
    (case k__law_irreducible => k_is)
    (case a__law_modulus => k_is)
    (case l__law_modulus => k_is)
    (case c__law_modulus => k_is)
    (case k__law_modulus => k_is)
    (case a__law_product => k_is)
    (case l__law_product => k_is)
    (case c__law_product => k_is)
    (case k__law_product => k_is)
    (case a__law_power => k_is)
    (case l__law_power => k_is)
    (case c__law_power => k_is)
    (case k__law_power => k_is)
    (case a__law_order => k_is)
    (case l__law_order => k_is)
    (case c__law_order => k_is)
    (case k__law_order => k_is)
    (case a__law_made => k_is)
    (case l__law_made => k_is)
    (case c__law_made => k_is)
    (case k__law_made => k_is)
    (case a__law_refused => k_is)
    (case l__law_refused => k_is)
    (case c__law_refused => k_is)
    (case k__law_refused => k_is)
    (case a__law_no_inverse => k_is)
    (case l__law_no_inverse => k_is)
    (case c__law_no_inverse => k_is)
    (case k__law_no_inverse => k_is)
    (case a__law_element => k_is)
    (case l__law_element => k_is)
    (case c__law_element => k_is)
    (case k__law_element => k_is)
    (case a_law => k_is)
    (case l_law => k_is)
    (case c_law => k_is)
    (case k_law => k_is)
    (case a_X => k_is)
    (case a_Field => k_is)
    (case pg_Field => k_is)
    (case hd_Field => k_is)
    (case po_Field => k_is)
    (case sa_Field => k_is)
    (case mk_Field => k_is)
    (case kc_Field => k_is)
    (case n_Field__bits => k_is)
    (case n_Field__modulus => k_is)
    (case n_Field__turn => k_is)
    (case n_Field__powers => k_is)
    (case n_Field__logs => k_is)
    (case n_Field__products => k_is)
    (case a_Field___init__ => k_is)
    (case i_Field___init__ => k_is)
    (case l_Field___init__ => k_is)
    (case c_Field___init__ => k_is)
    (case k_Field___init__ => k_is)
    (case a_Field_bits => k_is)
    (case i_Field_bits => k_is)
    (case l_Field_bits => k_is)
    (case c_Field_bits => k_is)
    (case k_Field_bits => k_is)
    (case a_Field_modulus => k_is)
    (case i_Field_modulus => k_is)
    (case l_Field_modulus => k_is)
    (case c_Field_modulus => k_is)
    (case k_Field_modulus => k_is)
    (case a_Field_size => k_is)
    (case i_Field_size => k_is)
    (case l_Field_size => k_is)
    (case c_Field_size => k_is)
    (case k_Field_size => k_is)
    (case a_Field_add => k_is)
    (case i_Field_add => k_is)
    (case l_Field_add => k_is)
    (case c_Field_add => k_is)
    (case k_Field_add => k_is)
    (case a_Field_times => k_is)
    (case i_Field_times => k_is)
    (case l_Field_times => k_is)
    (case c_Field_times => k_is)
    (case k_Field_times => k_is)
    (case a_Field_inverse => k_is)
    (case i_Field_inverse => k_is)
    (case l_Field_inverse => k_is)
    (case c_Field_inverse => k_is)
    (case k_Field_inverse => k_is)
    (case a_Field_power => k_is)
    (case i_Field_power => k_is)
    (case l_Field_power => k_is)
    (case c_Field_power => k_is)
    (case k_Field_power => k_is)
    (case a_Field_order => k_is)
    (case i_Field_order => k_is)
    (case l_Field_order => k_is)
    (case c_Field_order => k_is)
    (case k_Field_order => k_is)
    (case a_Field_log => k_is)
    (case i_Field_log => k_is)
    (case l_Field_log => k_is)
    (case c_Field_log => k_is)
    (case k_Field_log => k_is)
    (case a_Field_root => k_is)
    (case i_Field_root => k_is)
    (case l_Field_root => k_is)
    (case c_Field_root => k_is)
    (case k_Field_root => k_is)
    (case k12 => first | rfl | decide +kernel | k_is)
    (case k21 => first | rfl | decide +kernel | k_is)
    (case g_gcd => k_is)
    (case z_range => k_is)
    (case z_len => k_is)
    (case z_abs => k_is)
    (case z_int => k_is)
    (case z_max => k_is)
    (case z_min => k_is)
    (case z_sum => k_is)
    (case z_list => k_is)
    (case z_isinstance => k_is)
    (case z_enumerate => k_is)
    (case z_zip => k_is)
    (case z_reversed => k_is)
    (case z_any => k_is)
    (case z_all => k_is)
    (case z_ValueError => k_is)
