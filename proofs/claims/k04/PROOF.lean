import PyProof.Rows.All
import Wide.All
import OpenK.AllK
import Wide.FinOn
import HandS.ForMost
import HandS.WideBits
import HandS.Exc
import HandS.ExcInit
import HandS.ExcOwn
import HandS.ExcField
import HandS.ExcIs
import HandS.IsInst
import HandS.Flow
import HandS.Codes
import HandS.Style
import HandS.TryOnly
import HandS.WordsExc
import KE.KExcIs
import HandS.FStr
import HandS.CallSlots
import HandS.Walk
import HandS.MapSum
import PyProof.SumAnyB
import HandS.Conv
import HandS.RevRange
import HandS.List
import KE.GoesEnumKw
import HandS.Gcd
import PySem.Challenge.RW_farhaul_k04_roots_and_points
set_option Elab.async false
set_option linter.all false
set_option maxRecDepth 100000
set_option maxHeartbeats 4000000
/-! Operators on numbers that are not negative. -/
namespace NB
open PySem PySem.Spec PyProof.Rows L2
def rNN (g : Nat → Nat → V) : R2 := fun x y H Q => ∃ m n : Nat, x = .int m ∧ y = .int n ∧ Q (g m n) H
def rNNC (C : Nat → Nat → Prop) (g : Nat → Nat → V) : R2 := fun x y H Q => ∃ m n : Nat, x = .int m ∧ y = .int n ∧ C m n ∧ Q (g m n) H
theorem op_of {X : Cx} {f : Value → Value → Sem Value} {r r' : R2} (h : OpR X f r) (k : ∀ x y H Q, r' x y H Q → r x y H Q) : OpR X f r' := by
  intro pins s σ H x y u v Q I rx ry q
  exact h pins s σ H x y u v Q I rx ry (k _ _ _ _ q)
theorem xor_nn (m n : Nat) : Builtin.bitXor (m : Int) (n : Int) = ((m ^^^ n : Nat) : Int) := by
  rw [Bits.bitXor_pp (Int.natCast_nonneg _) (Int.natCast_nonneg _)]; simp
theorem or_nn (m n : Nat) : Builtin.bitOr (m : Int) (n : Int) = ((m ||| n : Nat) : Int) := by
  rw [Bits.bitOr_pp (Int.natCast_nonneg _) (Int.natCast_nonneg _)]; simp
theorem and_nn (m n : Nat) : Builtin.bitAnd (m : Int) (n : Int) = ((m &&& n : Nat) : Int) := by
  rw [bitAnd_pp (Int.natCast_nonneg _) (Int.natCast_nonneg _)]; simp
theorem shl_nn (m n : Nat) : (m : Int) * 2 ^ (n : Int).toNat = ((2 ^ n * m : Nat) : Int) := by
  rw [Int.toNat_natCast, L2.cast_parts]
theorem shr_nn (m n : Nat) : (m : Int) / 2 ^ (n : Int).toNat = ((m / 2 ^ n : Nat) : Int) := by
  rw [Int.toNat_natCast, Int.natCast_ediv, Int.natCast_pow]; rfl
abbrev rXorN : R2 := rNN fun m n => .int ((m ^^^ n : Nat) : Int)
abbrev rOrN : R2 := rNN fun m n => .int ((m ||| n : Nat) : Int)
abbrev rAndN : R2 := rNN fun m n => .int ((m &&& n : Nat) : Int)
abbrev rShlN : R2 := rNNC (fun m n => m < 2 ^ 64 ∧ n ≤ 1000000) fun m n => .int ((2 ^ n * m : Nat) : Int)
abbrev rShrN : R2 := rNN fun m n => .int ((m / 2 ^ n : Nat) : Int)
section
variable {X : Cx}
theorem of_xor {r : R2} (e : ∀ x y H Q, r x y H Q → (rI0 fun i j => .int (Builtin.bitXor i j)) x y H Q) : True := trivial
theorem k_xor : ∀ x y H Q, rXorN x y H Q → (rI0 fun i j => .int (Builtin.bitXor i j)) x y H Q := fun _ _ _ _ ⟨m, n, a, b, q⟩ => ⟨m, n, a, b, by show _; dsimp only; rw [xor_nn]; exact q⟩
theorem k_or : ∀ x y H Q, rOrN x y H Q → (rI0 fun i j => .int (Builtin.bitOr i j)) x y H Q := fun _ _ _ _ ⟨m, n, a, b, q⟩ => ⟨m, n, a, b, by dsimp only; rw [or_nn]; exact q⟩
theorem k_and : ∀ x y H Q, rAndN x y H Q → (rI0 fun i j => .int (Builtin.bitAnd i j)) x y H Q := fun _ _ _ _ ⟨m, n, a, b, q⟩ => ⟨m, n, a, b, by dsimp only; rw [and_nn]; exact q⟩
theorem k_shl : ∀ x y H Q, rShlN x y H Q → (rI CPow fun i j => .int (i * 2 ^ j.toNat)) x y H Q := fun _ _ _ _ ⟨m, n, a, b, ⟨c1, c2⟩, q⟩ =>
  ⟨m, n, a, b, ⟨by omega, by omega, by simpa using c1⟩, by dsimp only; rw [shl_nn]; exact q⟩
theorem k_shr : ∀ x y H Q, rShrN x y H Q → (rI (fun _ j => 0 ≤ j) fun i j => .int (i / 2 ^ j.toNat)) x y H Q := fun _ _ _ _ ⟨m, n, a, b, q⟩ =>
  ⟨m, n, a, b, by omega, by dsimp only; rw [shr_nn]; exact q⟩
theorem nb_xor : OpR X (binaryOp .BitXor) rXorN := op_of op_xor k_xor
theorem nb_or : OpR X (binaryOp .BitOr) rOrN := op_of op_or k_or
theorem nb_and : OpR X (binaryOp .BitAnd) rAndN := op_of op_and k_and
theorem nb_shl : OpR X (binaryOp .LShift) rShlN := op_of op_shl k_shl
theorem nb_shr : OpR X (binaryOp .RShift) rShrN := op_of op_shr k_shr
theorem nbi_xor : PIp X .BitXor rXorN := op_of iop_xor k_xor
theorem nbi_or : PIp X .BitOr rOrN := op_of iop_or k_or
theorem nbi_shr : PIp X .RShift rShrN := op_of iop_shr k_shr
/-- bit_length -/
def tBitsN (to : TE) : TE := fun σ H Q => to σ H fun x H1 => ∃ m : Nat, x = .int m ∧ Q (.int ((if m = 0 then 0 else m.log2 + 1 : Nat) : Int)) H1
theorem pe_of {e : Expr} {t t' : TE} (h : PE X e t) (k : ∀ σ H Q, t' σ H Q → t σ H Q) : PE X e t' := ⟨fun pins s σ H Q I q => h.run pins s σ H Q I (k σ H Q q)⟩
end


end NB
namespace NB
open PySem PySem.Spec PyProof.Rows L2
/-- the number of bits -/
def bits (m : Nat) : Nat := if m = 0 then 0 else m.log2 + 1
theorem intBits_nat (m : Nat) : Builtin.Int.intBits (m : Int) = bits m := by
  unfold Builtin.Int.intBits bits
  by_cases h : m = 0
  · subst h; rfl
  · have : ¬ ((m : Int) == 0) = true := by simp; omega
    rw [if_neg this, if_neg h]; simp
section
variable {X : Cx}
def tBitsM (to : TE) : TE := fun σ H Q => to σ H fun x H1 => ∃ m : Nat, x = .int m ∧ Q (.int ((bits m : Nat) : Int)) H1
theorem TE.mono_id {t : TE} {σ : L2.St} {H : Hp} {Q Q' : VK} (e : Q = Q') (h : t σ H Q) : t σ H Q' := e ▸ h
end
/-! numbers written in the text -/
theorem pe_nat {X : Cx} (n : Nat) {j pos} {i : Int} (h : i = (n : Int) := by rfl) : PE X (.Constant (.int i) j pos) (tC (.int (n : Int))) := by subst h; exact pe_int
def rLtN : R2 := rNN fun m n => .bl (decide (m < n))
/-- a for over range(n), n a number that is not negative -/
theorem for_rangeN {lo n : Nat} {g : TG} {tb : TS} {D : Ends} {σ : L2.St} {H : Hp} (Pv : Nat → L2.St → Hp → Prop) (h0 : Pv 0 σ H)
    (hs : ∀ i σ H, i < n → Pv i σ H → g (.int ((lo + i : Nat) : Int)) σ H fun σ2 H2 => tb { D with nx := Pv (i + 1), ct := Pv (i + 1), bk := D.nx } σ2 H2) (hd : ∀ σ H, Pv n σ H → D.nx σ H) :
    ∃ W : Nat → Nat → L2.St → Hp → Prop, (∃ m, W 0 m σ H) ∧ ∀ i m σ H, W i m σ H →
      ((Itr (lo : Int) n).stop i H ∧ D.nx σ H) ∨ ((Itr (lo : Int) n).go i H ∧ ∃ N : L2.St → Hp → Prop, (∀ σ' H', N σ' H' → ∃ m', m' < m ∧ W (i + 1) m' σ' H') ∧ ∀ x H', (Itr (lo : Int) n).yld i H x H' → g x σ H' fun σ2 H2 => tb { D with nx := N, ct := N, bk := D.nx } σ2 H2) :=
  for_range (lo := (lo : Int)) (n := n) Pv h0 (fun i σ H hi p => by
    have e : ((lo : Int) + (i : Int)) = ((lo + i : Nat) : Int) := by omega
    rw [e]
    exact hs i σ H hi p) hd
end NB
namespace NB
open PySem PySem.Spec PyProof.Rows L2
section
variable {X : Cx}
theorem nb_add : OpR X (binaryOp .Add) (rNN fun m n => .int ((m + n : Nat) : Int)) := op_of op_add fun _ _ _ _ ⟨m, n, a, b, q⟩ => ⟨m, n, a, b, by dsimp only; rw [← Int.natCast_add]; exact q⟩
theorem nbi_add : PIp X .Add (rNN fun m n => .int ((m + n : Nat) : Int)) := op_of iop_add fun _ _ _ _ ⟨m, n, a, b, q⟩ => ⟨m, n, a, b, by dsimp only; rw [← Int.natCast_add]; exact q⟩
theorem nb_sub : OpR X (binaryOp .Sub) (rNNC (fun m n => n ≤ m) fun m n => .int ((m - n : Nat) : Int)) := op_of op_sub fun _ _ _ _ ⟨m, n, a, b, c, q⟩ => ⟨m, n, a, b, by dsimp only; rw [← Int.natCast_sub c]; exact q⟩
theorem nb_mul : OpR X (binaryOp .Mult) (rNNC (fun m n => m < 2 ^ 64 ∨ n < 2 ^ 64) fun m n => .int ((m * n : Nat) : Int)) := op_of op_mul fun _ _ _ _ ⟨m, n, a, b, c, q⟩ => ⟨m, n, a, b, by
  rcases c with c | c
  · exact .inl ⟨by omega, by omega⟩
  · exact .inr ⟨by omega, by omega⟩, by dsimp only; rw [← Int.natCast_mul]; exact q⟩
theorem nb_mod : OpR X (binaryOp .Mod) (rNNC (fun _ n => 0 < n) fun m n => .int ((m % n : Nat) : Int)) := op_of op_mod fun _ _ _ _ ⟨m, n, a, b, c, q⟩ => ⟨m, n, a, b, by omega, by dsimp only; rw [← Int.natCast_emod]; exact q⟩
theorem nb_fdiv : OpR X (binaryOp .FloorDiv) (rNNC (fun _ n => 0 < n ∧ n < 1073741824) fun m n => .int ((m / n : Nat) : Int)) := op_of op_fdiv fun _ _ _ _ ⟨m, n, a, b, c, q⟩ => ⟨m, n, a, b, ⟨by omega, by omega⟩, by dsimp only; rw [← Int.natCast_ediv]; exact q⟩
theorem nb_pow : OpR X (binaryOp .Pow) (rNNC (fun m n => n ≤ 1000000 ∧ m < 2 ^ 64) fun m n => .int ((m ^ n : Nat) : Int)) := op_of op_pow fun _ _ _ _ ⟨m, n, a, b, c, q⟩ => ⟨m, n, a, b, ⟨by omega, by omega, by simpa using c.2⟩, by dsimp only; rw [Int.toNat_natCast, ← Int.natCast_pow]; exact q⟩
/-- an int's rest by a number -/
def rModI : R2 := fun x y H Q => ∃ (i : Int) (n : Nat), x = .int i ∧ y = .int n ∧ 0 < n ∧ Q (.int (((i % (n : Int)).toNat : Nat) : Int)) H
theorem nb_modI : OpR X (binaryOp .Mod) rModI := op_of op_mod fun _ _ _ _ ⟨m, n, a, b, c, q⟩ => ⟨m, n, a, b, by omega, by dsimp only; rw [Int.toNat_of_nonneg (Int.emod_nonneg _ (by omega))] at q; exact q⟩
theorem call_absN : CallR X (.builtin "abs") (fun xs H Q => ∃ i : Int, xs = [.int i] ∧ Q (.int ((i.natAbs : Nat) : Int)) H) := by
  intro pins s σ H xs us Q I r ⟨i, e, q⟩
  refine call_abs pins s σ H xs us Q I r ⟨i, e, ?_⟩
  have : (if i < 0 then -i else i) = ((i.natAbs : Nat) : Int) := by split <;> omega
  rw [this]; exact q
end
/-! ### lists of numbers -/
def NL (ns : List Nat) : List V := ns.map fun (n : Nat) => V.int ((n : Nat) : Int)
theorem NL_len (ns : List Nat) : (NL ns).length = ns.length := List.length_map _
theorem NL_get {ns : List Nat} {i n : Nat} (h : ns[i]? = some n) : (NL ns)[i]? = some (.int (n : Int)) := by unfold NL; rw [List.getElem?_map, h]; rfl
theorem NL_set (ns : List Nat) (i n : Nat) : (NL ns).set i (.int (n : Int)) = NL (ns.set i n) := by unfold NL; rw [List.map_set]
theorem NL_app (ns : List Nat) (n : Nat) : NL ns ++ [.int (n : Int)] = NL (ns ++ [n]) := by unfold NL; simp
theorem NL_app2 (ns ms : List Nat) : NL ns ++ NL ms = NL (ns ++ ms) := by unfold NL; simp
theorem NL_nil : NL [] = [] := rfl
theorem NL_cons (n : Nat) (ns : List Nat) : NL (n :: ns) = .int (n : Int) :: NL ns := rfl
theorem NL_at {ns : List Nat} {i : Nat} (h : i < ns.length) : atI (NL ns) (i : Int) = some (.int ((ns[i] : Nat) : Int)) := atI_nat (NL_get (List.getElem?_eq_getElem h))
theorem NL_at0 {ns : List Nat} {i n : Nat} (h : ns[i]? = some n) : atI (NL ns) (i : Int) = some (.int (n : Int)) := atI_nat (NL_get h)
theorem ixN_nat {n j : Nat} (h : j < n) : ixN n (j : Int) = some j := by
  unfold ixN
  rw [if_pos (by omega), if_pos (by omega)]; simp
theorem cut_to (xs : List V) (k : Nat) : cutV xs none (some (k : Int)) = xs.take k := by
  unfold cutV
  have e : HT.sIx xs.length 0 none = 0 := by rfl
  rw [e, HT.sIx_nat, List.drop_zero, Nat.sub_zero]
  by_cases h : k ≤ xs.length
  · rw [Nat.min_eq_left h]
  · rw [Nat.min_eq_right (by omega), List.take_of_length_le (by omega), List.take_of_length_le (by omega)]
theorem cut_last (xs : List V) : cutV xs none (some (-1)) = xs.dropLast := by
  unfold cutV
  have e : HT.sIx xs.length 0 none = 0 := by rfl
  have e2 : HT.sIx xs.length xs.length (some (-1)) = xs.length - 1 := by
    show (if (-1 : Int) < 0 then ((-1 : Int) + (xs.length : Int)).toNat else min (-1 : Int).toNat xs.length) = _
    rw [if_pos (by decide)]; omega
  rw [e, e2, List.drop_zero, List.dropLast_eq_take]
  rfl
end NB

namespace NB
open PySem PySem.Spec L2
/-- a def of the text: where it stands, how its arguments bind -/
structure Df (K : PySem.W.Frag) (mg : Str → Option Value) (x : Str) (ps : List Str) (st : Stmt) (f : Addr) (fd : FuncData) : Prop where
  F : Fun K x x st f fd
  g : mg x = some (.ref f)
  b : Binds K fd ps []
/-- built-in names that the top leaves alone -/
structure Bl (mg : Str → Option Value) : Prop where
  range : mg "range" = none
  len : mg "len" = none
  abs : mg "abs" = none
  int : mg "int" = none
  max : mg "max" = none
  min : mg "min" = none
  sum : mg "sum" = none
  list : mg "list" = none
  isinstance : mg "isinstance" = none
  enumerate : mg "enumerate" = none
  zip : mg "zip" = none
  reversed : mg "reversed" = none
  any : mg "any" = none
  all : mg "all" = none
  ValueError : mg "ValueError" = none
theorem iteD {c A B : Prop} [Decidable c] (h1 : c → A) (h2 : ¬ c → B) : if decide c = true then A else B := by
  by_cases h : c
  · rw [if_pos (decide_eq_true h)]; exact h1 h
  · rw [if_neg (by rw [decide_eq_false h]; exact Bool.false_ne_true)]; exact h2 h
theorem iteN {c A B : Prop} [Decidable c] (h1 : ¬ c → A) (h2 : c → B) : if (!decide c) = true then A else B := by
  by_cases h : c
  · rw [decide_eq_true h]; exact iteF (h2 h)
  · rw [decide_eq_false h]; exact iteT (h1 h)
theorem iteY {c A B : Prop} [Decidable c] (hc : c) (h : A) : if decide c = true then A else B := by rw [if_pos (decide_eq_true hc)]; exact h
theorem iteX {c A B : Prop} [Decidable c] (hc : ¬ c) (h : B) : if decide c = true then A else B := by rw [decide_eq_false hc]; exact iteF h
theorem iteB {b : Bool} {A B : Prop} (h1 : b = true → A) (h2 : b = false → B) : if b = true then A else B := by
  cases b with
  | true => exact iteT (h1 rfl)
  | false => exact iteF (h2 rfl)
/-- the truth of a number -/
theorem iteZ {n : Nat} {A B : Prop} (h1 : n ≠ 0 → A) (h2 : n = 0 → B) : if (((n : Nat) : Int) != 0) = true then A else B := by
  by_cases h : n = 0
  · subst h; exact iteF (h2 rfl)
  · have : (((n : Nat) : Int) != 0) = true := by simp; omega
    rw [if_pos this]; exact h1 h
theorem same_upd {H : Hp} {p : Addr} {o : HO} (h : H p = none) : Same H (upd H p o) := fun b u e => by rw [upd_ne (ne_of_none e h)]; exact e
theorem same_upd2 {H H' : Hp} {p : Addr} {o : HO} (e : Same H H') (h : H p = none) : Same H (upd H' p o) := fun b u ha => by rw [upd_ne (ne_of_none ha h)]; exact e b u ha
theorem same_new {H H' : Hp} {p : Addr} {o : HO} (e : Same H H') (h : H' p = none) : Same H (upd H' p o) := same_upd2 e (e.free h)
end NB
namespace NB
open PySem PySem.Spec L2
/-- a comprehension over range(lo, ..) of numbers -/
theorem lc_rangeN {lo n : Nat} {g : TG} {tt : TT} {te : TE} {vs : List Nat} {σ : L2.St} {H1 : Hp} {D : Addr} {Qd : Hp → Prop} (Pv : Nat → Hp → Prop) (h0 : Pv 0 (upd H1 D (.lst [])))
    (hs : ∀ i H, i < n → Pv i H → g (.int ((lo + i : Nat) : Int)) (wipe σ vs) H fun σ2 H2 => wipe σ2 vs = wipe σ vs ∧ tt σ2 H2 fun b H3 =>
      if b = true then te σ2 H3 fun y H4 => ∃ acc, H4 D = some (.lst acc) ∧ acc.length < sizeLine ∧ Pv (i + 1) (upd H4 D (.lst (acc ++ [y]))) else Pv (i + 1) H3) (hd : ∀ H, Pv n H → Qd H) :
    ∃ W : Nat → Nat → Hp → Prop, (∃ m, W 0 m (upd H1 D (.lst []))) ∧ ∀ i m H, W i m H →
      ((Itr (lo : Int) n).stop i H ∧ Qd H) ∨ ((Itr (lo : Int) n).go i H ∧ ∃ Nx : Hp → Prop, (∀ H', Nx H' → ∃ m', m' < m ∧ W (i + 1) m' H') ∧ ∀ x H', (Itr (lo : Int) n).yld i H x H' → g x (wipe σ vs) H' fun σ2 H2 => wipe σ2 vs = wipe σ vs ∧ tt σ2 H2 fun b H3 =>
        if b = true then te σ2 H3 fun y H4 => ∃ acc, H4 D = some (.lst acc) ∧ acc.length < sizeLine ∧ Nx (upd H4 D (.lst (acc ++ [y]))) else Nx H3) :=
  lc_range (lo := (lo : Int)) (n := n) Pv h0 (fun i H hi p => by
    have e : ((lo : Int) + (i : Int)) = ((lo + i : Nat) : Int) := by omega
    rw [e]
    exact hs i H hi p) hd
end NB
/-! Errors of the program: one class with an __init__, the others below it. -/
namespace ER
open PySem PySem.Spec PyProof.Rows L2 NB
/-- what the top says of an error class, named x, at C; its __init__ is the function at fI -/
structure XC (K : PySem.W.Frag) (mg : Str → Option Value) (x : Str) (C fI CH : Addr) : Prop where
  oex : OexC K C
  ga : PySem.W.findIn K (.ref C) "__getattribute__" = some (some (.builtin "BaseException.__getattribute__"))
  gg : PySem.W.findIn K (.ref C) "__getattr__" = some none
  hd : PySem.W.hasDictIn K C = true
  cl : PySem.W.findIn K (.ref C) "__class__" = some (some (.builtin "object.__class__"))
  sp : PySem.W.specialIn K (.builtin "object.__class__") "__get__" = some (some (.builtin "getset_descriptor.__get__"))
  tk : PySem.W.takesIn K (.builtin "object.__class__") = some true
  mo : PySem.W.mroIn K C (.type "object") = some true
  no : PySem.W.findIn K (.ref C) "at" = some none
  g : mg x = some (.ref C)
  iC : PySem.W.findIn K (.ref C) "__init__" = some (some (.ref fI))
  tI : PySem.W.typeIn K (.ref fI) = some (.type "function")
  te : PySem.W.exmOne K (.ref C) (.ref CH) = some true
def sp_init (K : PySem.W.Frag) : Sp := fun vs H Q _ => ∃ (a C : Addr) (i : Int), vs = [.ref a, .int i] ∧ (∃ mg x fI CH, XC K mg x C fI CH) ∧ H a = some (exo a C none) ∧ i.natAbs.log2 < 1920 ∧
  ∀ dx, H dx = none → dx ≠ a → Q .non (upd (upd H dx (exd dx [("at", .int i)])) a (exo a C (some dx)))
theorem len_app (a b : Str) : (a ++ b).length = a.length + b.length := by
  show (⟨a.cps ++ b.cps⟩ : Str).cps.size = _
  simp [Array.size_append]; rfl
theorem upd_raise {H : Hp} {a d C : Addr} {fs : List (Str × V)} {o : HO} (ha : H a = none) (hd : H d = none) (n : d ≠ a) :
    upd (L2.del (upd (upd (upd H a (exo a C none)) d (exd d fs)) a (exo a C (some d))) a) d o = upd H d o := by
  funext b
  by_cases h1 : b = d
  · subst h1; rw [upd_same, upd_same]
  · rw [upd_ne h1, upd_ne h1]
    by_cases h2 : b = a
    · subst h2; rw [del_same, ha]
    · rw [del_ne h2, upd_ne h2, upd_ne h1, upd_ne h2]
/-- raise x(e) -/
def tRaise (C : Addr) (W : WX) (ta : TA) : TS := fun _ σ H => ta σ H fun vs H1 => ∃ i : Int, vs = [.int i] ∧ i.natAbs.log2 < 1920 ∧ ∀ d, H1 d = none → W (.ref C) (some d) σ (upd H1 d (.xd [("at", .int i)]))
theorem ps_of {X : Cx} {st : Stmt} {t t' : TS} (h : PS X st t) (k : ∀ D σ H, t' D σ H → t D σ H) : PS X st t' := ⟨fun pins s σ H D I q => h.run pins s σ H D I (k D σ H q)⟩
def tMono (ta : TA) : TA := fun σ H Q => ∃ R : List V → Hp → Prop, ta σ H R ∧ ∀ vs H1, R vs H1 → Q vs H1
theorem pa_mono {X : Cx} {es : List Expr} {ta : TA} (h : PA X es ta) : PA X es (tMono ta) := ⟨fun pos pins s σ H Q I ⟨R, q, k⟩ =>
  thn (h.run pos pins s σ H R I q) fun us s1 ⟨vs, H1, I1, r, q1⟩ => ⟨vs, H1, I1, r, k _ _ q1⟩⟩
theorem ps_err {X : Cx} {CX : CXT} {x : Str} {C fI CH : Addr} {k : Nat} {fd : FuncData} {e : Expr} {ta : TA} {W : WX} {p pos pos2 : Pos} (hc : X.calm = true) (T : XC X.K X.mg x C fI CH)
    (G : FnOk X.prog X.w X.K X.mg X.base CX k fI fd ["self", "at"] (sp_init X.K)) (hr : Room (k + 1) X.A) (hb : Binds X.K fd ["self", "at"] []) (hx : Passes CX X (fun _ _ _ => False)) (tk : Takes X W) (ha : PA X [e] ta) (hg : Gl X x := by rfl)
    (hdb : (x == ("__debug__" : Str)) = false := by decide) (he : starEach (e :: []) X.env = (false, eval e X.env) :: starEach [] X.env := by rfl) (hpl : (backTo pos (starEach [] X.env)).any (·.1) = false := by rfl) :
    PS X (.Raise (some (.Call (.Name x p) [e] [] pos)) none pos2) (tRaise C W ta) := by
  refine ps_of (ps_raise hc tk (pmk_oex (dvs := []) T.oex T.iC T.tI G hr hb .nil hx hg T.g (pa_mono ha) hdb he hpl)) fun D σ H q => ?_
  refine ⟨_, q, fun vs H1 ⟨i, ev, hi, k⟩ => ?_⟩
  subst ev
  refine ⟨by simp, fun a na => ?_⟩
  refine ⟨a, C, i, rfl, ⟨_, _, _, _, T⟩, upd_same, hi, fun dx nx ne => ?_⟩
  rw [upd_ne ne] at nx
  refine ⟨rfl, dx, [("at", .int i)], upd_same, ?_, nx, ?_⟩
  · rw [upd_ne ne, upd_same]
  · rw [upd_raise na nx ne]
    exact k dx nx
/-! ### the caught error -/
/-- isinstance(e, c), e the error that the suite holds at a, of the class at D, its dict d -/
def rIsE (K : PySem.W.Frag) (a : Addr) (cls : Value) (d : Option Addr) : List V → Hp → VK → Prop := fun xs H Q => ∃ (D : Addr) (c : V) (cv : Value) (b : Bool) (dd : Addr) (fs : List (Str × V)), xs = [.ref a, c] ∧ cls = .ref D ∧ (∃ mg x fI CH, XC K mg x D fI CH) ∧ d = some dd ∧ H dd = some (.xd fs) ∧
  (∀ u, RelV c u → u = cv) ∧ PySem.W.kitOne K (.ref D) cv = some b ∧ Q (.bl b) H
theorem call_isE {X : Cx} {a : Addr} {oe : Obj} {cls : Value} {d : Option Addr} {pn : List (Addr × Obj)} (hz : Zc cls d oe) (hf : ∃ vs, oe.data = .fields vs) : CallR (X.suite a ((a, oe) :: pn)) (.builtin "isinstance") (rIsE X.K a cls d) := by
  intro pins s σ H xs us Q I r h
  obtain ⟨D, c, cv, b, dd, fs, rfl, rfl, ⟨mg, x, fI, CH, T⟩, rfl, hd, hcv, e, q⟩ := h
  cases r with
  | cons rx rr =>
    cases rr with
    | cons rt rr =>
      cases rr
      cases rx
      have ec := hcv _ rt
      subst ec
      obtain ⟨hget, _⟩ := I.pin (a, oe) (List.mem_append.mpr (.inl List.mem_cons_self))
      obtain ⟨vs, hv⟩ := hf
      have hx : ObjOk X.prog X.w H s.heap dd (.xd fs) := I.hok dd _ hd
      obtain ⟨mA, hns, hrel⟩ := hx
      obtain ⟨od, ho, hl⟩ := lookIn_ns hns
      have J : PySem.W.InstAt s.heap a oe D (some od) := ⟨hget, hz.1, by unfold PySem.W.notCls; rw [hv] <;> rfl, by rw [hz.2]; exact ho⟩
      have hcl : (PySem.W.clsIn X.K D).isSome = true := by
        obtain ⟨nm, q, N, bs, bm, sn, sub, ab, col, dd', k0, k1, k2, k3, k5, hC, hbm⟩ := T.oex.cls
        unfold PySem.W.clsIn; rw [hC] <;> rfl
      exact PySem.W.kia_one (PySem.W.kitx_exc hcl T.ga T.gg T.oex.exC T.cl T.sp T.tk T.mo) I.kIn J e (fun z => nomatch z) fun tk => ⟨.bl b, H, I.kept (t' := tk) fun _ _ z => z, rfl, q⟩
/-- e.at -/
def tAt (K : PySem.W.Frag) (a : Addr) (cls : Value) (d : Option Addr) (te : TE) : TE := fun σ H Q => te σ H fun x H1 => ∃ (C dd : Addr) (i : Int), x = .ref a ∧ cls = .ref C ∧ (∃ mg x fI CH, XC K mg x C fI CH) ∧ d = some dd ∧ H1 dd = some (.xd [("at", .int i)]) ∧ Q (.int i) H1
theorem pe_at {X : Cx} {a : Addr} {oe : Obj} {cls : Value} {d : Option Addr} {pn : List (Addr × Obj)} {e : Expr} {te : TE} {pos : Pos} (hz : Zc cls d oe) (hf : ∃ vs, oe.data = .fields vs) (he : PE (X.suite a ((a, oe) :: pn)) e te)
    (hb : attributeBase e "at" X.env (eval e X.env) = eval e X.env := by rfl) :
    PE (X.suite a ((a, oe) :: pn)) (.Attribute e "at" pos) (tAt X.K a cls d te) := by
  refine ⟨fun pins s σ H Q I h => ?_⟩
  refine attr_of hb (thn (he.run pins s σ H _ I h) fun u s1 hh => ?_)
  obtain ⟨x, H1, I1, rx, C, dd, i, ex, ec, ⟨mg, x', fI, CH, T⟩, ed, ea, q⟩ := hh
  subst ex
  obtain rfl : u = Value.ref a := rx
  subst ec
  subst ed
  obtain ⟨ha, _⟩ := I1.pin (a, oe) (List.mem_append_left _ List.mem_cons_self)
  obtain ⟨vs, hd⟩ := hf
  have hx : ObjOk X.prog X.w H1 s1.heap dd (.xd [("at", .int i)]) := I1.hok dd _ ea
  obtain ⟨mA, hns, hr⟩ := hx
  obtain ⟨od, ho, hl⟩ := lookIn_ns hns
  have l : List.lookup ("at" : Str) [(("at" : Str), V.int i)] = some (V.int i) := by simp [List.lookup]
  obtain ⟨u, hu, ru⟩ := RelO.some_of (v := V.int i) (o := mA "at") (by rw [← l]; exact hr "at")
  have J : PySem.W.InstAt s1.heap a oe C (some od) := ⟨ha, hz.1, by unfold PySem.W.notCls; rw [hd] <;> rfl, by rw [hz.2]; exact ho⟩
  exact HandSPX.exc_get I1.kIn J T.ga T.gg T.oex.exC (PySem.W.findObj_own T.hd T.no rfl (by rw [hl, hu])) (handed_of ru) ⟨V.int i, H1, I1.tok _, ru, q⟩
theorem at_len {i : Int} (hi : i.natAbs.log2 < 1920) : (Str.empty ++ Str.ofString "at " ++ Str.ofString (toString i)).length ≤ sizeLine := by
  have e := int_text_length_le (k := 1920) (by decide) hi
  rw [ER.len_app, ER.len_app, PySem.ofString_length (toString i), sizeLine_eq]
  have h1 : (Str.empty).length = 0 := by rfl
  have h2 : (Str.ofString "at ").length = 3 := by decide +kernel
  omega
/-- try: .. except x as n: .. -/
def tTry (K : PySem.W.Frag) (c : Value) (i : Nat) (tb : WX → TS) (ts : Addr → Value → Option Addr → TS) (Wout : WX) : TS := fun D σ H => tb (wAs K c i ts Wout D) D σ H
theorem ps_tryE {X : Cx} {x n : Str} {c : Value} {i : Nat} {body suite : List Stmt} {b0 : Stmt} {np pos pos' : Pos} {tb : WX → TS} {ts : Addr → Value → Option Addr → TS} {Wout : WX}
    (hs : X.stack = X.env :: X.outer) (hf : X.env.frame = some X.env.locals) (hN : X.N.Nodup) (hi : X.N[i]? = some n) (hln : X.env.kindOf n = some .local) (hc : Names X x c) (tk : Takes X Wout)
    (hb : ∀ (W : WX) (pn : List (Addr × Obj)) (xe : Value → Shared → Prop), Takes (X.tr pn xe) W → PassesOwn (model X.prog X.w) X.A X.env xe → PSs (X.tr pn xe) body (tb W))
    (hsu : ∀ (a : Addr) (oe : Obj) (cls : Value) (d : Option Addr) (pn : List (Addr × Obj)), Zc cls d oe → (∃ vs, oe.data = .fields vs) → PSs (X.suite a ((a, oe) :: pn)) (b0 :: suite) (ts a cls d)) :
    PS X (.Try body [.ExceptHandler (some (.Name x np)) (some n) (b0 :: suite) pos'] [] [] pos) (tTry X.K c i tb ts Wout) := ps_try_as hs hf hN hi hln hc tk hb hsu
end ER
/-! Objects that are made, and methods that are called, where an error is looked out for. -/
namespace MKX
open PySem PySem.Spec PyProof.Rows L2
def tMkS (C : Addr) (sp : Sp) (E : L2.St → XK) (t : TA) : TE := fun σ H Q => t σ H fun vs H1 => ∀ x dx, H1 x = none → H1 dx = none → dx ≠ x →
  sp (.ref x :: vs) (upd (upd H1 dx (.own x)) x (.ins C dx [])) (fun v H2 => v = .non ∧ Q (.ref x) H2) (E σ)
section
variable {X : Cx} {CX : CXT} {k : Nat} {f C : Addr} {fd : FuncData} {ps : List Str} {sp : Sp} {E : L2.St → XK} {x m : Str} {p pos apos : Pos} {e o : Expr} {es : List Expr} {ta : TE} {t : TA}
theorem go_mkS {pins : List (Addr × Obj)} {σ : L2.St} {H : Hp} {s : Shared} {Q : VK} {us : List Value} {vs : List V} (Z : Mk X.K C f) (G : FnOk X.prog X.w X.K X.mg X.base CX k f fd ps sp) (room : Room (k + 1) X.A) (bd : L2.Binds X.K fd ps [])
    (out : PassesAt CX X σ (E σ)) (J : Inv X pins σ H s) (rv : Vals vs us)
    (q : ∀ x dx, H x = none → H dx = none → dx ≠ x → sp (.ref x :: vs) (upd (upd H dx (.own x)) x (.ins C dx [])) (fun v H2 => v = .non ∧ Q (.ref x) H2) (E σ)) :
    wpAny (model X.prog X.w) X.A (call (.ref C) us) (EP X pins σ Q) X.xe s := by
  generalize hn : s.heap.objs.size = n
  have q0 := q (n + 1) n (J.hok.fresh (by rw [hn]; exact Nat.le_succ n)) (J.hok.fresh (Nat.le_of_eq hn)) (Nat.ne_of_lt (Nat.lt_succ_self n))
  have J2 := Inv.made (C := C) J
  rw [hn] at J2
  have rv2 : Vals (V.ref (n + 1) :: vs) (Value.ref (n + 1) :: us) := .cons rfl rv
  have len1 : (Value.ref (n + 1) :: us).length = ps.length := rv2.length.symm.trans (G.len _ _ _ _ q0)
  have bd1 := bd _ (Value.ref (n + 1) :: us) J2.kIn (by rw [List.append_nil]; exact len1)
  rw [List.append_nil] at bd1
  have body := G.run _ X.stack _ _ ⟨Value.ref (n + 1) :: us, []⟩ _ _ _ (E σ) (room.make C us []) (J2.env0.make C us []) bd1 rv2 q0
  refine wpAny_call (make_map (f := f) J.kIn Z.makes Z.init (beq_iff_eq.mp Z.fn) ?_)
  rw [hn]
  refine codeAny_mono body fun r s2 back => ?_
  match r, back with
  | .error e, back => exact out pins _ _ e s2 J2 back
  | .ok (.ret u), back =>
    obtain ⟨v, H2, J3, rv3, ev, q3⟩ := J2.after back
    subst ev
    exact ⟨rv3, V.ref (n + 1), H2, J3, rfl, q3⟩
  | .ok .next, back => exact back.elim
  | .ok .brk, back => exact back.elim
  | .ok .cont, back => exact back.elim
theorem pe_mkS (Z : Mk X.K C f) (G : FnOk X.prog X.w X.K X.mg X.base CX k f fd ps sp) (room : Room (k + 1) X.A) (hg : Gl X x) (hm : X.mg x = some (.ref C)) (bd : L2.Binds X.K fd ps []) (out : ∀ σ, PassesAt CX X σ (E σ))
    (ha : PA X (e :: es) t) (hdb : (x == ("__debug__" : Str)) = false := by decide) (he : starEach (e :: es) X.env = (false, eval e X.env) :: starEach es X.env := by rfl) (hpl : (backTo pos (starEach es X.env)).any (·.1) = false := by rfl) :
    PE X (.Call (.Name x p) (e :: es) [] pos) (tMkS C sp E t) := by
  constructor
  intro pins s σ H Q J q
  refine wpAny_Call_Name_kw (ld_glob J hg hm ?_ hdb)
  exact PySem.W.callWith_K (h₀ := X.base) J.ok.mod.kin Z.kp (thn (ha.run pos pins s σ H _ J q) fun us s1 ⟨vs, H1, J1, r, q1⟩ => ⟨J1.kIn, go_mkS Z G room bd (out σ) J1 r q1⟩) he hpl
def tMtS (C : Addr) (m : Str) (sp : Sp) (E : L2.St → XK) (ta : TE) (t : TA) : TE := fun σ H Q => ta σ H fun x H1 => ∃ a dx fs, x = .ref a ∧ H1 a = some (.ins C dx fs) ∧ fs.lookup m = none ∧ t σ H1 fun vs H2 => sp (x :: vs) H2 Q (E σ)
theorem pe_mtS {pl : Sem Bool} (ho : PE X o ta) (c : Cls X.K C) (hm : Meth X.K C m f) (G : FnOk X.prog X.w X.K X.mg X.base CX k f fd ps sp) (room : Room k X.A) (bd : L2.Binds X.K fd ps []) (out : ∀ σ, PassesAt CX X σ (E σ)) (ha : PA X (e :: es) t)
    (hst : starEach (e :: es) X.env = (false, eval e X.env) :: starEach es X.env := by rfl) (hpl : (backTo pos (starEach es X.env)).any (·.1) = false := by rfl)
    (ht : eval (.Call (.Attribute o m apos) (e :: es) [] pos) X.env = (do
      let ov ← eval o X.env; standAt apos.atName; let (f, first) ← holding [ov] (getMethod ov m pl); callWith pos f first (backTo pos (starEach (e :: es) X.env)) (backToKw pos (keywordEach [] X.env))) := by rfl) :
    PE X (.Call (.Attribute o m apos) (e :: es) [] pos) (tMtS C m sp E ta t) := by
  constructor
  intro pins s σ H Q J q
  refine PySem.W.methodCall_KW (pl := pl) (thn (ho.run pins s σ H _ J q) fun u s1 hu => ?_) ht
  obtain ⟨x, H1, J1, rx, a, dx, fs, ex, ea, nl, q1⟩ := hu
  subst ex
  cases rx
  refine getmeth_ok J1 ea c hm nl (PySem.W.callWith_K (first := [.ref a]) (h₀ := X.base) J.ok.mod.kin hm.kp (thn (ha.run pos pins s1 σ H1 _ J1 q1) fun us s2 ⟨vs, H2, J2, r, q2⟩ => ⟨J2.kIn, ?_⟩) hst hpl)
  exact run_fnS (us := .ref a :: us) (vs := .ref a :: vs) G room bd (out σ) J2 (.cons rfl r) q2
end
/-- for i, x in enumerate(xs) -/
theorem for_enumL {K : PySem.W.Frag} {a : Addr} {xs : List V} {g : TG} {tb : TS} {D : Ends} {σ : L2.St} {H : Hp} (Pv : Nat → L2.St → Hp → Prop) (h0 : Pv 0 σ H) (hl : ∀ i σ H, i ≤ xs.length → Pv i σ H → SqL K H a xs)
    (hs : ∀ (i : Nat) (x : V) (T : Addr) (σ : L2.St) (H : Hp), xs[i]? = some x → Pv i σ H → H T = none → g (.ref T) σ (upd H T (.tup [.int (i : Nat), x])) fun σ2 H2 => tb { D with nx := Pv (i + 1), ct := Pv (i + 1), bk := D.nx } σ2 H2) (hd : ∀ σ H, Pv xs.length σ H → D.nx σ H) :
    ∃ W : Nat → Nat → L2.St → Hp → Prop, (∃ m, W 0 m σ H) ∧ ∀ i m σ H, W i m σ H →
      ((Ite K a).stop i H ∧ D.nx σ H) ∨ ((Ite K a).go i H ∧ ∃ N : L2.St → Hp → Prop, (∀ σ' H', N σ' H' → ∃ m', m' < m ∧ W (i + 1) m' σ' H') ∧ ∀ x H', (Ite K a).yld i H x H' → g x σ H' fun σ2 H2 => tb { D with nx := N, ct := N, bk := D.nx } σ2 H2) :=
  for_it walk_enum Pv h0 hl (fun i x σ H H' _ p y => by
    obtain ⟨T, x1, x2, rfl, nT, rfl, e1, e2⟩ := y
    cases (Option.some.inj e1)
    exact hs i x2 T σ H e2 p nT) hd
end MKX
/-! A def that the text calls by another name than its own. -/
namespace NB
open PySem PySem.Spec L2
structure Da (K : PySem.W.Frag) (mg : Str → Option Value) (x nm : Str) (ps : List Str) (st : Stmt) (f : Addr) (fd : FuncData) : Prop where
  F : Fun K nm nm st f fd
  g : mg x = some (.ref f)
  b : L2.Binds K fd ps []
end NB
namespace NB
open PySem PySem.Spec L2
/-- within a comprehension: the written part named from outside -/
theorem ix_listK {X : Cx} {K : PySem.W.Frag} (h : X.K = K) : IxR X (rIxL K) := h ▸ ix_list
theorem ix_tupK {X : Cx} {K : PySem.W.Frag} (h : X.K = K) : IxR X (rIxT K) := h ▸ ix_tup
end NB
namespace NB
open PySem PySem.Spec L2
theorem op_eqDK {X : Cx} {K : PySem.W.Frag} (h : X.K = K) (hu : X.A.units + 64 < cLine) : OpR X (compareOp .Eq) (rEqD K) := h ▸ op_eqD hu
theorem op_neDK {X : Cx} {K : PySem.W.Frag} (h : X.K = K) (hu : X.A.units + 64 < cLine) : OpR X (compareOp .NotEq) (rNeD K) := h ▸ op_neD hu
end NB
/-! A def that is called where nothing is being printed: repr of lists. -/
namespace GR
open PySem PySem.Spec PyProof.Rows L2 NB
/-- repr of a list or tuple of plain things, where nothing is being printed -/
def rRepr (K : PySem.W.Frag) : List V → Hp → VK → Prop := fun xs H Q => ∃ (a : Addr) (d : PyData), xs = [.ref a] ∧ Dp K H (.ref a) d ∧ d.showable = true ∧ d.hasDict = false ∧ d.depth ≤ 60 ∧ d.shown.length ≤ sizeLine ∧ Q (.str d.shown) H
theorem call_reprD {X : Cx} (hg : X.A.guards = some []) (hu : X.A.units + 64 < cLine) : CallR X (.builtin "repr") (rRepr X.K) := by
  intro pins s σ H xs us Q I r h
  obtain ⟨a, d, rfl, hd, hs, hn, hp, hz, q⟩ := h
  obtain ⟨u, rfl, ru⟩ := vals1 r
  obtain rfl : u = Value.ref a := ru
  obtain ⟨as, rd⟩ := Dp.reads I d (.ref a) (.ref a) hd rfl
  refine repr_of_reads' rd hs (fun e => by rw [hn] at e; cases e) hg (by omega) (fun _ _ e => e) (fun h' u tk keep => ?_) hz
  exact ⟨.str d.shown, H, I.kept (t' := tk) (h' := h') keep, ⟨u, rfl⟩, q⟩
/-- the promise of a def where nothing is being printed -/
def FnG (P : Program) (w : World) (K : PySem.W.Frag) (mg : Str → Option Value) (base : Heap) (CX : CXT) (k : Nat) (f : Addr) (fd : FuncData) (ps : List Str) (sp : Sp) : Prop :=
  ∀ (A : Around) (outer : List Env) (s : Shared) (H : Hp) (args : Args) (us : List Value) (vs : List V) (Q : VK) (E : XK), A.guards = some [] → Room k A → Env0 P w K mg base A outer s H → BindsTo s fd args (ps.zip us) → Vals vs us → sp vs H Q E →
    codeAny (model P w) A (.call (.ref f) args) (CR CX outer P w H s Q E) s
section
variable {P : Program} {w : World} {K : PySem.W.Frag} {mg : Str → Option Value} {base : Heap}
theorem Fun.okG {x qual : Str} {st : Stmt} {f : Addr} {fd : FuncData} {N ps : List Str} {k : Nat} {sp : Sp} (F : Fun K x qual st f fd) (S : FnScope N ps (defScope st)) (len : ∀ vs H Q E, sp vs H Q E → vs.length = ps.length)
    (body : ∀ (cdv : Value) (A : Around) (outer : List Env) (s : Shared) (H : Hp) (vs : List V) (Q : VK) (E : XK), (A.deeper (envOfC qual (defScope st) s.heap.objs.size f cdv)).guards = some [] → Room k (A.deeper (envOfC qual (defScope st) s.heap.objs.size f cdv)) → sp vs H Q E →
      ∃ t, PSs (cxOf CX0 P w K mg base N qual (defScope st) f cdv A outer s H E).nox (defBody st) t ∧ t { nx := fun _ H' => Q .non H', rt := Q } (start N vs) H) : FnG P w K mg base CX0 (k + 1) f fd ps sp := by
  obtain ⟨oc, od, kV, doc, pm, an, cdv, ct, osl, rfl, lk, hcd⟩ := F.ex
  intro A outer s H args us vs Q E gd room env bind vals pre
  have n := len _ _ _ _ pre
  have kin : K.In s.heap := env.mod.kin.keeps fun b o z => (env.bs b o z).1
  have nolim : s.heap.NoLimit := env.mod.nolimit.keeps fun b o z => (env.bs b o z).1
  refine codeAny_call_function room.depth (kin _ _ lk) rfl S.co S.gen rfl (PySem.W.codeRec_of kin hcd) (bind _ _ _ _ ?_)
  refine wpAny_newFunctionEnv_cells S.kind (fun y hy => ?_) fun env' ee s1 lay => ?_
  · rcases S.par y.1 (List.of_mem_zip hy).1 with z | z
    · exact Or.inl z
    · exact Or.inr ⟨z, PySem.W.cellsFrom_some _ _ _ (Or.inl z)⟩
  subst ee
  refine ⟨nolim.keeps lay.toInCall.keep, codeAny_func ?_⟩
  obtain ⟨t, ht, wish⟩ := body cdv A outer s H vs Q E gd (room.deeper _) pre
  have J := inv_start (CX := CX0) (E := E) S room.hd env n vals lay
  refine wpAny_mono (ht.nox.run [] s1 (start N vs) H _ J wish) (fun fl s' done => ?_) fun e s' z => z
  match fl, done with
  | .ret u, ⟨v, σ', H', L, rv, z⟩ => exact ⟨v, H', L.os, L.bare, L.base, L.hok, rv, z⟩
  | .next, ⟨σ', H', L, z⟩ => exact ⟨V.non, H', L.os, L.bare, L.base, L.hok, rfl, z⟩
  | .brk, ⟨_, _, _, z⟩ => exact z.elim
  | .cont, ⟨_, _, _, z⟩ => exact z.elim
end
section
variable {P : Program} {w : World} {K : PySem.W.Frag} {mg mb : Str → Option Value} {CX : CXT} {k : Nat} {fa a : Addr} {fd : FuncData} {x : Str} {sp : Sp} {s0 : Shared} {vs : List Value} {ns : List Int}
/-- the world as the law is entered: only the script may be followed -/
theorem entry (KX : K.In s0.heap) (hm : s0.heap.Ns mainGlobals mg) (hb : s0.heap.Ns builtinsNs mb) (hbb : ∀ x : Str, x ≠ "__name__" → mb x = bootBuiltins x) (hl : s0.heap.NoLimit) (hg : s0.gens = #[])
    (ha : s0.heap.get? a = some { cls := .type "list", data := .seq vs.toArray }) {H : Hp} (hok : HOk P w H s0.heap) (one : ∀ b u, H b = some u → b = a) (out : ∀ u, H a = some u → K.lookup a = none) :
    K.In (hidT s0.heap H) ∧ (hidT s0.heap H).Ns mainGlobals mg ∧ Env0 P w K mg (hidT s0.heap H) callerA [] s0 H := by
  have kept : ∀ {b : Addr} {o : Obj} {es : Array DictEntry} {ep : Nat}, s0.heap.get? b = some o → o.data = .dict es ep → (hidT s0.heap H).get? b = some o := fun {b o es ep} e d => by
    refine hidT_get e ?_
    cases z : H b with
    | none => rfl
    | some u =>
      have := one b u z
      rw [this, ha] at e
      have e2 := congrArg Obj.data (Option.some.inj e)
      rw [d] at e2
      cases e2
  have names : ∀ {b : Addr} {m : Str → Option Value}, s0.heap.Ns b m → (hidT s0.heap H).Ns b m := fun {b m} n => by
    obtain ⟨o, es, ep, e, d, r⟩ := n
    exact ⟨o, es, ep, kept e d, d, r⟩
  have kin : K.In (hidT s0.heap H) := fun b o e => by
    refine hidT_get (KX b o e) ?_
    cases z : H b with
    | none => rfl
    | some u =>
      have eb := one b u z
      subst eb
      rw [out u z] at e
      cases e
  obtain ⟨mc, c1, c2⟩ := hl
  refine ⟨kin, names hm, ⟨rfl, ⟨kin, names hm, ⟨mb, names hb, hbb⟩, mc, names c1, c2⟩, fun b o e => of_hidT e, Nat.le_of_eq (hidT_size _ _), trivial, fun b hb => ?_, hok, .of_eq hg⟩⟩
  exact absurd (show b ∈ ([] : List Addr) from hb) List.not_mem_nil
theorem law_callG (KX : K.In s0.heap) (hm : s0.heap.Ns mainGlobals mg) (hb : s0.heap.Ns builtinsNs mb) (hbb : ∀ x : Str, x ≠ "__name__" → mb x = bootBuiltins x) (hl : s0.heap.NoLimit) (hg : s0.gens = #[])
    (ha : s0.heap.get? a = some { cls := .type "list", data := .seq vs.toArray }) (hi : IntsAre vs ns) (hz : ns.length ≤ sizeLine) (room : Room k callerA)
    (F : ∀ base : Heap, K.In base → base.Ns mainGlobals mg → FnG P w K mg base CX k fa fd [x] sp) (bind : ∀ (s : Shared) (u : Value), BindsTo s fd ⟨[u], []⟩ [(x, u)])
    (wish : ∀ H : Hp, Only H → SqL K H a (ns.map V.int) → sp [.ref a] H (fun v _ => v = .bl true) fun _ _ _ => False) (no : ∀ H e s', CX [] H s0 (fun _ _ _ => False) e s' → False) :
    codeAny (model P w) callerA (.call (.ref fa) ⟨[.ref a], []⟩) (fun r s' => r = .ok (.ret (.bool true)) ∧ OldK s0.heap s'.heap ∧ s'.os = s0.os ∧ AllBare s'.gens) s0 := by
  have rv := vals_ints hi
  have nv := hi.length
  have go : ∀ H : Hp, Only H → SqL K H a (ns.map V.int) → HOk P w H s0.heap → (∀ b u, H b = some u → b = a) → (∀ u, H a = some u → K.lookup a = none) →
      codeAny (model P w) callerA (.call (.ref fa) ⟨[.ref a], []⟩) (fun r s' => r = .ok (.ret (.bool true)) ∧ OldK s0.heap s'.heap ∧ s'.os = s0.os ∧ AllBare s'.gens) s0 := fun H hO hS hok one out => by
    obtain ⟨kin, nsb, env⟩ := entry KX hm hb hbb hl hg ha hok one out
    refine codeAny_mono (F _ kin nsb callerA [] s0 H ⟨[.ref a], []⟩ [.ref a] [.ref a] _ _ rfl room env (bind s0 (.ref a)) (.cons rfl .nil) (wish H hO hS)) fun r s' done => ?_
    match r, done with
    | .error e, done => exact (no H e s' done).elim
    | .ok .next, done => exact done.elim
    | .ok .brk, done => exact done.elim
    | .ok .cont, done => exact done.elim
    | .ok (.ret u), ⟨v, H', os, bare, un, hok2, rv2, ev⟩ =>
      have ev2 : v = .bl true := ev
      subst ev2
      have eu : u = Value.bool true := rv2
      subst eu
      refine ⟨rfl, OldK.of_keep fun b o e => ?_, os, bare⟩
      rcases hO b with z | ⟨ob, xs, z⟩
      · exact un.keep b o e z (fun z2 => absurd (show b ∈ ([] : List Addr) from z2) List.not_mem_nil) List.not_mem_nil
      · obtain ⟨e1, _⟩ := hok b _ z
        obtain ⟨e2, _⟩ := hok2 b _ (un.frzs b ob _ z)
        rw [e] at e1
        cases e1
        exact e2
  cases q : K.lookup a with
  | none =>
    have only : ∀ b u, (if b = a then some (HO.frz { cls := .type "list", data := .seq vs.toArray } (.lst (ns.map V.int))) else none) = some u → b = a ∧ u = .frz { cls := .type "list", data := .seq vs.toArray } (.lst (ns.map V.int)) := fun b u z => by
      by_cases e : b = a
      · rw [if_pos e] at z; exact ⟨e, (Option.some.inj z).symm⟩
      · rw [if_neg e] at z; cases z
    refine go (fun b => if b = a then some (.frz { cls := .type "list", data := .seq vs.toArray } (.lst (ns.map V.int))) else none) (fun b => ?_) (.inl (.inr ⟨{ cls := .type "list", data := .seq vs.toArray }, if_pos rfl⟩)) (fun b u z => ?_) (fun b u z => (only b u z).1) fun _ _ => q
    · by_cases e : b = a
      · exact .inr ⟨_, _, if_pos e⟩
      · exact .inl (if_neg e)
    · obtain ⟨rfl, rfl⟩ := only b u z
      exact ⟨ha, by rw [List.length_map]; exact hz, vs, _, rv, ha⟩
  | some o =>
    have e := KX a o q
    rw [ha] at e
    cases e
    exact go (fun _ => none) (fun _ => .inl rfl) (.inr ⟨_, vs.toArray, _, q, rfl, rfl, rfl, by rw [List.size_toArray, nv]; exact hz, by simpa using rv⟩) (fun b u z => nomatch z) (fun b u z => nomatch z) fun u z => nomatch z
end
theorem walkG {l : PySem.W.OpenLaw} {n k : Nat} {q : Program} {loose : List Str} {XP : (Str → Option Value) → Heap → Prop} {YP : World → Heap → Prop} {d : DefRec} {K : Params → PySem.W.Frag} {CX : World → CXT} {sp : World → Sp} {x : Str}
    (most : l.most = some n) (small : n ≤ sizeLine) (plain : d.params.defaults = []) (room : Room k callerA) (known : ∀ (w : World) (h : Heap), YP w h → (K w.params).In h)
    (F : ∀ (w : World) (mg : Str → Option Value) (fa : Addr) (h : Heap), (K w.params).In h → h.Ns mainGlobals mg → mg d.name = some (.ref fa) →
      ∃ fd : FuncData, (∀ (s : Shared) (u : Value), BindsTo s fd ⟨[u], []⟩ [(x, u)]) ∧ ∀ base : Heap, (K w.params).In base → base.Ns mainGlobals mg → FnG l.prog w (K w.params) mg base (CX w) k fa fd [x] (sp w))
    (wish : ∀ (w : World) (H : Hp) (a : Addr) (ns : List Int), ns.length ≤ n → Only H → SqL (K w.params) H a (ns.map V.int) → sp w [.ref a] H (fun v _ => v = .bl true) fun _ _ _ => False)
    (no : ∀ (w : World) (H : Hp) (s : Shared) (e : Value) (s' : Shared), CX w [] H s (fun _ _ _ => False) e s' → False) : PySem.W.WalkO q loose XP YP l.row.toRowW d [] (fun f vs => PySem.call f vs) := by
  refine Att.attach_call most plain fun w t0 t1 mg mb fa o pm cd doc a vs ns G Y ho hd hcd hmg hobj hints hlen hg => ?_
  have kin := known w _ Y
  obtain ⟨fd, bind, run⟩ := F w mg fa _ kin G.T.g hmg
  exact law_callG kin G.T.g G.T.b G.T.builtins G.T.nolimit hg hobj hints (Nat.le_trans hlen small) room run bind (fun H hO hS => wish w H a ns hlen hO hS) fun H e s' => no w H t1 e s'
end GR
namespace GF
/-! # Polynomials over two elements, as natural numbers -/
theorem xor_mod2 (b c : Nat) : (b ^^^ c) % 2 = (b % 2 + c % 2) % 2 := by
  have := Nat.xor_mod_two_pow (a := b) (b := c) (n := 1)
  simp at this
  rw [this]
  rcases Nat.mod_two_eq_zero_or_one b with h | h <;> rcases Nat.mod_two_eq_zero_or_one c with g | g <;> rw [h, g] <;> rfl
theorem xor_div2 (b c : Nat) : (b ^^^ c) / 2 = (b / 2) ^^^ (c / 2) := by
  apply Nat.eq_of_testBit_eq
  intro i
  simp [Nat.testBit_div_two]
theorem two_mul_xor (b c : Nat) : 2 * (b ^^^ c) = (2 * b) ^^^ (2 * c) := by
  have := Nat.shiftLeft_xor_distrib (a := b) (b := c) (i := 1)
  simp only [Nat.shiftLeft_eq, Nat.pow_one] at this
  rw [Nat.mul_comm 2, Nat.mul_comm 2, Nat.mul_comm 2]
  exact this
theorem pow_mul_xor (i b c : Nat) : 2 ^ i * (b ^^^ c) = (2 ^ i * b) ^^^ (2 ^ i * c) := by
  have := Nat.shiftLeft_xor_distrib (a := b) (b := c) (i := i)
  simp only [Nat.shiftLeft_eq] at this
  rw [Nat.mul_comm (2 ^ i), Nat.mul_comm (2 ^ i), Nat.mul_comm (2 ^ i)]
  exact this
theorem split2 (b : Nat) : b = (b % 2) ^^^ (2 * (b / 2)) := by
  apply Nat.eq_of_testBit_eq
  intro i
  cases i with
  | zero => simp [Nat.testBit_zero, Nat.mod_mod]
  | succ i =>
    rw [Nat.testBit_xor, Nat.testBit_succ, Nat.testBit_succ, Nat.testBit_succ]
    have h : b % 2 / 2 = 0 := by omega
    have g : 2 * (b / 2) / 2 = b / 2 := by omega
    rw [h, g]; simp
/-- the product, by n bits of b -/
def pm : Nat → Nat → Nat → Nat
  | 0, _, _ => 0
  | n + 1, a, b => (if b % 2 = 1 then a else 0) ^^^ (2 * pm n a (b / 2))
def mul (a b : Nat) : Nat := pm (b.log2 + 1) a b
theorem pm_zero_right (n a : Nat) : pm n a 0 = 0 := by
  induction n with
  | zero => rfl
  | succ n ih => simp [pm, ih]
theorem pm_zero_left (n b : Nat) : pm n 0 b = 0 := by
  induction n generalizing b with
  | zero => rfl
  | succ n ih => simp [pm, ih]
theorem pm_stable (n : Nat) : ∀ {k a b : Nat}, b < 2 ^ n → n ≤ k → pm k a b = pm n a b := by
  induction n with
  | zero =>
    intro k a b h _
    have : b = 0 := by simpa using h
    subst this
    rw [pm_zero_right, pm_zero_right]
  | succ n ih =>
    intro k a b h hk
    obtain ⟨k, rfl⟩ : ∃ j, k = j + 1 := ⟨k - 1, by omega⟩
    simp only [pm]
    rw [ih (a := a) (b := b / 2) (k := k) (by rw [Nat.pow_succ] at h; omega) (by omega)]
theorem lt_log2 (b : Nat) : b < 2 ^ (b.log2 + 1) := Nat.lt_log2_self
theorem pm_eq {n a b : Nat} (h : b < 2 ^ n) : pm n a b = mul a b := by
  unfold mul
  by_cases hk : n ≤ b.log2 + 1
  · exact (pm_stable n h hk).symm
  · exact pm_stable (b.log2 + 1) (lt_log2 b) (by omega)
theorem mul_zero (a : Nat) : mul a 0 = 0 := pm_zero_right _ _
theorem zero_mul (b : Nat) : mul 0 b = 0 := pm_zero_left _ _
theorem mul_step (a b : Nat) : mul a b = (if b % 2 = 1 then a else 0) ^^^ (2 * mul a (b / 2)) := by
  have h1 : b < 2 ^ (b.log2 + 2) := Nat.lt_of_lt_of_le (lt_log2 b) (Nat.pow_le_pow_right (by decide) (by omega))
  rw [← pm_eq h1]
  show (if b % 2 = 1 then a else 0) ^^^ (2 * pm (b.log2 + 1) a (b / 2)) = _
  rw [pm_eq (n := b.log2 + 1)]
  have := lt_log2 b
  omega
/-- an induction by halves -/
theorem half_ind {P : Nat → Prop} (h0 : P 0) (h : ∀ b, b ≠ 0 → P (b / 2) → P b) (b : Nat) : P b := by
  induction b using Nat.strongRecOn with
  | ind b ih =>
    by_cases hb : b = 0
    · subst hb; exact h0
    · exact h b hb (ih _ (by omega))
theorem if_xor_left (p q r : Prop) [Decidable p] [Decidable q] [Decidable r] (a : Nat) (h : r ↔ ¬ (p ↔ q)) : (if r then a else 0) = (if p then a else 0) ^^^ (if q then a else 0) := by
  by_cases hp : p <;> by_cases hq : q <;> simp_all
theorem mul_xor (a b c : Nat) : mul a (b ^^^ c) = mul a b ^^^ mul a c := by
  induction b using half_ind generalizing c with
  | h0 => rw [mul_zero, Nat.zero_xor, Nat.zero_xor]
  | h b hb ih =>
    rw [mul_step a (b ^^^ c), mul_step a b, mul_step a c, xor_div2, ih, two_mul_xor,
      if_xor_left (b % 2 = 1) (c % 2 = 1) ((b ^^^ c) % 2 = 1) a (by rw [xor_mod2]; omega)]
    ac_rfl
theorem xor_mul (a d b : Nat) : mul (a ^^^ d) b = mul a b ^^^ mul d b := by
  induction b using half_ind with
  | h0 => simp [mul_zero]
  | h b hb ih =>
    rw [mul_step (a ^^^ d) b, mul_step a b, mul_step d b, ih, two_mul_xor]
    by_cases h : b % 2 = 1
    · simp only [h, if_true]; ac_rfl
    · simp only [h, if_false, Nat.zero_xor]
theorem two_mul (a b : Nat) : mul (2 * a) b = 2 * mul a b := by
  induction b using half_ind with
  | h0 => simp [mul_zero]
  | h b hb ih =>
    rw [mul_step (2 * a) b, mul_step a b, ih, two_mul_xor]
    by_cases h : b % 2 = 1 <;> simp [h]
theorem mul_two (a b : Nat) : mul a (2 * b) = 2 * mul a b := by
  rw [mul_step a (2 * b)]
  have h1 : 2 * b % 2 = 0 := by omega
  have h2 : 2 * b / 2 = b := by omega
  rw [h1, h2]; simp
theorem mul_one (a : Nat) : mul a 1 = a := by
  rw [mul_step]; simp [mul_zero]
theorem one_mul (b : Nat) : mul 1 b = b := by
  induction b using half_ind with
  | h0 => exact mul_zero 1
  | h b hb ih =>
    rw [mul_step, ih]
    have := split2 b
    by_cases h : b % 2 = 1
    · rw [if_pos h]; rw [h] at this; exact this.symm
    · have h0 : b % 2 = 0 := by omega
      rw [if_neg h]; rw [h0] at this; exact this.symm
theorem mul_comm (a b : Nat) : mul a b = mul b a := by
  induction b using half_ind generalizing a with
  | h0 => rw [mul_zero, zero_mul]
  | h b hb ih =>
    rw [mul_step]
    conv => rhs; rw [split2 b, xor_mul, two_mul, ← ih]
    congr 1
    by_cases h : b % 2 = 1
    · rw [if_pos h, h, one_mul]
    · have h0 : b % 2 = 0 := by omega
      rw [if_neg h, h0, zero_mul]
theorem mul_assoc (a b c : Nat) : mul (mul a b) c = mul a (mul b c) := by
  induction c using half_ind with
  | h0 => simp [mul_zero]
  | h c hc ih =>
    rw [mul_step (mul a b) c, mul_step b c, mul_xor, mul_two, ih]
    by_cases h : c % 2 = 1
    · simp [h]
    · simp [h, mul_zero]
theorem mul_pow (a i : Nat) : mul a (2 ^ i) = 2 ^ i * a := by
  induction i with
  | zero => simp [mul_one]
  | succ i ih => rw [Nat.pow_succ, Nat.mul_comm (2 ^ i) 2, mul_two, ih]; rw [Nat.mul_assoc]
theorem pow_mul (i b : Nat) : mul (2 ^ i) b = 2 ^ i * b := by rw [mul_comm, mul_pow]
theorem xor_self_cancel (a b : Nat) : a ^^^ (a ^^^ b) = b := by rw [← Nat.xor_assoc, Nat.xor_self, Nat.zero_xor]
theorem xor_eq_iff {a b c : Nat} : a ^^^ b = c ↔ b = a ^^^ c := by
  constructor
  · intro h; rw [← h, xor_self_cancel]
  · intro h; rw [h, xor_self_cancel]
theorem xor_eq_zero {a b : Nat} (h : a ^^^ b = 0) : a = b := by
  have := xor_eq_iff.mp h
  rw [Nat.xor_zero] at this
  exact this.symm
theorem xor_lt {a b n : Nat} (ha : a < 2 ^ n) (hb : b < 2 ^ n) : a ^^^ b < 2 ^ n := Nat.xor_lt_two_pow ha hb
/-! ## Degrees: a is of the degree n if 2 ^ n ≤ a < 2 ^ (n + 1) -/
def Deg (a n : Nat) : Prop := 2 ^ n ≤ a ∧ a < 2 ^ (n + 1)
theorem deg_log {a : Nat} (h : a ≠ 0) : Deg a a.log2 := ⟨Nat.log2_self_le h, Nat.lt_log2_self⟩
theorem Deg.ne {a n : Nat} (h : Deg a n) : a ≠ 0 := by
  have := Nat.two_pow_pos n
  have := h.1
  omega
theorem Deg.log {a n : Nat} (h : Deg a n) : a.log2 = n := (Nat.log2_eq_iff h.ne).mpr h
theorem deg_top {a n : Nat} (h : a < 2 ^ (n + 1)) : Deg a n ↔ a.testBit n = true := by
  constructor
  · intro d
    rw [Nat.testBit_eq_decide_div_mod_eq]
    have : a / 2 ^ n = 1 := by
      rw [Nat.div_eq_of_lt_le (k := 1)]
      · rw [Nat.one_mul]; exact d.1
      · rw [Nat.pow_succ] at h; omega
    simp [this]
  · intro t
    exact ⟨Nat.ge_two_pow_of_testBit t, h⟩
/-- the top bits cancel -/
theorem deg_xor {a b n : Nat} (ha : Deg a n) (hb : Deg b n) : a ^^^ b < 2 ^ n := by
  apply Nat.lt_pow_two_of_testBit
  intro i hi
  rw [Nat.testBit_xor]
  by_cases e : i = n
  · subst e
    rw [(deg_top ha.2).mp ha, (deg_top hb.2).mp hb]; rfl
  · have : n + 1 ≤ i := by omega
    rw [Nat.testBit_lt_two_pow (Nat.lt_of_lt_of_le ha.2 (Nat.pow_le_pow_right (by decide) this)),
      Nat.testBit_lt_two_pow (Nat.lt_of_lt_of_le hb.2 (Nat.pow_le_pow_right (by decide) this))]; rfl
theorem deg_xor_lt {a b n : Nat} (ha : Deg a n) (hb : b < 2 ^ n) : Deg (a ^^^ b) n := by
  have hb' : b < 2 ^ (n + 1) := by rw [Nat.pow_succ]; omega
  rw [deg_top (xor_lt ha.2 hb'), Nat.testBit_xor, (deg_top ha.2).mp ha, Nat.testBit_lt_two_pow hb]
  rfl
theorem deg_shift {a n : Nat} (h : Deg a n) (i : Nat) : Deg (2 ^ i * a) (i + n) := by
  refine ⟨?_, ?_⟩
  · rw [Nat.pow_add]; exact Nat.mul_le_mul_left _ h.1
  · have := Nat.mul_lt_mul_of_pos_left h.2 (Nat.two_pow_pos i)
    rw [Nat.add_assoc, Nat.pow_add]; exact this
theorem mul_deg {a n : Nat} (ha : Deg a n) : ∀ {b k : Nat}, Deg b k → Deg (mul a b) (n + k) := by
  intro b k
  induction k generalizing b with
  | zero =>
    intro hb
    have : b = 1 := by have := hb.1; have := hb.2; simp at *; omega
    subst this
    rw [mul_one]; exact ha
  | succ k ih =>
    intro hb
    have h2 : Deg (b / 2) k := by
      have h1 := hb.1
      have h3 := hb.2
      rw [Nat.pow_succ] at h1 h3
      exact ⟨by omega, by omega⟩
    have h3 := deg_shift (ih h2) 1
    rw [mul_step, Nat.xor_comm]
    have e : 1 + (n + k) = n + (k + 1) := by omega
    rw [e] at h3
    rw [Nat.pow_one] at h3
    refine deg_xor_lt h3 ?_
    have hl : a < 2 ^ (n + (k + 1)) := Nat.lt_of_lt_of_le ha.2 (Nat.pow_le_pow_right (by decide) (by omega))
    by_cases hh : b % 2 = 1
    · rw [if_pos hh]; exact hl
    · rw [if_neg hh]; exact Nat.two_pow_pos _
theorem mul_ne {a b : Nat} (ha : a ≠ 0) (hb : b ≠ 0) : mul a b ≠ 0 := (mul_deg (deg_log ha) (deg_log hb)).ne
theorem mul_log {a b : Nat} (ha : a ≠ 0) (hb : b ≠ 0) : (mul a b).log2 = a.log2 + b.log2 := (mul_deg (deg_log ha) (deg_log hb)).log
theorem mul_eq_zero {a b : Nat} (h : mul a b = 0) : a = 0 ∨ b = 0 := by
  by_cases ha : a = 0
  · exact .inl ha
  · by_cases hb : b = 0
    · exact .inr hb
    · exact absurd h (mul_ne ha hb)
theorem mul_cancel {a b c : Nat} (hc : c ≠ 0) (h : mul a c = mul b c) : a = b := by
  have e : mul (a ^^^ b) c = 0 := by rw [xor_mul, h, Nat.xor_self]
  rcases mul_eq_zero e with h | h
  · exact xor_eq_zero h
  · exact absurd h hc
/-! ## Division -/
theorem div_unique {q k k' r r' : Nat} (hq : q ≠ 0) (hr : r < 2 ^ q.log2) (hr' : r' < 2 ^ q.log2) (h : mul k q ^^^ r = mul k' q ^^^ r') : k = k' ∧ r = r' := by
  have e : mul (k ^^^ k') q = r ^^^ r' := by
    rw [xor_mul]
    have h2 : mul k q ^^^ r ^^^ (mul k' q ^^^ r) = mul k' q ^^^ r' ^^^ (mul k' q ^^^ r) := by rw [h]
    have l : mul k q ^^^ r ^^^ (mul k' q ^^^ r) = mul k q ^^^ mul k' q := by
      rw [Nat.xor_assoc, Nat.xor_comm r, Nat.xor_assoc, Nat.xor_self, Nat.xor_zero]
    have rr : mul k' q ^^^ r' ^^^ (mul k' q ^^^ r) = r ^^^ r' := by
      rw [Nat.xor_comm (mul k' q) r', Nat.xor_assoc, xor_self_cancel, Nat.xor_comm]
    rw [l, rr] at h2
    exact h2
  by_cases hk : k ^^^ k' = 0
  · have := xor_eq_zero hk
    subst this
    rw [hk, zero_mul] at e
    exact ⟨rfl, xor_eq_zero e.symm⟩
  · have d := mul_deg (deg_log hk) (deg_log hq)
    rw [e] at d
    have l := xor_lt hr hr'
    have := d.1
    have m : 2 ^ q.log2 ≤ 2 ^ ((k ^^^ k').log2 + q.log2) := Nat.pow_le_pow_right (by decide) (by omega)
    omega
/-- quotient and rest, by n turns -/
def dm : Nat → Nat → Nat → Nat × Nat
  | 0, _, r => (0, r)
  | n + 1, q, r => if r.testBit (n + q.log2) then
      let z := dm n q (r ^^^ 2 ^ n * q)
      (2 ^ n ^^^ z.1, z.2)
    else dm n q r
theorem dm_spec {q : Nat} (hq : q ≠ 0) : ∀ (n r : Nat), r < 2 ^ (n + q.log2) → r = mul (dm n q r).1 q ^^^ (dm n q r).2 ∧ (dm n q r).2 < 2 ^ q.log2 := by
  intro n
  induction n with
  | zero => intro r h; simp [dm, zero_mul]; simpa using h
  | succ n ih =>
    intro r h
    have h' : r < 2 ^ (n + q.log2 + 1) := by
      have : n + 1 + q.log2 = n + q.log2 + 1 := by omega
      rw [← this]; exact h
    simp only [dm]
    by_cases t : r.testBit (n + q.log2) = true
    · rw [if_pos t]
      have dr : Deg r (n + q.log2) := (deg_top h').mpr t
      have dq := deg_shift (deg_log hq) n
      obtain ⟨e1, e2⟩ := ih _ (deg_xor dr dq)
      refine ⟨?_, e2⟩
      simp only []
      rw [xor_mul, pow_mul, Nat.xor_assoc, ← e1, Nat.xor_comm r, xor_self_cancel]
    · rw [if_neg t]
      refine ih r ?_
      rcases Nat.lt_or_ge r (2 ^ (n + q.log2)) with l | g
      · exact l
      · exact absurd ((deg_top h').mp ⟨g, h'⟩) t
def pdiv (p q : Nat) : Nat := (dm (p.log2 + 1) q p).1
def pmod (p q : Nat) : Nat := (dm (p.log2 + 1) q p).2
theorem dm_room (p q : Nat) : p < 2 ^ (p.log2 + 1 + q.log2) := Nat.lt_of_lt_of_le (lt_log2 p) (Nat.pow_le_pow_right (by decide) (by omega))
theorem div_eq {p q : Nat} (hq : q ≠ 0) : p = mul (pdiv p q) q ^^^ pmod p q := (dm_spec hq _ p (dm_room p q)).1
theorem mod_lt {p q : Nat} (hq : q ≠ 0) : pmod p q < 2 ^ q.log2 := (dm_spec hq _ p (dm_room p q)).2
theorem mod_of {p q k r : Nat} (hq : q ≠ 0) (hr : r < 2 ^ q.log2) (h : p = mul k q ^^^ r) : pdiv p q = k ∧ pmod p q = r :=
  div_unique hq (mod_lt hq) hr ((div_eq hq).symm.trans h)
theorem mod_small {p q : Nat} (hq : q ≠ 0) (h : p < 2 ^ q.log2) : pmod p q = p := (mod_of (k := 0) hq h (by rw [zero_mul, Nat.zero_xor])).2
theorem mod_xor {a b q : Nat} (hq : q ≠ 0) : pmod (a ^^^ b) q = pmod a q ^^^ pmod b q := by
  refine (mod_of (k := pdiv a q ^^^ pdiv b q) hq (xor_lt (mod_lt hq) (mod_lt hq)) ?_).2
  rw [xor_mul]
  conv => lhs; rw [div_eq (p := a) hq, div_eq (p := b) hq]
  ac_rfl
theorem mod_mul_self {k q : Nat} (hq : q ≠ 0) : pmod (mul k q) q = 0 :=
  (mod_of (k := k) hq (Nat.two_pow_pos _) (by rw [Nat.xor_zero])).2
theorem mod_mod {p q : Nat} (hq : q ≠ 0) : pmod (pmod p q) q = pmod p q := mod_small hq (mod_lt hq)
theorem mod_mul_left {a b q : Nat} (hq : q ≠ 0) : pmod (mul (pmod a q) b) q = pmod (mul a b) q := by
  conv => rhs; rw [div_eq (p := a) hq, xor_mul, mod_xor hq, mul_assoc, mul_comm q b, ← mul_assoc, mod_mul_self hq, Nat.zero_xor]
theorem mod_mul_right {a b q : Nat} (hq : q ≠ 0) : pmod (mul a (pmod b q)) q = pmod (mul a b) q := by
  rw [mul_comm, mod_mul_left hq, mul_comm]
/-! ## Divisors -/
def Dvd (q p : Nat) : Prop := ∃ k, p = mul k q
theorem dvd_mod {q p : Nat} (hq : q ≠ 0) : Dvd q p ↔ pmod p q = 0 := by
  constructor
  · rintro ⟨k, rfl⟩; exact mod_mul_self hq
  · intro h
    exact ⟨pdiv p q, by have := div_eq (p := p) hq; rw [h, Nat.xor_zero] at this; exact this⟩
theorem Dvd.xor {q a b : Nat} (ha : Dvd q a) (hb : Dvd q b) : Dvd q (a ^^^ b) := by
  obtain ⟨k, rfl⟩ := ha
  obtain ⟨l, rfl⟩ := hb
  exact ⟨k ^^^ l, by rw [xor_mul]⟩
theorem Dvd.mul {q a : Nat} (c : Nat) (ha : Dvd q a) : Dvd q (GF.mul c a) := by
  obtain ⟨k, rfl⟩ := ha
  exact ⟨GF.mul c k, by rw [mul_assoc]⟩
theorem Dvd.trans {a b c : Nat} (h : Dvd a b) (g : Dvd b c) : Dvd a c := by
  obtain ⟨k, rfl⟩ := g
  exact h.mul k
theorem dvd_self (a : Nat) : Dvd a a := ⟨1, (one_mul a).symm⟩
theorem dvd_zero (a : Nat) : Dvd a 0 := ⟨0, (zero_mul a).symm⟩
theorem one_dvd (a : Nat) : Dvd 1 a := ⟨a, (mul_one a).symm⟩
theorem Dvd.le {q p : Nat} (h : Dvd q p) (hp : p ≠ 0) : q.log2 ≤ p.log2 ∧ q ≠ 0 := by
  obtain ⟨k, rfl⟩ := h
  have hk : k ≠ 0 := fun e => hp (by rw [e, zero_mul])
  have hq : q ≠ 0 := fun e => hp (by rw [e, mul_zero])
  rw [mul_log hk hq]
  exact ⟨by omega, hq⟩
theorem dvd_mod_iff {d p q : Nat} (hq : q ≠ 0) (hd : Dvd d q) : Dvd d (pmod p q) ↔ Dvd d p := by
  have e := div_eq (p := p) hq
  constructor
  · intro h
    rw [e]
    exact (hd.mul _).xor h
  · intro h
    have e2 : pmod p q = mul (pdiv p q) q ^^^ p := by rw [eq_comm, xor_eq_iff]; exact e
    rw [e2]
    exact (hd.mul _).xor h
/-! ## The common divisor -/
def gcdF : Nat → Nat → Nat → Nat
  | 0, a, _ => a
  | n + 1, a, b => if b = 0 then a else gcdF n b (pmod a b)
/-- the measure: one more than the degree, 0 for 0 -/
def siz (b : Nat) : Nat := if b = 0 then 0 else b.log2 + 1
theorem siz_le {b n : Nat} : siz b ≤ n ↔ b < 2 ^ n := by
  unfold siz
  by_cases h : b = 0
  · subst h; simp [Nat.two_pow_pos]
  · rw [if_neg h]
    constructor
    · intro k; exact Nat.lt_of_lt_of_le (lt_log2 b) (Nat.pow_le_pow_right (by decide) k)
    · intro k
      have := (Nat.log2_lt h).mpr k
      omega
theorem siz_mod {a b : Nat} (hb : b ≠ 0) : siz (pmod a b) < siz b := by
  have : siz (pmod a b) ≤ b.log2 := siz_le.mpr (mod_lt hb)
  unfold siz at *
  rw [if_neg hb]
  omega
def gcd (a b : Nat) : Nat := gcdF (siz b) a b
theorem gcdF_zero (n a : Nat) : gcdF n a 0 = a := by cases n <;> simp [gcdF]
theorem gcdF_stable : ∀ (n k a b : Nat), siz b ≤ n → siz b ≤ k → gcdF n a b = gcdF k a b := by
  intro n
  induction n with
  | zero =>
    intro k a b h _
    have : b = 0 := by simpa using siz_le.mp h
    subst this
    rw [gcdF_zero, gcdF_zero]
  | succ n ih =>
    intro k a b h hk
    by_cases hb : b = 0
    · subst hb; rw [gcdF_zero, gcdF_zero]
    · have hm := siz_mod (a := a) hb
      obtain ⟨k, rfl⟩ : ∃ j, k = j + 1 := ⟨k - 1, by omega⟩
      simp only [gcdF, if_neg hb]
      exact ih k _ _ (by omega) (by omega)
theorem gcd_zero (a : Nat) : gcd a 0 = a := gcdF_zero _ _
theorem gcd_step (a : Nat) {b : Nat} (hb : b ≠ 0) : gcd a b = gcd b (pmod a b) := by
  have hm := siz_mod (a := a) hb
  unfold gcd
  obtain ⟨n, e⟩ : ∃ n, siz b = n + 1 := ⟨siz b - 1, by omega⟩
  rw [e]
  simp only [gcdF, if_neg hb]
  exact gcdF_stable _ _ _ _ (by omega) (by omega)
theorem gcd_ind {P : Nat → Nat → Prop} (h0 : ∀ a, P a 0) (h : ∀ a b, b ≠ 0 → P b (pmod a b) → P a b) (a b : Nat) : P a b := by
  generalize e : siz b = n
  induction n using Nat.strongRecOn generalizing a b with
  | ind n ih =>
    by_cases hb : b = 0
    · subst hb; exact h0 a
    · exact h a b hb (ih _ (by have := siz_mod (a := a) hb; omega) _ _ rfl)
theorem gcd_dvd (a b : Nat) : Dvd (gcd a b) a ∧ Dvd (gcd a b) b := by
  induction a, b using gcd_ind with
  | h0 a => rw [gcd_zero]; exact ⟨dvd_self a, dvd_zero a⟩
  | h a b hb ih =>
    rw [gcd_step a hb]
    exact ⟨(dvd_mod_iff hb ih.1).mp ih.2, ih.1⟩
theorem dvd_gcd {d : Nat} (a b : Nat) : Dvd d a → Dvd d b → Dvd d (gcd a b) := by
  induction a, b using gcd_ind with
  | h0 a => intro h _; rw [gcd_zero]; exact h
  | h a b hb ih =>
    intro h1 h2
    rw [gcd_step a hb]
    exact ih h2 ((dvd_mod_iff hb h2).mpr h1)
theorem bezout (a b : Nat) : ∃ u v, gcd a b = mul u a ^^^ mul v b := by
  induction a, b using gcd_ind with
  | h0 a => exact ⟨1, 0, by rw [gcd_zero, one_mul, zero_mul, Nat.xor_zero]⟩
  | h a b hb ih =>
    obtain ⟨u, v, e⟩ := ih
    refine ⟨v, u ^^^ mul v (pdiv a b), ?_⟩
    rw [gcd_step a hb, e]
    have e2 : pmod a b = mul (pdiv a b) b ^^^ a := by rw [eq_comm, xor_eq_iff]; exact div_eq hb
    rw [e2, mul_xor, xor_mul, mul_assoc]
    ac_rfl
/-! ## Irreducible ones -/
/-- no divisor of a degree from 1 to half the degree -/
def Irr (p : Nat) : Prop := 2 ≤ p ∧ ∀ q, 2 ≤ q → q.log2 ≤ p.log2 / 2 → ¬ Dvd q p
theorem log_pos {q : Nat} (h : 2 ≤ q) : 1 ≤ q.log2 := by
  rw [Nat.le_log2 (by omega)]; omega
theorem Irr.only {p q : Nat} (h : Irr p) (hd : Dvd q p) : q = 1 ∨ q.log2 = p.log2 := by
  have hp : p ≠ 0 := by have := h.1; omega
  obtain ⟨hl, hq⟩ := hd.le hp
  by_cases h1 : q = 1
  · exact .inl h1
  · right
    obtain ⟨k, e⟩ := hd
    have hk : k ≠ 0 := fun z => hp (by rw [e, z, zero_mul])
    have el : p.log2 = k.log2 + q.log2 := by rw [e, mul_log hk hq]
    by_cases k1 : k = 1
    · subst k1; rw [one_mul] at e; rw [e]
    · exfalso
      by_cases hh : q.log2 ≤ p.log2 / 2
      · exact h.2 q (by omega) hh ⟨k, e⟩
      · exact h.2 k (by omega) (by omega) ⟨q, by rw [mul_comm]; exact e⟩
theorem dvd_same {p q : Nat} (hp : p ≠ 0) (hd : Dvd q p) (h : q.log2 = p.log2) : q = p := by
  obtain ⟨k, e⟩ := hd
  have hk : k ≠ 0 := fun z => hp (by rw [e, z, zero_mul])
  have hq : q ≠ 0 := fun z => hp (by rw [e, z, mul_zero])
  have el : p.log2 = k.log2 + q.log2 := by
    conv => lhs; rw [e]
    exact mul_log hk hq
  have : k.log2 = 0 := by omega
  have k1 : k = 1 := by
    have d := deg_log hk
    rw [this] at d
    have a := d.1; have b := d.2
    simp at a b
    omega
  rw [e, k1, one_mul]
theorem Irr.prime {p a b : Nat} (h : Irr p) (hd : Dvd p (mul a b)) : Dvd p a ∨ Dvd p b := by
  have hp : p ≠ 0 := by have := h.1; omega
  have g := gcd_dvd p a
  rcases h.only g.1 with e | e
  · right
    obtain ⟨u, v, z⟩ := bezout p a
    rw [e] at z
    have : b = mul (mul u b) p ^^^ mul v (mul a b) := by
      have : mul 1 b = mul (mul u p ^^^ mul v a) b := by rw [← z]
      rw [one_mul, xor_mul, mul_assoc, mul_assoc, mul_comm p b, ← mul_assoc] at this
      exact this
    rw [this]
    exact ((dvd_self p).mul _).xor (hd.mul _)
  · left
    have : gcd p a = p := dvd_same hp g.1 e
    rw [this] at g
    exact g.2
theorem irr_or {p : Nat} (h2 : 2 ≤ p) (h : ¬ Irr p) : ∃ q, 2 ≤ q ∧ q.log2 ≤ p.log2 / 2 ∧ Dvd q p ∧ Irr q := by
  -- the least divisor
  have ex : ∃ q, 2 ≤ q ∧ q.log2 ≤ p.log2 / 2 ∧ Dvd q p := by
    apply Classical.byContradiction
    intro n
    refine h ⟨h2, fun q h1 h3 h4 => n ⟨q, h1, h3, h4⟩⟩
  obtain ⟨q, h1, h3, h4⟩ := ex
  induction q using Nat.strongRecOn with
  | ind q ih =>
    by_cases hi : Irr q
    · exact ⟨q, h1, h3, h4, hi⟩
    · have ex2 : ∃ r, 2 ≤ r ∧ r.log2 ≤ q.log2 / 2 ∧ Dvd r q := by
        apply Classical.byContradiction
        intro n
        refine hi ⟨h1, fun q h1 h3 h4 => n ⟨q, h1, h3, h4⟩⟩
      obtain ⟨r, r1, r2, r3⟩ := ex2
      refine ih r ?_ r1 (by omega) (r3.trans h4)
      have hq1 := log_pos h1
      have : r < 2 ^ q.log2 := (Nat.log2_lt (by omega)).mp (by omega)
      have := Nat.log2_self_le (n := q) (by omega)
      omega
end GF
namespace GF
/-! # The test of irreducibility -/
def irrB (p : Nat) : Bool := decide (2 ≤ p) && (List.range (2 ^ (p.log2 / 2 + 1))).all fun q => decide (q < 2) || decide (pmod p q ≠ 0)
theorem irrB_iff {p : Nat} : irrB p = true ↔ Irr p := by
  unfold irrB Irr
  rw [Bool.and_eq_true, decide_eq_true_eq, List.all_eq_true]
  constructor
  · rintro ⟨h1, h2⟩
    refine ⟨h1, fun q hq hl hd => ?_⟩
    have hm : q ∈ List.range (2 ^ (p.log2 / 2 + 1)) := by
      rw [List.mem_range]
      exact (Nat.log2_lt (by omega)).mp (by omega)
    have := h2 q hm
    rw [Bool.or_eq_true, decide_eq_true_eq, decide_eq_true_eq] at this
    rcases this with h | h
    · omega
    · exact h ((dvd_mod (by omega)).mp hd)
  · rintro ⟨h1, h2⟩
    refine ⟨h1, fun q hq => ?_⟩
    rw [List.mem_range] at hq
    rw [Bool.or_eq_true, decide_eq_true_eq, decide_eq_true_eq]
    by_cases h : q < 2
    · exact .inl h
    · right
      intro e
      refine h2 q (by omega) ?_ ((dvd_mod (by omega)).mpr e)
      have := (Nat.log2_lt (n := q) (by omega)).mpr hq
      omega
/-- x ** (2 ** k) + x -/
def fk (k : Nat) : Nat := 2 ^ 2 ^ k ^^^ 2
theorem fact1 : (List.range 512).all (fun q => !irrB q || decide (pmod (fk q.log2) q = 0)) = true := by decide +kernel
def fs : Nat → List Nat
  | 1 => [2, 3]
  | 2 => [2, 3, 7]
  | 3 => [2, 3, 11, 13]
  | 4 => [2, 3, 7, 19, 25, 31]
  | 5 => [2, 3, 37, 41, 47, 55, 59, 61]
  | 6 => [2, 3, 7, 11, 13, 67, 73, 87, 91, 97, 103, 109, 115, 117]
  | 7 => [2, 3, 131, 137, 143, 145, 157, 167, 171, 185, 191, 193, 203, 211, 213, 229, 239, 241, 247, 253]
  | 8 => [2, 3, 7, 19, 25, 31, 283, 285, 299, 301, 313, 319, 333, 351, 355, 357, 361, 369, 375, 379, 391, 395, 397, 415, 419, 425, 433, 445, 451, 463, 471, 477, 487, 499, 501, 505]
  | _ => []
def prod (l : List Nat) : Nat := l.foldr mul 1
theorem fact2 : [1, 2, 3, 4, 5, 6, 7, 8].all (fun k => decide (prod (fs k) = fk k) && (fs k).all fun f => decide (2 ≤ f) && decide (f.log2 ≤ k)) = true := by decide +kernel
theorem Irr.prod {p : Nat} (h : Irr p) : ∀ {l : List Nat}, Dvd p (GF.prod l) → ∃ f ∈ l, Dvd p f
  | [], hd => by
    have := hd.le (show GF.prod [] ≠ 0 by decide)
    have h1 := log_pos h.1
    have h2 : (GF.prod []).log2 = 0 := by decide
    omega
  | f :: l, hd => by
    rcases h.prime (a := f) (b := GF.prod l) hd with g | g
    · exact ⟨f, List.mem_cons_self, g⟩
    · obtain ⟨f', m, d⟩ := h.prod g
      exact ⟨f', List.mem_cons_of_mem _ m, d⟩
/-- the powers of the test -/
def fr : Nat → Nat → Nat
  | 0, _ => 2
  | k + 1, p => pmod (mul (fr k p) (fr k p)) p
theorem fr_mod {p : Nat} (hp : p ≠ 0) (k : Nat) : pmod (fr k p) p = pmod (2 ^ 2 ^ k) p := by
  induction k with
  | zero => rfl
  | succ k ih =>
    have e : (2 : Nat) ^ 2 ^ (k + 1) = mul (2 ^ 2 ^ k) (2 ^ 2 ^ k) := by
      rw [mul_pow, ← Nat.pow_add]; congr 1; omega
    rw [e]
    show pmod (pmod (mul (fr k p) (fr k p)) p) p = _
    rw [mod_mod hp, ← mod_mul_left hp, ih, mod_mul_left hp, ← mod_mul_right hp, ih, mod_mul_right hp]
theorem dvd_fr {p d : Nat} (hp : p ≠ 0) (hd : Dvd d p) (k : Nat) : Dvd d (fr k p ^^^ 2) ↔ Dvd d (fk k) := by
  rw [← dvd_mod_iff hp hd, ← dvd_mod_iff (p := fk k) hp hd]
  unfold fk
  rw [mod_xor hp, mod_xor hp, fr_mod hp]
/-- what the test says -/
def Test (p : Nat) : Prop := ∀ k, 1 ≤ k → k ≤ p.log2 / 2 → gcd (fr k p ^^^ 2) p = 1
theorem test_of_irr {p : Nat} (h : Irr p) (hp : p < 131072) : Test p := by
  intro k k1 k2
  have hp0 : p ≠ 0 := by have := h.1; omega
  have hlog : p.log2 < 17 := (Nat.log2_lt hp0).mpr hp
  obtain ⟨g1, g2⟩ := gcd_dvd (fr k p ^^^ 2) p
  rcases h.only g2 with e | e
  · exact e
  · exfalso
    have e2 := dvd_same hp0 g2 e
    rw [e2, dvd_fr hp0 (dvd_self p)] at g1
    have f2 := List.all_eq_true.mp fact2 k (by
      have : k ≤ 8 := by omega
      simp; omega)
    rw [Bool.and_eq_true, decide_eq_true_eq, List.all_eq_true] at f2
    rw [← f2.1] at g1
    obtain ⟨f, hm, hd⟩ := h.prod g1
    have f3 := f2.2 f hm
    rw [Bool.and_eq_true, decide_eq_true_eq, decide_eq_true_eq] at f3
    have := (hd.le (by omega)).1
    have := log_pos h.1
    omega
theorem irr_of_test {p : Nat} (h2 : 2 ≤ p) (hp : p < 131072) (h : Test p) : Irr p := by
  apply Classical.byContradiction
  intro n
  obtain ⟨q, q2, ql, qd, qi⟩ := irr_or h2 n
  have hp0 : p ≠ 0 := by omega
  have hlog : p.log2 < 17 := (Nat.log2_lt hp0).mpr hp
  have hq : q < 512 := by
    have := (Nat.log2_lt (n := q) (k := 9) (by omega)).mp (by omega)
    omega
  have f1 := List.all_eq_true.mp fact1 q (List.mem_range.mpr hq)
  rw [irrB_iff.mpr qi] at f1
  simp only [Bool.not_true, Bool.false_or, decide_eq_true_eq] at f1
  have hd : Dvd q (fk q.log2) := (dvd_mod (by omega)).mpr f1
  have := h q.log2 (log_pos q2) ql
  have g := dvd_gcd (fr q.log2 p ^^^ 2) p ((dvd_fr hp0 qd _).mpr hd) qd
  rw [this] at g
  have := (g.le (by decide)).1
  have h1 : Nat.log2 1 = 0 := by decide
  have := log_pos q2
  omega
theorem test_iff {p : Nat} (h2 : 2 ≤ p) (hp : p < 131072) : Test p ↔ Irr p := ⟨irr_of_test h2 hp, fun h => test_of_irr h hp⟩
/-- one of each degree -/
def some_irr (m : Nat) : Nat := [2, 2, 7, 11, 19, 37, 67, 131, 283, 515, 1033, 2053, 4105, 8219, 16417, 32771, 65579].getD m 2
theorem fact3 : [1, 2, 3, 4, 5, 6, 7, 8, 9, 10, 11, 12, 13, 14, 15, 16].all (fun m => irrB (some_irr m) && decide (2 ^ m ≤ some_irr m) && decide (some_irr m < 2 ^ (m + 1))) = true := by decide +kernel
theorem irr_some {m : Nat} (h1 : 1 ≤ m) (h2 : m ≤ 16) : Irr (some_irr m) ∧ 2 ^ m ≤ some_irr m ∧ some_irr m < 2 ^ (m + 1) := by
  have f := List.all_eq_true.mp fact3 m (by simp; omega)
  rw [Bool.and_eq_true, Bool.and_eq_true, decide_eq_true_eq, decide_eq_true_eq] at f
  exact ⟨irrB_iff.mp f.1.1, f.1.2, f.2⟩
end GF
namespace FLD
open GF
def mulm (q a b : Nat) : Nat := pmod (GF.mul a b) q
def pw (q e : Nat) : Nat → Nat
  | 0 => 1
  | k + 1 => mulm q (pw q e k) e
/-- a field of 2 ^ m elements -/
structure Fd (m q : Nat) : Prop where
  h2 : 2 ≤ m
  h8 : m ≤ 8
  irr : Irr q
  lg : q.log2 = m
section
variable {m q : Nat} (F : Fd m q)
include F
theorem q0 : q ≠ 0 := by have := F.irr.1; omega
theorem q_lt : q < 2 ^ (m + 1) := by have := Nat.lt_log2_self (n := q); rw [F.lg] at this; exact this
theorem q_512 : q < 512 := Nat.lt_of_lt_of_le (q_lt F) (Nat.le_trans (Nat.pow_le_pow_right (by decide) (show m + 1 ≤ 9 by have := F.h8; omega)) (by decide))
theorem mulm_lt (a b : Nat) : mulm q a b < 2 ^ m := by have := mod_lt (p := GF.mul a b) (q0 F); rw [F.lg] at this; exact this
omit F in
theorem mulm_comm (a b : Nat) : mulm q a b = mulm q b a := by unfold mulm; rw [GF.mul_comm]
theorem mulm_assoc (a b c : Nat) : mulm q (mulm q a b) c = mulm q a (mulm q b c) := by
  unfold mulm; rw [mod_mul_left (q0 F), mod_mul_right (q0 F), GF.mul_assoc]
theorem mulm_xor (a b c : Nat) : mulm q a (b ^^^ c) = mulm q a b ^^^ mulm q a c := by unfold mulm; rw [GF.mul_xor, mod_xor (q0 F)]
theorem xor_mulm (a b c : Nat) : mulm q (a ^^^ b) c = mulm q a c ^^^ mulm q b c := by unfold mulm; rw [GF.xor_mul, mod_xor (q0 F)]
theorem mulm_small {a : Nat} (h : a < 2 ^ m) : pmod a q = a := mod_small (q0 F) (by rw [F.lg]; exact h)
theorem mulm_one {a : Nat} (h : a < 2 ^ m) : mulm q a 1 = a := by unfold mulm; rw [GF.mul_one, mulm_small F h]
theorem one_mulm {a : Nat} (h : a < 2 ^ m) : mulm q 1 a = a := by rw [mulm_comm, mulm_one F h]
theorem mulm_zero (a : Nat) : mulm q a 0 = 0 := by unfold mulm; rw [GF.mul_zero, mulm_small F (Nat.two_pow_pos _)]
theorem zero_mulm (a : Nat) : mulm q 0 a = 0 := by rw [mulm_comm, mulm_zero F]
theorem small_dvd {a : Nat} (h : a < 2 ^ m) (hd : Dvd q a) : a = 0 := by
  have := (dvd_mod (q0 F)).mp hd
  rw [mulm_small F h] at this; exact this
theorem mulm_eq_zero {a b : Nat} (ha : a < 2 ^ m) (hb : b < 2 ^ m) (h : mulm q a b = 0) : a = 0 ∨ b = 0 := by
  rcases F.irr.prime ((dvd_mod (q0 F)).mpr h) with d | d
  · exact .inl (small_dvd F ha d)
  · exact .inr (small_dvd F hb d)
theorem mulm_ne {a b : Nat} (ha : a < 2 ^ m) (hb : b < 2 ^ m) (ha0 : a ≠ 0) (hb0 : b ≠ 0) : mulm q a b ≠ 0 := fun h => by
  rcases mulm_eq_zero F ha hb h with d | d
  · exact ha0 d
  · exact hb0 d
theorem mulm_cancel {a b c : Nat} (ha : a < 2 ^ m) (hb : b < 2 ^ m) (hc : c < 2 ^ m) (hc0 : c ≠ 0) (h : mulm q a c = mulm q b c) : a = b := by
  have e : mulm q (a ^^^ b) c = 0 := by rw [xor_mulm F, h, Nat.xor_self]
  rcases mulm_eq_zero F (xor_lt ha hb) hc e with d | d
  · exact xor_eq_zero d
  · exact absurd d hc0
theorem one_lt : 1 < 2 ^ m := Nat.lt_of_lt_of_le (by decide) (Nat.pow_le_pow_right (by decide) F.h2)
theorem pw_lt (e k : Nat) : pw q e k < 2 ^ m := by
  cases k with
  | zero => exact one_lt F
  | succ k => exact mulm_lt F _ _
theorem pw_ne {e : Nat} (he : e < 2 ^ m) (h0 : e ≠ 0) (k : Nat) : pw q e k ≠ 0 := by
  induction k with
  | zero => exact Nat.one_ne_zero
  | succ k ih => exact mulm_ne F (pw_lt F e k) he ih h0
theorem pw_add (e i k : Nat) : pw q e (i + k) = mulm q (pw q e i) (pw q e k) := by
  induction k with
  | zero => exact (mulm_one F (pw_lt F e i)).symm
  | succ k ih =>
    show mulm q (pw q e (i + k)) e = mulm q (pw q e i) (mulm q (pw q e k) e)
    rw [ih, mulm_assoc F]
theorem pw_one (k : Nat) : pw q 1 k = 1 := by
  induction k with
  | zero => rfl
  | succ k ih => show mulm q (pw q 1 k) 1 = 1; rw [ih, mulm_one F (one_lt F)]
theorem pw_pw (e j k : Nat) : pw q (pw q e j) k = pw q e (j * k) := by
  induction k with
  | zero => rfl
  | succ k ih =>
    show mulm q (pw q (pw q e j) k) (pw q e j) = _
    rw [ih, Nat.mul_succ, pw_add F]
theorem pw_first {e : Nat} (he : e < 2 ^ m) : pw q e 1 = e := one_mulm F he
/-- r has just 2 ^ m - 1 different powers -/
structure IsRoot (m q r : Nat) : Prop where
  lt : r < 2 ^ m
  ge : 2 ≤ r
  one : pw q r (2 ^ m - 1) = 1
  no : ∀ k, 1 ≤ k → k < 2 ^ m - 1 → pw q r k ≠ 1
end
theorem nodup_bound : ∀ (n : Nat) (l : List Nat), l.Nodup → (∀ x ∈ l, 1 ≤ x ∧ x ≤ n) → l.length ≤ n
  | 0, l, _, h => by
    cases l with
    | nil => exact Nat.le_refl 0
    | cons x r => have := h x List.mem_cons_self; omega
  | n + 1, l, hn, h => by
    by_cases hm : (n + 1) ∈ l
    · have e := List.length_erase_of_mem hm
      have := nodup_bound n (l.erase (n + 1)) (hn.erase _) (fun x hx => by
        rw [hn.mem_erase_iff] at hx
        have := h x hx.2
        have := hx.1
        omega)
      omega
    · have := nodup_bound n l hn (fun x hx => by
        have := h x hx
        have : x ≠ n + 1 := fun e => hm (e ▸ hx)
        omega)
      omega
section
variable {m q r : Nat} (F : Fd m q) (R : IsRoot m q r)
include F R
theorem r0 : r ≠ 0 := by have := R.ge; omega
theorem pw_inj_lt {i j : Nat} (hij : i < j) (hj : j < 2 ^ m - 1) : pw q r i ≠ pw q r j := fun e => by
  have h1 : pw q r j = mulm q (pw q r (j - i)) (pw q r i) := by rw [mulm_comm, ← pw_add F]; congr 1; omega
  have h2 : mulm q 1 (pw q r i) = mulm q (pw q r (j - i)) (pw q r i) := by rw [one_mulm F (pw_lt F r i), ← h1, e]
  have h3 := mulm_cancel F (one_lt F) (pw_lt F r (j - i)) (pw_lt F r i) (pw_ne F R.lt (r0 F R) i) h2
  exact R.no (j - i) (by omega) (by omega) h3.symm
theorem pw_inj {i j : Nat} (hi : i < 2 ^ m - 1) (hj : j < 2 ^ m - 1) (h : pw q r i = pw q r j) : i = j := by
  rcases Nat.lt_trichotomy i j with l | e | g
  · exact absurd h (pw_inj_lt F R l hj)
  · exact e
  · exact absurd h.symm (pw_inj_lt F R g hi)
theorem pw_nodup : ((List.range (2 ^ m - 1)).map (pw q r)).Nodup := by
  refine List.pairwise_map.mpr (List.Pairwise.imp_of_mem (fun {a b} ha hb h => ?_) List.pairwise_lt_range)
  exact pw_inj_lt F R h (List.mem_range.mp hb)
theorem log_ex {e : Nat} (h0 : e ≠ 0) (h : e < 2 ^ m) : ∃ j, j < 2 ^ m - 1 ∧ pw q r j = e := by
  apply Classical.byContradiction
  intro n
  have hm : e ∉ (List.range (2 ^ m - 1)).map (pw q r) := fun z => by
    obtain ⟨j, hj, ej⟩ := List.mem_map.mp z
    exact n ⟨j, List.mem_range.mp hj, ej⟩
  have := nodup_bound (2 ^ m - 1) (e :: (List.range (2 ^ m - 1)).map (pw q r)) (List.nodup_cons.mpr ⟨hm, pw_nodup F R⟩) (fun x hx => by
    rcases List.mem_cons.mp hx with z | z
    · subst z; omega
    · obtain ⟨j, hj, ej⟩ := List.mem_map.mp z
      have h1 := pw_lt F r j
      have h2 := pw_ne F R.lt (r0 F R) j
      omega)
  rw [List.length_cons, List.length_map, List.length_range] at this
  omega
theorem pw_turn (k : Nat) : pw q r ((2 ^ m - 1) * k) = 1 := by rw [← pw_pw F, R.one, pw_one F]
theorem pw_mod (k : Nat) : pw q r k = pw q r (k % (2 ^ m - 1)) := by
  conv => lhs; rw [← Nat.div_add_mod k (2 ^ m - 1), pw_add F, pw_turn F R, one_mulm F (pw_lt F r _)]
theorem pw_one_iff (k : Nat) : pw q r k = 1 ↔ (2 ^ m - 1) ∣ k := by
  have hN : 0 < 2 ^ m - 1 := by have := one_lt F; omega
  constructor
  · intro h
    rw [pw_mod F R] at h
    by_cases z : k % (2 ^ m - 1) = 0
    · exact Nat.dvd_of_mod_eq_zero z
    · exact absurd h (R.no _ (by omega) (Nat.mod_lt _ hN))
  · rintro ⟨c, rfl⟩; exact pw_turn F R c
theorem pw_all {e : Nat} (h0 : e ≠ 0) (h : e < 2 ^ m) : pw q e (2 ^ m - 1) = 1 := by
  obtain ⟨j, hj, rfl⟩ := log_ex F R h0 h
  rw [pw_pw F, Nat.mul_comm, pw_turn F R]
/-- the order of a power of the root -/
theorem ord_iff (j k : Nat) : pw q (pw q r j) k = 1 ↔ ((2 ^ m - 1) / Nat.gcd (2 ^ m - 1) j) ∣ k := by
  have hN : 0 < 2 ^ m - 1 := by have := one_lt F; omega
  have hg : 0 < Nat.gcd (2 ^ m - 1) j := Nat.gcd_pos_of_pos_left _ hN
  rw [pw_pw F, pw_one_iff F R]
  obtain ⟨a, ha⟩ := Nat.gcd_dvd_left (2 ^ m - 1) j
  obtain ⟨b, hb⟩ := Nat.gcd_dvd_right (2 ^ m - 1) j
  have hc : Nat.Coprime ((2 ^ m - 1) / Nat.gcd (2 ^ m - 1) j) (j / Nat.gcd (2 ^ m - 1) j) := Nat.coprime_div_gcd_div_gcd hg
  have e1 : (2 ^ m - 1) / Nat.gcd (2 ^ m - 1) j = a := Nat.div_eq_of_eq_mul_right hg ha
  have e2 : j / Nat.gcd (2 ^ m - 1) j = b := Nat.div_eq_of_eq_mul_right hg hb
  rw [e1, e2] at hc
  rw [e1]
  generalize Nat.gcd (2 ^ m - 1) j = g at hg ha hb
  rw [ha, hb, Nat.mul_assoc, Nat.mul_dvd_mul_iff_left hg]
  exact ⟨fun h => hc.dvd_of_dvd_mul_left h, fun h => Nat.dvd_trans h (Nat.dvd_mul_left _ _)⟩
end
/-! ### there is a root -/
def ordL (q r : Nat) : Nat → Nat → Bool
  | 0, p => p == 1
  | n + 1, p => p != 1 && ordL q r n (mulm q p r)
theorem ordL_ok {q r : Nat} : ∀ (n k : Nat), ordL q r n (pw q r k) = true → pw q r (k + n) = 1 ∧ ∀ i, k ≤ i → i < k + n → pw q r i ≠ 1
  | 0, k, h => ⟨by simpa [ordL] using h, fun i h1 h2 => by omega⟩
  | n + 1, k, h => by
    simp only [ordL, Bool.and_eq_true, bne_iff_ne] at h
    obtain ⟨h1, h2⟩ := ordL_ok n (k + 1) h.2
    refine ⟨by rw [show k + (n + 1) = k + 1 + n by omega]; exact h1, fun i h3 h4 => ?_⟩
    by_cases e : i = k
    · subst e; exact h.1
    · exact h2 i (by omega) (by omega)
def rootTab : List (Nat × Nat) := [(7, 2), (11, 2), (13, 2), (19, 2), (25, 2), (31, 3), (37, 2), (41, 2), (47, 2), (55, 2), (59, 2), (61, 2), (67, 2), (73, 3), (87, 3), (91, 2), (97, 2), (103, 2), (109, 2), (115, 2), (117, 3), (131, 2), (137, 2), (143, 2), (145, 2), (157, 2), (167, 2), (171, 2), (185, 2), (191, 2), (193, 2), (203, 2), (211, 2), (213, 2), (229, 2), (239, 2), (241, 2), (247, 2), (253, 2), (283, 3), (285, 2), (299, 2), (301, 2), (313, 3), (319, 3), (333, 2), (351, 2), (355, 2), (357, 2), (361, 2), (369, 2), (375, 3), (379, 9), (391, 2), (395, 6), (397, 2), (415, 3), (419, 3), (425, 2), (433, 6), (445, 7), (451, 2), (463, 2), (471, 7), (477, 6), (487, 2), (499, 6), (501, 2), (505, 3)]
def rootB (q r : Nat) : Bool := decide (2 ≤ r) && decide (r < 2 ^ q.log2) && decide (pw q r 1 = r) && ordL q r (2 ^ q.log2 - 2) r
theorem rootB_ok {m q r : Nat} (F : Fd m q) (h : rootB q r = true) : IsRoot m q r := by
  unfold rootB at h
  simp only [Bool.and_eq_true, decide_eq_true_eq, F.lg] at h
  obtain ⟨⟨⟨h1, h2⟩, h3⟩, h4⟩ := h
  rw [← h3] at h4
  have h5 : ordL q r (2 ^ m - 2) (pw q r 1) = true := by
    rw [h3] at h4 ⊢
    exact h4
  obtain ⟨a, b⟩ := ordL_ok _ 1 h5
  have := one_lt F
  have hp : 2 ^ 2 ≤ 2 ^ m := Nat.pow_le_pow_right (by decide) F.h2
  refine ⟨h2, h1, ?_, fun k k1 k2 => b k k1 (by omega)⟩
  rw [show 2 ^ m - 1 = 1 + (2 ^ m - 2) by omega]; exact a
theorem fact4 : (List.range 512).all (fun q => !irrB q || decide (q.log2 < 2) || (match rootTab.lookup q with | some r => rootB q r | none => false)) = true := by decide +kernel
theorem root_ex {m q : Nat} (F : Fd m q) : ∃ r, IsRoot m q r := by
  have f := List.all_eq_true.mp fact4 q (List.mem_range.mpr (q_512 F))
  rw [irrB_iff.mpr F.irr] at f
  have h2 : ¬ q.log2 < 2 := by rw [F.lg]; have := F.h2; omega
  simp only [Bool.not_true, Bool.false_or, decide_eq_false h2] at f
  split at f
  · rename_i r _; exact ⟨r, rootB_ok F f⟩
  · cases f
theorem find_least (p : Nat → Prop) : ∀ n, p n → ∃ k, p k ∧ ∀ i, i < k → ¬ p i := fun n => by
  induction n using Nat.strongRecOn with
  | ind n ih =>
    intro h
    by_cases c : ∃ i, i < n ∧ p i
    · obtain ⟨i, h1, h2⟩ := c
      exact ih i h1 h2
    · exact ⟨n, h, fun i h1 h2 => c ⟨i, h1, h2⟩⟩
/-- the least root -/
def LeastRoot (m q r : Nat) : Prop := IsRoot m q r ∧ ∀ e, e < r → ¬ IsRoot m q e
theorem least_ex {m q : Nat} (F : Fd m q) : ∃ r, LeastRoot m q r := by
  obtain ⟨r, h⟩ := root_ex F
  exact find_least (IsRoot m q) r h
end FLD
/-! Polynomials over a field GF(2^m): lists of elements, the least power first. -/
namespace PLY
open FLD
/-- the value at x -/
def ev (q x : Nat) : List Nat → Nat
  | [] => 0
  | c :: p => mulm q (ev q x p) x ^^^ c
theorem ev_nil {q x : Nat} : ev q x [] = 0 := rfl
theorem ev_cons {q x c : Nat} {p : List Nat} : ev q x (c :: p) = mulm q (ev q x p) x ^^^ c := rfl
theorem pw_zero {q x : Nat} : pw q x 0 = 1 := rfl
theorem pw_succ {q x k : Nat} : pw q x (k + 1) = mulm q (pw q x k) x := rfl
/-- how many elements are left when the zeros at the end go -/
def tl : List Nat → Nat
  | [] => 0
  | c :: p => if tl p = 0 then (if c = 0 then 0 else 1) else tl p + 1
def trim (p : List Nat) : List Nat := p.take (tl p)
theorem tl_le : ∀ p : List Nat, tl p ≤ p.length
  | [] => Nat.le_refl _
  | c :: p => by
    have := tl_le p
    show (if tl p = 0 then (if c = 0 then 0 else 1) else tl p + 1) ≤ p.length + 1
    split
    · split <;> omega
    · omega
theorem tl_zero : ∀ (p : List Nat) (i : Nat), tl p ≤ i → i < p.length → p[i]? = some 0
  | [], i, _, h => absurd h (Nat.not_lt_zero _)
  | c :: p, i, h, hi => by
    have h' : (if tl p = 0 then (if c = 0 then 0 else 1) else tl p + 1) ≤ i := h
    have hi' : i < p.length + 1 := hi
    cases i with
    | zero =>
      split at h'
      · split at h'
        · rename_i hc; subst hc; rfl
        · omega
      · omega
    | succ i =>
      rw [List.getElem?_cons_succ]
      refine tl_zero p i ?_ (by omega)
      split at h' <;> omega
theorem tl_last : ∀ p : List Nat, tl p = 0 ∨ ∃ c, p[tl p - 1]? = some c ∧ c ≠ 0
  | [] => .inl rfl
  | c :: p => by
    have e : tl (c :: p) = if tl p = 0 then (if c = 0 then 0 else 1) else tl p + 1 := rfl
    rcases tl_last p with h | ⟨d, h1, h2⟩
    · rw [h] at e
      by_cases hc : c = 0
      · left; rw [e, if_pos rfl, if_pos hc]
      · right; rw [e, if_pos rfl, if_neg hc]; exact ⟨c, rfl, hc⟩
    · by_cases hz : tl p = 0
      · rw [hz] at e
        by_cases hc : c = 0
        · left; rw [e, if_pos rfl, if_pos hc]
        · right; rw [e, if_pos rfl, if_neg hc]; exact ⟨c, rfl, hc⟩
      · right
        rw [e, if_neg hz]
        refine ⟨d, ?_, h2⟩
        rw [show tl p + 1 - 1 = (tl p - 1) + 1 by omega, List.getElem?_cons_succ]
        exact h1
theorem tl_only {p : List Nat} {s : Nat} (h1 : s ≤ p.length) (h2 : ∀ i, s ≤ i → i < p.length → p[i]? = some 0) (h3 : s = 0 ∨ ∃ c, p[s - 1]? = some c ∧ c ≠ 0) : s = tl p := by
  have g1 := tl_le p
  apply Classical.byContradiction
  intro n
  rcases Nat.lt_or_gt_of_ne n with h | h
  · rcases tl_last p with g | ⟨c, g2, g3⟩
    · omega
    · have := h2 (tl p - 1) (by omega) (by omega)
      rw [this] at g2
      exact g3 (Option.some.inj g2).symm
  · rcases h3 with g | ⟨c, g2, g3⟩
    · omega
    · have := tl_zero p (s - 1) (by omega) (by omega)
      rw [this] at g2
      exact g3 (Option.some.inj g2).symm
theorem trim_len (p : List Nat) : (trim p).length = tl p := by
  unfold trim; rw [List.length_take]; exact Nat.min_eq_left (tl_le p)
theorem trim_mem {p : List Nat} {c : Nat} (h : c ∈ trim p) : c ∈ p := List.mem_of_mem_take h
theorem trim_get {p : List Nat} {i : Nat} (h : i < tl p) : (trim p)[i]? = p[i]? := by unfold trim; rw [List.getElem?_take_of_lt h]
theorem trim_trim (p : List Nat) : trim (trim p) = trim p := by
  have e : tl p = tl (trim p) := by
    refine tl_only (by rw [trim_len]; exact Nat.le_refl _) (fun i h1 h2 => by rw [trim_len] at h2; omega) ?_
    rcases tl_last p with h | ⟨c, h1, h2⟩
    · exact .inl h
    · by_cases z : tl p = 0
      · exact .inl z
      · exact .inr ⟨c, by rw [trim_get (by omega)]; exact h1, h2⟩
  show (trim p).take (tl (trim p)) = trim p
  rw [← e, ← trim_len p, List.take_length]
theorem trim_cat (p : List Nat) : p = trim p ++ List.replicate (p.length - tl p) 0 := by
  apply List.ext_getElem?
  intro i
  have h := tl_le p
  by_cases h1 : i < tl p
  · rw [List.getElem?_append_left (by rw [trim_len]; exact h1), trim_get h1]
  · rw [List.getElem?_append_right (by rw [trim_len]; omega), trim_len]
    by_cases h2 : i < p.length
    · rw [tl_zero p i (by omega) h2, List.getElem?_replicate, if_pos (by omega)]
    · rw [List.getElem?_eq_none (by omega), List.getElem?_eq_none (by rw [List.length_replicate]; omega)]
section
variable {m q : Nat} (F : Fd m q)
include F
theorem ev_lt {x : Nat} : ∀ {p : List Nat}, (∀ c ∈ p, c < 2 ^ m) → ev q x p < 2 ^ m
  | [], _ => Nat.two_pow_pos _
  | c :: p, h => Nat.xor_lt_two_pow (mulm_lt F _ _) (h c List.mem_cons_self)
theorem ev_zeros {x : Nat} : ∀ n : Nat, ev q x (List.replicate n 0) = 0
  | 0 => rfl
  | n + 1 => by rw [List.replicate_succ, ev_cons, ev_zeros n, zero_mulm F, Nat.xor_self]
theorem ev_cat0 {x : Nat} (n : Nat) : ∀ p : List Nat, ev q x (p ++ List.replicate n 0) = ev q x p
  | [] => ev_zeros F n
  | c :: p => by rw [List.cons_append, ev_cons, ev_cons, ev_cat0 n p]
theorem ev_trim {x : Nat} (p : List Nat) : ev q x (trim p) = ev q x p := by
  conv => rhs; rw [trim_cat p]
  rw [ev_cat0 F]
theorem ev_zip {x : Nat} : ∀ {p r : List Nat}, p.length = r.length → ev q x (List.zipWith (· ^^^ ·) p r) = ev q x p ^^^ ev q x r
  | [], [], _ => by rw [List.zipWith_nil_left, ev_nil, Nat.xor_self]
  | c :: p, d :: r, h => by
    rw [List.zipWith_cons_cons, ev_cons, ev_cons, ev_cons, ev_zip (by simpa using h), xor_mulm F]
    ac_rfl
  | [], d :: r, h => by simp at h
  | c :: p, [], h => by simp at h
theorem ev_map {x : Nat} (e : Nat) : ∀ p : List Nat, ev q x (p.map (mulm q e)) = mulm q e (ev q x p)
  | [] => (mulm_zero F e).symm
  | c :: p => by rw [List.map_cons, ev_cons, ev_cons, ev_map e p, mulm_xor F, mulm_assoc F]
theorem ev_set {x c : Nat} (hc : c < 2 ^ m) : ∀ {t : List Nat} {k d : Nat}, t[k]? = some d → ev q x (t.set k (d ^^^ c)) = ev q x t ^^^ mulm q c (pw q x k)
  | [], k, d, h => by simp at h
  | a :: t, 0, d, h => by
    have e : a = d := by simpa using h
    subst e
    rw [List.set_cons_zero, ev_cons, ev_cons, pw_zero, mulm_one F hc]
    ac_rfl
  | a :: t, k + 1, d, h => by
    have h' : t[k]? = some d := by simpa using h
    rw [List.set_cons_succ, ev_cons, ev_cons, ev_set hc h', xor_mulm F, mulm_assoc F, pw_succ]
    ac_rfl
end
/-- a row of a product: e times the elements of Q, from the place k on -/
def row (q e : Nat) : List Nat → Nat → List Nat → List Nat
  | [], _, t => t
  | f :: Q, k, t => row q e Q (k + 1) (t.set k (t.getD k 0 ^^^ mulm q e f))
/-- the rows of a product -/
def rows (q : Nat) (Q : List Nat) : List Nat → Nat → List Nat → List Nat
  | [], _, t => t
  | e :: P, k, t => rows q Q P (k + 1) (row q e Q k t)
def conv (q : Nat) (P Q : List Nat) : List Nat := rows q Q P 0 (List.replicate (P.length + Q.length) 0)
theorem row_len (q e : Nat) : ∀ (Q : List Nat) (k : Nat) (t : List Nat), (row q e Q k t).length = t.length
  | [], _, _ => rfl
  | f :: Q, k, t => by
    show (row q e Q (k + 1) _).length = _
    rw [row_len q e Q, List.length_set]
theorem rows_len (q : Nat) (Q : List Nat) : ∀ (P : List Nat) (k : Nat) (t : List Nat), (rows q Q P k t).length = t.length
  | [], _, _ => rfl
  | e :: P, k, t => by
    show (rows q Q P (k + 1) _).length = _
    rw [rows_len q Q P, row_len]
theorem conv_len (q : Nat) (P Q : List Nat) : (conv q P Q).length = P.length + Q.length := by
  unfold conv; rw [rows_len, List.length_replicate]
theorem row_get (q e : Nat) : ∀ (Q : List Nat) (k : Nat) (t : List Nat) (j : Nat), k + Q.length ≤ j → (row q e Q k t)[j]? = t[j]?
  | [], _, _, _, _ => rfl
  | f :: Q, k, t, j, h => by
    have h' : k + (Q.length + 1) ≤ j := h
    show (row q e Q (k + 1) _)[j]? = _
    rw [row_get q e Q (k + 1) _ j (by omega), List.getElem?_set_ne (by omega)]
theorem rows_get (q : Nat) (Q : List Nat) : ∀ (P : List Nat) (k : Nat) (t : List Nat) (j : Nat), k + P.length + Q.length ≤ j + 1 → (rows q Q P k t)[j]? = t[j]?
  | [], _, _, _, _ => rfl
  | e :: P, k, t, j, h => by
    have h' : k + (P.length + 1) + Q.length ≤ j + 1 := h
    show (rows q Q P (k + 1) _)[j]? = _
    rw [rows_get q Q P (k + 1) _ j (by omega), row_get q e Q k t j (by omega)]
/-- a product has one element less -/
theorem conv_tl (q : Nat) (P Q : List Nat) (h : 0 < P.length + Q.length) : tl (conv q P Q) ≤ P.length + Q.length - 1 := by
  apply Classical.byContradiction
  intro n
  rcases tl_last (conv q P Q) with g | ⟨c, g1, g2⟩
  · omega
  · have hl := tl_le (conv q P Q)
    rw [conv_len] at hl
    have e : tl (conv q P Q) - 1 = P.length + Q.length - 1 := by omega
    rw [e] at g1
    unfold conv at g1
    rw [rows_get q Q P 0 _ _ (by omega), List.getElem?_replicate] at g1
    split at g1
    · exact g2 (Option.some.inj g1).symm
    · cases g1
section
variable {m q : Nat} (F : Fd m q)
include F
theorem row_mem {e : Nat} : ∀ {Q : List Nat} {k : Nat} {t : List Nat}, (∀ c ∈ t, c < 2 ^ m) → ∀ c ∈ row q e Q k t, c < 2 ^ m
  | [], _, _, h => h
  | f :: Q, k, t, h => by
    refine row_mem (Q := Q) (k := k + 1) fun c hc => ?_
    rcases List.mem_or_eq_of_mem_set hc with g | g
    · exact h c g
    · rw [g]
      refine Nat.xor_lt_two_pow ?_ (mulm_lt F _ _)
      rw [List.getD_eq_getElem?_getD]
      cases e2 : t[k]? with
      | none => exact Nat.two_pow_pos _
      | some d => exact h d (List.mem_of_getElem? e2)
theorem rows_mem {Q : List Nat} : ∀ {P : List Nat} {k : Nat} {t : List Nat}, (∀ c ∈ t, c < 2 ^ m) → ∀ c ∈ rows q Q P k t, c < 2 ^ m
  | [], _, _, h => h
  | e :: P, k, t, h => rows_mem (P := P) (k := k + 1) (row_mem F h)
theorem conv_mem (P Q : List Nat) : ∀ c ∈ conv q P Q, c < 2 ^ m := rows_mem F fun c hc => by
  rw [List.mem_replicate] at hc
  rw [hc.2]
  exact Nat.two_pow_pos _
theorem ev_row {x e : Nat} : ∀ {Q : List Nat} {k : Nat} {t : List Nat}, k + Q.length ≤ t.length → ev q x (row q e Q k t) = ev q x t ^^^ mulm q (mulm q e (ev q x Q)) (pw q x k)
  | [], k, t, _ => by
    show ev q x t = _
    rw [ev_nil, mulm_zero F, zero_mulm F, Nat.xor_zero]
  | f :: Q, k, t, h => by
    have h' : k + (Q.length + 1) ≤ t.length := h
    obtain ⟨d, hd⟩ : ∃ d, t[k]? = some d := ⟨_, List.getElem?_eq_getElem (by omega)⟩
    show ev q x (row q e Q (k + 1) (t.set k (t.getD k 0 ^^^ mulm q e f))) = _
    rw [ev_row (by rw [List.length_set]; omega), List.getD_eq_getElem?_getD, hd, Option.getD_some, ev_set F (mulm_lt F _ _) hd, ev_cons, mulm_xor F, xor_mulm F, pw_succ]
    have e3 : mulm q (mulm q e (ev q x Q)) (mulm q (pw q x k) x) = mulm q (mulm q e (mulm q (ev q x Q) x)) (pw q x k) := by
      rw [mulm_comm (pw q x k) x, ← mulm_assoc F, mulm_assoc F e]
    rw [e3]
    ac_rfl
theorem ev_rows {x : Nat} {Q : List Nat} : ∀ {P : List Nat} {k : Nat} {t : List Nat}, k + P.length + Q.length ≤ t.length + 1 → P.length + Q.length ≤ t.length → ev q x (rows q Q P k t) = ev q x t ^^^ mulm q (mulm q (ev q x P) (ev q x Q)) (pw q x k)
  | [], k, t, _, _ => by
    show ev q x t = _
    rw [ev_nil, zero_mulm F, zero_mulm F, Nat.xor_zero]
  | e :: P, k, t, h, h2 => by
    have h' : k + (P.length + 1) + Q.length ≤ t.length + 1 := h
    have h2' : P.length + 1 + Q.length ≤ t.length := h2
    show ev q x (rows q Q P (k + 1) (row q e Q k t)) = _
    rw [ev_rows (by rw [row_len]; omega) (by rw [row_len]; omega), ev_row F (by omega), ev_cons, xor_mulm F, xor_mulm F, pw_succ]
    have e3 : mulm q (mulm q (ev q x P) (ev q x Q)) (mulm q (pw q x k) x) = mulm q (mulm q (mulm q (ev q x P) x) (ev q x Q)) (pw q x k) := by
      rw [mulm_comm (pw q x k) x, ← mulm_assoc F, mulm_assoc F (ev q x P) (ev q x Q) x, mulm_comm (ev q x Q) x, ← mulm_assoc F]
    rw [e3]
    ac_rfl
theorem ev_conv {x : Nat} (P Q : List Nat) : ev q x (conv q P Q) = mulm q (ev q x P) (ev q x Q) := by
  have h : mulm q (ev q x P) (ev q x Q) < 2 ^ m := mulm_lt F _ _
  unfold conv
  rw [ev_rows F (by rw [List.length_replicate]; omega) (by rw [List.length_replicate]; omega), ev_zeros F, pw_zero, mulm_one F h, Nat.zero_xor]
end
end PLY
/-! Division of polynomials over a field, step by step. -/
namespace PLY
open FLD
theorem getD_of {p : List Nat} {i c : Nat} (h : p[i]? = some c) : p.getD i 0 = c := by rw [List.getD_eq_getElem?_getD, h]; rfl
theorem getD_out {p : List Nat} {i : Nat} (h : p.length ≤ i) : p.getD i 0 = 0 := by rw [List.getD_eq_getElem?_getD, List.getElem?_eq_none h]; rfl
theorem get_getD {p : List Nat} {i : Nat} (h : i < p.length) : p[i]? = some (p.getD i 0) := by rw [List.getD_eq_getElem?_getD, List.getElem?_eq_getElem h]; rfl
theorem tl_le_iff (p : List Nat) (s : Nat) : tl p ≤ s ↔ ∀ j, s ≤ j → p.getD j 0 = 0 := by
  constructor
  · intro h j hj
    by_cases g : j < p.length
    · exact getD_of (tl_zero p j (by omega) g)
    · exact getD_out (by omega)
  · intro h
    apply Classical.byContradiction
    intro n
    rcases tl_last p with g | ⟨c, g1, g2⟩
    · omega
    · have := h (tl p - 1) (by omega)
      rw [getD_of g1] at this
      exact g2 this
theorem trim_getD (p : List Nat) (j : Nat) : (trim p).getD j 0 = p.getD j 0 := by
  by_cases h : j < tl p
  · rw [List.getD_eq_getElem?_getD, List.getD_eq_getElem?_getD, trim_get h]
  · rw [getD_out (by rw [trim_len]; omega), (tl_le_iff p (tl p)).mp (Nat.le_refl _) j (by omega)]
theorem trim_ext {p r : List Nat} (h : ∀ j, p.getD j 0 = r.getD j 0) : trim p = trim r := by
  have e : tl p = tl r := Nat.le_antisymm ((tl_le_iff p _).mpr fun j hj => by rw [h]; exact (tl_le_iff r _).mp (Nat.le_refl _) j hj) ((tl_le_iff r _).mpr fun j hj => by rw [← h]; exact (tl_le_iff p _).mp (Nat.le_refl _) j hj)
  apply List.ext_getElem?
  intro i
  by_cases hi : i < tl p
  · rw [get_getD (by rw [trim_len]; exact hi), get_getD (by rw [trim_len, ← e]; exact hi), trim_getD, trim_getD, h]
  · rw [List.getElem?_eq_none (by rw [trim_len]; omega), List.getElem?_eq_none (by rw [trim_len, ← e]; omega)]
theorem set_getD {t : List Nat} {k c : Nat} (hk : k < t.length) (j : Nat) : (t.set k c).getD j 0 = if j = k then c else t.getD j 0 := by
  rw [List.getD_eq_getElem?_getD, List.getD_eq_getElem?_getD]
  by_cases e : j = k
  · subst e; rw [List.getElem?_set_self hk, if_pos rfl]; rfl
  · rw [List.getElem?_set_ne (fun z => e z.symm), if_neg e]
theorem row_getD (q e : Nat) : ∀ (Q : List Nat) (k : Nat) (t : List Nat) (j : Nat), k + Q.length ≤ t.length → (row q e Q k t).getD j 0 = t.getD j 0 ^^^ (if k ≤ j ∧ j < k + Q.length then mulm q e (Q.getD (j - k) 0) else 0)
  | [], k, t, j, _ => by
    show t.getD j 0 = _
    rw [if_neg (by simp), Nat.xor_zero]
  | f :: Q, k, t, j, h => by
    have h' : k + (Q.length + 1) ≤ t.length := h
    show (row q e Q (k + 1) (t.set k (t.getD k 0 ^^^ mulm q e f))).getD j 0 = _
    rw [row_getD q e Q (k + 1) _ j (by rw [List.length_set]; omega), set_getD (by omega)]
    by_cases e1 : j = k
    · subst e1
      rw [if_pos rfl, if_neg (by omega), Nat.xor_zero, if_pos (by constructor <;> simp), Nat.sub_self]
      rfl
    · rw [if_neg e1]
      by_cases e2 : k + 1 ≤ j ∧ j < k + 1 + Q.length
      · rw [if_pos e2, if_pos (by simp only [List.length_cons]; omega), show j - k = (j - (k + 1)) + 1 by omega]
        rfl
      · rw [if_neg e2, if_neg (by simp only [List.length_cons]; omega)]
theorem rows1_getD (q c : Nat) : ∀ (P : List Nat) (k : Nat) (t : List Nat) (j : Nat), k + P.length ≤ t.length → (rows q [c] P k t).getD j 0 = t.getD j 0 ^^^ (if k ≤ j ∧ j < k + P.length then mulm q (P.getD (j - k) 0) c else 0)
  | [], k, t, j, _ => by
    show t.getD j 0 = _
    rw [if_neg (by simp), Nat.xor_zero]
  | e :: P, k, t, j, h => by
    have h' : k + (P.length + 1) ≤ t.length := h
    show (rows q [c] P (k + 1) (t.set k (t.getD k 0 ^^^ mulm q e c))).getD j 0 = _
    rw [rows1_getD q c P (k + 1) _ j (by rw [List.length_set]; omega), set_getD (by omega)]
    by_cases e1 : j = k
    · subst e1
      rw [if_pos rfl, if_neg (by omega), Nat.xor_zero, if_pos (by constructor <;> simp), Nat.sub_self]
      rfl
    · rw [if_neg e1]
      by_cases e2 : k + 1 ≤ j ∧ j < k + 1 + P.length
      · rw [if_pos e2, if_pos (by simp only [List.length_cons]; omega), show j - k = (j - (k + 1)) + 1 by omega]
        rfl
      · rw [if_neg e2, if_neg (by simp only [List.length_cons]; omega)]
theorem rep_getD (n j : Nat) : (List.replicate n 0).getD j 0 = 0 := by
  rw [List.getD_eq_getElem?_getD, List.getElem?_replicate]
  split <;> rfl
theorem cat_getD (s : Nat) (L : List Nat) (j : Nat) : (List.replicate s 0 ++ L).getD j 0 = if j < s then 0 else L.getD (j - s) 0 := by
  rw [List.getD_eq_getElem?_getD]
  by_cases h : j < s
  · rw [if_pos h, List.getElem?_append_left (by rw [List.length_replicate]; exact h), List.getElem?_replicate, if_pos h]; rfl
  · rw [if_neg h, List.getElem?_append_right (by rw [List.length_replicate]; omega), List.length_replicate, ← List.getD_eq_getElem?_getD]
/-- the last element -/
def lastD (R : List Nat) : Nat := R.getD (R.length - 1) 0
def lead (q v : Nat) (R : List Nat) : Nat := mulm q (lastD R) v
/-- one step of the division by g, v the inverse of g's last element -/
def step (q v : Nat) (g R : List Nat) : List Nat := trim (row q (lead q v R) g (R.length - g.length) R)
theorem conv1_getD (q c : Nat) (g : List Nat) (i : Nat) : (conv q g [c]).getD i 0 = if i < g.length then mulm q (g.getD i 0) c else 0 := by
  unfold conv
  rw [rows1_getD q c g 0 _ i (by rw [List.length_replicate]; omega), rep_getD, Nat.zero_xor, Nat.sub_zero, Nat.zero_add]
  by_cases h : i < g.length
  · rw [if_pos ⟨Nat.zero_le _, h⟩, if_pos h]
  · rw [if_neg (fun z => h z.2), if_neg h]
theorem step_law {q v : Nat} {g R A : List Nat} (h : g.length ≤ R.length) (hA : ∀ j, A.getD j 0 = R.getD j 0 ^^^ (List.replicate (R.length - g.length) 0 ++ trim (conv q g [lead q v R])).getD j 0) : trim A = step q v g R := by
  refine trim_ext fun j => ?_
  rw [hA, cat_getD, row_getD q _ g _ R j (by omega)]
  congr 1
  by_cases h1 : j < R.length - g.length
  · rw [if_pos h1, if_neg (by omega)]
  · rw [if_neg h1, trim_getD, conv1_getD]
    by_cases h2 : j - (R.length - g.length) < g.length
    · rw [if_pos h2, if_pos (by omega), mulm_comm]
    · rw [if_neg h2, if_neg (by omega)]
section
variable {m q : Nat} (F : Fd m q)
include F
theorem lastD_lt {R : List Nat} (h : ∀ c ∈ R, c < 2 ^ m) : lastD R < 2 ^ m := by
  unfold lastD
  by_cases g : R.length - 1 < R.length
  · have := List.mem_of_getElem? (get_getD g)
    exact h _ this
  · rw [getD_out (by omega)]; exact Nat.two_pow_pos _
theorem step_lt {v : Nat} {g R : List Nat} (hv : mulm q v (lastD g) = 1) (h0 : 0 < g.length) (h : g.length ≤ R.length) (hE : ∀ c ∈ R, c < 2 ^ m) : (step q v g R).length < R.length := by
  unfold step
  rw [trim_len]
  have : tl (row q (lead q v R) g (R.length - g.length) R) ≤ R.length - 1 := by
    refine (tl_le_iff _ _).mpr fun j hj => ?_
    by_cases e : j = R.length - 1
    · subst e
      rw [row_getD q _ g _ R _ (by omega), if_pos (by omega), show R.length - 1 - (R.length - g.length) = g.length - 1 by omega]
      show lastD R ^^^ mulm q (mulm q (lastD R) v) (lastD g) = 0
      rw [mulm_assoc F, hv, mulm_one F (lastD_lt F hE), Nat.xor_self]
    · exact getD_out (by rw [row_len]; omega)
  omega
theorem step_El {v : Nat} {g R : List Nat} (hE : ∀ c ∈ R, c < 2 ^ m) : ∀ c ∈ step q v g R, c < 2 ^ m := fun c hc => row_mem F hE c (trim_mem hc)
end
/-- the division: what is left, and the quotient so far -/
def dv (q v : Nat) (g : List Nat) : Nat → List Nat → List Nat → List Nat × List Nat
  | 0, R, W => (R, W)
  | n + 1, R, W => if g.length ≤ R.length then dv q v g n (step q v g R) (W.set (R.length - g.length) (lead q v R)) else (R, W)
theorem dv_stop {q v : Nat} {g R W : List Nat} (h : ¬ g.length ≤ R.length) : ∀ n, dv q v g n R W = (R, W)
  | 0 => rfl
  | n + 1 => if_neg h
theorem dv_step {q v n : Nat} {g R W : List Nat} (h : g.length ≤ R.length) : dv q v g (n + 1) R W = dv q v g n (step q v g R) (W.set (R.length - g.length) (lead q v R)) := if_pos h
section
variable {m q : Nat} (F : Fd m q) {v : Nat} {g : List Nat} (hv : mulm q v (lastD g) = 1) (h0 : 0 < g.length)
include F hv h0
/-- zeros behind the quotient change nothing -/
theorem dv_app (Z : List Nat) : ∀ (n : Nat) (R W : List Nat), (∀ c ∈ R, c < 2 ^ m) → R.length < W.length + g.length → dv q v g n R (W ++ Z) = ((dv q v g n R W).1, (dv q v g n R W).2 ++ Z)
  | 0, _, _, _, _ => rfl
  | n + 1, R, W, hE, hl => by
    by_cases h : g.length ≤ R.length
    · have hs := step_lt F hv h0 h hE
      rw [dv_step h, dv_step h, List.set_append_left _ _ (by omega), dv_app Z n _ _ (step_El F hE) (by rw [List.length_set]; omega)]
    · rw [dv_stop h, dv_stop h]
/-- the quotient keeps what stands above -/
theorem dv_keep : ∀ (n : Nat) (R W : List Nat) (k : Nat), (∀ c ∈ R, c < 2 ^ m) → R.length < k + g.length → (dv q v g n R W).2[k]? = W[k]?
  | 0, _, _, _, _, _ => rfl
  | n + 1, R, W, k, hE, hl => by
    by_cases h : g.length ≤ R.length
    · have hs := step_lt F hv h0 h hE
      rw [dv_step h, dv_keep n _ _ k (step_El F hE) (by omega), List.getElem?_set_ne (by omega)]
    · rw [dv_stop h]
theorem dv_len : ∀ (n : Nat) (R W : List Nat), (dv q v g n R W).2.length = W.length
  | 0, _, _ => rfl
  | n + 1, R, W => by
    by_cases h : g.length ≤ R.length
    · rw [dv_step h, dv_len n, List.length_set]
    · rw [dv_stop h]
/-- with turns enough nothing more is done -/
theorem dv_done : ∀ (n : Nat) (R W : List Nat), (∀ c ∈ R, c < 2 ^ m) → R.length ≤ n → ¬ g.length ≤ (dv q v g n R W).1.length
  | 0, R, W, _, hl => by show ¬ g.length ≤ R.length; omega
  | n + 1, R, W, hE, hl => by
    by_cases h : g.length ≤ R.length
    · have hs := step_lt F hv h0 h hE
      rw [dv_step h]
      exact dv_done n _ _ (step_El F hE) (by omega)
    · rw [dv_stop h]; exact h
/-- the quotient has no zeros at its end -/
theorem dv_trim {n : Nat} {R : List Nat} (hE : ∀ c ∈ R, c < 2 ^ m) (hv2 : v < 2 ^ m) (hv0 : v ≠ 0) (ht : trim R = R) (hn : R.length ≤ n) : trim (dv q v g n R (List.replicate (R.length + 1 - g.length) 0)).2 = (dv q v g n R (List.replicate (R.length + 1 - g.length) 0)).2 := by
  have hlen := dv_len F hv h0 n R (List.replicate (R.length + 1 - g.length) 0)
  rw [List.length_replicate] at hlen
  by_cases h : g.length ≤ R.length
  · obtain ⟨n, rfl⟩ : ∃ k, n = k + 1 := ⟨n - 1, by omega⟩
    have hs := step_lt F hv h0 h hE
    have hl0 : lead q v R ≠ 0 := by
      refine mulm_ne F (lastD_lt F hE) hv2 (fun z => ?_) hv0
      have hR : tl R = R.length := by rw [← trim_len, ht]
      have := (tl_le_iff R (R.length - 1)).mpr fun j hj => by
        by_cases e : j = R.length - 1
        · rw [e]; exact z
        · exact getD_out (by omega)
      omega
    have htop : (dv q v g (n + 1) R (List.replicate (R.length + 1 - g.length) 0)).2[R.length - g.length]? = some (lead q v R) := by
      rw [dv_step h, dv_keep F hv h0 n _ _ _ (step_El F hE) (by omega), List.getElem?_set_self (by rw [List.length_replicate]; omega)]
    have e : (dv q v g (n + 1) R (List.replicate (R.length + 1 - g.length) 0)).2.length = tl (dv q v g (n + 1) R (List.replicate (R.length + 1 - g.length) 0)).2 :=
      tl_only (Nat.le_refl _) (fun i h1 h2 => by omega) (.inr ⟨_, by rw [hlen, show R.length + 1 - g.length - 1 = R.length - g.length by omega]; exact htop, hl0⟩)
    show List.take (tl _) _ = _
    rw [← e, List.take_length]
  · have : R.length + 1 - g.length = 0 := by omega
    rw [this] at hlen ⊢
    have e := List.length_eq_zero_iff.mp hlen
    rw [e]
    rfl
end
end PLY
/-! Reading by data: what stands in the slots is told as data, the heap is carried along. -/
namespace DL
open PySem PySem.Spec PyProof.Rows L2 NB
/-- two ways -/
def Br (b : Bool) (A B : Prop) : Prop := (b = true → A) ∧ (b = false → B)
theorem Br.t {A B : Prop} (h : Br true A B) : A := h.1 rfl
theorem Br.f {A B : Prop} (h : Br false A B) : B := h.2 rfl
theorem brT {A B : Prop} (h : A) : Br true A B := ⟨fun _ => h, fun e => Bool.noConfusion e⟩
theorem brF {A B : Prop} (h : B) : Br false A B := ⟨fun e => Bool.noConfusion e, fun _ => h⟩
theorem brD {p A B : Prop} [Decidable p] (h : p → A) (k : ¬ p → B) : Br (decide p) A B := ⟨fun e => h (of_decide_eq_true e), fun e => k (of_decide_eq_false e)⟩
theorem brN {p A B : Prop} [Decidable p] (h : ¬ p → A) (k : p → B) : Br (!decide p) A B := ⟨fun e => h (fun z => by rw [decide_eq_true z] at e; cases e), fun e => k (Decidable.of_not_not fun z => by rw [decide_eq_false z] at e; cases e)⟩
theorem brY {p A B : Prop} [Decidable p] (c : p) (h : A) : Br (decide p) A B := brD (fun _ => h) fun z => absurd c z
theorem brX {p A B : Prop} [Decidable p] (c : ¬ p) (h : B) : Br (decide p) A B := brD (fun z => absurd z c) fun _ => h
theorem brB {b : Bool} {A B : Prop} (h : b = true → A) (k : b = false → B) : Br b A B := ⟨h, k⟩
theorem brNT {p A B : Prop} [Decidable p] (c : ¬ p) (h : A) : Br (!decide p) A B := brN (fun _ => h) fun z => absurd z c
theorem brNF {p A B : Prop} [Decidable p] (c : p) (h : B) : Br (!decide p) A B := brN (fun z => absurd c z) fun _ => h
mutual
/-- v is the data d, of objects that never change (they stand in F) -/
inductive Dv (F : Hp) : V → PyData → Prop
  | non : Dv F .non .none
  | bl (b : Bool) : Dv F (.bl b) (.bool b)
  | int (i : Int) : Dv F (.int i) (.int i)
  | str (x : Str) : Dv F (.str x) (.str x)
  | lst {a : Addr} {xs : List V} {ds : List PyData} : F a = some (.lst xs) → DvAll F xs ds → Dv F (.ref a) (.list ds)
  | tup {a : Addr} {xs : List V} {ds : List PyData} : F a = some (.tup xs) → DvAll F xs ds → Dv F (.ref a) (.tuple ds)
  | ob {a C dx : Addr} {fs : List (Str × V)} {ns ds : List PyData} : F a = some (.ins C dx fs) → ns = fs.map (fun p => PyData.str p.1) → DvAll F (fs.map Prod.snd) ds → Dv F (.ref a) (.dict [(.int (.ofNat C), .tuple ns), (.none, .list ds)])
inductive DvAll (F : Hp) : List V → List PyData → Prop
  | nil : DvAll F [] []
  | cons {v : V} {vs : List V} {d : PyData} {ds : List PyData} : Dv F v d → DvAll F vs ds → DvAll F (v :: vs) (d :: ds)
end
mutual
theorem Dv.mono {F F' : Hp} (s : Same F F') : ∀ {v : V} {d : PyData}, Dv F v d → Dv F' v d
  | _, _, .non => .non
  | _, _, .bl b => .bl b
  | _, _, .int i => .int i
  | _, _, .str x => .str x
  | _, _, .lst h hs => .lst (s _ _ h) (DvAll.mono s hs)
  | _, _, .tup h hs => .tup (s _ _ h) (DvAll.mono s hs)
  | _, _, .ob h e hs => .ob (s _ _ h) e (DvAll.mono s hs)
theorem DvAll.mono {F F' : Hp} (s : Same F F') : ∀ {vs : List V} {ds : List PyData}, DvAll F vs ds → DvAll F' vs ds
  | _, _, .nil => .nil
  | _, _, .cons h hs => .cons (Dv.mono s h) (DvAll.mono s hs)
end
mutual
theorem Dv.dp {K : PySem.W.Frag} {F : Hp} : ∀ {v : V} {d : PyData}, d.canLay0 = true → Dv F v d → Dp K F v d
  | _, _, _, .non => .non
  | _, _, _, .bl b => .bl b
  | _, _, _, .int i => .int i
  | _, _, _, .str x => .str x
  | _, _, c, .lst h hs => .lst (SqL.of h) (DvAll.dp (by rw [PyData.canLay0] at c; exact c) hs)
  | _, _, c, .tup h hs => .tup (SqT.of h) (DvAll.dp (by rw [PyData.canLay0] at c; exact c) hs)
  | _, _, c, .ob _ _ _ => by rw [PyData.canLay0] at c; cases c
theorem DvAll.dp {K : PySem.W.Frag} {F : Hp} : ∀ {vs : List V} {ds : List PyData}, PyData.canLayAll0 ds = true → DvAll F vs ds → DpAll K F vs ds
  | _, _, _, .nil => .nil
  | _, _, c, .cons h hs => .cons (Dv.dp (by rw [PyData.canLayAll0, Bool.and_eq_true] at c; exact c.1) h) (DvAll.dp (by rw [PyData.canLayAll0, Bool.and_eq_true] at c; exact c.2) hs)
end
theorem DvAll.length {F : Hp} : ∀ {vs : List V} {ds : List PyData}, DvAll F vs ds → vs.length = ds.length
  | _, _, .nil => rfl
  | _, _, .cons _ hs => congrArg (· + 1) (DvAll.length hs)
theorem DvAll.app {F : Hp} : ∀ {vs ws : List V} {ds es : List PyData}, DvAll F vs ds → DvAll F ws es → DvAll F (vs ++ ws) (ds ++ es)
  | _, _, _, _, .nil, h => h
  | _, _, _, _, .cons h hs, k => .cons h (DvAll.app hs k)
theorem DvAll.get {F : Hp} : ∀ {vs : List V} {ds : List PyData} {i : Nat} {d : PyData}, DvAll F vs ds → ds[i]? = some d → ∃ v, vs[i]? = some v ∧ Dv F v d
  | _, _, 0, _, .cons h _, e => by simp at e; subst e; exact ⟨_, rfl, h⟩
  | _, _, i + 1, d, .cons _ hs, e => by
    obtain ⟨v, h1, h2⟩ := DvAll.get (i := i) (d := d) hs (by simpa using e)
    exact ⟨v, by simpa using h1, h2⟩
theorem DvAll.get' {F : Hp} : ∀ {vs : List V} {ds : List PyData} {i : Nat} {v : V}, DvAll F vs ds → vs[i]? = some v → ∃ d, ds[i]? = some d ∧ Dv F v d
  | _, _, 0, _, .cons h _, e => by simp at e; subst e; exact ⟨_, rfl, h⟩
  | _, _, i + 1, d, .cons _ hs, e => by
    obtain ⟨v, h1, h2⟩ := DvAll.get' (i := i) (v := d) hs (by simpa using e)
    exact ⟨v, by simpa using h1, h2⟩
theorem DvAll.set {F : Hp} {v : V} {d : PyData} (h : Dv F v d) : ∀ {vs : List V} {ds : List PyData} (i : Nat), DvAll F vs ds → DvAll F (vs.set i v) (ds.set i d)
  | _, _, _, .nil => .nil
  | _, _, 0, .cons _ hs => .cons h hs
  | _, _, i + 1, .cons k hs => .cons k (DvAll.set h i hs)
theorem DvAll.take {F : Hp} : ∀ {vs : List V} {ds : List PyData} (n : Nat), DvAll F vs ds → DvAll F (vs.take n) (ds.take n)
  | _, _, 0, _ => .nil
  | _, _, _ + 1, .nil => .nil
  | _, _, n + 1, .cons h hs => .cons h (DvAll.take n hs)
theorem DvAll.drop {F : Hp} : ∀ {vs : List V} {ds : List PyData} (n : Nat), DvAll F vs ds → DvAll F (vs.drop n) (ds.drop n)
  | _, _, 0, h => h
  | _, _, _ + 1, .nil => .nil
  | _, _, n + 1, .cons _ hs => DvAll.drop n hs
theorem DvAll.rep {F : Hp} {vs : List V} {ds : List PyData} (h : DvAll F vs ds) : ∀ n : Nat, DvAll F (List.replicate n vs).flatten (List.replicate n ds).flatten
  | 0 => .nil
  | n + 1 => by rw [List.replicate_succ, List.replicate_succ, List.flatten_cons, List.flatten_cons]; exact h.app (DvAll.rep h n)
theorem DvAll.rev {F : Hp} : ∀ {vs : List V} {ds : List PyData}, DvAll F vs ds → DvAll F vs.reverse ds.reverse
  | _, _, .nil => .nil
  | _, _, .cons h hs => by rw [List.reverse_cons, List.reverse_cons]; exact (DvAll.rev hs).app (.cons h .nil)
/-- data that need no object -/
def flatD : PyData → Bool
  | .none => true
  | .bool _ => true
  | .int _ => true
  | .str _ => true
  | _ => false
theorem Dv.flat {F F' : Hp} {v : V} {d : PyData} (h : Dv F v d) (f : flatD d = true) : Dv F' v d := by
  cases h with
  | non => exact .non
  | bl b => exact .bl b
  | int i => exact .int i
  | str x => exact .str x
  | lst _ _ => cases f
  | tup _ _ => cases f
  | ob _ _ _ => cases f
theorem DvAll.flat {F F' : Hp} : ∀ {vs : List V} {ds : List PyData}, DvAll F vs ds → ds.all flatD = true → DvAll F' vs ds
  | _, _, .nil, _ => .nil
  | _, _, .cons h hs, f => by
    rw [List.all_cons, Bool.and_eq_true] at f
    exact .cons (h.flat f.1) (DvAll.flat hs f.2)
/-- what a slot is told to hold -/
inductive SV where
  | val (d : PyData)
  | own (ds : List PyData)
  | ali (ds : List PyData)
  | raw (v : V)
  | ent (ds : List PyData)
abbrev SD := List (Option SV)
abbrev Zt := List (Option V × Option SV)
def RV (H0 F H : Hp) (v : V) : SV → Prop
  | .val d => Dv F v d
  | .own ds => ∃ a vs, v = .ref a ∧ F a = none ∧ H0 a = none ∧ H a = some (.lst vs) ∧ DvAll F vs ds
  | .ali ds => ∃ a vs, v = .ref a ∧ H a = some (.lst vs) ∧ DvAll F vs ds
  | .raw u => v = u
  | .ent ds => ∃ a vs, v = .ref a ∧ H0 a = some (.lst vs) ∧ H a = some (.lst vs) ∧ DvAll F vs ds
def PairOk (H0 F H : Hp) (p : Option V × Option SV) : Prop := ∀ sv, p.2 = some sv → ∃ v, p.1 = some v ∧ RV H0 F H v sv
def Apart (p q : Option V × Option SV) : Prop := ∀ a es fs, p.1 = some (.ref a) → p.2 = some (.own es) → q.1 = some (.ref a) → q.2 = some (.own fs) → False
structure Rep (F0 H0 F H : Hp) (Z : Zt) : Prop where
  base : Same F0 F
  low : Same F H
  ent : Same H0 H
  apart : ∀ b, F0 b = none → H0 b ≠ none → F b = none
  ok : ∀ p ∈ Z, PairOk H0 F H p
  dist : Z.Pairwise Apart
variable {F0 H0 F H : Hp} {Z W : Zt}
theorem Rep.sub (r : Rep F0 H0 F H Z) (s : W.Sublist Z) : Rep F0 H0 F H W := ⟨r.base, r.low, r.ent, r.apart, fun p hp => r.ok p (s.subset hp), r.dist.sublist s⟩
theorem Rep.left {A B : Zt} (r : Rep F0 H0 F H (A ++ B)) : Rep F0 H0 F H A := r.sub (List.sublist_append_left A B)
/-- a new object -/
theorem PairOk.grow {p : Option V × Option SV} {a : Addr} {o : HO} (h : PairOk H0 F H p) (n : H a = none) : PairOk H0 F (upd H a o) p := fun sv e => by
  obtain ⟨v, e1, r⟩ := h sv e
  refine ⟨v, e1, ?_⟩
  cases sv with
  | val d => exact r
  | own ds =>
    obtain ⟨b, vs, q1, q2, q3, q4, q5⟩ := r
    exact ⟨b, vs, q1, q2, q3, by rw [upd_ne (ne_of_none q4 n)]; exact q4, q5⟩
  | ali ds =>
    obtain ⟨b, vs, q1, q4, q5⟩ := r
    exact ⟨b, vs, q1, by rw [upd_ne (ne_of_none q4 n)]; exact q4, q5⟩
  | raw u => exact r
  | ent ds =>
    obtain ⟨b, vs, q1, q3, q4, q5⟩ := r
    exact ⟨b, vs, q1, q3, by rw [upd_ne (ne_of_none q4 n)]; exact q4, q5⟩
theorem Rep.grow {a : Addr} {o : HO} (r : Rep F0 H0 F H Z) (n : H a = none) : Rep F0 H0 F (upd H a o) Z :=
  ⟨r.base, same_new r.low n, same_new r.ent n, r.apart, fun p hp => (r.ok p hp).grow n, r.dist⟩
/-- F grows by what is new -/
theorem PairOk.more {F' : Hp} {p : Option V × Option SV} (h : PairOk H0 F H p) (s : Same F F') (k : ∀ b, F b = none → H b ≠ none → F' b = none) : PairOk H0 F' H p := fun sv e => by
  obtain ⟨v, e1, r⟩ := h sv e
  refine ⟨v, e1, ?_⟩
  cases sv with
  | val d => exact r.mono s
  | own ds =>
    obtain ⟨b, vs, q1, q2, q3, q4, q5⟩ := r
    exact ⟨b, vs, q1, k b q2 (by rw [q4]; simp), q3, q4, q5.mono s⟩
  | ali ds =>
    obtain ⟨b, vs, q1, q4, q5⟩ := r
    exact ⟨b, vs, q1, q4, q5.mono s⟩
  | raw u => exact r
  | ent ds =>
    obtain ⟨b, vs, q1, q3, q4, q5⟩ := r
    exact ⟨b, vs, q1, q3, q4, q5.mono s⟩
/-- both grow -/
theorem PairOk.both {F' H' : Hp} {p : Option V × Option SV} (h : PairOk H0 F H p) (s : Same F F') (t : Same H H') (k : ∀ b, F b = none → H b ≠ none → F' b = none) : PairOk H0 F' H' p := fun sv e => by
  obtain ⟨v, e1, r⟩ := h sv e
  refine ⟨v, e1, ?_⟩
  cases sv with
  | val d => exact r.mono s
  | own ds =>
    obtain ⟨b, vs, q1, q2, q3, q4, q5⟩ := r
    exact ⟨b, vs, q1, k b q2 (by rw [q4]; simp), q3, t _ _ q4, q5.mono s⟩
  | ali ds =>
    obtain ⟨b, vs, q1, q4, q5⟩ := r
    exact ⟨b, vs, q1, t _ _ q4, q5.mono s⟩
  | raw u => exact r
  | ent ds =>
    obtain ⟨b, vs, q1, q3, q4, q5⟩ := r
    exact ⟨b, vs, q1, q3, t _ _ q4, q5.mono s⟩
theorem Rep.both {F' H' : Hp} (r : Rep F0 H0 F H Z) (s : Same F F') (l : Same F' H') (t : Same H H') (k : ∀ b, F b = none → H b ≠ none → F' b = none) : Rep F0 H0 F' H' Z :=
  ⟨r.base.trans s, l, r.ent.trans t, fun b h0 h1 => k b (r.apart b h0 h1) (by
    cases e : H0 b with
    | none => exact absurd e h1
    | some o => rw [r.ent _ _ e]; simp), fun p hp => (r.ok p hp).both s t k, r.dist⟩
theorem Rep.push {v : V} {sv : SV} (r : Rep F0 H0 F H Z) (h : RV H0 F H v sv) (d : ∀ a es, v = .ref a → sv = .own es → ∀ p ∈ Z, ∀ fs, p.1 = some (.ref a) → p.2 = some (.own fs) → False) : Rep F0 H0 F H (Z ++ [(some v, some sv)]) := by
  refine ⟨r.base, r.low, r.ent, r.apart, fun p hp => ?_, ?_⟩
  · rcases List.mem_append.mp hp with h1 | h1
    · exact r.ok p h1
    · rw [List.mem_singleton] at h1
      subst h1
      exact fun sv' e => ⟨v, rfl, (Option.some.inj e) ▸ h⟩
  · rw [List.pairwise_append]
    refine ⟨r.dist, List.pairwise_singleton _ _, fun p hp q hq => ?_⟩
    rw [List.mem_singleton] at hq
    subst hq
    exact fun a es fs e1 e2 e3 e4 => d a fs (Option.some.inj e3) (Option.some.inj e4) p hp es e1 e2
/-- a value that is no list of one's own -/
theorem Rep.pushV {v : V} {d : PyData} (r : Rep F0 H0 F H Z) (h : Dv F v d) : Rep F0 H0 F H (Z ++ [(some v, some (.val d))]) := r.push h fun _ _ _ e => nomatch e
theorem Rep.pushR {v : V} (r : Rep F0 H0 F H Z) : Rep F0 H0 F H (Z ++ [(some v, some (.raw v))]) := r.push rfl fun _ _ _ e => nomatch e
/-- a new list -/
theorem Rep.pushL {p : Addr} {vs : List V} {ds : List PyData} (r : Rep F0 H0 F H Z) (n : H p = none) (h : DvAll F vs ds) : Rep F0 H0 F (upd H p (.lst vs)) (Z ++ [(some (.ref p), some (.own ds))]) := by
  refine (r.grow n).push ⟨p, vs, rfl, r.low.free n, r.ent.free n, upd_same, h⟩ fun a es e1 _ q hq fs e3 e4 => ?_
  cases e1
  obtain ⟨v, e5, b, ws, e6, _, _, e7, _⟩ := r.ok q hq _ e4
  rw [e3] at e5
  cases e5
  cases e6
  rw [n] at e7
  cases e7
theorem same_two {F H : Hp} {p : Addr} {o : HO} (s : Same F H) (n : H p = none) : Same (upd F p o) (upd H p o) := fun b u e => by
  by_cases h : b = p
  · subst h; rw [upd_same] at e ⊢; exact e
  · rw [upd_ne h] at e ⊢; exact s _ _ e
/-- a new tuple (or a list that never changes) -/
theorem Rep.newF {p : Addr} {o : HO} (r : Rep F0 H0 F H Z) (n : H p = none) : Rep F0 H0 (upd F p o) (upd H p o) Z :=
  r.both (same_upd (r.low.free n)) (same_two r.low n) (same_upd n) fun b h1 h2 => by
    rw [upd_ne (fun e => by subst e; exact h2 n)]; exact h1
theorem Rep.pushT {p : Addr} {vs : List V} {ds : List PyData} (r : Rep F0 H0 F H Z) (n : H p = none) (h : DvAll F vs ds) : Rep F0 H0 (upd F p (.tup vs)) (upd H p (.tup vs)) (Z ++ [(some (.ref p), some (.val (.tuple ds)))]) :=
  (r.newF n).pushV (.tup upd_same (h.mono (same_upd (r.low.free n))))
/-- an own list is let go: it never changes again -/
theorem Rep.freeze {A B : Zt} {x : Option V} {ds : List PyData} (r : Rep F0 H0 F H (A ++ (x, some (.own ds)) :: B)) : ∃ F', Rep F0 H0 F' H (A ++ (x, some (.val (.list ds))) :: B) := by
  have hp := r.ok (x, some (.own ds)) (by simp)
  obtain ⟨v, e1, a, vs, e2, f1, f0, h1, hd⟩ := hp _ rfl
  subst e2
  have e1' : x = some (.ref a) := e1
  subst e1'
  have sF : Same F (upd F a (.lst vs)) := same_upd f1
  have part := r.dist
  rw [List.pairwise_append] at part
  obtain ⟨pA, pB, pAB⟩ := part
  rw [List.pairwise_cons] at pB
  have other : ∀ p, p ∈ A ∨ p ∈ B → PairOk H0 (upd F a (.lst vs)) H p := fun p hm sv e => by
    obtain ⟨w, e3, rr⟩ := r.ok p (by rcases hm with h | h <;> simp [h]) sv e
    refine ⟨w, e3, ?_⟩
    cases sv with
    | val d => exact rr.mono sF
    | own es =>
      obtain ⟨b, ws, q1, q2, q3, q4, q5⟩ := rr
      subst q1
      have ne : b ≠ a := fun z => by
        subst z
        rcases hm with h | h
        · exact pAB p h _ List.mem_cons_self b es ds e3 e rfl rfl
        · exact pB.1 p h b ds es rfl rfl e3 e
      exact ⟨b, ws, rfl, by rw [upd_ne ne]; exact q2, q3, q4, q5.mono sF⟩
    | ali es =>
      obtain ⟨b, ws, q1, q4, q5⟩ := rr
      exact ⟨b, ws, q1, q4, q5.mono sF⟩
    | raw u => exact rr
    | ent es =>
      obtain ⟨b, ws, q1, q3, q4, q5⟩ := rr
      exact ⟨b, ws, q1, q3, q4, q5.mono sF⟩
  refine ⟨upd F a (.lst vs), r.base.trans sF, fun b o e => ?_, r.ent, fun b h0 h1' => ?_, fun p hm => ?_, ?_⟩
  · by_cases h : b = a
    · subst h; rw [upd_same] at e; cases e; exact h1
    · rw [upd_ne h] at e; exact r.low _ _ e
  · rw [upd_ne (fun z => by subst z; exact h1' f0)]; exact r.apart b h0 h1'
  · rcases List.mem_append.mp hm with h | h
    · exact other p (.inl h)
    · rcases List.mem_cons.mp h with h | h
      · subst h
        exact fun sv e => by cases e; exact ⟨.ref a, rfl, .lst upd_same (hd.mono sF)⟩
      · exact other p (.inr h)
  · rw [List.pairwise_append]
    refine ⟨pA, List.pairwise_cons.mpr ⟨fun q hq a' es fs _ e2 _ _ => (by cases e2), pB.2⟩, fun p hp q hq => ?_⟩
    rcases List.mem_cons.mp hq with h | h
    · subst h
      exact fun a' es fs _ _ _ e4 => by cases e4
    · exact pAB p hp q (List.mem_cons_of_mem _ h)
/-- an own list changes -/
theorem Rep.put {A B : Zt} {a : Addr} {ds es : List PyData} {vs : List V} (r : Rep F0 H0 F H (A ++ (some (.ref a), some (.own ds)) :: B)) (na : ∀ p, p ∈ A ∨ p ∈ B → ∀ es, p.2 = some (.ali es) → p.1 ≠ some (.ref a)) (h : DvAll F vs es) :
    Rep F0 H0 F (upd H a (.lst vs)) (A ++ (some (.ref a), some (.own es)) :: B) := by
  obtain ⟨v, e1, a', ws, e2, f1, f0, h1, hd⟩ := r.ok (some (.ref a), some (.own ds)) (by simp) _ rfl
  cases e1
  cases e2
  have part := r.dist
  rw [List.pairwise_append] at part
  obtain ⟨pA, pB, pAB⟩ := part
  rw [List.pairwise_cons] at pB
  have other : ∀ p, p ∈ A ∨ p ∈ B → PairOk H0 F (upd H a (.lst vs)) p := fun p hm sv e => by
    obtain ⟨w, e3, rr⟩ := r.ok p (by rcases hm with h | h <;> simp [h]) sv e
    refine ⟨w, e3, ?_⟩
    cases sv with
    | val d => exact rr
    | own es =>
      obtain ⟨b, ws, q1, q2, q3, q4, q5⟩ := rr
      subst q1
      have ne : b ≠ a := fun z => by
        subst z
        rcases hm with h | h
        · exact pAB p h _ List.mem_cons_self b es ds e3 e rfl rfl
        · exact pB.1 p h b ds es rfl rfl e3 e
      exact ⟨b, ws, rfl, q2, q3, by rw [upd_ne ne]; exact q4, q5⟩
    | ali es =>
      obtain ⟨b, ws, q1, q4, q5⟩ := rr
      subst q1
      exact ⟨b, ws, rfl, by rw [upd_ne (fun z => by subst z; exact na p hm es e e3)]; exact q4, q5⟩
    | raw u => exact rr
    | ent es =>
      obtain ⟨b, ws, q1, q3, q4, q5⟩ := rr
      subst q1
      exact ⟨b, ws, rfl, q3, by rw [upd_ne (fun z => by subst z; rw [f0] at q3; cases q3)]; exact q4, q5⟩
  refine ⟨r.base, fun b o e => ?_, fun b o e => ?_, r.apart, fun p hm => ?_, ?_⟩
  · rw [upd_ne (fun z => by subst z; rw [f1] at e; cases e)]; exact r.low _ _ e
  · rw [upd_ne (fun z => by subst z; rw [f0] at e; cases e)]; exact r.ent _ _ e
  · rcases List.mem_append.mp hm with h' | h'
    · exact other p (.inl h')
    · rcases List.mem_cons.mp h' with h' | h'
      · subst h'
        exact fun sv e => by cases e; exact ⟨.ref a, rfl, a, vs, rfl, f1, f0, upd_same, h⟩
      · exact other p (.inr h')
  · rw [List.pairwise_append]
    refine ⟨pA, List.pairwise_cons.mpr ⟨fun q hq a' es' fs e1 _ e3 e4 => pB.1 q hq a' ds fs e1 rfl e3 e4, pB.2⟩, fun p hp q hq => ?_⟩
    rcases List.mem_cons.mp hq with h' | h'
    · subst h'
      exact fun a' es' fs e1 e2 e3 _ => pAB p hp _ List.mem_cons_self a' es' ds e1 e2 e3 rfl
    · exact pAB p hp q (List.mem_cons_of_mem _ h')
end DL
/-! Reading by data: expressions and tests. -/
namespace DL
open PySem PySem.Spec PyProof.Rows L2 NB
abbrev DX := SD → (SV → Prop) → Prop
abbrev DTX := SD → (Bool → Prop) → Prop
abbrev DAX := SD → (List SV → Prop) → Prop
def SV.al : SV → SV
  | .own ds => .ali ds
  | x => x
def SV.frz : SV → SV
  | .own ds => .val (.list ds)
  | .ali ds => .val (.list ds)
  | x => x
def SV.int? : SV → Option Int
  | .val (.int i) => some i
  | _ => none
def SV.bool? : SV → Option Bool
  | .val (.bool b) => some b
  | _ => none
def SV.dat? : SV → Option PyData
  | .val d => some d
  | .own ds => some (.list ds)
  | .ali ds => some (.list ds)
  | .raw _ => none
  | .ent ds => some (.list ds)
def SV.items? : SV → Option (List PyData)
  | .val (.list ds) => some ds
  | .own ds => some ds
  | .ali ds => some ds
  | .ent ds => some ds
  | _ => none
def SV.tup? : SV → Option (List PyData)
  | .val (.tuple ds) => some ds
  | _ => none
/-- data that stay: an own list is let go -/
def SV.fix? : SV → Option PyData
  | .val d => some d
  | .own ds => some (.list ds)
  | _ => none
def SV.flat : SV → Bool
  | .val d => flatD d
  | .own ds => ds.all flatD
  | .ali _ => false
  | .raw _ => true
  | .ent _ => false
def SV.isEnt : SV → Bool
  | .ent _ => true
  | _ => false
def SV.isAli : SV → Bool
  | .ali _ => true
  | _ => false
section
variable {F0 H0 F H : Hp} {v : V} {sv : SV}
theorem RV.int {i : Int} (r : RV H0 F H v sv) (e : sv.int? = some i) : v = .int i := by
  match sv, r, e with
  | .val (.int j), r, e => cases e; cases r; rfl
theorem RV.bool {b : Bool} (r : RV H0 F H v sv) (e : sv.bool? = some b) : v = .bl b := by
  match sv, r, e with
  | .val (.bool j), r, e => cases e; cases r; rfl
theorem RV.items {ds : List PyData} (r : RV H0 F H v sv) (l : Same F H) (e : sv.items? = some ds) : ∃ a vs, v = .ref a ∧ H a = some (.lst vs) ∧ DvAll F vs ds := by
  match sv, r, e with
  | .val (.list es), r, e =>
    cases e
    cases r with
    | lst h hs => exact ⟨_, _, rfl, l _ _ h, hs⟩
  | .own es, r, e =>
    cases e
    obtain ⟨a, vs, h1, _, _, h2, h3⟩ := r
    exact ⟨a, vs, h1, h2, h3⟩
  | .ali es, r, e =>
    cases e
    obtain ⟨a, vs, h1, h2, h3⟩ := r
    exact ⟨a, vs, h1, h2, h3⟩
  | .ent es, r, e =>
    cases e
    obtain ⟨a, vs, h1, _, h2, h3⟩ := r
    exact ⟨a, vs, h1, h2, h3⟩
theorem RV.tup {ds : List PyData} (r : RV H0 F H v sv) (l : Same F H) (e : sv.tup? = some ds) : ∃ a vs, v = .ref a ∧ H a = some (.tup vs) ∧ DvAll F vs ds := by
  match sv, r, e with
  | .val (.tuple es), r, e =>
    cases e
    cases r with
    | tup h hs => exact ⟨_, _, rfl, l _ _ h, hs⟩
theorem RV.dat {d : PyData} {K : PySem.W.Frag} (r : RV H0 F H v sv) (l : Same F H) (e : sv.dat? = some d) (c : d.canLay0 = true) : Dp K H v d := by
  match sv, r, e with
  | .val d', r, e => cases e; exact (r.mono l).dp c
  | .own es, r, e =>
    cases e
    obtain ⟨a, vs, rfl, _, _, h2, h3⟩ := r
    exact .lst (SqL.of h2) ((h3.mono l).dp (by rw [PyData.canLay0] at c; exact c))
  | .ali es, r, e =>
    cases e
    obtain ⟨a, vs, rfl, h2, h3⟩ := r
    exact .lst (SqL.of h2) ((h3.mono l).dp (by rw [PyData.canLay0] at c; exact c))
  | .ent es, r, e =>
    cases e
    obtain ⟨a, vs, rfl, _, h2, h3⟩ := r
    exact .lst (SqL.of h2) ((h3.mono l).dp (by rw [PyData.canLay0] at c; exact c))
theorem Rep.last {W : Zt} (r : Rep F0 H0 F H (W ++ [(some v, some sv)])) : RV H0 F H v sv := by
  obtain ⟨w, e, h⟩ := r.ok (some v, some sv) (by simp) _ rfl
  cases e
  exact h
/-- a temp that is an own list is let go -/
theorem Rep.fixLast {W : Zt} {d : PyData} (r : Rep F0 H0 F H (W ++ [(some v, some sv)])) (e : sv.fix? = some d) : ∃ F', Rep F0 H0 F' H (W ++ [(some v, some (.val d))]) := by
  match sv, r, e with
  | .val d', r, e => cases e; exact ⟨F, r⟩
  | .own es, r, e => cases e; exact r.freeze
theorem apart_symm {p q : Option V × Option SV} (h : Apart p q) : Apart q p := fun a es fs e1 e2 e3 e4 => h a fs es e3 e4 e1 e2
theorem Rep.perm {Z W : Zt} (r : Rep F0 H0 F H Z) (p : Z.Perm W) : Rep F0 H0 F H W :=
  ⟨r.base, r.low, r.ent, r.apart, fun q hq => r.ok q (p.mem_iff.mpr hq), (p.pairwise_iff fun h => apart_symm h).mp r.dist⟩
end
/-- an expression -/
class DE (F0 H0 : Hp) (t : TE) (f : outParam DX) : Prop where
  run : ∀ (Z T : Zt) (H : Hp) (P : SV → Prop) (Q : VK), (∃ F, Rep F0 H0 F H (Z ++ T)) → f (Z.map Prod.snd) P → (∀ sv, P sv → ∀ v H', (∃ F, Rep F0 H0 F H' (Z ++ (T ++ [(some v, some sv)]))) → Q v H') → t (Z.map Prod.fst) H Q
class DT (F0 H0 : Hp) (t : TT) (f : outParam DTX) : Prop where
  run : ∀ (Z T : Zt) (H : Hp) (P : Bool → Prop) (Q : Bool → Hp → Prop), (∃ F, Rep F0 H0 F H (Z ++ T)) → f (Z.map Prod.snd) P → (∀ b, P b → ∀ H', (∃ F, Rep F0 H0 F H' (Z ++ T)) → Q b H') → t (Z.map Prod.fst) H Q
def pr (p : V × SV) : Option V × Option SV := (some p.1, some p.2)
class DA (F0 H0 : Hp) (t : TA) (f : outParam DAX) : Prop where
  run : ∀ (Z T : Zt) (H : Hp) (P : List SV → Prop) (Q : List V → Hp → Prop), (∃ F, Rep F0 H0 F H (Z ++ T)) → f (Z.map Prod.snd) P → (∀ A : List (V × SV), P (A.map Prod.snd) → ∀ H', (∃ F, Rep F0 H0 F H' (Z ++ (T ++ A.map pr))) → Q (A.map Prod.fst) H') → t (Z.map Prod.fst) H Q
/-- an operator, by values -/
class OpD (F0 H0 : Hp) (r : R2) (o : outParam (SV → SV → (SV → Prop) → Prop)) : Prop where
  run : ∀ (W : Zt) (x y : V) (sx sy : SV) (H : Hp) (P : SV → Prop) (Q : VK), (∃ F, Rep F0 H0 F H (W ++ [(some x, some sx), (some y, some sy)])) → o sx sy P → (∀ sv, P sv → ∀ v H', (∃ F, Rep F0 H0 F H' (W ++ [(some v, some sv)])) → Q v H') → r x y H Q
/-- a built-in, by values -/
class CbD (F0 H0 : Hp) (r : List V → Hp → VK → Prop) (o : outParam (List SV → (SV → Prop) → Prop)) : Prop where
  run : ∀ (W : Zt) (A : List (V × SV)) (H : Hp) (P : SV → Prop) (Q : VK), (∃ F, Rep F0 H0 F H (W ++ A.map pr)) → o (A.map Prod.snd) P → (∀ sv, P sv → ∀ v H', (∃ F, Rep F0 H0 F H' (W ++ [(some v, some sv)])) → Q v H') → r (A.map Prod.fst) H Q
section
variable {F0 H0 F H : Hp} {K : PySem.W.Frag}
theorem slot_of {Z : Zt} {i : Nat} {sv : SV} (h : (Z.map Prod.snd)[i]? = some (some sv)) : ∃ x, Z[i]? = some (x, some sv) := by
  rw [List.getElem?_map] at h
  cases e : Z[i]? with
  | none => rw [e] at h; cases h
  | some p =>
    rw [e] at h
    obtain ⟨x, y⟩ := p
    have h' : y = some sv := Option.some.inj h
    exact ⟨x, by rw [h']⟩
def dVar (i : Nat) : DX := fun σ P => match σ[i]? with | some (some sv) => P sv.al | _ => False
theorem slot_val {Z T : Zt} {i : Nat} {sv : SV} (r : Rep F0 H0 F H (Z ++ T)) (h : (Z.map Prod.snd)[i]? = some (some sv)) : ∃ v, Z[i]? = some (some v, some sv) ∧ (Z.map Prod.fst)[i]? = some (some v) ∧ RV H0 F H v sv := by
  obtain ⟨x, hx⟩ := slot_of h
  obtain ⟨v, e, rv⟩ := r.ok (x, some sv) (List.mem_append_left _ (List.mem_of_getElem? hx)) _ rfl
  have e' : x = some v := e
  subst e'
  exact ⟨v, hx, by rw [List.getElem?_map, hx]; rfl, rv⟩
theorem RV.al {v : V} {sv : SV} (r : RV H0 F H v sv) : RV H0 F H v sv.al := by
  cases sv with
  | val d => exact r
  | own ds => obtain ⟨a, vs, h1, _, _, h2, h3⟩ := r; exact ⟨a, vs, h1, h2, h3⟩
  | ali ds => exact r
  | raw u => exact r
  | ent ds => exact r
instance (i : Nat) : DE F0 H0 (tVar i) (dVar i) where
  run Z T H P Q := fun ⟨F, r⟩ h q => by
    unfold dVar at h
    cases e : (Z.map Prod.snd)[i]? with
    | none => rw [e] at h; exact h.elim
    | some o =>
      cases o with
      | none => rw [e] at h; exact h.elim
      | some sv =>
        rw [e] at h
        obtain ⟨v, h1, h2, rv⟩ := slot_val r e
        refine ⟨v, h2, q _ h v H ⟨F, ?_⟩⟩
        rw [← List.append_assoc]
        refine r.push rv.al fun a es _ e2 => ?_
        cases sv <;> cases e2
def dK (d : PyData) : DX := fun _ P => P (.val d)
def dRaw (v : V) : DX := fun _ P => P (.raw v)
instance (i : Int) : DE F0 H0 (tC (.int i)) (dK (.int i)) where
  run Z T H P Q := fun ⟨F, r⟩ h q => q _ h _ H ⟨F, by rw [← List.append_assoc]; exact r.pushV (.int i)⟩
instance (b : Bool) : DE F0 H0 (tC (.bl b)) (dK (.bool b)) where
  run Z T H P Q := fun ⟨F, r⟩ h q => q _ h _ H ⟨F, by rw [← List.append_assoc]; exact r.pushV (.bl b)⟩
instance (x : Str) : DE F0 H0 (tC (.str x)) (dK (.str x)) where
  run Z T H P Q := fun ⟨F, r⟩ h q => q _ h _ H ⟨F, by rw [← List.append_assoc]; exact r.pushV (.str x)⟩
instance : DE F0 H0 (tC .non) (dK .none) where
  run Z T H P Q := fun ⟨F, r⟩ h q => q _ h _ H ⟨F, by rw [← List.append_assoc]; exact r.pushV .non⟩
instance (n : String) : DE F0 H0 (tC (.ty n)) (dRaw (.ty n)) where
  run Z T H P Q := fun ⟨F, r⟩ h q => q _ h _ H ⟨F, by rw [← List.append_assoc]; exact r.pushR⟩
instance (a : Addr) : DE F0 H0 (tC (.ref a)) (dRaw (.ref a)) where
  run Z T H P Q := fun ⟨F, r⟩ h q => q _ h _ H ⟨F, by rw [← List.append_assoc]; exact r.pushR⟩
def dOp (o : SV → SV → (SV → Prop) → Prop) (fa fb : DX) : DX := fun σ P => fa σ fun x => fb σ fun y => o x y P
theorem app3 (Z T : Zt) (p q : Option V × Option SV) : Z ++ ((T ++ [p]) ++ [q]) = (Z ++ T) ++ [p, q] := by simp
instance {r : R2} {o} {ta tb : TE} {fa fb : DX} [ho : OpD F0 H0 r o] [ha : DE F0 H0 ta fa] [hb : DE F0 H0 tb fb] : DE F0 H0 (tOp r ta tb) (dOp o fa fb) where
  run Z T H P Q := fun hr h q => ha.run Z T H _ _ hr h fun x h1 vx H1 r1 => hb.run Z _ H1 _ _ r1 h1 fun y h2 vy H2 r2 => ho.run (Z ++ T) vx vy x y H2 P Q (by rw [← app3]; exact r2) h2 fun sv hp v H3 r3 => q sv hp v H3 (by rw [← List.append_assoc]; exact r3)
/-- two numbers -/
def oI (C : Int → Int → Prop) (g : Int → Int → PyData) : SV → SV → (SV → Prop) → Prop := fun x y P => match x.int?, y.int? with | some i, some j => C i j ∧ P (.val (g i j)) | _, _ => False
def oI0 (g : Int → Int → PyData) : SV → SV → (SV → Prop) → Prop := fun x y P => match x.int?, y.int? with | some i, some j => P (.val (g i j)) | _, _ => False
theorem two {W : Zt} {x y : V} {sx sy : SV} (r : Rep F0 H0 F H (W ++ [(some x, some sx), (some y, some sy)])) : Rep F0 H0 F H W ∧ RV H0 F H x sx ∧ RV H0 F H y sy := by
  refine ⟨r.left, ?_, ?_⟩
  · obtain ⟨w, e, h⟩ := r.ok (some x, some sx) (by simp) _ rfl
    cases e; exact h
  · obtain ⟨w, e, h⟩ := r.ok (some y, some sy) (by simp) _ rfl
    cases e; exact h
theorem oI_of {C : Int → Int → Prop} {g : Int → Int → PyData} {g' : Int → Int → V} {r : R2} (hg : ∀ F i j, Dv F (g' i j) (g i j)) (hr : ∀ i j H Q, C i j → Q (g' i j) H → r (.int i) (.int j) H Q) : OpD F0 H0 r (oI C g) where
  run W x y sx sy H P Q := fun ⟨F, re⟩ h q => by
    obtain ⟨r0, r1, r2⟩ := two re
    unfold oI at h
    cases e1 : sx.int? with
    | none => rw [e1] at h; exact h.elim
    | some i =>
      cases e2 : sy.int? with
      | none => rw [e1, e2] at h; exact h.elim
      | some j =>
        rw [e1, e2] at h
        rw [r1.int e1, r2.int e2]
        exact hr i j H Q h.1 (q _ h.2 _ H ⟨F, r0.pushV (hg _ i j)⟩)
theorem oI0_of {g : Int → Int → PyData} {g' : Int → Int → V} {r : R2} (hg : ∀ F i j, Dv F (g' i j) (g i j)) (hr : ∀ i j H Q, Q (g' i j) H → r (.int i) (.int j) H Q) : OpD F0 H0 r (oI0 g) where
  run W x y sx sy H P Q := fun ⟨F, re⟩ h q => by
    obtain ⟨r0, r1, r2⟩ := two re
    unfold oI0 at h
    cases e1 : sx.int? with
    | none => rw [e1] at h; exact h.elim
    | some i =>
      cases e2 : sy.int? with
      | none => rw [e1, e2] at h; exact h.elim
      | some j =>
        rw [e1, e2] at h
        rw [r1.int e1, r2.int e2]
        exact hr i j H Q (q _ h _ H ⟨F, r0.pushV (hg _ i j)⟩)
instance {C : Int → Int → Prop} {g : Int → Int → Int} : OpD F0 H0 (rI C fun i j => .int (g i j)) (oI C fun i j => .int (g i j)) := oI_of (fun _ i j => .int _) fun i j H Q c q => ⟨i, j, rfl, rfl, c, q⟩
instance {g : Int → Int → Int} : OpD F0 H0 (rI0 fun i j => .int (g i j)) (oI0 fun i j => .int (g i j)) := oI0_of (fun _ i j => .int _) fun i j H Q q => ⟨i, j, rfl, rfl, q⟩
instance {g : Int → Int → Bool} : OpD F0 H0 (rI0 fun i j => .bl (g i j)) (oI0 fun i j => .bool (g i j)) := oI0_of (fun _ i j => .bl _) fun i j H Q q => ⟨i, j, rfl, rfl, q⟩
instance {g : Int → Int → Int} : OpD F0 H0 (ipI g) (oI0 fun i j => .int (g i j)) := oI0_of (fun _ i j => .int _) fun i j H Q q => ⟨i, j, rfl, rfl, q⟩
instance : OpD F0 H0 rEq (oI0 fun i j => .bool (decide (i = j))) := oI0_of (g' := fun i j => .bl (decide (i = j))) (fun _ i j => .bl _) fun i j H Q q => ⟨rfl, by
  have : decide (V.int i = V.int j) = decide (i = j) := by by_cases h : i = j <;> simp [h]
  rw [this]; exact q⟩
instance : OpD F0 H0 rNe (oI0 fun i j => .bool (!decide (i = j))) := oI0_of (g' := fun i j => .bl (!decide (i = j))) (fun _ i j => .bl _) fun i j H Q q => ⟨rfl, by
  have : decide (V.int i = V.int j) = decide (i = j) := by by_cases h : i = j <;> simp [h]
  rw [this]; exact q⟩
/-- == of data -/
structure oEqD (neg : Bool) (x y : SV) (P : SV → Prop) : Prop where
  h : match x.dat?, y.dat? with | some d, some e => SeqAt.shaped d = true ∧ SeqAt.shaped e = true ∧ P (.val (.bool (if neg then !PyData.eqv d e else PyData.eqv d e))) | _, _ => False
theorem oEqD_run {neg : Bool} {r : R2} (hr : ∀ x y H Q d e, Dp K H x d → Dp K H y e → SeqAt.shaped d = true → SeqAt.shaped e = true → Q (.bl (if neg then !PyData.eqv d e else PyData.eqv d e)) H → r x y H Q) : OpD F0 H0 r (oEqD neg) where
  run W x y sx sy H P Q := fun ⟨F, re⟩ h q => by
    obtain ⟨r0, r1, r2⟩ := two re
    obtain ⟨h⟩ := h
    cases e1 : sx.dat? with
    | none => rw [e1] at h; exact h.elim
    | some d =>
      cases e2 : sy.dat? with
      | none => rw [e1, e2] at h; exact h.elim
      | some e =>
        rw [e1, e2] at h
        exact hr x y H Q d e (r1.dat re.low e1 (SeqAt.canLay_of_shaped h.1)) (r2.dat re.low e2 (SeqAt.canLay_of_shaped h.2.1)) h.1 h.2.1 (q _ h.2.2 _ H ⟨F, r0.pushV (.bl _)⟩)
instance : OpD F0 H0 (rEqD K) (oEqD false) := oEqD_run fun x y H Q d e h1 h2 h3 h4 q => ⟨d, e, h1, h2, h3, h4, q⟩
instance : OpD F0 H0 (rNeD K) (oEqD true) := oEqD_run fun x y H Q d e h1 h2 h3 h4 q => ⟨d, e, h1, h2, h3, h4, q⟩
def SV.isN : SV → Bool
  | .val .none => true
  | .raw v => decide (v = .non)
  | _ => false
theorem RV.isN {v : V} {sv : SV} (r : RV H0 F H v sv) : decide (v = .non) = sv.isN := by
  cases sv with
  | val d =>
    cases r <;> first | rfl | simp [SV.isN]
  | own ds => obtain ⟨a, vs, rfl, _⟩ := r; rfl
  | ali ds => obtain ⟨a, vs, rfl, _⟩ := r; rfl
  | raw u => cases r; rfl
  | ent ds => obtain ⟨a, vs, rfl, _⟩ := r; rfl
def oIsN (neg : Bool) : SV → SV → (SV → Prop) → Prop := fun x y P => match y with | .val .none => P (.val (.bool (if neg then !x.isN else x.isN))) | _ => False
theorem oIsN_run {neg : Bool} {r : R2} (hr : ∀ x H Q, Q (.bl (if neg then !decide (x = .non) else decide (x = .non))) H → r x .non H Q) : OpD F0 H0 r (oIsN neg) where
  run W x y sx sy H P Q := fun ⟨F, re⟩ h q => by
    obtain ⟨r0, r1, r2⟩ := two re
    match sy, h, r2 with
    | .val .none, h, r2 =>
      cases r2
      refine hr x H Q ?_
      rw [r1.isN]
      exact q _ h _ H ⟨F, r0.pushV (.bl _)⟩
instance : OpD F0 H0 (fun x y H Q => y = .non ∧ Q (.bl (decide (x = .non))) H) (oIsN false) := oIsN_run fun x H Q q => ⟨rfl, q⟩
instance : OpD F0 H0 (fun x y H Q => y = .non ∧ Q (.bl (!decide (x = .non))) H) (oIsN true) := oIsN_run fun x H Q q => ⟨rfl, q⟩
/-- xs[i] -/
def oIx : SV → SV → (SV → Prop) → Prop := fun x y P => match x.items?, y.int? with | some ds, some i => ∃ d, atI ds i = some d ∧ P (.val d) | _, _ => False
theorem atI_all {vs : List V} {ds : List PyData} {i : Int} {d : PyData} (h : DvAll F vs ds) (e : atI ds i = some d) : ∃ v, atI vs i = some v ∧ Dv F v d := by
  unfold atI at e ⊢
  rw [h.length]
  cases k : ixN ds.length i with
  | none => rw [k] at e; cases e
  | some j =>
    rw [k] at e
    obtain ⟨v, h1, h2⟩ := h.get (i := j) (d := d) e
    exact ⟨v, h1, h2⟩
instance : OpD F0 H0 (rIxL K) oIx where
  run W x y sx sy H P Q := fun ⟨F, re⟩ h q => by
    obtain ⟨r0, r1, r2⟩ := two re
    unfold oIx at h
    cases e1 : sx.items? with
    | none => rw [e1] at h; exact h.elim
    | some ds =>
      cases e2 : sy.int? with
      | none => rw [e1, e2] at h; exact h.elim
      | some i =>
        rw [e1, e2] at h
        obtain ⟨d, hd, hp⟩ := h
        obtain ⟨a, vs, rfl, ha, hv⟩ := r1.items re.low e1
        obtain ⟨v, h1, h2⟩ := atI_all hv hd
        exact ⟨a, vs, i, v, rfl, r2.int e2, SqL.of ha, h1, q _ hp v H ⟨F, r0.pushV h2⟩⟩
def oIxT : SV → SV → (SV → Prop) → Prop := fun x y P => match x.tup?, y.int? with | some ds, some i => ∃ d, atI ds i = some d ∧ P (.val d) | _, _ => False
instance : OpD F0 H0 (rIxT K) oIxT where
  run W x y sx sy H P Q := fun ⟨F, re⟩ h q => by
    obtain ⟨r0, r1, r2⟩ := two re
    unfold oIxT at h
    cases e1 : sx.tup? with
    | none => rw [e1] at h; exact h.elim
    | some ds =>
      cases e2 : sy.int? with
      | none => rw [e1, e2] at h; exact h.elim
      | some i =>
        rw [e1, e2] at h
        obtain ⟨d, hd, hp⟩ := h
        obtain ⟨a, vs, rfl, ha, hv⟩ := r1.tup re.low e1
        obtain ⟨v, h1, h2⟩ := atI_all hv hd
        exact ⟨a, vs, i, v, rfl, r2.int e2, SqT.of ha, h1, q _ hp v H ⟨F, r0.pushV h2⟩⟩
def oCat : SV → SV → (SV → Prop) → Prop := fun x y P => match x.items?, y.items? with | some ds, some es => ds.length + es.length ≤ sizeLine ∧ P (.own (ds ++ es)) | _, _ => False
instance : OpD F0 H0 rCat oCat where
  run W x y sx sy H P Q := fun ⟨F, re⟩ h q => by
    obtain ⟨r0, r1, r2⟩ := two re
    unfold oCat at h
    cases e1 : sx.items? with
    | none => rw [e1] at h; exact h.elim
    | some ds =>
      cases e2 : sy.items? with
      | none => rw [e1, e2] at h; exact h.elim
      | some es =>
        rw [e1, e2] at h
        obtain ⟨hl, hp⟩ := h
        obtain ⟨a, vs, rfl, ha, hv⟩ := r1.items re.low e1
        obtain ⟨b, ws, rfl, hb, hw⟩ := r2.items re.low e2
        exact ⟨a, b, vs, ws, rfl, rfl, ha, hb, by rw [hv.length, hw.length]; exact hl, fun p np => q _ hp _ _ ⟨F, r0.pushL np (hv.app hw)⟩⟩
def oRep : SV → SV → (SV → Prop) → Prop := fun x y P => match x.items?, y.int? with | some ds, some k => k < 2 ^ 63 ∧ -(2 ^ 63) ≤ k ∧ ds.length * k.toNat ≤ sizeLine ∧ P (.own (List.replicate k.toNat ds).flatten) | _, _ => False
instance : OpD F0 H0 rRep oRep where
  run W x y sx sy H P Q := fun ⟨F, re⟩ h q => by
    obtain ⟨r0, r1, r2⟩ := two re
    unfold oRep at h
    cases e1 : sx.items? with
    | none => rw [e1] at h; exact h.elim
    | some ds =>
      cases e2 : sy.int? with
      | none => rw [e1, e2] at h; exact h.elim
      | some k =>
        rw [e1, e2] at h
        obtain ⟨h1, h2, h3, hp⟩ := h
        obtain ⟨a, vs, rfl, ha, hv⟩ := r1.items re.low e1
        exact ⟨a, k, vs, rfl, r2.int e2, ha, h2, h1, by rw [hv.length]; exact h3, fun p np => q _ hp _ _ ⟨F, r0.pushL np (hv.rep _)⟩⟩
/-- one value -/
def dUn (g : Int → Int) (fa : DX) : DX := fun σ P => fa σ fun x => match x.int? with | some i => P (.val (.int (g i))) | none => False
theorem one_tmp {Z T : Zt} {v : V} {sv : SV} (r : Rep F0 H0 F H (Z ++ (T ++ [(some v, some sv)]))) : Rep F0 H0 F H (Z ++ T) ∧ RV H0 F H v sv := by
  rw [← List.append_assoc] at r
  exact ⟨r.left, r.last⟩
theorem put_tmp {Z T : Zt} {v : V} {d : PyData} (r : Rep F0 H0 F H (Z ++ T)) (h : Dv F v d) : Rep F0 H0 F H (Z ++ (T ++ [(some v, some (.val d))])) := by
  rw [← List.append_assoc]
  exact r.pushV h
instance {g : Int → Int} {ta : TE} {fa : DX} [ha : DE F0 H0 ta fa] : DE F0 H0 (tUn (rU fun i => .int (g i)) ta) (dUn g fa) where
  run Z T H P Q := fun hr h q => ha.run Z T H _ _ hr h fun x h1 vx H1 ⟨F, r1⟩ => by
    cases e : x.int? with
    | none => rw [e] at h1; exact h1.elim
    | some i =>
      rw [e] at h1
      obtain ⟨r0, rx⟩ := one_tmp r1
      exact ⟨i, rx.int e, q _ h1 _ _ ⟨F, put_tmp r0 (.int _)⟩⟩
/-! ### tests -/
def dTest (fa : DX) : DTX := fun σ P => fa σ fun x => match x.bool? with | some b => P b | none => False
instance {ta : TE} {fa : DX} [ha : DE F0 H0 ta fa] : DT F0 H0 (tTest ta) (dTest fa) where
  run Z T H P Q := fun hr h q => ha.run Z T H _ _ hr h fun x h1 vx H1 ⟨F, r1⟩ => by
    cases e : x.bool? with
    | none => rw [e] at h1; exact h1.elim
    | some b =>
      rw [e] at h1
      obtain ⟨r0, rx⟩ := one_tmp r1
      exact ⟨b, rx.bool e, q _ h1 _ ⟨F, r0⟩⟩
instance {ta : TE} {fa : DX} [ha : DE F0 H0 ta fa] : DT F0 H0 (tB ta) (dTest fa) where
  run Z T H P Q := fun hr h q => ha.run Z T H _ _ hr h fun x h1 vx H1 ⟨F, r1⟩ => by
    cases e : x.bool? with
    | none => rw [e] at h1; exact h1.elim
    | some b =>
      rw [e] at h1
      obtain ⟨r0, rx⟩ := one_tmp r1
      exact ⟨b, rx.bool e, q _ h1 _ ⟨F, r0⟩⟩
def dAnd (fa fb : DTX) : DTX := fun σ P => fa σ fun b => Br b (fb σ P) (P false)
def dOr (fa fb : DTX) : DTX := fun σ P => fa σ fun b => Br b (P true) (fb σ P)
def dNot (fa : DTX) : DTX := fun σ P => fa σ fun b => P (!b)
instance {ta tb : TT} {fa fb : DTX} [ha : DT F0 H0 ta fa] [hb : DT F0 H0 tb fb] : DT F0 H0 (tAnd ta tb) (dAnd fa fb) where
  run Z T H P Q := fun hr h q => ha.run Z T H _ _ hr h fun b h1 H1 r1 => by
    cases b with
    | true => exact iteT (hb.run Z T H1 P Q r1 h1.t q)
    | false => exact iteF (q _ h1.f _ r1)
instance {ta tb : TT} {fa fb : DTX} [ha : DT F0 H0 ta fa] [hb : DT F0 H0 tb fb] : DT F0 H0 (tOr ta tb) (dOr fa fb) where
  run Z T H P Q := fun hr h q => ha.run Z T H _ _ hr h fun b h1 H1 r1 => by
    cases b with
    | true => exact iteT (q _ h1.t _ r1)
    | false => exact iteF (hb.run Z T H1 P Q r1 h1.f q)
instance {ta : TT} {fa : DTX} [ha : DT F0 H0 ta fa] : DT F0 H0 (tNot ta) (dNot fa) where
  run Z T H P Q := fun hr h q => ha.run Z T H _ _ hr h fun b h1 H1 r1 => q _ h1 _ r1
/-- truth of a value -/
def tTru (K : PySem.W.Frag) (ta : TE) : TT := fun σ H Q => ta σ H fun x H' => ∃ k, TruV K x H' k ∧ Q k H'
theorem pt_tru {X : Cx} {a : Expr} {ta : TE} (ha : PE X a ta) (he : ∀ whole, isTrue a X.env whole = (do let v ← whole; standAt a.pos; holding [v] (truthy v))) : PT X a (tTru X.K ta) := pt_truth ha he
def SV.tru? : SV → Option Bool
  | .val .none => some false
  | .val (.bool b) => some b
  | .val (.int i) => some (i != 0)
  | .val (.list ds) => some (!ds.isEmpty)
  | .own ds => some (!ds.isEmpty)
  | .ali ds => some (!ds.isEmpty)
  | _ => none
def dTru (fa : DX) : DTX := fun σ P => fa σ fun x => match x.tru? with | some b => P b | none => False
theorem all_empty : ∀ {vs : List V} {ds : List PyData}, DvAll F vs ds → vs.isEmpty = ds.isEmpty
  | _, _, .nil => rfl
  | _, _, .cons _ _ => rfl
theorem RV.tru {v : V} {sv : SV} {k : Bool} (r : RV H0 F H v sv) (l : Same F H) (e : sv.tru? = some k) : TruV K v H k := by
  match sv, r, e with
  | .val .none, r, e => cases e; cases r; rfl
  | .val (.bool b), r, e => cases e; cases r; rfl
  | .val (.int i), r, e => cases e; cases r; rfl
  | .val (.list ds), r, e =>
    cases e
    cases r with
    | lst h hs => exact .inl ⟨_, SqL.of (l _ _ h), by rw [all_empty hs]⟩
  | .own ds, r, e => cases e; obtain ⟨a, vs, rfl, _, _, h, hs⟩ := r; exact .inl ⟨_, SqL.of h, by rw [all_empty hs]⟩
  | .ali ds, r, e => cases e; obtain ⟨a, vs, rfl, h, hs⟩ := r; exact .inl ⟨_, SqL.of h, by rw [all_empty hs]⟩
instance {ta : TE} {fa : DX} [ha : DE F0 H0 ta fa] : DT F0 H0 (tTru K ta) (dTru fa) where
  run Z T H P Q := fun hr h q => ha.run Z T H _ _ hr h fun x h1 vx H1 ⟨F, r1⟩ => by
    cases e : x.tru? with
    | none => rw [e] at h1; exact h1.elim
    | some b =>
      rw [e] at h1
      obtain ⟨r0, rx⟩ := one_tmp r1
      exact ⟨b, rx.tru r1.low e, q _ h1 _ ⟨F, r0⟩⟩
/-! ### and, or, not as values; a if t else b -/
def dAndV (fa fb : DX) : DX := fun σ P => fa σ fun x => match x.bool? with | some b => Br b (fb σ P) (P (.val (.bool false))) | none => False
def dOrV (fa fb : DX) : DX := fun σ P => fa σ fun x => match x.bool? with | some b => Br b (P (.val (.bool true))) (fb σ P) | none => False
def dNotV (fa : DX) : DX := fun σ P => fa σ fun x => match x.bool? with | some b => P (.val (.bool (!b))) | none => False
def dIf (fc : DTX) (fa fb : DX) : DX := fun σ P => fc σ fun b => Br b (fa σ P) (fb σ P)
instance {ta tb : TE} {fa fb : DX} [ha : DE F0 H0 ta fa] [hb : DE F0 H0 tb fb] : DE F0 H0 (tAndV ta tb) (dAndV fa fb) where
  run Z T H P Q := fun hr h q => ha.run Z T H _ _ hr h fun x h1 vx H1 ⟨F, r1⟩ => by
    cases e : x.bool? with
    | none => rw [e] at h1; exact h1.elim
    | some b =>
      rw [e] at h1
      obtain ⟨r0, rx⟩ := one_tmp r1
      refine ⟨b, rx.bool e, ?_⟩
      cases b with
      | true => exact iteT (hb.run Z T H1 P Q ⟨F, r0⟩ h1.t q)
      | false => exact iteF (q _ h1.f _ _ ⟨F, put_tmp r0 (.bl _)⟩)
instance {ta tb : TE} {fa fb : DX} [ha : DE F0 H0 ta fa] [hb : DE F0 H0 tb fb] : DE F0 H0 (tOrV ta tb) (dOrV fa fb) where
  run Z T H P Q := fun hr h q => ha.run Z T H _ _ hr h fun x h1 vx H1 ⟨F, r1⟩ => by
    cases e : x.bool? with
    | none => rw [e] at h1; exact h1.elim
    | some b =>
      rw [e] at h1
      obtain ⟨r0, rx⟩ := one_tmp r1
      refine ⟨b, rx.bool e, ?_⟩
      cases b with
      | true => exact iteT (q _ h1.t _ _ ⟨F, put_tmp r0 (.bl _)⟩)
      | false => exact iteF (hb.run Z T H1 P Q ⟨F, r0⟩ h1.f q)
instance {ta : TE} {fa : DX} [ha : DE F0 H0 ta fa] : DE F0 H0 (tNotV ta) (dNotV fa) where
  run Z T H P Q := fun hr h q => ha.run Z T H _ _ hr h fun x h1 vx H1 ⟨F, r1⟩ => by
    cases e : x.bool? with
    | none => rw [e] at h1; exact h1.elim
    | some b =>
      rw [e] at h1
      obtain ⟨r0, rx⟩ := one_tmp r1
      exact ⟨b, rx.bool e, q _ h1 _ _ ⟨F, put_tmp r0 (.bl _)⟩⟩
instance {tc : TT} {ta tb : TE} {fc : DTX} {fa fb : DX} [hc : DT F0 H0 tc fc] [ha : DE F0 H0 ta fa] [hb : DE F0 H0 tb fb] : DE F0 H0 (tIf tc ta tb) (dIf fc fa fb) where
  run Z T H P Q := fun hr h q => hc.run Z T H _ _ hr h fun b h1 H1 r1 => by
    cases b with
    | true => exact iteT (ha.run Z T H1 P Q r1 h1.t q)
    | false => exact iteF (hb.run Z T H1 P Q r1 h1.f q)
/-- a < b < c -/
def dChain (o o' : SV → SV → (SV → Prop) → Prop) (fa fb fc : DX) : DX := fun σ P => fa σ fun x => fb σ fun y => o x y.al fun z => match z.bool? with | some b => Br b (fc σ fun w => o' y w P) (P (.val (.bool false))) | none => False
/-! ### arguments, displays -/
def dNil : DAX := fun _ P => P []
def dCons (fa : DX) (fr : DAX) : DAX := fun σ P => fa σ fun x => fr σ fun xs => P (x :: xs)
instance : DA F0 H0 tNil dNil where
  run Z T H P Q := fun hr h q => q [] h H (by simpa using hr)
instance {ta : TE} {tr : TA} {fa : DX} {fr : DAX} [ha : DE F0 H0 ta fa] [hb : DA F0 H0 tr fr] : DA F0 H0 (tCons ta tr) (dCons fa fr) where
  run Z T H P Q := fun hr h q => ha.run Z T H _ _ hr h fun x h1 vx H1 r1 => hb.run Z _ H1 _ _ r1 h1 fun A h2 H2 r2 => q ((vx, x) :: A) h2 H2 (by
    obtain ⟨F, r2⟩ := r2
    refine ⟨F, ?_⟩
    simpa [pr] using r2)
def allFix : List SV → Option (List PyData)
  | [] => some []
  | x :: xs => match x.fix?, allFix xs with | some d, some ds => some (d :: ds) | _, _ => none
theorem Rep.fixAll : ∀ {A : List (V × SV)} {W : Zt} {F : Hp} {ds : List PyData}, Rep F0 H0 F H (W ++ A.map pr) → allFix (A.map Prod.snd) = some ds → ∃ F', Rep F0 H0 F' H W ∧ DvAll F' (A.map Prod.fst) ds
  | [], W, F, ds, r, e => by cases e; exact ⟨F, r.left, .nil⟩
  | (v, sv) :: A, W, F, ds, r, e => by
    simp only [List.map_cons, allFix] at e
    cases e1 : sv.fix? with
    | none => rw [e1] at e; cases e
    | some d =>
      cases e2 : allFix (A.map Prod.snd) with
      | none => rw [e1, e2] at e; cases e
      | some es =>
        rw [e1, e2] at e
        cases e
        have r' : Rep F0 H0 F H (W ++ (some v, some sv) :: A.map pr) := r
        have r1 : ∃ F1, Rep F0 H0 F1 H (W ++ (some v, some (.val d)) :: A.map pr) := by
          match sv, e1, r' with
          | .val d', e1, r' => cases e1; exact ⟨F, r'⟩
          | .own es', e1, r' => cases e1; exact r'.freeze
        obtain ⟨F1, r1⟩ := r1
        have r2 : Rep F0 H0 F1 H ((W ++ [(some v, some (.val d))]) ++ A.map pr) := by simpa using r1
        obtain ⟨F2, r3, hs⟩ := Rep.fixAll (W := W ++ [(some v, some (.val d))]) r2 e2
        exact ⟨F2, r3.left, .cons r3.last hs⟩
def dLst (fa : DAX) : DX := fun σ P => fa σ fun xs => match allFix xs with | some ds => ds.length ≤ sizeLine ∧ P (.own ds) | none => False
def dTup (fa : DAX) : DX := fun σ P => fa σ fun xs => match allFix xs with | some ds => ds.length ≤ sizeLine ∧ P (.val (.tuple ds)) | none => False
instance {ta : TA} {fa : DAX} [ha : DA F0 H0 ta fa] : DE F0 H0 (tLst ta) (dLst fa) where
  run Z T H P Q := fun hr h q => ha.run Z T H _ _ hr h fun A h1 H1 ⟨F, r1⟩ => by
    cases e : allFix (A.map Prod.snd) with
    | none => rw [e] at h1; exact h1.elim
    | some ds =>
      rw [e] at h1
      rw [← List.append_assoc] at r1
      obtain ⟨F', r2, hs⟩ := r1.fixAll e
      exact ⟨by rw [hs.length]; exact h1.1, fun p np => q _ h1.2 _ _ ⟨F', by rw [← List.append_assoc]; exact r2.pushL np hs⟩⟩
instance {ta : TA} {fa : DAX} [ha : DA F0 H0 ta fa] : DE F0 H0 (tTup ta) (dTup fa) where
  run Z T H P Q := fun hr h q => ha.run Z T H _ _ hr h fun A h1 H1 ⟨F, r1⟩ => by
    cases e : allFix (A.map Prod.snd) with
    | none => rw [e] at h1; exact h1.elim
    | some ds =>
      rw [e] at h1
      rw [← List.append_assoc] at r1
      obtain ⟨F', r2, hs⟩ := r1.fixAll e
      exact ⟨by rw [hs.length]; exact h1.1, fun p np => q _ h1.2 _ _ ⟨_, by rw [← List.append_assoc]; exact r2.pushT np hs⟩⟩
end
end DL
/-! Reading by data: built-ins, slices, calls, comprehensions. -/
namespace DL
open PySem PySem.Spec PyProof.Rows L2 NB
section
variable {F0 H0 F H : Hp} {K : PySem.W.Frag}
instance {r r' : R2} {o o'} {ta tb tc : TE} {fa fb fc : DX} [ho : OpD F0 H0 r o] [ho' : OpD F0 H0 r' o'] [ha : DE F0 H0 ta fa] [hb : DE F0 H0 tb fb] [hc : DE F0 H0 tc fc] : DE F0 H0 (tChain r r' ta tb tc) (dChain o o' fa fb fc) where
  run Z T H P Q := fun hr h q => ha.run Z T H _ _ hr h fun x h1 vx H1 r1 => hb.run Z _ H1 _ _ r1 h1 fun y h2 vy H2 ⟨F2, r2⟩ => by
    -- the second value stays
    have r2' : Rep F0 H0 F2 H2 ((Z ++ T ++ [(some vy, some y)]) ++ [(some vx, some x), (some vy, some (SV.al y))]) := by
      have r3 : Rep F0 H0 F2 H2 ((Z ++ T) ++ [(some vx, some x), (some vy, some y)]) := by rw [← app3]; exact r2
      have r4 : Rep F0 H0 F2 H2 ((Z ++ T ++ [(some vy, some y)]) ++ [(some vx, some x)]) := r3.perm (by
        have e : (Z ++ T ++ [(some vy, some y)]) ++ [(some vx, some x)] = (Z ++ T) ++ [(some vy, some y), (some vx, some x)] := by simp
        rw [e]
        exact List.Perm.append_left (Z ++ T) (List.Perm.swap _ _ _))
      have r5 := r4.push (v := vy) (sv := SV.al y) (RV.al (two r3).2.2) (fun a es _ e2 => by cases y <;> cases e2)
      simpa using r5
    refine ho.run _ vx vy x (SV.al y) H2 _ _ ⟨F2, r2'⟩ h2 fun z hz vz H3 ⟨F3, r3⟩ => ?_
    cases e : z.bool? with
    | none => rw [e] at hz; exact hz.elim
    | some b =>
      rw [e] at hz
      have rz := r3.last.bool e
      have r4 := r3.left
      refine ⟨b, rz, ?_⟩
      cases b with
      | true =>
        refine iteT ?_
        have hz' : fc (Z.map Prod.snd) fun w => o' y w P := hz.t
        exact hc.run Z (T ++ [(some vy, some y)]) H3 _ _ ⟨F3, by rw [← List.append_assoc]; exact r4⟩ hz' fun w hw vw H4 r5 => ho'.run (Z ++ T) vy vw y w H4 P Q (by rw [← app3]; exact r5) hw fun sv hp v H5 r6 => q sv hp v H5 (by rw [← List.append_assoc]; exact r6)
      | false => exact iteF (q _ hz.f _ _ ⟨F3, put_tmp r4.left (.bl _)⟩)
/-! ### built-ins -/
instance {r} {o} {ta : TA} {fa : DAX} [hc : CbD F0 H0 r o] [ha : DA F0 H0 ta fa] : DE F0 H0 (tCB r ta) (fun σ P => fa σ fun xs => o xs P) where
  run Z T H P Q := fun hr h q => ha.run Z T H _ _ hr h fun A h1 H1 r1 => hc.run (Z ++ T) A H1 P Q (by rw [List.append_assoc]; exact r1) h1 fun sv hp v H2 r2 => q sv hp v H2 (by rw [← List.append_assoc]; exact r2)
theorem one_arg {W : Zt} {v : V} {sv : SV} (r : Rep F0 H0 F H (W ++ [(v, sv)].map pr)) : Rep F0 H0 F H W ∧ RV H0 F H v sv := ⟨r.left, Rep.last r⟩
theorem two_arg {W : Zt} {v w : V} {sv sw : SV} (r : Rep F0 H0 F H (W ++ [(v, sv), (w, sw)].map pr)) : Rep F0 H0 F H W ∧ RV H0 F H v sv ∧ RV H0 F H w sw := two r
/-- a rule of one argument -/
theorem CbD.one {r : List V → Hp → VK → Prop} {o : SV → (SV → Prop) → Prop}
    (h : ∀ (W : Zt) (x : V) (sx : SV) (H F : Hp) (P : SV → Prop) (Q : VK), Rep F0 H0 F H W → RV H0 F H x sx → Same F H → o sx P → (∀ sv, P sv → ∀ v H', (∃ F, Rep F0 H0 F H' (W ++ [(some v, some sv)])) → Q v H') → r [x] H Q) :
    CbD F0 H0 r (fun xs P => match xs with | [x] => o x P | _ => False) where
  run W A H P Q := fun ⟨F, re⟩ ho q => by
    match A, re, ho with
    | [(x, sx)], re, ho => obtain ⟨r0, r1⟩ := one_arg re; exact h W x sx H F P Q r0 r1 re.low ho q
theorem CbD.two {r : List V → Hp → VK → Prop} {o : SV → SV → (SV → Prop) → Prop}
    (h : ∀ (W : Zt) (x y : V) (sx sy : SV) (H F : Hp) (P : SV → Prop) (Q : VK), Rep F0 H0 F H W → RV H0 F H x sx → RV H0 F H y sy → Same F H → o sx sy P → (∀ sv, P sv → ∀ v H', (∃ F, Rep F0 H0 F H' (W ++ [(some v, some sv)])) → Q v H') → r [x, y] H Q) :
    CbD F0 H0 r (fun xs P => match xs with | [x, y] => o x y P | _ => False) where
  run W A H P Q := fun ⟨F, re⟩ ho q => by
    match A, re, ho with
    | [(x, sx), (y, sy)], re, ho => obtain ⟨r0, r1, r2⟩ := two_arg re; exact h W x y sx sy H F P Q r0 r1 r2 re.low ho q
def bLen : SV → (SV → Prop) → Prop := fun x P => match x.items? with
  | some ds => P (.val (.int ds.length))
  | none => match x.tup? with
    | some ds => P (.val (.int ds.length))
    | none => False
instance : CbD F0 H0 (fun xs H Q => ∃ p ys, xs = [.ref p] ∧ (SqL K H p ys ∨ SqT K H p ys) ∧ Q (.int ys.length) H) (fun xs P => match xs with | [x] => bLen x P | _ => False) :=
  .one fun W x sx H F P Q r rx l h q => by
    unfold bLen at h
    cases e : sx.items? with
    | some ds =>
      rw [e] at h
      obtain ⟨a, vs, rfl, ha, hv⟩ := rx.items l e
      exact ⟨a, vs, rfl, .inl (SqL.of ha), q _ h _ _ ⟨F, by rw [hv.length]; exact r.pushV (.int _)⟩⟩
    | none =>
      rw [e] at h
      cases e2 : sx.tup? with
      | none => rw [e2] at h; exact h.elim
      | some ds =>
        rw [e2] at h
        obtain ⟨a, vs, rfl, ha, hv⟩ := rx.tup l e2
        exact ⟨a, vs, rfl, .inr (SqT.of ha), q _ h _ _ ⟨F, by rw [hv.length]; exact r.pushV (.int _)⟩⟩
def bInt : SV → (SV → Prop) → Prop := fun x P => match x.int? with
  | some i => P (.val (.int i))
  | none => match x.bool? with
    | some b => P (.val (.int (if b then 1 else 0)))
    | none => False
instance : CbD F0 H0 (fun xs H Q => (∃ i, xs = [.int i] ∧ Q (.int i) H) ∨ ∃ k, xs = [.bl k] ∧ Q (.int (if k then 1 else 0)) H) (fun xs P => match xs with | [x] => bInt x P | _ => False) :=
  .one fun W x sx H F P Q r rx l h q => by
    unfold bInt at h
    cases e : sx.int? with
    | some i => rw [e] at h; rw [rx.int e]; exact .inl ⟨i, rfl, q _ h _ _ ⟨F, r.pushV (.int _)⟩⟩
    | none =>
      rw [e] at h
      cases e2 : sx.bool? with
      | none => rw [e2] at h; exact h.elim
      | some b => rw [e2] at h; rw [rx.bool e2]; exact .inr ⟨b, rfl, q _ h _ _ ⟨F, r.pushV (.int _)⟩⟩
def bI1 (g : Int → Int) : SV → (SV → Prop) → Prop := fun x P => match x.int? with | some i => P (.val (.int (g i))) | none => False
def bI2 (g : Int → Int → Int) : SV → SV → (SV → Prop) → Prop := fun x y P => match x.int?, y.int? with | some i, some j => P (.val (.int (g i j))) | _, _ => False
instance {g : Int → Int} : CbD F0 H0 (fun xs H Q => ∃ i : Int, xs = [.int i] ∧ Q (.int (g i)) H) (fun xs P => match xs with | [x] => bI1 g x P | _ => False) :=
  .one fun W x sx H F P Q r rx l h q => by
    unfold bI1 at h
    cases e : sx.int? with
    | none => rw [e] at h; exact h.elim
    | some i => rw [e] at h; exact ⟨i, by rw [rx.int e], q _ h _ _ ⟨F, r.pushV (.int _)⟩⟩
instance {g : Int → Int → Int} : CbD F0 H0 (fun xs H Q => ∃ i j : Int, xs = [.int i, .int j] ∧ Q (.int (g i j)) H) (fun xs P => match xs with | [x, y] => bI2 g x y P | _ => False) :=
  .two fun W x y sx sy H F P Q r rx ry l h q => by
    unfold bI2 at h
    cases e : sx.int? with
    | none => rw [e] at h; exact h.elim
    | some i =>
      cases e2 : sy.int? with
      | none => rw [e, e2] at h; exact h.elim
      | some j => rw [e, e2] at h; exact ⟨i, j, by rw [rx.int e, ry.int e2], q _ h _ _ ⟨F, r.pushV (.int _)⟩⟩
def bList : SV → (SV → Prop) → Prop := fun x P => match x.items? with
  | some ds => P (.own ds)
  | none => match x.tup? with
    | some ds => P (.own ds)
    | none => False
instance : CbD F0 H0 (fun xs H Q => ∃ p ys, xs = [.ref p] ∧ (SqL K H p ys ∨ SqT K H p ys) ∧ ∀ l, H l = none → Q (.ref l) (upd H l (.lst ys))) (fun xs P => match xs with | [x] => bList x P | _ => False) :=
  .one fun W x sx H F P Q r rx l h q => by
    unfold bList at h
    cases e : sx.items? with
    | some ds =>
      rw [e] at h
      obtain ⟨a, vs, rfl, ha, hv⟩ := rx.items l e
      exact ⟨a, vs, rfl, .inl (SqL.of ha), fun p np => q _ h _ _ ⟨F, r.pushL np hv⟩⟩
    | none =>
      rw [e] at h
      cases e2 : sx.tup? with
      | none => rw [e2] at h; exact h.elim
      | some ds =>
        rw [e2] at h
        obtain ⟨a, vs, rfl, ha, hv⟩ := rx.tup l e2
        exact ⟨a, vs, rfl, .inr (SqT.of ha), fun p np => q _ h _ _ ⟨F, r.pushL np hv⟩⟩
/-- lists of ints -/
def LI (ns : List Int) : List PyData := ns.map PyData.int
theorem all_ints : ∀ {vs : List V} {ns : List Int}, DvAll F vs (LI ns) → vs = ns.map V.int
  | _, [], h => by cases h; rfl
  | _, n :: ns, h => by
    unfold LI at h
    cases h with
    | cons h hs => cases h; rw [all_ints hs]; rfl
theorem all_bools : ∀ {vs : List V} {bs : List Bool}, DvAll F vs (bs.map PyData.bool) → vs = bs.map V.bl
  | _, [], h => by cases h; rfl
  | _, n :: ns, h => by
    cases h with
    | cons h hs => cases h; rw [all_bools hs]; rfl
def bMax : SV → (SV → Prop) → Prop := fun x P => ∃ ns : List Int, x.items? = some (LI ns) ∧ 0 < ns.length ∧ ∀ m, m ∈ ns → (∀ y, y ∈ ns → y ≤ m) → P (.val (.int m))
def bMin : SV → (SV → Prop) → Prop := fun x P => ∃ ns : List Int, x.items? = some (LI ns) ∧ 0 < ns.length ∧ ∀ m, m ∈ ns → (∀ y, y ∈ ns → m ≤ y) → P (.val (.int m))
def bSum : SV → (SV → Prop) → Prop := fun x P => ∃ ns : List Int, x.items? = some (LI ns) ∧ P (.val (.int ns.sum))
def bAny : SV → (SV → Prop) → Prop := fun x P => ∃ bs : List Bool, x.items? = some (bs.map PyData.bool) ∧ P (.val (.bool (bs.any id)))
def bAll : SV → (SV → Prop) → Prop := fun x P => ∃ bs : List Bool, x.items? = some (bs.map PyData.bool) ∧ P (.val (.bool (bs.all id)))
instance : CbD F0 H0 (rMax K) (fun xs P => match xs with | [x] => bMax x P | _ => False) :=
  .one fun W x sx H F P Q r rx l ⟨ns, e, hl, h⟩ q => by
    obtain ⟨a, vs, rfl, ha, hv⟩ := rx.items l e
    rw [all_ints hv] at ha
    exact ⟨a, ns, rfl, SqL.of ha, hl, fun m h1 h2 => q _ (h m h1 h2) _ _ ⟨F, r.pushV (.int _)⟩⟩
instance : CbD F0 H0 (rMin K) (fun xs P => match xs with | [x] => bMin x P | _ => False) :=
  .one fun W x sx H F P Q r rx l ⟨ns, e, hl, h⟩ q => by
    obtain ⟨a, vs, rfl, ha, hv⟩ := rx.items l e
    rw [all_ints hv] at ha
    exact ⟨a, ns, rfl, SqL.of ha, hl, fun m h1 h2 => q _ (h m h1 h2) _ _ ⟨F, r.pushV (.int _)⟩⟩
instance : CbD F0 H0 (rSum K) (fun xs P => match xs with | [x] => bSum x P | _ => False) :=
  .one fun W x sx H F P Q r rx l ⟨ns, e, h⟩ q => by
    obtain ⟨a, vs, rfl, ha, hv⟩ := rx.items l e
    rw [all_ints hv] at ha
    exact ⟨a, ns, rfl, SqL.of ha, q _ h _ _ ⟨F, r.pushV (.int _)⟩⟩
instance : CbD F0 H0 (rAny K) (fun xs P => match xs with | [x] => bAny x P | _ => False) :=
  .one fun W x sx H F P Q r rx l ⟨ns, e, h⟩ q => by
    obtain ⟨a, vs, rfl, ha, hv⟩ := rx.items l e
    rw [all_bools hv] at ha
    exact ⟨a, ns, rfl, SqL.of ha, q _ h _ _ ⟨F, r.pushV (.bl _)⟩⟩
instance : CbD F0 H0 (rAll K) (fun xs P => match xs with | [x] => bAll x P | _ => False) :=
  .one fun W x sx H F P Q r rx l ⟨ns, e, h⟩ q => by
    obtain ⟨a, vs, rfl, ha, hv⟩ := rx.items l e
    rw [all_bools hv] at ha
    exact ⟨a, ns, rfl, SqL.of ha, q _ h _ _ ⟨F, r.pushV (.bl _)⟩⟩
def bDivmod : SV → SV → (SV → Prop) → Prop := fun x y P => match x.int?, y.int? with | some i, some j => CDiv i j ∧ P (.val (.tuple [.int (i / j), .int (i % j)])) | _, _ => False
instance : CbD F0 H0 (fun xs H Q => ∃ i j, xs = [.int i, .int j] ∧ CDiv i j ∧ ∀ p, H p = none → Q (.ref p) (upd H p (.tup [.int (i / j), .int (i % j)]))) (fun xs P => match xs with | [x, y] => bDivmod x y P | _ => False) :=
  .two fun W x y sx sy H F P Q r rx ry l h q => by
    unfold bDivmod at h
    cases e : sx.int? with
    | none => rw [e] at h; exact h.elim
    | some i =>
      cases e2 : sy.int? with
      | none => rw [e, e2] at h; exact h.elim
      | some j =>
        rw [e, e2] at h
        exact ⟨i, j, by rw [rx.int e, ry.int e2], h.1, fun p np => q _ h.2 _ _ ⟨_, r.pushT np (.cons (.int _) (.cons (.int _) .nil))⟩⟩
/-- isinstance(x, list), isinstance(x, bool) -/
def SV.cls? : SV → Option String
  | .val .none => some "NoneType"
  | .val (.bool _) => some "bool"
  | .val (.int _) => some "int"
  | .val (.list _) => some "list"
  | .val (.tuple _) => some "tuple"
  | .own _ => some "list"
  | .ali _ => some "list"
  | _ => none
def bIs : SV → SV → (SV → Prop) → Prop := fun x y P => match x.cls?, y with | some t, .raw (.ty n) => ∃ b, (∀ K, PySem.W.kitOne K (.type t) (.type n) = some b) ∧ P (.val (.bool b)) | _, _ => False
/-! ### slices -/
abbrev DOX := SD → (Option Int → Prop) → Prop
class DOc (F0 H0 : Hp) (t : TO) (f : outParam DOX) : Prop where
  run : ∀ (Z T : Zt) (H : Hp) (P : Option Int → Prop) (Q : Option Int → Hp → Prop), (∃ F, Rep F0 H0 F H (Z ++ T)) → f (Z.map Prod.snd) P → (∀ b, P b → ∀ H', (∃ F, Rep F0 H0 F H' (Z ++ T)) → Q b H') → t (Z.map Prod.fst) H Q
def dNoPart : DOX := fun _ P => P none
def dPart (fa : DX) : DOX := fun σ P => fa σ fun x => match x.int? with | some i => P (some i) | none => False
instance : DOc F0 H0 tNoPart dNoPart where
  run Z T H P Q := fun hr h q => q _ h _ hr
instance {ta : TE} {fa : DX} [ha : DE F0 H0 ta fa] : DOc F0 H0 (tPart ta) (dPart fa) where
  run Z T H P Q := fun hr h q => ha.run Z T H _ _ hr h fun x h1 vx H1 ⟨F, r1⟩ => by
    cases e : x.int? with
    | none => rw [e] at h1; exact h1.elim
    | some i =>
      rw [e] at h1
      obtain ⟨r0, rx⟩ := one_tmp r1
      exact ⟨i, rx.int e, q _ h1 _ ⟨F, r0⟩⟩
def cutD (xs : List PyData) (lo hi : Option Int) : List PyData := (xs.drop (HT.sIx xs.length 0 lo)).take (HT.sIx xs.length xs.length hi - HT.sIx xs.length 0 lo)
theorem cut_all {vs : List V} {ds : List PyData} (h : DvAll F vs ds) (lo hi : Option Int) : DvAll F (cutV vs lo hi) (cutD ds lo hi) := by
  unfold cutV cutD
  rw [h.length]
  exact (h.drop _).take _
def dSl (fa : DX) (fl fh : DOX) : DX := fun σ P => fa σ fun x => fl σ fun lo => fh σ fun hi => match x.items? with | some ds => P (.own (cutD ds lo hi)) | none => False
instance {ta : TE} {tl th : TO} {fa : DX} {fl fh : DOX} [ha : DE F0 H0 ta fa] [hl : DOc F0 H0 tl fl] [hh : DOc F0 H0 th fh] : DE F0 H0 (tSl (rSlL K) ta tl th) (dSl fa fl fh) where
  run Z T H P Q := fun hr h q => ha.run Z T H _ _ hr h fun x h1 vx H1 r1 => hl.run Z _ H1 _ _ r1 h1 fun lo h2 H2 r2 => hh.run Z _ H2 _ _ r2 h2 fun hi h3 H3 ⟨F, r3⟩ => by
    cases e : x.items? with
    | none => rw [e] at h3; exact h3.elim
    | some ds =>
      rw [e] at h3
      obtain ⟨r0, rx⟩ := one_tmp r3
      obtain ⟨a, vs, rfl, ha', hv⟩ := rx.items r3.low e
      exact ⟨a, vs, rfl, SqL.of ha', fun p np => q _ h3 _ _ ⟨F, by rw [← List.append_assoc]; exact r0.pushL np (cut_all hv lo hi)⟩⟩
/-! ### calls -/
inductive Rs where
  | ok (sv : SV)
  | er (C : Addr) (i : Int)
/-- a contract: from what stands (F) and the arguments, the set of what may come -/
abbrev RC := Hp → List SV → (Rs → Prop) → Prop
def spF (R : RC) : Sp := fun vs H Q E => ∃ (F : Hp) (A : List (V × SV)) (S : Rs → Prop), vs = A.map Prod.fst ∧ Rep F H F H (A.map pr) ∧ (∀ s ∈ A.map Prod.snd, s.isAli = false) ∧ R F (A.map Prod.snd) S ∧ ∀ r, S r → match r with
  | .ok sv => ∀ v H', (∃ F', Rep F H F' H' [(some v, some sv)]) → Q v H'
  | .er C i => ∀ dd H', Same H H' → H' dd = none → E (.ref C) (some dd) (upd H' dd (.xd [("at", .int i)]))
class MonoR (R : RC) : Prop where
  mono : ∀ {F F' : Hp} {as : List SV} {S : Rs → Prop}, Same F F' → R F as S → R F' as S
/-- a contract that asks nothing of what stands -/
def pur (R : List SV → (Rs → Prop) → Prop) : RC := fun _ => R
instance {R} : MonoR (pur R) := ⟨fun _ h => h⟩
/-- the arguments, let go for the call: the caller's own lists are put into the frozen part that the callee sees -/
def keepArgs (F H : Hp) : List (V × SV) → Hp
  | [] => F
  | (.ref a, .own _) :: A => fun b => if b = a then H b else keepArgs F H A b
  | (.ref a, .ali _) :: A => fun b => if b = a then H b else keepArgs F H A b
  | _ :: A => keepArgs F H A
theorem keepArgs_at (F H : Hp) (l : Same F H) : ∀ A : List (V × SV), Same F (keepArgs F H A) ∧ Same (keepArgs F H A) H
  | [] => ⟨Same.refl _, l⟩
  | (v, sv) :: A => by
    obtain ⟨h1, h2⟩ := keepArgs_at F H l A
    have two : ∀ a : Addr, Same F (fun b => if b = a then H b else keepArgs F H A b) ∧ Same (fun b => if b = a then H b else keepArgs F H A b) H := fun a => ⟨fun b o e => by
      show (if b = a then H b else keepArgs F H A b) = some o
      by_cases z : b = a
      · rw [if_pos z]; exact l _ _ e
      · rw [if_neg z]; exact h1 _ _ e, fun b o e => by
      have e' : (if b = a then H b else keepArgs F H A b) = some o := e
      by_cases z : b = a
      · rw [if_pos z] at e'; exact e'
      · rw [if_neg z] at e'; exact h2 _ _ e'⟩
    cases v <;> cases sv <;> first | exact ⟨h1, h2⟩ | exact two _
theorem keepArgs_sub (F H : Hp) : ∀ (A : List (V × SV)) (b : Addr), keepArgs F H A b ≠ F b → ∃ sv, (V.ref b, sv) ∈ A ∧ ((∃ ds, sv = .own ds) ∨ ∃ ds, sv = .ali ds)
  | [], b, h => absurd rfl h
  | (v, sv) :: A, b, h => by
    have rec_ : keepArgs F H A b ≠ F b → ∃ sv', (V.ref b, sv') ∈ (v, sv) :: A ∧ ((∃ ds, sv' = .own ds) ∨ ∃ ds, sv' = .ali ds) := fun z => by
      obtain ⟨s, m, k⟩ := keepArgs_sub F H A b z
      exact ⟨s, List.mem_cons_of_mem _ m, k⟩
    have two : ∀ (a : Addr) (ds : List PyData), (sv = .own ds ∨ sv = .ali ds) → v = .ref a → (if b = a then H b else keepArgs F H A b) ≠ F b → ∃ sv', (V.ref b, sv') ∈ (v, sv) :: A ∧ ((∃ ds, sv' = .own ds) ∨ ∃ ds, sv' = .ali ds) := fun a ds hs hv z => by
      by_cases e : b = a
      · subst e; subst hv
        refine ⟨sv, List.mem_cons_self, ?_⟩
        rcases hs with hs | hs
        · exact .inl ⟨ds, hs⟩
        · exact .inr ⟨ds, hs⟩
      · rw [if_neg e] at z; exact rec_ z
    cases v <;> cases sv <;> first
      | exact rec_ h
      | exact two _ _ (.inl rfl) rfl h
      | exact two _ _ (.inr rfl) rfl h
theorem keepArgs_mem (F H : Hp) (l : Same F H) : ∀ {A : List (V × SV)} {a : Addr} {sv : SV}, (V.ref a, sv) ∈ A → ((∃ ds, sv = .own ds) ∨ ∃ ds, sv = .ali ds) → ∀ o, H a = some o → keepArgs F H A a = some o
  | (v, sv') :: A, a, sv, m, k, o, e => by
    have rec_ : (V.ref a, sv) ∈ A → keepArgs F H A a = some o := fun z => keepArgs_mem F H l z k o e
    have two : ∀ (c : Addr), (if a = c then H a else keepArgs F H A a) = some o ∨ ¬ (a = c ∨ (V.ref a, sv) ∈ A) := fun c => by
      by_cases z : a = c
      · exact .inl (by rw [if_pos z]; exact e)
      · by_cases z2 : (V.ref a, sv) ∈ A
        · exact .inl (by rw [if_neg z]; exact rec_ z2)
        · exact .inr (by rintro (h | h); exact z h; exact z2 h)
    rcases List.mem_cons.mp m with h | h
    · cases h
      rcases k with ⟨ds, rfl⟩ | ⟨ds, rfl⟩
      · show (if a = a then H a else keepArgs F H A a) = some o
        rw [if_pos rfl]; exact e
      · show (if a = a then H a else keepArgs F H A a) = some o
        rw [if_pos rfl]; exact e
    · cases v <;> cases sv' <;> first
        | exact rec_ h
        | (refine (two _).resolve_right (fun z => z (.inr h)))
theorem all_pw {α : Type} {R : α → α → Prop} (h : ∀ x y, R x y) : ∀ l : List α, l.Pairwise R
  | [] => .nil
  | x :: l => .cons (fun y _ => h x y) (all_pw h l)
/-- the arguments as the callee sees them -/
theorem args_ok {W : Zt} {A : List (V × SV)} (r : Rep F0 H0 F H (W ++ A.map pr)) : Rep (keepArgs F H A) H (keepArgs F H A) H ((A.map fun p => (p.1, p.2.frz)).map pr) := by
  obtain ⟨s1, s2⟩ := keepArgs_at F H r.low A
  refine ⟨Same.refl _, s2, Same.refl _, fun b h _ => h, fun p hp sv e => ?_, ?_⟩
  · rw [List.map_map] at hp
    obtain ⟨⟨v, s⟩, hm, rfl⟩ := List.mem_map.mp hp
    cases e
    obtain ⟨w, e1, rv⟩ := r.ok (some v, some s) (List.mem_append_right _ (List.mem_map.mpr ⟨(v, s), hm, rfl⟩)) _ rfl
    cases e1
    refine ⟨v, rfl, ?_⟩
    cases s with
    | val d => exact rv.mono s1
    | raw u => exact rv
    | ent ds =>
      obtain ⟨a, vs, rfl, _, h3, h4⟩ := rv
      exact ⟨a, vs, rfl, h3, h3, h4.mono s1⟩
    | own ds =>
      obtain ⟨a, vs, rfl, _, _, h3, h4⟩ := rv
      exact .lst (keepArgs_mem F H r.low hm (.inl ⟨_, rfl⟩) _ h3) (h4.mono s1)
    | ali ds =>
      obtain ⟨a, vs, rfl, h3, h4⟩ := rv
      exact .lst (keepArgs_mem F H r.low hm (.inr ⟨_, rfl⟩) _ h3) (h4.mono s1)
  · rw [List.pairwise_map, List.pairwise_map]
    refine all_pw (fun x y a es fs _ e2 _ _ => ?_) _
    obtain ⟨v, s⟩ := x
    cases s <;> cases e2
/-- what comes back of a call -/
theorem back_ok {W : Zt} {A : List (V × SV)} {v : V} {sv : SV} {H' : Hp} (r : Rep F0 H0 F H (W ++ A.map pr)) (b : ∃ F', Rep (keepArgs F H A) H F' H' [(some v, some sv)]) (hf : ((A.any fun p => p.2.isAli) || sv.isEnt) = true → sv.flat = true) :
    ∃ F', Rep F0 H0 F' H' (W ++ [(some v, some sv)]) := by
  obtain ⟨F', b⟩ := b
  obtain ⟨s1, s2⟩ := keepArgs_at F H r.low A
  have rW : Rep F0 H0 F H W := r.left
  obtain ⟨v', e0, rv⟩ := b.ok (some v, some sv) (by simp) _ rfl
  cases e0
  have notin : ∀ {a : Addr} {es : List PyData} {p}, p ∈ W → p.1 = some (.ref a) → p.2 = some (.own es) → ∀ sv', sv' = SV.own es → H a ≠ none := fun {a es p} hp e1 e2 _ _ => by
    obtain ⟨w, e3, c, vs, e4, _, _, e5, _⟩ := r.ok p (List.mem_append_left _ hp) _ e2
    rw [e1] at e3; cases e3; cases e4
    rw [e5]; simp
  by_cases ha : (A.any fun p => p.2.isAli) = true
  · -- F stays
    have fl := hf (by rw [ha]; rfl)
    have r1 : Rep F0 H0 F H' W := rW.both (Same.refl _) (rW.low.trans b.ent) b.ent fun _ h _ => h
    cases sv with
    | val d => exact ⟨F, r1.pushV (rv.flat fl)⟩
    | raw u => cases rv; exact ⟨F, r1.pushR⟩
    | ent ds => cases fl
    | ali ds => cases fl
    | own ds =>
      obtain ⟨a, vs, rfl, q1, q2, q3, q4⟩ := rv
      refine ⟨F, r1.push ⟨a, vs, rfl, r.low.free q2, r.ent.free q2, q3, q4.flat fl⟩ fun c es e1 _ p hp fs e3 e4 => ?_⟩
      cases e1
      exact notin hp e3 e4 _ rfl q2
  · -- F grows
    have sF : Same F F' := s1.trans b.base
    have k : ∀ p ∈ W, PairOk H0 F' H' p := fun p hp s e => by
      obtain ⟨w, e1, rr⟩ := rW.ok p hp s e
      refine ⟨w, e1, ?_⟩
      cases s with
      | val d => exact rr.mono sF
      | raw u => exact rr
      | ent ds =>
        obtain ⟨a, vs, q1, q3, q4, q5⟩ := rr
        exact ⟨a, vs, q1, q3, b.ent _ _ q4, q5.mono sF⟩
      | ali ds =>
        obtain ⟨a, vs, q1, q4, q5⟩ := rr
        exact ⟨a, vs, q1, b.ent _ _ q4, q5.mono sF⟩
      | own ds =>
        obtain ⟨a, vs, q1, q2, q3, q4, q5⟩ := rr
        subst q1
        refine ⟨a, vs, rfl, b.apart a ?_ (by rw [q4]; simp), q3, b.ent _ _ q4, q5.mono sF⟩
        -- not among the arguments
        by_cases z : keepArgs F H A a = F a
        · rw [z]; exact q2
        · obtain ⟨sv', hm, kk⟩ := keepArgs_sub F H A a z
          rcases kk with ⟨es, rfl⟩ | ⟨es, rfl⟩
          · have := r.dist
            rw [List.pairwise_append] at this
            exact (this.2.2 p hp (some (.ref a), some (.own es)) (List.mem_map.mpr ⟨_, hm, rfl⟩) a ds es e1 e rfl rfl).elim
          · exact absurd (List.any_eq_true.mpr ⟨_, hm, rfl⟩) ha
    have rF : Rep F0 H0 F' H' W := ⟨r.base.trans sF, b.low, r.ent.trans b.ent, fun c h0 h1 => by
      have hH : H c ≠ none := fun z => by
        cases e : H0 c with
        | none => exact h1 e
        | some o => rw [r.ent _ _ e] at z; cases z
      refine b.apart c ?_ hH
      by_cases z : keepArgs F H A c = F c
      · rw [z]; exact r.apart c h0 h1
      · obtain ⟨sv', hm, kk⟩ := keepArgs_sub F H A c z
        rcases kk with ⟨es, rfl⟩ | ⟨es, rfl⟩
        · obtain ⟨w, e3, d, vs, e4, _, e6, _⟩ := r.ok (some (.ref c), some (.own es)) (List.mem_append_right _ (List.mem_map.mpr ⟨_, hm, rfl⟩)) _ rfl
          cases e3; cases e4
          exact absurd e6 h1
        · exact absurd (List.any_eq_true.mpr ⟨_, hm, rfl⟩) ha, k, rW.dist⟩
    cases sv with
    | val d => exact ⟨F', rF.pushV rv⟩
    | raw u => cases rv; exact ⟨F', rF.pushR⟩
    | ent ds => have := hf (by simp [SV.isEnt]); cases this
    | ali ds =>
      obtain ⟨a, vs, q1, q4, q5⟩ := rv
      exact ⟨F', rF.push ⟨a, vs, q1, q4, q5⟩ fun _ _ _ e => nomatch e⟩
    | own ds =>
      obtain ⟨a, vs, rfl, q1, q2, q3, q4⟩ := rv
      refine ⟨F', rF.push ⟨a, vs, rfl, q1, r.ent.free q2, q3, q4⟩ fun c es e1 _ p hp fs e3 e4 => ?_⟩
      cases e1
      exact notin hp e3 e4 _ rfl q2
/-- what is wanted of an error of one's own -/
class EOk (H0 : Hp) (E : XK) (ER : outParam (Addr → Int → Prop)) : Prop where
  run : ∀ C i, ER C i → ∀ dd H', Same H0 H' → H' dd = none → E (.ref C) (some dd) (upd H' dd (.xd [("at", .int i)]))
def dCall (F0 : Hp) (R : RC) (ER : Addr → Int → Prop) (fa : DAX) : DX := fun σ P => fa σ fun as => ∃ S, R F0 (as.map SV.frz) S ∧ ∀ r, S r → match r with
  | .ok sv => ((as.any SV.isAli || sv.isEnt) = true → sv.flat = true) ∧ P sv
  | .er C i => ER C i
theorem call_run {R : RC} [MonoR R] {ER : Addr → Int → Prop} {E : XK} {W : Zt} {A : List (V × SV)} {P : SV → Prop} {Q : VK} (hE : ∀ C i, ER C i → ∀ dd H', Same H0 H' → H' dd = none → E (.ref C) (some dd) (upd H' dd (.xd [("at", .int i)])))
    (r : Rep F0 H0 F H (W ++ A.map pr)) (h : ∃ S, R F0 ((A.map Prod.snd).map SV.frz) S ∧ ∀ r, S r → match r with
      | .ok sv => (((A.map Prod.snd).any SV.isAli || sv.isEnt) = true → sv.flat = true) ∧ P sv
      | .er C i => ER C i) (q : ∀ sv, P sv → ∀ v H', (∃ F, Rep F0 H0 F H' (W ++ [(some v, some sv)])) → Q v H') : spF R (A.map Prod.fst) H Q E := by
  obtain ⟨S, h1, h2⟩ := h
  obtain ⟨s1, s2⟩ := keepArgs_at F H r.low A
  refine ⟨keepArgs F H A, A.map (fun p => (p.1, p.2.frz)), S, by simp, args_ok r, (fun s hs => by
    rw [List.map_map] at hs
    obtain ⟨p, _, rfl⟩ := List.mem_map.mp hs
    obtain ⟨v, s⟩ := p
    cases s <;> rfl), MonoR.mono (r.base.trans s1) (by simpa [Function.comp_def] using h1), fun rs hs => ?_⟩
  have := h2 rs hs
  cases rs with
  | ok sv => exact fun v H' b => q sv this.2 v H' (back_ok r b fun z => this.1 (by simpa [List.any_map] using z))
  | er C i => exact fun dd H' s n => hE C i this dd H' (r.ent.trans s) n
instance {R : RC} [MonoR R] {ta : TA} {fa : DAX} [ha : DA F0 H0 ta fa] : DE F0 H0 (tCall (spF R) [] (fun _ _ _ => False) ta) (dCall F0 R (fun _ _ => False) fa) where
  run Z T H P Q := fun hr h q => ha.run Z T H _ _ hr h fun A h1 H1 ⟨F, r1⟩ => by
    show spF R (A.map Prod.fst ++ []) H1 Q _
    rw [List.append_nil]
    exact call_run (W := Z ++ T) (fun _ _ z => z.elim) (by rw [List.append_assoc]; exact r1) h1 fun sv hp v H2 r2 => q sv hp v H2 (by rw [← List.append_assoc]; exact r2)
instance {R : RC} [MonoR R] {E : XK} {ER} [he : EOk H0 E ER] {ta : TA} {fa : DAX} [ha : DA F0 H0 ta fa] : DE F0 H0 (tCallS (spF R) (fun _ cls d H => E cls d H) ta) (dCall F0 R ER fa) where
  run Z T H P Q := fun hr h q => ha.run Z T H _ _ hr h fun A h1 H1 ⟨F, r1⟩ =>
    call_run (W := Z ++ T) he.run (by rw [List.append_assoc]; exact r1) h1 fun sv hp v H2 r2 => q sv hp v H2 (by rw [← List.append_assoc]; exact r2)
end
end DL
/-! Reading by data: targets, walks, comprehensions, statements. -/
namespace DL
open PySem PySem.Spec PyProof.Rows L2 NB
section
variable {F0 H0 F H : Hp} {K : PySem.W.Frag}
def NoAli (p : Option V × Option SV) : Prop := ∀ es, p.2 ≠ some (.ali es)
theorem cut_at {α : Type} : ∀ (l : List α) (i : Nat), i < l.length → ∃ A z B, l = A ++ z :: B ∧ A.length = i ∧ ∀ p, l.set i p = A ++ p :: B
  | x :: l, 0, _ => ⟨[], x, l, rfl, rfl, fun _ => rfl⟩
  | x :: l, i + 1, h => by
    obtain ⟨A, z, B, h1, h2, h3⟩ := cut_at l i (by simpa using h)
    exact ⟨x :: A, z, B, by rw [h1]; rfl, by rw [List.length_cons, h2], fun p => by rw [List.set_cons_succ, h3]; rfl⟩
/-- the last temp goes to a slot -/
theorem Rep.store {Z T : Zt} {p : Option V × Option SV} {i : Nat} (r : Rep F0 H0 F H (Z ++ (T ++ [p]))) : Rep F0 H0 F H (Z.set i p ++ T) := by
  by_cases h : i < Z.length
  · obtain ⟨A, z, B, h1, _, h3⟩ := cut_at Z i h
    rw [h3]
    rw [h1] at r
    have r1 : Rep F0 H0 F H ((A ++ B) ++ T ++ [p]) := r.sub (by
      simp only [List.append_assoc, List.cons_append]
      exact List.Sublist.append_left (List.sublist_cons_self _ _) _)
    refine r1.perm ?_
    have : (A ++ B ++ T ++ [p]).Perm (p :: (A ++ B ++ T)) := List.perm_append_singleton _ _
    refine this.trans ?_
    have e : A ++ p :: B ++ T = A ++ p :: (B ++ T) := by simp
    rw [e]
    have e2 : p :: (A ++ B ++ T) = p :: (A ++ (B ++ T)) := by simp
    rw [e2]
    exact List.perm_middle.symm
  · rw [List.set_eq_of_length_le (by omega)]
    rw [← List.append_assoc] at r
    exact r.left
theorem map_set_fst (Z : Zt) (i : Nat) (p : Option V × Option SV) : (Z.set i p).map Prod.fst = (Z.map Prod.fst).set i p.1 := List.map_set
theorem map_set_snd (Z : Zt) (i : Nat) (p : Option V × Option SV) : (Z.set i p).map Prod.snd = (Z.map Prod.snd).set i p.2 := List.map_set
/-! ### targets -/
abbrev DG1 := PyData → SD → (SD → Prop) → Prop
abbrev DGL := List PyData → SD → (SD → Prop) → Prop
/-- what a target does to the slots -/
structure Stored (H : Hp) (F0 H0 : Hp) (F : Hp) (T Z Z' : Zt) (ix : List Nat) : Prop where
  rep : Rep F0 H0 F H (Z' ++ T)
  mem : ∀ p ∈ Z', p ∈ Z ∨ ∃ d, p.2 = some (.val d)
  wip : ∀ vs, (∀ i ∈ ix, i ∈ vs) → wipe (Z'.map Prod.fst) vs = wipe (Z.map Prod.fst) vs
class DGt (F0 H0 : Hp) (g : TG) (f : outParam DG1) (ix : outParam (List Nat)) : Prop where
  run : ∀ (Z T : Zt) (H F : Hp) (x : V) (d : PyData) (P : SD → Prop) (Q : L2.St → Hp → Prop), Rep F0 H0 F H (Z ++ T) → Dv F x d → f d (Z.map Prod.snd) P → (∀ Z', P (Z'.map Prod.snd) → Stored H F0 H0 F T Z Z' ix → Q (Z'.map Prod.fst) H) → g x (Z.map Prod.fst) H Q
class DGs (F0 H0 : Hp) (g : TGs) (f : outParam DGL) (ix : outParam (List Nat)) : Prop where
  run : ∀ (Z T : Zt) (H F : Hp) (xs : List V) (ds : List PyData) (P : SD → Prop) (Q : L2.St → Hp → Prop), Rep F0 H0 F H (Z ++ T) → DvAll F xs ds → f ds (Z.map Prod.snd) P → (∀ Z', P (Z'.map Prod.snd) → Stored H F0 H0 F T Z Z' ix → Q (Z'.map Prod.fst) H) → g xs (Z.map Prod.fst) H Q
theorem wipe_set (σ : L2.St) (i : Nat) (x : Option V) : ∀ {vs : List Nat}, i ∈ vs → wipe (σ.set i x) vs = wipe σ vs
  | v :: vs, h => by
    unfold wipe
    by_cases e : i = v
    · subst e
      by_cases m : i ∈ vs
      · rw [wipe_set σ i x m]
      · have : ∀ ws : List Nat, i ∉ ws → wipe (σ.set i x) ws = (wipe σ ws).set i x := fun ws => by
          induction ws with
          | nil => intro _; rfl
          | cons w ws ih =>
            intro hw
            unfold wipe
            rw [ih (fun z => hw (List.mem_cons_of_mem _ z)), List.set_comm _ _ (fun z => hw (by rw [z]; exact List.mem_cons_self))]
        rw [this vs m, List.set_set]
    · rcases List.mem_cons.mp h with z | z
      · exact absurd z e
      · rw [wipe_set σ i x z]
theorem set_none_set_none (σ : L2.St) (i j : Nat) : (σ.set i none).set j none = (σ.set j none).set i none := by
  by_cases h : i = j
  · subst h; rfl
  · exact List.set_comm _ _ h
theorem wipe_out (σ : L2.St) (v : Nat) : ∀ vs : List Nat, wipe (σ.set v none) vs = (wipe σ vs).set v none
  | [] => rfl
  | w :: vs => by unfold wipe; rw [wipe_out σ v vs, set_none_set_none]
theorem wipe_twice (σ : L2.St) : ∀ vs : List Nat, wipe (wipe σ vs) vs = wipe σ vs
  | [] => rfl
  | v :: vs => by
    have ih := wipe_twice σ vs
    show (wipe ((wipe σ vs).set v none) vs).set v none = (wipe σ vs).set v none
    rw [wipe_out, List.set_set, ih]
instance (i : Nat) : DGt F0 H0 (gName i) (fun d σ P => P (σ.set i (some (.val d)))) [i] where
  run Z T H F x d P Q r hd h q := by
    have := q (Z.set i (some x, some (.val d))) (by rw [map_set_snd]; exact h) ⟨(put_tmp r hd).store, fun p hp => by
      rcases List.mem_or_eq_of_mem_set hp with z | z
      · exact .inl z
      · subst z; exact .inr ⟨d, rfl⟩, fun vs hv => by rw [map_set_fst]; exact wipe_set _ _ _ (hv i (by simp))⟩
    rw [map_set_fst] at this
    exact this
instance : DGs F0 H0 gNil (fun ds σ P => match ds with | [] => P σ | _ => False) [] where
  run Z T H F xs ds P Q r hd h q := by
    match xs, ds, hd, h with
    | [], [], _, h => exact ⟨rfl, q Z h ⟨r, fun p hp => .inl hp, fun _ _ => rfl⟩⟩
    | _, _ :: _, _, h => exact h.elim
instance {t : TG} {u : TGs} {f : DG1} {fs : DGL} {ix jx} [ht : DGt F0 H0 t f ix] [hu : DGs F0 H0 u fs jx] : DGs F0 H0 (gCons t u) (fun ds σ P => match ds with | d :: r => f d σ fun σ' => fs r σ' P | [] => False) (ix ++ jx) where
  run Z T H F xs ds P Q r hd h q := by
    match xs, ds, hd, h with
    | x :: xs, d :: ds, .cons h1 h2, h =>
      refine ⟨x, xs, rfl, ht.run Z T H F x d _ _ r h1 h fun Z1 p1 s1 => ?_⟩
      refine hu.run Z1 T H F xs ds _ _ s1.rep h2 p1 fun Z2 p2 s2 => q Z2 p2 ⟨s2.rep, fun p hp => ?_, fun vs hv => ?_⟩
      · rcases s2.mem p hp with z | z
        · exact s1.mem p z
        · exact .inr z
      · rw [s2.wip vs fun i hi => hv i (List.mem_append_right _ hi), s1.wip vs fun i hi => hv i (List.mem_append_left _ hi)]
    | [], [], _, h => exact h.elim
instance {n : Nat} {t : TGs} {f : DGL} {ix} [ht : DGs F0 H0 t f ix] : DGt F0 H0 (gTup K n t) (fun d σ P => match d with | .tuple ds => ds.length = n ∧ f ds σ P | _ => False) ix where
  run Z T H F x d P Q r hd h q := by
    match d, hd, h with
    | .tuple ds, .tup ha hs, h =>
      exact ⟨_, _, rfl, SqT.of (r.low _ _ ha), by rw [hs.length]; exact h.1, ht.run Z T H F _ ds P Q r hs h.2 q⟩
/-! ### walks -/
structure DWalk (F0 H0 : Hp) (J : It) (items : List PyData) (A : Zt) : Prop where
  goes : ∀ i H F W, i < items.length → Rep F0 H0 F H (W ++ A) → J.go i H
  stops : ∀ H F W, Rep F0 H0 F H (W ++ A) → J.stop items.length H
  yields : ∀ i H x H' F W d, items[i]? = some d → Rep F0 H0 F H (W ++ A) → J.yld i H x H' → ∃ F', Rep F0 H0 F' H' ((W ++ A) ++ [(some x, some (.val d))])
class DI (F0 H0 : Hp) (w : TI) (f : outParam (SD → (List PyData → Bool → Prop) → Prop)) : Prop where
  run : ∀ (Z T : Zt) (H : Hp) (P : List PyData → Bool → Prop) (R : It → Hp → Prop), (∃ F, Rep F0 H0 F H (Z ++ T)) → f (Z.map Prod.snd) P →
    (∀ items b, P items b → ∀ J H' A, (∃ F, Rep F0 H0 F H' (Z ++ (T ++ A))) → (b = true → ∀ p ∈ A, NoAli p) → DWalk F0 H0 J items A → R J H') → w (Z.map Prod.fst) H R
theorem noali_of {v : V} {sv : SV} (h : (!sv.isAli) = true) : ∀ p ∈ [((some v, some sv) : Option V × Option SV)], NoAli p := fun p hp es e => by
  rw [List.mem_singleton] at hp
  subst hp
  cases e
  cases h
theorem walk_lst {v : V} {sv : SV} {ds : List PyData} {a : Addr} (ev : v = .ref a) (e : sv.items? = some ds) : DWalk F0 H0 (Itl K a) ds [(some v, some sv)] where
  goes i H F W hi r := by
    obtain ⟨a', vs, h1, h2, h3⟩ := r.last.items r.low e
    rw [ev] at h1; cases h1
    exact ⟨vs, vs[i]'(by rw [h3.length]; exact hi), SqL.of h2, by simp⟩
  stops H F W r := by
    obtain ⟨a', vs, h1, h2, h3⟩ := r.last.items r.low e
    rw [ev] at h1; cases h1
    exact ⟨vs, SqL.of h2, by rw [h3.length]; exact Nat.le_refl _⟩
  yields i H x H' F W d hd r y := by
    obtain ⟨a', vs, h1, h2, h3⟩ := r.last.items r.low e
    rw [ev] at h1; cases h1
    obtain ⟨rfl, y⟩ := y
    obtain ⟨w, h4, h5⟩ := h3.get hd
    have := y vs (SqL.of h2)
    rw [h4] at this
    cases this
    exact ⟨F, r.pushV h5⟩
def dItems (fa : DX) : SD → (List PyData → Bool → Prop) → Prop := fun σ P => fa σ fun sv => match sv.items? with | some ds => P ds (!sv.isAli) | none => False
instance {ta : TE} {fa : DX} [ha : DE F0 H0 ta fa] : DI F0 H0 (iList K ta) (dItems fa) where
  run Z T H P R := fun hr h q => ha.run Z T H _ _ hr h fun sv h1 v H1 ⟨F, r1⟩ => by
    cases e : sv.items? with
    | none => rw [e] at h1; exact h1.elim
    | some ds =>
      rw [e] at h1
      obtain ⟨r0, rv⟩ := one_tmp r1
      obtain ⟨a, vs, rfl, h2, h3⟩ := rv.items r1.low e
      exact ⟨a, rfl, ⟨vs, SqL.of h2⟩, q ds _ h1 _ _ [(some (.ref a), some sv)] ⟨F, r1⟩ (fun z => noali_of z) (walk_lst rfl e)⟩
def rangeD (lo : Int) (n : Nat) : List PyData := (List.range n).map fun (i : Nat) => PyData.int (lo + (i : Int))
theorem rangeD_len (lo : Int) (n : Nat) : (rangeD lo n).length = n := by unfold rangeD; simp
theorem rangeD_at {lo : Int} {n i : Nat} {d : PyData} (h : (rangeD lo n)[i]? = some d) : i < n ∧ d = .int (lo + i) := by
  unfold rangeD at h
  rw [List.getElem?_map] at h
  by_cases z : i < n
  · rw [List.getElem?_range z] at h
    exact ⟨z, (Option.some.inj h).symm⟩
  · rw [List.getElem?_eq_none (by simp; omega)] at h; cases h
theorem walk_rng (lo : Int) (n : Nat) : DWalk F0 H0 (Itr lo n) (rangeD lo n) [] where
  goes i H F W hi r := by rw [rangeD_len] at hi; exact hi
  stops H F W r := by rw [rangeD_len]; exact Nat.le_refl _
  yields i H x H' F W d hd r y := by
    obtain ⟨rfl, rfl⟩ := y
    obtain ⟨_, rfl⟩ := rangeD_at hd
    exact ⟨F, r.pushV (.int _)⟩
def dRng1 (fa : DAX) : SD → (List PyData → Bool → Prop) → Prop := fun σ P => fa σ fun xs => match xs with
  | [x] => match x.int? with | some j => (-(2 ^ 62) ≤ j ∧ j < 2 ^ 62) ∧ P (rangeD 0 j.toNat) true | none => False
  | _ => False
def dRng2 (fa : DAX) : SD → (List PyData → Bool → Prop) → Prop := fun σ P => fa σ fun xs => match xs with
  | [x, y] => match x.int?, y.int? with | some i, some j => (-(2 ^ 62) ≤ i ∧ i < 2 ^ 62 ∧ -(2 ^ 62) ≤ j ∧ j < 2 ^ 62) ∧ P (rangeD i (j - i).toNat) true | _, _ => False
  | _ => False
instance {ta : TA} {fa : DAX} [ha : DA F0 H0 ta fa] : DI F0 H0 (iRng1 ta) (dRng1 fa) where
  run Z T H P R := fun hr h q => ha.run Z T H _ _ hr h fun A h1 H1 ⟨F, r1⟩ => by
    match A, h1, r1 with
    | [(v, sv)], h1, r1 =>
      cases e : sv.int? with
      | none => simp only [List.map_cons, List.map_nil] at h1; rw [e] at h1; exact h1.elim
      | some j =>
        simp only [List.map_cons, List.map_nil] at h1
        rw [e] at h1
        obtain ⟨r0, rv⟩ := one_tmp (v := v) (sv := sv) r1
        exact ⟨j, by rw [← rv.int e]; rfl, h1.1.1, h1.1.2, q _ _ h1.2 _ _ [] ⟨F, by simpa using r0⟩ (fun _ p hp => nomatch hp) (walk_rng 0 _)⟩
instance {ta : TA} {fa : DAX} [ha : DA F0 H0 ta fa] : DI F0 H0 (iRng2 ta) (dRng2 fa) where
  run Z T H P R := fun hr h q => ha.run Z T H _ _ hr h fun A h1 H1 ⟨F, r1⟩ => by
    match A, h1, r1 with
    | [(v, sv), (w, sw)], h1, r1 =>
      simp only [List.map_cons, List.map_nil] at h1
      cases e : sv.int? with
      | none => rw [e] at h1; exact h1.elim
      | some i =>
        cases e2 : sw.int? with
        | none => rw [e, e2] at h1; exact h1.elim
        | some j =>
          rw [e, e2] at h1
          have r1' : Rep F0 H0 F H1 ((Z ++ T) ++ [(some v, some sv), (some w, some sw)]) := by simpa [pr] using r1
          obtain ⟨r0, rv, rw'⟩ := two r1'
          exact ⟨i, j, by rw [← rv.int e, ← rw'.int e2]; rfl, h1.1, q _ _ h1.2 _ _ [] ⟨F, by simpa using r0⟩ (fun _ p hp => nomatch hp) (walk_rng _ _)⟩
/-- enumerate: pairs -/
def enumD (ds : List PyData) : List PyData := ds.mapIdx fun i d => .tuple [.int (i : Nat), d]
theorem enumD_len (ds : List PyData) : (enumD ds).length = ds.length := by unfold enumD; simp
theorem enumD_at {ds : List PyData} {i : Nat} {d : PyData} (h : (enumD ds)[i]? = some d) : ∃ e, ds[i]? = some e ∧ d = .tuple [.int (i : Nat), e] := by
  unfold enumD at h
  rw [List.getElem?_mapIdx] at h
  cases e : ds[i]? with
  | none => rw [e] at h; cases h
  | some x => rw [e] at h; exact ⟨x, rfl, (Option.some.inj h).symm⟩
theorem walk_enm {v : V} {sv : SV} {ds : List PyData} {a : Addr} (ev : v = .ref a) (e : sv.items? = some ds) : DWalk F0 H0 (Ite K a) (enumD ds) [(some v, some sv)] where
  goes i H F W hi r := by
    obtain ⟨a', vs, h1, h2, h3⟩ := r.last.items r.low e
    rw [ev] at h1; cases h1
    exact walk_enum.goes i H (by rw [h3.length, ← enumD_len]; exact hi) (SqL.of h2)
  stops H F W r := by
    obtain ⟨a', vs, h1, h2, h3⟩ := r.last.items r.low e
    rw [ev] at h1; cases h1
    rw [enumD_len, ← h3.length]
    exact walk_enum.stops H (SqL.of h2)
  yields i H x H' F W d hd r y := by
    obtain ⟨a', vs, h1, h2, h3⟩ := r.last.items r.low e
    rw [ev] at h1; cases h1
    obtain ⟨c, hc, rfl⟩ := enumD_at hd
    have hi : i < vs.length := by rw [h3.length]; exact (List.getElem?_eq_some_iff.mp hc).1
    obtain ⟨T, x1, x2, rfl, nT, rfl, e1, e2⟩ := walk_enum.yields i H x H' hi (SqL.of h2) y
    obtain ⟨w, h4, h5⟩ := h3.get hc
    have e2' : vs[i]? = some x2 := e2
    rw [h4] at e2'; cases e2'; cases e1
    exact ⟨_, r.pushT nT (.cons (.int _) (.cons h5 .nil))⟩
def dEnum (fa : DAX) : SD → (List PyData → Bool → Prop) → Prop := fun σ P => fa σ fun xs => match xs with
  | [x] => match x.items? with | some ds => P (enumD ds) (!x.isAli) | none => False
  | _ => False
instance {ta : TA} {fa : DAX} [ha : DA F0 H0 ta fa] : DI F0 H0 (iEnum K ta) (dEnum fa) where
  run Z T H P R := fun hr h q => ha.run Z T H _ _ hr h fun A h1 H1 ⟨F, r1⟩ => by
    match A, h1, r1 with
    | [(v, sv)], h1, r1 =>
      simp only [List.map_cons, List.map_nil] at h1
      cases e : sv.items? with
      | none => rw [e] at h1; exact h1.elim
      | some ds =>
        rw [e] at h1
        obtain ⟨r0, rv⟩ := one_tmp (v := v) (sv := sv) r1
        obtain ⟨a, vs, rfl, h2, h3⟩ := rv.items r1.low e
        exact ⟨a, vs, rfl, SqL.of h2, q _ _ h1 _ _ [(some (.ref a), some sv)] ⟨F, r1⟩ (fun z => noali_of z) (walk_enm rfl e)⟩
def zipD (ds es : List PyData) : List PyData := List.zipWith (fun d e => .tuple [d, e]) ds es
theorem zipD_len (ds es : List PyData) : (zipD ds es).length = min ds.length es.length := by unfold zipD; simp
theorem zipD_at {ds es : List PyData} {i : Nat} {d : PyData} (h : (zipD ds es)[i]? = some d) : ∃ x y, ds[i]? = some x ∧ es[i]? = some y ∧ d = .tuple [x, y] := by
  unfold zipD at h
  rw [List.getElem?_zipWith] at h
  cases e : ds[i]? with
  | none => rw [e] at h; cases h
  | some x =>
    cases e2 : es[i]? with
    | none => rw [e, e2] at h; cases h
    | some y => rw [e, e2] at h; exact ⟨x, y, rfl, rfl, (Option.some.inj h).symm⟩
theorem walk_zp {v w : V} {sv sw : SV} {ds es : List PyData} {a b : Addr} (ev : v = .ref a) (ew : w = .ref b) (e : sv.items? = some ds) (e2 : sw.items? = some es) : DWalk F0 H0 (Itz K a b) (zipD ds es) [(some v, some sv), (some w, some sw)] where
  goes i H F W hi r := by
    obtain ⟨_, rv, rw'⟩ := two r
    obtain ⟨a', vs, h1, h2, h3⟩ := rv.items r.low e
    obtain ⟨b', ws, k1, k2, k3⟩ := rw'.items r.low e2
    rw [ev] at h1; cases h1
    rw [ew] at k1; cases k1
    exact (walk_zip (xs := vs) (ys := ws) rfl).goes i H (by rw [h3.length, k3.length, ← zipD_len]; exact hi) ⟨SqL.of h2, SqL.of k2⟩
  stops H F W r := by
    obtain ⟨_, rv, rw'⟩ := two r
    obtain ⟨a', vs, h1, h2, h3⟩ := rv.items r.low e
    obtain ⟨b', ws, k1, k2, k3⟩ := rw'.items r.low e2
    rw [ev] at h1; cases h1
    rw [ew] at k1; cases k1
    rw [zipD_len, ← h3.length, ← k3.length]
    exact (walk_zip (xs := vs) (ys := ws) rfl).stops H ⟨SqL.of h2, SqL.of k2⟩
  yields i H x H' F W d hd r y := by
    obtain ⟨_, rv, rw'⟩ := two r
    obtain ⟨a', vs, h1, h2, h3⟩ := rv.items r.low e
    obtain ⟨b', ws, k1, k2, k3⟩ := rw'.items r.low e2
    rw [ev] at h1; cases h1
    rw [ew] at k1; cases k1
    obtain ⟨c, c', hc, hc', rfl⟩ := zipD_at hd
    have hi : i < min vs.length ws.length := by
      have := (List.getElem?_eq_some_iff.mp hc).1
      have := (List.getElem?_eq_some_iff.mp hc').1
      rw [h3.length, k3.length]; omega
    obtain ⟨T, x1, x2, rfl, nT, rfl, q1, q2⟩ := (walk_zip (xs := vs) (ys := ws) rfl).yields i H x H' hi ⟨SqL.of h2, SqL.of k2⟩ y
    obtain ⟨w, h4, h5⟩ := h3.get hc
    obtain ⟨w', h6, h7⟩ := k3.get hc'
    have q1' : vs[i]? = some x1 := q1
    have q2' : ws[i]? = some x2 := q2
    rw [h4] at q1'; cases q1'
    rw [h6] at q2'; cases q2'
    exact ⟨_, r.pushT nT (.cons h5 (.cons h7 .nil))⟩
def dZip (fa : DAX) : SD → (List PyData → Bool → Prop) → Prop := fun σ P => fa σ fun xs => match xs with
  | [x, y] => match x.items?, y.items? with | some ds, some es => P (zipD ds es) (!x.isAli && !y.isAli) | _, _ => False
  | _ => False
instance {ta : TA} {fa : DAX} [ha : DA F0 H0 ta fa] : DI F0 H0 (iZip K ta) (dZip fa) where
  run Z T H P R := fun hr h q => ha.run Z T H _ _ hr h fun A h1 H1 ⟨F, r1⟩ => by
    match A, h1, r1 with
    | [(v, sv), (w, sw)], h1, r1 =>
      simp only [List.map_cons, List.map_nil] at h1
      cases e : sv.items? with
      | none => rw [e] at h1; exact h1.elim
      | some ds =>
        cases e2 : sw.items? with
        | none => rw [e, e2] at h1; exact h1.elim
        | some es =>
          rw [e, e2] at h1
          have r1' : Rep F0 H0 F H1 ((Z ++ T) ++ [(some v, some sv), (some w, some sw)]) := by simpa [pr] using r1
          obtain ⟨r0, rv, rw'⟩ := two r1'
          obtain ⟨a, vs, rfl, h2, h3⟩ := rv.items r1.low e
          obtain ⟨b, ws, rfl, k2, k3⟩ := rw'.items r1.low e2
          refine ⟨a, b, vs, ws, rfl, SqL.of h2, SqL.of k2, q _ _ h1 _ _ [(some (.ref a), some sv), (some (.ref b), some sw)] ⟨F, r1⟩ (fun z p hp es' e' => ?_) (walk_zp rfl rfl e e2)⟩
          rw [Bool.and_eq_true] at z
          rcases List.mem_cons.mp hp with hp | hp
          · subst hp; cases e'; exact Bool.noConfusion z.1
          · rw [List.mem_singleton] at hp; subst hp; cases e'; exact Bool.noConfusion z.2
theorem walk_rv {v : V} {sv : SV} {ds : List PyData} {a : Addr} (ev : v = .ref a) (e : sv.items? = some ds) : DWalk F0 H0 (Itv K a ds.length) ds.reverse [(some v, some sv)] where
  goes i H F W hi r := by
    obtain ⟨a', vs, h1, h2, h3⟩ := r.last.items r.low e
    rw [ev] at h1; cases h1
    have := (walk_rev (K := K) (a := a) (xs := vs)).goes i H (by rw [h3.length]; simpa using hi) (SqL.of h2)
    rw [h3.length] at this
    exact this
  stops H F W r := by
    obtain ⟨a', vs, h1, h2, h3⟩ := r.last.items r.low e
    rw [ev] at h1; cases h1
    have := (walk_rev (K := K) (a := a) (xs := vs)).stops H (SqL.of h2)
    rw [h3.length] at this
    rw [List.length_reverse]
    exact this
  yields i H x H' F W d hd r y := by
    obtain ⟨a', vs, h1, h2, h3⟩ := r.last.items r.low e
    rw [ev] at h1; cases h1
    have hi : i < ds.length := by have := (List.getElem?_eq_some_iff.mp hd).1; simpa using this
    have := (walk_rev (K := K) (a := a) (xs := vs)).yields i H x H' (by rw [h3.length]; exact hi) (SqL.of h2) (by rw [h3.length]; exact y)
    obtain ⟨rfl, hx⟩ := this
    rw [List.getElem?_reverse hi, ← h3.length] at hd
    obtain ⟨w, h4, h5⟩ := h3.get hd
    rw [h4] at hx; cases hx
    exact ⟨F, r.pushV h5⟩
def dRev (fa : DAX) : SD → (List PyData → Bool → Prop) → Prop := fun σ P => fa σ fun xs => match xs with
  | [x] => match x.items? with | some ds => P ds.reverse (!x.isAli) | none => False
  | _ => False
instance {ta : TA} {fa : DAX} [ha : DA F0 H0 ta fa] : DI F0 H0 (iRev K ta) (dRev fa) where
  run Z T H P R := fun hr h q => ha.run Z T H _ _ hr h fun A h1 H1 ⟨F, r1⟩ => by
    match A, h1, r1 with
    | [(v, sv)], h1, r1 =>
      simp only [List.map_cons, List.map_nil] at h1
      cases e : sv.items? with
      | none => rw [e] at h1; exact h1.elim
      | some ds =>
        rw [e] at h1
        obtain ⟨r0, rv⟩ := one_tmp (v := v) (sv := sv) r1
        obtain ⟨a, vs, rfl, h2, h3⟩ := rv.items r1.low e
        refine ⟨a, vs, rfl, SqL.of h2, ?_⟩
        rw [h3.length]
        exact q _ _ h1 _ _ [(some (.ref a), some sv)] ⟨F, r1⟩ (fun z => noali_of z) (walk_rv rfl e)
end
end DL
/-! Reading by data: comprehensions. -/
namespace DL
open PySem PySem.Spec PyProof.Rows L2 NB
section
variable {F0 H0 F H : Hp} {K : PySem.W.Frag}
def alP (p : Option V × Option SV) : Option V × Option SV := (p.1, p.2.map SV.al)
def alD (σ : SD) : SD := σ.map (Option.map SV.al)
def wipeD (σ : SD) : List Nat → SD
  | [] => σ
  | v :: vs => (wipeD σ vs).set v none
def wipeZ (Z : Zt) : List Nat → Zt
  | [] => Z
  | v :: vs => (wipeZ Z vs).set v (none, none)
theorem wipeZ_fst (Z : Zt) : ∀ vs, (wipeZ Z vs).map Prod.fst = wipe (Z.map Prod.fst) vs
  | [] => rfl
  | v :: vs => by unfold wipeZ wipe; rw [map_set_fst, wipeZ_fst Z vs]
theorem wipeZ_snd (Z : Zt) : ∀ vs, (wipeZ Z vs).map Prod.snd = wipeD (Z.map Prod.snd) vs
  | [] => rfl
  | v :: vs => by unfold wipeZ wipeD; rw [map_set_snd, wipeZ_snd Z vs]
theorem wipeZ_mem {Z : Zt} {p} : ∀ {vs : List Nat}, p ∈ wipeZ Z vs → p ∈ Z ∨ p.2 = none
  | [], h => .inl h
  | v :: vs, h => by
    unfold wipeZ at h
    rcases List.mem_or_eq_of_mem_set h with z | z
    · exact wipeZ_mem z
    · subst z; exact .inr rfl
theorem alP_fst (Z : Zt) : (Z.map alP).map Prod.fst = Z.map Prod.fst := by rw [List.map_map]; rfl
theorem alP_snd (Z : Zt) : (Z.map alP).map Prod.snd = alD (Z.map Prod.snd) := by unfold alD; rw [List.map_map, List.map_map]; rfl
/-- the slots once more, for reading -/
theorem Rep.again {L G : Zt} (r : Rep F0 H0 F H L) (h : ∀ p ∈ G, (∃ q ∈ L, p = alP q) ∨ p.2 = none) : Rep F0 H0 F H (G ++ L) := by
  have noown : ∀ p ∈ G, ∀ es, p.2 ≠ some (.own es) := fun p hp es e => by
    rcases h p hp with ⟨q, _, rfl⟩ | z
    · obtain ⟨a, b⟩ := q
      cases b with
      | none => cases e
      | some sv => cases sv <;> cases e
    · rw [z] at e; cases e
  refine ⟨r.base, r.low, r.ent, r.apart, fun p hp => ?_, ?_⟩
  · rcases List.mem_append.mp hp with z | z
    · rcases h p z with ⟨q, hq, rfl⟩ | w
      · intro sv e
        obtain ⟨a, b⟩ := q
        cases b with
        | none => cases e
        | some sq =>
          cases e
          obtain ⟨v, e1, rv⟩ := r.ok _ hq _ rfl
          exact ⟨v, e1, rv.al⟩
      · intro sv e; rw [w] at e; cases e
    · exact r.ok p z
  · rw [List.pairwise_append]
    refine ⟨?_, r.dist, fun p hp q hq a es fs _ e _ _ => noown p hp es e⟩
    exact List.Pairwise.imp_of_mem (S := Apart) (fun {p q} hp hq _ a es fs _ e _ _ => noown p hp es e) (all_pw (R := fun _ _ => True) (fun _ _ => trivial) G)
instance : DT F0 H0 tYes (fun _ P => P true) where
  run Z T H P Q := fun hr h q => q _ h _ hr
/-- the list that is made -/
def pD (D : Addr) (acc : List PyData) : Option V × Option SV := (some (.ref D), some (.own acc))
def NaD (D : Addr) (L : Zt) : Prop := ∀ p ∈ L, ∀ es, p.2 = some (.ali es) → p.1 ≠ some (.ref D)
abbrev TB := L2.St → Hp → (Hp → Prop) → Prop
abbrev DB := SD → List PyData → (List PyData → Prop) → Prop
def BodyOk (F0 H0 : Hp) (D : Addr) (tb : TB) (fb : DB) : Prop := ∀ (Z T1 T2 : Zt) (H : Hp) (acc : List PyData) (k : List PyData → Prop) (Nx : Hp → Prop), (∃ F, Rep F0 H0 F H (Z ++ (T1 ++ pD D acc :: T2))) → NaD D Z → NaD D T1 → NaD D T2 → fb (Z.map Prod.snd) acc k →
  (∀ acc', k acc' → ∀ H', (∃ F, Rep F0 H0 F H' (T1 ++ pD D acc' :: T2)) → Nx H') → tb (Z.map Prod.fst) H Nx
def eltB (te : TE) (D : Addr) : TB := fun σ2 H3 Nx => te σ2 H3 fun y H4 => ∃ acc, H4 D = some (.lst acc) ∧ acc.length < sizeLine ∧ Nx (upd H4 D (.lst (acc ++ [y])))
def eltF (fe : DX) : DB := fun σ acc k => fe σ fun sv => match sv.fix? with | some e => acc.length < sizeLine ∧ k (acc ++ [e]) | none => False
theorem elt_body {te : TE} {fe : DX} [he : DE F0 H0 te fe] (D : Addr) : BodyOk F0 H0 D (eltB te D) (eltF fe) := fun Z T1 T2 H acc k Nx hr _ n1 n2 h q =>
  he.run Z _ H _ _ hr h fun sv h1 y H4 ⟨F, r⟩ => by
    cases e : sv.fix? with
    | none => rw [e] at h1; exact h1.elim
    | some d =>
      rw [e] at h1
      have r1 : Rep F0 H0 F H4 ((T1 ++ pD D acc :: T2) ++ [(some y, some sv)]) := r.sub (List.sublist_append_right _ _)
      obtain ⟨F', r2⟩ := r1.fixLast e
      obtain ⟨v, e1, a, vs, e2, f1, f0, hD, hv⟩ := r2.left.ok (pD D acc) (by simp) _ rfl
      cases e1; cases e2
      exact ⟨vs, hD, by rw [hv.length]; exact h1.1, q _ h1.2 _ ⟨F', r2.left.put (fun p hp es e => by
        rcases hp with z | z
        · exact n1 p z es e
        · exact n2 p z es e) (hv.app (.cons r2.last .nil))⟩⟩
/-- the turns of a comprehension -/
def lcG (g : DG1) (tt : DTX) (fb : DB) (σ0 : SD) (items : List PyData) (acc0 : List PyData) (k : List PyData → Prop) : Prop := ∃ I : Nat → List PyData → Prop, I 0 acc0 ∧
  (∀ i d acc, items[i]? = some d → I i acc → g d σ0 fun σ2 => tt σ2 fun b => Br b (fb σ2 acc (I (i + 1))) (I (i + 1) acc)) ∧ ∀ acc, I items.length acc → k acc
theorem lc_loop {D : Addr} {g : TG} {tt : TT} {tb : TB} {fg : DG1} {ix : List Nat} {ft : DTX} {fb : DB} [hg : DGt F0 H0 g fg ix] [ht : DT F0 H0 tt ft] (hb : BodyOk F0 H0 D tb fb) {J : It} {items : List PyData} {A : Zt} (w : DWalk F0 H0 J items A)
    {Z T1 T3 : Zt} {vs : List Nat} {acc0 : List PyData} {k : List PyData → Prop} {H : Hp} {Nd : Hp → Prop} (hix : ∀ i ∈ ix, i ∈ vs) (hr : ∃ F, Rep F0 H0 F H ((Z ++ T1) ++ pD D acc0 :: (T3 ++ A))) (n1 : NaD D (Z ++ T1)) (n2 : NaD D (T3 ++ A))
    (h : lcG fg ft fb (wipeD (alD (Z.map Prod.snd)) vs) items acc0 k) (hd : ∀ acc, k acc → ∀ H', (∃ F, Rep F0 H0 F H' ((Z ++ T1) ++ pD D acc :: (T3 ++ A))) → Nd H') :
    ∃ W : Nat → Nat → Hp → Prop, (∃ m, W 0 m H) ∧ ∀ i m H, W i m H → (J.stop i H ∧ Nd H) ∨ (J.go i H ∧ ∃ Nx : Hp → Prop, (∀ H', Nx H' → ∃ m', m' < m ∧ W (i + 1) m' H') ∧ ∀ x H', J.yld i H x H' →
      g x (wipe (Z.map Prod.fst) vs) H' fun σ2 H2 => wipe σ2 vs = wipe (Z.map Prod.fst) vs ∧ tt σ2 H2 fun b H3 => if b = true then tb σ2 H3 Nx else Nx H3) := by
  obtain ⟨I, h0, hs, hk⟩ := h
  refine ⟨fun i m H => m = items.length - i ∧ i ≤ items.length ∧ ∃ acc, I i acc ∧ ∃ F, Rep F0 H0 F H ((Z ++ T1) ++ pD D acc :: (T3 ++ A)), ⟨items.length, by simp, Nat.zero_le _, acc0, h0, hr⟩, ?_⟩
  rintro i m H ⟨rfl, hi, acc, hI, F, r⟩
  have r' : Rep F0 H0 F H (((Z ++ T1) ++ pD D acc :: T3) ++ A) := by simpa using r
  by_cases hlt : i < items.length
  · refine .inr ⟨w.goes i H F _ hlt r', fun H' => ∃ acc, I (i + 1) acc ∧ ∃ F, Rep F0 H0 F H' ((Z ++ T1) ++ pD D acc :: (T3 ++ A)), fun H' hn => ⟨items.length - (i + 1), by omega, rfl, hlt, hn⟩, fun x H' y => ?_⟩
    have hd' : items[i]? = some items[i] := List.getElem?_eq_getElem hlt
    obtain ⟨F', r2⟩ := w.yields i H x H' F _ _ hd' r' y
    generalize items[i] = d at hd' r2
    have turn := hs i d acc hd' hI
    let L : Zt := (Z ++ T1) ++ pD D acc :: (T3 ++ A ++ [(some x, some (.val d))])
    have rL : Rep F0 H0 F' H' L := by
      have e : (((Z ++ T1) ++ pD D acc :: T3) ++ A) ++ [(some x, some (SV.val d))] = L := by simp [L]
      rw [← e]; exact r2
    have rG : Rep F0 H0 F' H' (wipeZ (Z.map alP) vs ++ L) := rL.again fun p hp => by
      rcases wipeZ_mem hp with z | z
      · obtain ⟨q, hq, rfl⟩ := List.mem_map.mp z
        exact .inl ⟨q, by simp [L, hq], rfl⟩
      · exact .inr z
    have e1 : (wipeZ (Z.map alP) vs).map Prod.fst = wipe (Z.map Prod.fst) vs := by rw [wipeZ_fst, alP_fst]
    have e2 : (wipeZ (Z.map alP) vs).map Prod.snd = wipeD (alD (Z.map Prod.snd)) vs := by rw [wipeZ_snd, alP_snd]
    rw [← e2] at turn
    have sub1 : ∀ {acc' : List PyData}, ((Z ++ T1) ++ pD D acc' :: (T3 ++ A)).Sublist ((Z ++ T1) ++ pD D acc' :: (T3 ++ A ++ [(some x, some (.val d))])) := fun {acc'} => List.Sublist.append_left (List.Sublist.cons₂ _ (List.sublist_append_left _ _)) _
    have := hg.run (wipeZ (Z.map alP) vs) L H' F' x d _ (fun σ2 H2 => wipe σ2 vs = wipe (Z.map Prod.fst) vs ∧ tt σ2 H2 fun b H3 => if b = true then tb σ2 H3 (fun H' => ∃ acc, I (i + 1) acc ∧ ∃ F, Rep F0 H0 F H' ((Z ++ T1) ++ pD D acc :: (T3 ++ A))) else ∃ acc, I (i + 1) acc ∧ ∃ F, Rep F0 H0 F H3 ((Z ++ T1) ++ pD D acc :: (T3 ++ A))) rG (Rep.last r2) turn fun Z' p1 s1 => by
      refine ⟨by rw [s1.wip vs hix, e1, wipe_twice], ht.run Z' L H' _ _ ⟨F', s1.rep⟩ p1 fun b p2 H3 r3 => ?_⟩
      cases b with
      | true =>
        rw [if_pos rfl]
        have p2' : fb (Z'.map Prod.snd) acc (I (i + 1)) := p2.t
        refine hb Z' (Z ++ T1) (T3 ++ A ++ [(some x, some (.val d))]) H3 acc _ _ r3 (fun p hp es e z => ?_) n1 (fun p hp es e => ?_) p2' fun acc' ha H4 ⟨F4, r4⟩ => ⟨acc', ha, F4, r4.sub sub1⟩
        · rcases s1.mem p hp with m | ⟨d', m⟩
          · rcases wipeZ_mem m with m | m
            · obtain ⟨⟨a, b⟩, hq, rfl⟩ := List.mem_map.mp m
              cases b with
              | none => cases e
              | some sv =>
                cases sv with
                | val _ => cases e
                | raw _ => cases e
                | ent _ => cases e
                | ali es' => exact n1 _ (List.mem_append_left _ hq) es' rfl z
                | own es' =>
                  have dd := r.dist
                  rw [List.pairwise_append] at dd
                  exact dd.2.2 _ (List.mem_append_left _ hq) _ List.mem_cons_self D es' acc z rfl rfl rfl
            · rw [m] at e; cases e
          · rw [m] at e; cases e
        · rcases List.mem_append.mp hp with z | z
          · exact n2 p z es e
          · rw [List.mem_singleton] at z; subst z; cases e
      | false =>
        rw [if_neg Bool.false_ne_true]
        obtain ⟨F3, r3⟩ := r3
        exact ⟨acc, p2.f, F3, r3.sub (sub1.trans (List.sublist_append_right _ _))⟩
    rw [e1] at this
    exact this
  · have e : i = items.length := by omega
    subst e
    exact .inl ⟨w.stops H F _ r', hd acc (hk acc hI) H ⟨F, r⟩⟩
theorem naD_new {L : Zt} {D : Addr} (r : Rep F0 H0 F H L) (n : H D = none) : NaD D L := fun p hp es e z => by
  obtain ⟨v, e1, a, vs, e2, h1, _⟩ := r.ok p hp _ e
  rw [z] at e1; cases e1; cases e2
  rw [n] at h1; cases h1
def ixIn (ix vs : List Nat) : Prop := (ix.all fun i => vs.contains i) = true
theorem ixIn.mem {ix vs : List Nat} (h : ixIn ix vs) : ∀ i ∈ ix, i ∈ vs := fun i hi => by
  have := List.all_eq_true.mp h i hi
  simpa using this
def dLc (fi : SD → (List PyData → Bool → Prop) → Prop) (fg : DG1) (ix : List Nat) (ft : DTX) (fe : DX) (vs : List Nat) : DX := fun σ P => fi σ fun items _ => ixIn ix vs ∧ lcG fg ft (eltF fe) (wipeD (alD σ) vs) items [] fun acc => P (.own acc)
instance {wi : TI} {g : TG} {tt : TT} {te : TE} {vs : List Nat} {fi fg ix ft fe} [hi : DI F0 H0 wi fi] [hg : DGt F0 H0 g fg ix] [ht : DT F0 H0 tt ft] [he : DE F0 H0 te fe] : DE F0 H0 (tLc wi g tt te vs) (dLc fi fg ix ft fe vs) where
  run Z T H P Q := fun hr h q => hi.run Z T H _ _ hr h fun items b h1 J H1 A ⟨F, r1⟩ _ w => fun D nD => by
    have r2 : Rep F0 H0 F H1 (Z ++ T ++ A) := by rw [List.append_assoc]; exact r1
    have r3 : Rep F0 H0 F (upd H1 D (.lst [])) ((Z ++ T) ++ pD D [] :: ([] ++ A)) := by
      have := r2.pushL nD .nil
      refine this.perm ?_
      have e : (Z ++ T ++ A) ++ [(some (V.ref D), some (SV.own []))] = (Z ++ T) ++ (A ++ [pD D []]) := by simp [pD]
      rw [e, List.nil_append]
      exact List.Perm.append_left _ (List.perm_append_singleton _ _)
    have n := naD_new r2 nD
    exact lc_loop (elt_body D) w (ixIn.mem h1.1) ⟨F, r3⟩ (fun p hp => n p (List.mem_append_left _ hp)) (fun p hp => n p (List.mem_append_right _ hp)) h1.2 fun acc ha H' ⟨F', r'⟩ => q _ ha _ _ ⟨F', by
      have : Rep F0 H0 F' H' ((Z ++ T) ++ [pD D acc]) := r'.sub (List.Sublist.append_left (List.Sublist.cons₂ _ (List.nil_sublist _)) _)
      rw [← List.append_assoc]; exact this⟩
/-- the inner clause -/
def inF (fi : SD → (List PyData → Bool → Prop) → Prop) (fg : DG1) (ix : List Nat) (ft : DTX) (fb : DB) (vs : List Nat) : DB := fun σ acc k => fi σ fun items b => b = true ∧ ixIn ix vs ∧ lcG fg ft fb (wipeD (alD σ) vs) items acc k
def inB (wi1 : TI) (g1 : TG) (tt1 : TT) (tb : TB) (vs1 : List Nat) : TB := fun σ2 H3 Nx => wi1 σ2 H3 fun J1 H4 => ∃ W1 : Nat → Nat → Hp → Prop, (∃ m, W1 0 m H4) ∧ ∀ j k H, W1 j k H →
      (J1.stop j H ∧ Nx H) ∨ (J1.go j H ∧ ∃ Nx1 : Hp → Prop, (∀ H', Nx1 H' → ∃ k', k' < k ∧ W1 (j + 1) k' H') ∧ ∀ x H', J1.yld j H x H' → g1 x (wipe σ2 vs1) H' fun σ3 H5 => wipe σ3 vs1 = wipe σ2 vs1 ∧ tt1 σ3 H5 fun b H6 => if b = true then tb σ3 H6 Nx1 else Nx1 H6)
theorem in_body {wi : TI} {g : TG} {tt : TT} {tb : TB} {vs : List Nat} {fi fg ix ft fb} [hi : DI F0 H0 wi fi] [hg : DGt F0 H0 g fg ix] [ht : DT F0 H0 tt ft] {D : Addr} (hb : BodyOk F0 H0 D tb fb) : BodyOk F0 H0 D (inB wi g tt tb vs) (inF fi fg ix ft fb vs) := fun Z T1 T2 H acc k Nx hr n0 n1 n2 h q =>
  hi.run Z (T1 ++ pD D acc :: T2) H _ _ hr h fun items b h1 J H1 A ⟨F, r1⟩ nb w => by
    have r2 : Rep F0 H0 F H1 ((Z ++ T1) ++ pD D acc :: (T2 ++ A)) := by simpa using r1
    exact lc_loop hb w (ixIn.mem h1.2.1) ⟨F, r2⟩ (fun p hp => by rcases List.mem_append.mp hp with z | z; exact n0 p z; exact n1 p z) (fun p hp es e => by rcases List.mem_append.mp hp with z | z; exact n2 p z es e; exact absurd e (nb h1.1 p z es)) h1.2.2 fun acc' ha H' ⟨F', r'⟩ => q _ ha _ ⟨F', r'.sub (by
      have e : (Z ++ T1) ++ pD D acc' :: (T2 ++ A) = Z ++ ((T1 ++ pD D acc' :: T2) ++ A) := by simp
      rw [e]
      exact (List.sublist_append_left _ _).trans (List.sublist_append_right _ _))⟩
def dLc2 (fi : SD → (List PyData → Bool → Prop) → Prop) (fg : DG1) (ix : List Nat) (ft : DTX) (fb : DB) (vs : List Nat) : DX := fun σ P => fi σ fun items _ => ixIn ix vs ∧ lcG fg ft fb (wipeD (alD σ) vs) items [] fun acc => P (.own acc)
instance {wi wi1 : TI} {g g1 : TG} {tt tt1 : TT} {te : TE} {vs vs1 : List Nat} {fi fg ix ft fi1 fg1 ix1 ft1 fe} [hi : DI F0 H0 wi fi] [hg : DGt F0 H0 g fg ix] [ht : DT F0 H0 tt ft] [hi1 : DI F0 H0 wi1 fi1] [hg1 : DGt F0 H0 g1 fg1 ix1] [ht1 : DT F0 H0 tt1 ft1] [he : DE F0 H0 te fe] :
    DE F0 H0 (tLc2 wi g tt wi1 g1 tt1 te vs vs1) (dLc2 fi fg ix ft (inF fi1 fg1 ix1 ft1 (eltF fe) vs1) vs) where
  run Z T H P Q := fun hr h q => hi.run Z T H _ _ hr h fun items b h1 J H1 A ⟨F, r1⟩ _ w => fun D nD => by
    have r2 : Rep F0 H0 F H1 (Z ++ T ++ A) := by rw [List.append_assoc]; exact r1
    have r3 : Rep F0 H0 F (upd H1 D (.lst [])) ((Z ++ T) ++ pD D [] :: ([] ++ A)) := by
      have := r2.pushL nD .nil
      refine this.perm ?_
      have e : (Z ++ T ++ A) ++ [(some (V.ref D), some (SV.own []))] = (Z ++ T) ++ (A ++ [pD D []]) := by simp [pD]
      rw [e, List.nil_append]
      exact List.Perm.append_left _ (List.perm_append_singleton _ _)
    have n := naD_new r2 nD
    exact lc_loop (in_body (elt_body D)) w (ixIn.mem h1.1) ⟨F, r3⟩ (fun p hp => n p (List.mem_append_left _ hp)) (fun p hp => n p (List.mem_append_right _ hp)) h1.2 fun acc ha H' ⟨F', r'⟩ => q _ ha _ _ ⟨F', by
      have : Rep F0 H0 F' H' ((Z ++ T) ++ [pD D acc]) := r'.sub (List.Sublist.append_left (List.Sublist.cons₂ _ (List.nil_sublist _)) _)
      rw [← List.append_assoc]; exact this⟩
end
end DL
/-! Reading by data: statements, defs. -/
namespace DL
open PySem PySem.Spec PyProof.Rows L2 NB
structure DEnds where
  nx : SD → Prop
  rt : SV → Prop
  bk : SD → Prop := fun _ => False
  ct : SD → Prop := fun _ => False
abbrev DSX := DEnds → SD → Prop
def RepS (F0 H0 H : Hp) (W : Zt) : Prop := (∃ F, Rep F0 H0 F H W) ∧ ∀ p ∈ W, NoAli p
structure Low (F0 H0 : Hp) (T : Zt) (E : DEnds) (D : Ends) : Prop where
  nx : ∀ Z H, RepS F0 H0 H (Z ++ T) → E.nx (Z.map Prod.snd) → D.nx (Z.map Prod.fst) H
  bk : ∀ Z H, RepS F0 H0 H (Z ++ T) → E.bk (Z.map Prod.snd) → D.bk (Z.map Prod.fst) H
  ct : ∀ Z H, RepS F0 H0 H (Z ++ T) → E.ct (Z.map Prod.snd) → D.ct (Z.map Prod.fst) H
  rt : ∀ sv v H, E.rt sv → (∃ F, Rep F0 H0 F H [(some v, some sv)]) → D.rt v H
class DS (F0 H0 : Hp) (t : TS) (g : outParam DSX) : Prop where
  run : ∀ (Z T : Zt) (H : Hp) (E : DEnds) (D : Ends), RepS F0 H0 H (Z ++ T) → g E (Z.map Prod.snd) → Low F0 H0 T E D → t D (Z.map Prod.fst) H
section
variable {F0 H0 F H : Hp} {K : PySem.W.Frag}
theorem Low.nx' {T : Zt} {E : DEnds} {D : Ends} (l : Low F0 H0 T E D) (f : L2.St → Hp → Prop) (p : SD → Prop) (h : ∀ Z H, RepS F0 H0 H (Z ++ T) → p (Z.map Prod.snd) → f (Z.map Prod.fst) H) : Low F0 H0 T { E with nx := p } { D with nx := f } := ⟨h, l.bk, l.ct, l.rt⟩
instance : DS F0 H0 tNext (fun E σ => E.nx σ) where
  run Z T H E D r h l := l.nx Z H r h
instance : DS F0 H0 tBreak (fun E σ => E.bk σ) where
  run Z T H E D r h l := l.bk Z H r h
instance : DS F0 H0 tCont (fun E σ => E.ct σ) where
  run Z T H E D r h l := l.ct Z H r h
def dSeq (g1 g2 : DSX) : DSX := fun E σ => g1 { E with nx := g2 E } σ
instance {t u : TS} {g1 g2 : DSX} [h1 : DS F0 H0 t g1] [h2 : DS F0 H0 u g2] : DS F0 H0 (tSeq t u) (dSeq g1 g2) where
  run Z T H E D r h l := h1.run Z T H _ _ r h (l.nx' _ _ fun Z' H' r' h' => h2.run Z' T H' E D r' h' l)
def dCut (g1 g2 : DSX) : DSX := fun E σ => ∃ M : SD → Prop, g1 { E with nx := M } σ ∧ ∀ σ', M σ' → g2 E σ'
instance {t u : TS} {g1 g2 : DSX} [h1 : DS F0 H0 t g1] [h2 : DS F0 H0 u g2] : DS F0 H0 (C8.tCut t u) (dCut g1 g2) where
  run Z T H E D r h l := by
    obtain ⟨M, h, k⟩ := h
    refine ⟨fun σ' H' => ∃ Z', Z'.map Prod.fst = σ' ∧ RepS F0 H0 H' (Z' ++ T) ∧ M (Z'.map Prod.snd), h1.run Z T H _ _ r h (l.nx' _ _ fun Z' H' r' h' => ⟨Z', rfl, r', h'⟩), ?_⟩
    rintro σ' H' ⟨Z', rfl, r', h'⟩
    exact h2.run Z' T H' E D r' (k _ h') l
def dIfS (fc : DTX) (g1 g2 : DSX) : DSX := fun E σ => fc σ fun b => Br b (g1 E σ) (g2 E σ)
theorem noali_left {A B : Zt} (h : ∀ p ∈ A ++ B, NoAli p) : ∀ p ∈ A, NoAli p := fun p hp => h p (List.mem_append_left _ hp)
theorem noali_right {A B : Zt} (h : ∀ p ∈ A ++ B, NoAli p) : ∀ p ∈ B, NoAli p := fun p hp => h p (List.mem_append_right _ hp)
instance {c : TT} {t u : TS} {fc : DTX} {g1 g2 : DSX} [hc : DT F0 H0 c fc] [h1 : DS F0 H0 t g1] [h2 : DS F0 H0 u g2] : DS F0 H0 (tIfS c t u) (dIfS fc g1 g2) where
  run Z T H E D r h l := hc.run Z T H _ _ r.1 h fun b hb H1 r1 => by
    cases b with
    | true => exact iteT (h1.run Z T H1 E D ⟨r1, r.2⟩ hb.t l)
    | false => exact iteF (h2.run Z T H1 E D ⟨r1, r.2⟩ hb.f l)
/-- x = e -/
def dSet (i : Nat) (f : DX) : DSX := fun E σ => f σ fun sv => match sv with
  | .own ds => E.nx (σ.set i (some (.own ds))) ∨ E.nx (σ.set i (some (.val (.list ds))))
  | .ali _ => False
  | .ent _ => False
  | sv => E.nx (σ.set i (some sv))
theorem store_S {Z T : Zt} {v : V} {sv : SV} {i : Nat} (r : ∃ F, Rep F0 H0 F H (Z ++ (T ++ [(some v, some sv)]))) (n : ∀ p ∈ Z ++ T, NoAli p) (ns : ∀ es, sv ≠ .ali es) : RepS F0 H0 H (Z.set i (some v, some sv) ++ T) := by
  obtain ⟨F, r⟩ := r
  refine ⟨⟨F, r.store⟩, fun p hp => ?_⟩
  rcases List.mem_append.mp hp with z | z
  · rcases List.mem_or_eq_of_mem_set z with z | z
    · exact n p (List.mem_append_left _ z)
    · subst z; exact fun es e => ns es (Option.some.inj e)
  · exact n p (List.mem_append_right _ z)
theorem low_set {Z T : Zt} {E : DEnds} {D : Ends} {i : Nat} {v : V} {sv : SV} (l : Low F0 H0 T E D) (r : RepS F0 H0 H (Z.set i (some v, some sv) ++ T)) (h : E.nx ((Z.map Prod.snd).set i (some sv))) : D.nx ((Z.map Prod.fst).set i (some v)) H := by
  have := l.nx _ _ r (by rw [map_set_snd]; exact h)
  rw [map_set_fst] at this
  exact this
instance {te : TE} {f : DX} {i : Nat} [he : DE F0 H0 te f] : DS F0 H0 (tAsg te (gName i)) (dSet i f) where
  run Z T H E D r h l := he.run Z T H _ _ r.1 h fun sv hs v H' r' => by
    show D.nx ((Z.map Prod.fst).set i (some v)) H'
    cases sv with
    | val d => exact low_set l (store_S r' r.2 (by intro _ e; cases e)) hs
    | raw u => exact low_set l (store_S r' r.2 (by intro _ e; cases e)) hs
    | ent u => exact hs.elim
    | ali ds => exact hs.elim
    | own ds =>
      rcases hs with hs | hs
      · exact low_set l (store_S r' r.2 (by intro _ e; cases e)) hs
      · obtain ⟨F', r'⟩ := r'
        rw [← List.append_assoc] at r'
        obtain ⟨F2, r2⟩ := r'.freeze
        exact low_set l (store_S ⟨F2, by rw [← List.append_assoc]; exact r2⟩ r.2 (by intro _ e; cases e)) hs
/-- a, b = e -/
def dUnp (g : DG1) (f : DX) : DSX := fun E σ => f σ fun sv => match sv with | .val d => g d σ E.nx | _ => False
instance {te : TE} {f : DX} {n : Nat} {t : TGs} {g : DG1} {ix} [he : DE F0 H0 te f] [hg : DGt F0 H0 (gTup K n t) g ix] : DS F0 H0 (tAsg te (gTup K n t)) (dUnp g f) where
  run Z T H E D r h l := he.run Z T H _ _ r.1 h fun sv hs v H' ⟨F, r'⟩ => by
    cases sv with
    | own _ => exact hs.elim
    | ali _ => exact hs.elim
    | raw _ => exact hs.elim
    | ent _ => exact hs.elim
    | val d =>
      obtain ⟨r0, rv⟩ := one_tmp r'
      exact hg.run Z T H' F v d _ _ r0 rv hs fun Z' p' s' => l.nx Z' H' ⟨⟨F, s'.rep⟩, fun p hp => by
        rcases List.mem_append.mp hp with z | z
        · rcases s'.mem p z with z | ⟨d', z⟩
          · exact r.2 p (List.mem_append_left _ z)
          · exact fun es e => by rw [z] at e; cases e
        · exact r.2 p (List.mem_append_right _ z)⟩ p'
/-- x[k] = e, x an own list -/
def dPut (i : Nat) (fk fe : DX) : DSX := fun E σ => fe σ fun sv => match sv.fix?, σ[i]? with
  | some e, some (some (.own ds)) => fk σ fun sk => match sk.int? with
    | some k => ∃ j, ixN ds.length k = some j ∧ E.nx (σ.set i (some (.own (ds.set j e))))
    | none => False
  | _, _ => False
theorem own_put {Z T : Zt} {i : Nat} {ds es : List PyData} {vs : List V} {a : Addr} (r : Rep F0 H0 F H (Z ++ T)) (n : ∀ p ∈ Z ++ T, NoAli p) (h : Z[i]? = some (some (.ref a), some (.own ds))) (hv : DvAll F vs es) : RepS F0 H0 (upd H a (.lst vs)) (Z.set i (some (.ref a), some (.own es)) ++ T) := by
  have hi : i < Z.length := (List.getElem?_eq_some_iff.mp h).1
  obtain ⟨A, z, B, h1, h2, h3⟩ := cut_at Z i hi
  have hz : z = (some (.ref a), some (.own ds)) := by
    rw [h1, List.getElem?_append_right (by omega), h2, Nat.sub_self] at h
    exact Option.some.inj h
  subst hz
  rw [h3]
  rw [h1] at r n
  have r1 : Rep F0 H0 F H (A ++ (some (.ref a), some (.own ds)) :: (B ++ T)) := by simpa using r
  have nn : ∀ p, p ∈ A ∨ p ∈ B ++ T → NoAli p := fun p hp => n p (by
    rcases hp with z | z
    · simp [z]
    · rcases List.mem_append.mp z with z | z <;> simp [z])
  have r2 := r1.put (fun p hp es e => absurd e (nn p hp es)) hv
  refine ⟨⟨F, by simpa using r2⟩, fun p hp => ?_⟩
  have hp' : p ∈ A ++ (some (.ref a), some (.own es)) :: (B ++ T) := by simpa using hp
  rcases List.mem_append.mp hp' with z | z
  · exact nn p (.inl z)
  · rcases List.mem_cons.mp z with z | z
    · subst z; exact fun es e => nomatch e
    · exact nn p (.inr z)
theorem own_slot {Z T : Zt} {i : Nat} {ds : List PyData} (r : Rep F0 H0 F H (Z ++ T)) (h : (Z.map Prod.snd)[i]? = some (some (.own ds))) : ∃ a vs, Z[i]? = some (some (.ref a), some (.own ds)) ∧ (Z.map Prod.fst)[i]? = some (some (.ref a)) ∧ H a = some (.lst vs) ∧ DvAll F vs ds := by
  obtain ⟨v, h1, h2, a, vs, rfl, _, _, h3, h4⟩ := slot_val r h
  exact ⟨a, vs, h1, h2, h3, h4⟩
instance {te tk : TE} {fe fk : DX} {i : Nat} [he : DE F0 H0 te fe] [hk : DE F0 H0 tk fk] : DS F0 H0 (tAsg te (gSub (tVar i) tk rSetL)) (dPut i fk fe) where
  run Z T H E D r h l := he.run Z T H _ _ r.1 h fun sv hs v H1 ⟨F1, r1⟩ => by
    cases e : sv.fix? with
    | none => rw [e] at hs; exact hs.elim
    | some d =>
      rw [e] at hs
      rw [← List.append_assoc] at r1
      obtain ⟨F2, r2⟩ := r1.fixLast e
      cases e3 : (Z.map Prod.snd)[i]? with
      | none => rw [e3] at hs; exact hs.elim
      | some o =>
        match o, e3 with
        | none, e3 => rw [e3] at hs; exact hs.elim
        | some (.val _), e3 => rw [e3] at hs; exact hs.elim
        | some (.ali _), e3 => rw [e3] at hs; exact hs.elim
        | some (.raw _), e3 => rw [e3] at hs; exact hs.elim
        | some (.ent _), e3 => rw [e3] at hs; exact hs.elim
        | some (.own ds), e3 =>
          rw [e3] at hs
          obtain ⟨a, vs, z1, z2, _, _⟩ := own_slot r2.left e3
          have hs' : fk (Z.map Prod.snd) fun sk => match sk.int? with
            | some k => ∃ j, ixN ds.length k = some j ∧ E.nx ((Z.map Prod.snd).set i (some (.own (ds.set j d))))
            | none => False := hs
          refine ⟨.ref a, z2, hk.run Z (T ++ [(some v, some (.val d))]) H1 _ _ ⟨F2, by rw [← List.append_assoc]; exact r2⟩ hs' fun sk hk' w H3 ⟨F3, r3⟩ => ?_⟩
          cases e4 : sk.int? with
          | none => rw [e4] at hk'; exact hk'.elim
          | some k =>
            rw [e4] at hk'
            obtain ⟨j, hj, hn⟩ := hk'
            have r4 : Rep F0 H0 F3 H3 ((Z ++ T ++ [(some v, some (.val d))]) ++ [(some w, some sk)]) := by simpa using r3
            have rv := r4.left.last
            have rw' := r4.last.int e4
            obtain ⟨a', vs3, z3, z4, z5, z6⟩ := own_slot r4.left.left e3
            rw [z1] at z3; cases z3
            refine ⟨a, vs3, k, j, rfl, rw', z5, by rw [z6.length]; exact hj, ?_⟩
            have r5 := own_put r4.left.left r.2 z1 (z6.set (show Dv F3 v d from rv) j)
            have := l.nx _ _ r5 (by rw [map_set_snd]; exact hn)
            rw [map_set_fst] at this
            have e5 : (Z.map Prod.fst).set i (some (V.ref a)) = Z.map Prod.fst := by
              refine List.ext_getElem? fun n => ?_
              rw [List.getElem?_set]
              by_cases hin : i = n
              · subst hin
                rw [if_pos rfl, if_pos (List.getElem?_eq_some_iff.mp z2).1]; exact z2.symm
              · rw [if_neg hin]
            rw [e5] at this
            exact this
theorem set_self {Z : Zt} {i : Nat} {x : Option V} (h : (Z.map Prod.fst)[i]? = some x) : (Z.map Prod.fst).set i x = Z.map Prod.fst := by
  refine List.ext_getElem? fun n => ?_
  rw [List.getElem?_set]
  by_cases hin : i = n
  · subst hin
    rw [if_pos rfl, if_pos (List.getElem?_eq_some_iff.mp h).1]; exact h.symm
  · rw [if_neg hin]
/-- x += e -/
def dAug (i : Nat) (o : SV → SV → (SV → Prop) → Prop) (f : DX) : DSX := fun E σ => match σ[i]? with
  | some (some (.val d)) => f σ fun sy => o (.val d) sy fun sv => match sv with
    | .val e => E.nx (σ.set i (some (.val e)))
    | _ => False
  | _ => False
instance {te : TE} {f : DX} {i : Nat} {r : R2} {o} [he : DE F0 H0 te f] [ho : OpD F0 H0 r o] : DS F0 H0 (tAug i te r) (dAug i o f) where
  run Z T H E D r h l := by
    unfold dAug at h
    cases e3 : (Z.map Prod.snd)[i]? with
    | none => rw [e3] at h; exact h.elim
    | some ov =>
      match ov, e3 with
      | none, e3 => rw [e3] at h; exact h.elim
      | some (.own _), e3 => rw [e3] at h; exact h.elim
      | some (.ali _), e3 => rw [e3] at h; exact h.elim
      | some (.raw _), e3 => rw [e3] at h; exact h.elim
      | some (.ent _), e3 => rw [e3] at h; exact h.elim
      | some (.val d), e3 =>
        rw [e3] at h
        obtain ⟨F, r0⟩ := r.1
        obtain ⟨v, z1, z2, rv⟩ := slot_val r0 e3
        have h' : f (Z.map Prod.snd) fun sy => o (.val d) sy fun sv => match sv with
          | .val e => E.nx ((Z.map Prod.snd).set i (some (.val e)))
          | _ => False := h
        refine ⟨v, z2, he.run Z T H _ _ ⟨F, r0⟩ h' fun sy hy y H1 ⟨F1, r1⟩ => ?_⟩
        obtain ⟨r1', ry⟩ := one_tmp r1
        obtain ⟨v', z3, _, rv'⟩ := slot_val r1' e3
        rw [z1] at z3; cases z3
        have r2 : Rep F0 H0 F1 H1 ((Z ++ T) ++ [(some v, some (.val d)), (some y, some sy)]) := by
          have q1 : Rep F0 H0 F1 H1 ((Z ++ T) ++ [(some y, some sy)]) := by rw [List.append_assoc]; exact r1
          have q2 := q1.pushV (v := v) (d := d) rv'
          refine q2.perm ?_
          have e : ((Z ++ T) ++ [(some y, some sy)]) ++ [(some v, some (SV.val d))] = (Z ++ T) ++ [(some y, some sy), (some v, some (SV.val d))] := by simp
          rw [e]
          exact List.Perm.append_left _ (List.Perm.swap _ _ _)
        refine ho.run (Z ++ T) v y (.val d) sy H1 _ _ ⟨F1, r2⟩ hy fun sv hs w H2 ⟨F2, r3⟩ => ?_
        cases sv with
        | own _ => exact hs.elim
        | ali _ => exact hs.elim
        | raw _ => exact hs.elim
        | ent _ => exact hs.elim
        | val e => exact low_set l (store_S ⟨F2, by rw [← List.append_assoc]; exact r3⟩ r.2 (by intro _ e; cases e)) hs
/-- an expression alone -/
def dDrop (f : DX) : DSX := fun E σ => f σ fun _ => E.nx σ
instance (priority := low) {te : TE} {f : DX} [he : DE F0 H0 te f] : DS F0 H0 (tDrop te) (dDrop f) where
  run Z T H E D r h l := he.run Z T H _ _ r.1 h fun sv hs v H' ⟨F, r'⟩ => l.nx Z H' ⟨⟨F, (one_tmp r').1⟩, r.2⟩ hs
/-- x.append(e), x an own list -/
def dApp (i : Nat) (f : DX) : DSX := fun E σ => match σ[i]? with
  | some (some (.own ds)) => f σ fun sv => match sv.fix? with
    | some e => ds.length < sizeLine ∧ E.nx (σ.set i (some (.own (ds ++ [e]))))
    | none => False
  | _ => False
instance {te : TE} {f : DX} {i : Nat} [he : DE F0 H0 te f] : DS F0 H0 (tDrop (tBM K "list" rAppend (tVar i) (tCons te tNil))) (dApp i f) where
  run Z T H E D r h l := by
    unfold dApp at h
    cases e3 : (Z.map Prod.snd)[i]? with
    | none => rw [e3] at h; exact h.elim
    | some ov =>
      match ov, e3 with
      | none, e3 => rw [e3] at h; exact h.elim
      | some (.val _), e3 => rw [e3] at h; exact h.elim
      | some (.ali _), e3 => rw [e3] at h; exact h.elim
      | some (.raw _), e3 => rw [e3] at h; exact h.elim
      | some (.ent _), e3 => rw [e3] at h; exact h.elim
      | some (.own ds), e3 =>
        rw [e3] at h
        obtain ⟨F, r0⟩ := r.1
        obtain ⟨a, vs, z1, z2, z3, _⟩ := own_slot r0 e3
        have h' : f (Z.map Prod.snd) fun sv => match sv.fix? with
          | some e => ds.length < sizeLine ∧ E.nx ((Z.map Prod.snd).set i (some (.own (ds ++ [e]))))
          | none => False := h
        refine ⟨.ref a, z2, .inl ⟨rfl, _, SqL.of z3⟩, he.run Z T H _ _ ⟨F, r0⟩ h' fun sv hs y H1 ⟨F1, r1⟩ => ?_⟩
        cases e : sv.fix? with
        | none => rw [e] at hs; exact hs.elim
        | some d =>
          rw [e] at hs
          rw [← List.append_assoc] at r1
          obtain ⟨F2, r2⟩ := r1.fixLast e
          obtain ⟨a', vs2, q1, q2, q3, q4⟩ := own_slot r2.left e3
          rw [z1] at q1; cases q1
          refine ⟨a, vs2, y, rfl, rfl, q3, by rw [q4.length]; exact hs.1, ?_⟩
          have := l.nx _ _ (own_put r2.left r.2 z1 (q4.app (.cons r2.last .nil))) (by rw [map_set_snd]; exact hs.2)
          rw [map_set_fst, set_self z2] at this
          exact this
/-! ### return -/
def frzD (σ : SD) : SD := σ.map (Option.map SV.frz)
def frzP (p : Option V × Option SV) : Option V × Option SV := (p.1, p.2.map SV.frz)
theorem Rep.frzAll : ∀ (Z A B : Zt) (F : Hp), (∀ p ∈ Z, NoAli p) → Rep F0 H0 F H (A ++ Z ++ B) → ∃ F', Rep F0 H0 F' H (A ++ Z.map frzP ++ B)
  | [], A, B, F, _, r => ⟨F, by simpa using r⟩
  | (x, none) :: Z, A, B, F, n, r => by
    obtain ⟨F', r'⟩ := Rep.frzAll Z (A ++ [(x, none)]) B F (fun p hp => n p (List.mem_cons_of_mem _ hp)) (by simpa using r)
    exact ⟨F', by simpa [frzP] using r'⟩
  | (x, some (.val d)) :: Z, A, B, F, n, r => by
    obtain ⟨F', r'⟩ := Rep.frzAll Z (A ++ [(x, some (.val d))]) B F (fun p hp => n p (List.mem_cons_of_mem _ hp)) (by simpa using r)
    exact ⟨F', by simpa [frzP, SV.frz] using r'⟩
  | (x, some (.raw d)) :: Z, A, B, F, n, r => by
    obtain ⟨F', r'⟩ := Rep.frzAll Z (A ++ [(x, some (.raw d))]) B F (fun p hp => n p (List.mem_cons_of_mem _ hp)) (by simpa using r)
    exact ⟨F', by simpa [frzP, SV.frz] using r'⟩
  | (x, some (.ent d)) :: Z, A, B, F, n, r => by
    obtain ⟨F', r'⟩ := Rep.frzAll Z (A ++ [(x, some (.ent d))]) B F (fun p hp => n p (List.mem_cons_of_mem _ hp)) (by simpa using r)
    exact ⟨F', by simpa [frzP, SV.frz] using r'⟩
  | (x, some (.ali d)) :: Z, A, B, F, n, r => absurd rfl (n _ List.mem_cons_self d)
  | (x, some (.own d)) :: Z, A, B, F, n, r => by
    have r0 : Rep F0 H0 F H (A ++ (x, some (.own d)) :: (Z ++ B)) := by simpa using r
    obtain ⟨F1, r1⟩ := r0.freeze
    obtain ⟨F', r'⟩ := Rep.frzAll Z (A ++ [(x, some (.val (.list d)))]) B F1 (fun p hp => n p (List.mem_cons_of_mem _ hp)) (by simpa using r1)
    exact ⟨F', by simpa [frzP, SV.frz] using r'⟩
theorem frz_fst (Z : Zt) : (Z.map frzP).map Prod.fst = Z.map Prod.fst := by rw [List.map_map]; rfl
theorem frz_snd (Z : Zt) : (Z.map frzP).map Prod.snd = frzD (Z.map Prod.snd) := by unfold frzD; rw [List.map_map, List.map_map]; rfl
def dRet (f : DX) : DSX := fun E σ => f (frzD σ) E.rt
instance (priority := low) {te : TE} {f : DX} [he : DE F0 H0 te f] : DS F0 H0 (tRet te) (dRet f) where
  run Z T H E D r h l := by
    obtain ⟨F, r0⟩ := r.1
    obtain ⟨F1, r1⟩ := Rep.frzAll (F0 := F0) (H0 := H0) Z [] T F (noali_left r.2) r0
    have h' : f ((Z.map frzP).map Prod.snd) E.rt := by rw [frz_snd]; exact h
    have := he.run (Z.map frzP) T H _ D.rt ⟨F1, r1⟩ h' fun sv hs v H' ⟨F2, r2⟩ => l.rt sv v H' hs ⟨F2, r2.sub ((List.sublist_append_right _ _).trans (List.sublist_append_right _ _))⟩
    rw [frz_fst] at this
    exact this
/-- return x -/
def dRetV (i : Nat) : DSX := fun E σ => match σ[i]? with | some (some sv) => E.rt sv | _ => False
instance {i : Nat} : DS F0 H0 (tRet (tVar i)) (dRetV i) where
  run Z T H E D r h l := by
    unfold dRetV at h
    cases e : (Z.map Prod.snd)[i]? with
    | none => rw [e] at h; exact h.elim
    | some o =>
      cases o with
      | none => rw [e] at h; exact h.elim
      | some sv =>
        rw [e] at h
        obtain ⟨F, r0⟩ := r.1
        obtain ⟨v, h1, h2, rv⟩ := slot_val r0 e
        exact ⟨v, h2, l.rt sv v H h ⟨F, r0.sub (List.singleton_sublist.mpr (List.mem_append_left _ (List.mem_of_getElem? h1)))⟩⟩
instance : DS F0 H0 tRetN (fun E σ => E.rt (.val .none)) where
  run Z T H E D r h l := by
    obtain ⟨F, r0⟩ := r.1
    exact l.rt _ _ H h ⟨F, by simpa using (r0.pushV (v := .non) (d := .none) .non).sub (List.sublist_append_right _ _)⟩
/-! ### raise -/
def dRaise (C : Addr) (ER : Addr → Int → Prop) (fa : DAX) : DSX := fun _ σ => fa σ fun as => match as with
  | [x] => match x.int? with | some i => i.natAbs.log2 < 1920 ∧ ER C i | none => False
  | _ => False
instance {C : Addr} {E' : XK} {ER} [hE : EOk H0 E' ER] {ta : TA} {fa : DAX} [ha : DA F0 H0 ta fa] : DS F0 H0 (_root_.ER.tRaise C (fun cls d _ H => E' cls d H) ta) (dRaise C ER fa) where
  run Z T H E D r h l := ha.run Z T H _ _ r.1 h fun A h1 H1 ⟨F, r1⟩ => by
    match A, h1, r1 with
    | [(v, sv)], h1, r1 =>
      simp only [List.map_cons, List.map_nil] at h1
      cases e : sv.int? with
      | none => rw [e] at h1; exact h1.elim
      | some i =>
        rw [e] at h1
        obtain ⟨r0, rv⟩ := one_tmp (v := v) (sv := sv) r1
        exact ⟨i, by rw [← rv.int e]; rfl, h1.1, fun d nd => hE.run C i h1.2 d H1 r1.ent nd⟩
/-! ### loops -/
def dWhile (fc : DTX) (g : DSX) : DSX := fun E σ => ∃ (I : SD → Prop) (μ : SD → Nat), I σ ∧ ∀ σ, I σ → fc σ fun b => Br b (g { E with nx := fun σ' => I σ' ∧ μ σ' < μ σ, ct := fun σ' => I σ' ∧ μ σ' < μ σ, bk := E.nx } σ) (E.nx σ)
instance {c : TT} {t : TS} {fc : DTX} {g : DSX} [hc : DT F0 H0 c fc] [hg : DS F0 H0 t g] : DS F0 H0 (tWhile c t) (dWhile fc g) where
  run Z T H E D r h l := by
    obtain ⟨I, μ, h0, hs⟩ := h
    refine ⟨fun m σ H => ∃ Z', Z'.map Prod.fst = σ ∧ RepS F0 H0 H (Z' ++ T) ∧ I (Z'.map Prod.snd) ∧ m = μ (Z'.map Prod.snd), ⟨_, Z, rfl, r, h0, rfl⟩, ?_⟩
    rintro m σ H' ⟨Z', rfl, r', h', rfl⟩
    refine hc.run Z' T H' _ _ r'.1 (hs _ h') fun b hb H1 r1 => ?_
    cases b with
    | true =>
      refine iteT ⟨fun σ H => ∃ Z2, Z2.map Prod.fst = σ ∧ RepS F0 H0 H (Z2 ++ T) ∧ I (Z2.map Prod.snd) ∧ μ (Z2.map Prod.snd) < μ (Z'.map Prod.snd), fun σ' H' ⟨Z2, a, b, c, d⟩ => ⟨_, d, Z2, a, b, c, rfl⟩, ?_⟩
      exact hg.run Z' T H1 _ _ ⟨r1, r'.2⟩ hb.t ⟨fun Z2 H2 q p => ⟨Z2, rfl, q, p.1, p.2⟩, l.nx, fun Z2 H2 q p => ⟨Z2, rfl, q, p.1, p.2⟩, l.rt⟩
    | false => exact iteF (l.nx Z' H1 ⟨r1, r'.2⟩ hb.f)
/-- what a for walks is let go first -/
class FV (w : TI) (is : outParam (List Nat)) : Prop where
  triv : True
instance (priority := low) {w : TI} : FV w [] := ⟨trivial⟩
instance {i : Nat} : FV (iList K (tVar i)) [i] := ⟨trivial⟩
instance {i : Nat} : FV (iEnum K (tCons (tVar i) tNil)) [i] := ⟨trivial⟩
instance {i : Nat} : FV (iRev K (tCons (tVar i) tNil)) [i] := ⟨trivial⟩
instance {i j : Nat} : FV (iZip K (tCons (tVar i) (tCons (tVar j) tNil))) [i, j] := ⟨trivial⟩
def frz1 (i : Nat) (σ : SD) : SD := match σ[i]? with | some (some (.own ds)) => σ.set i (some (.val (.list ds))) | _ => σ
def frzL : List Nat → SD → SD
  | [], σ => σ
  | i :: is, σ => frzL is (frz1 i σ)
theorem Rep.frz1 {Z T : Zt} (i : Nat) (r : RepS F0 H0 H (Z ++ T)) : ∃ Z', Z'.map Prod.fst = Z.map Prod.fst ∧ Z'.map Prod.snd = frz1 i (Z.map Prod.snd) ∧ RepS F0 H0 H (Z' ++ T) := by
  cases e : (Z.map Prod.snd)[i]? with
  | none => exact ⟨Z, rfl, by unfold DL.frz1; rw [e], r⟩
  | some o =>
    match o, e with
    | none, e => exact ⟨Z, rfl, by unfold DL.frz1; rw [e], r⟩
    | some (.val _), e => exact ⟨Z, rfl, by unfold DL.frz1; rw [e], r⟩
    | some (.ali _), e => exact ⟨Z, rfl, by unfold DL.frz1; rw [e], r⟩
    | some (.raw _), e => exact ⟨Z, rfl, by unfold DL.frz1; rw [e], r⟩
    | some (.ent _), e => exact ⟨Z, rfl, by unfold DL.frz1; rw [e], r⟩
    | some (.own ds), e =>
      obtain ⟨F, r0⟩ := r.1
      obtain ⟨a, vs, z1, z2, _, _⟩ := own_slot r0 e
      have hi : i < Z.length := (List.getElem?_eq_some_iff.mp z1).1
      obtain ⟨A, z, B, h1, h2, h3⟩ := cut_at Z i hi
      have hz : z = (some (.ref a), some (.own ds)) := by
        rw [h1, List.getElem?_append_right (by omega), h2, Nat.sub_self] at z1
        exact Option.some.inj z1
      subst hz
      have r1 : Rep F0 H0 F H (A ++ (some (.ref a), some (.own ds)) :: (B ++ T)) := by rw [h1] at r0; simpa using r0
      obtain ⟨F', r2⟩ := r1.freeze
      refine ⟨Z.set i (some (.ref a), some (.val (.list ds))), by rw [map_set_fst, set_self z2], by rw [map_set_snd]; unfold DL.frz1; rw [e], ⟨F', by rw [h3]; simpa using r2⟩, fun p hp => ?_⟩
      rcases List.mem_append.mp hp with w | w
      · rcases List.mem_or_eq_of_mem_set w with w | w
        · exact r.2 p (List.mem_append_left _ w)
        · subst w; exact fun es e => nomatch e
      · exact r.2 p (List.mem_append_right _ w)
theorem Rep.frzL {T : Zt} : ∀ (is : List Nat) {Z : Zt}, RepS F0 H0 H (Z ++ T) → ∃ Z', Z'.map Prod.fst = Z.map Prod.fst ∧ Z'.map Prod.snd = frzL is (Z.map Prod.snd) ∧ RepS F0 H0 H (Z' ++ T)
  | [], Z, r => ⟨Z, rfl, rfl, r⟩
  | i :: is, Z, r => by
    obtain ⟨Z1, a1, a2, a3⟩ := Rep.frz1 i r
    obtain ⟨Z2, b1, b2, b3⟩ := Rep.frzL is a3
    exact ⟨Z2, b1.trans a1, by rw [b2, a2]; rfl, b3⟩
def loopD (g : DG1) (body : DSX) (items : List PyData) : DSX := fun E σ => ∃ I : Nat → SD → Prop, I 0 σ ∧
  (∀ i d σ, items[i]? = some d → I i σ → g d σ fun σ' => body { E with nx := I (i + 1), ct := I (i + 1), bk := E.nx } σ') ∧ ∀ σ, I items.length σ → E.nx σ
def dFor (is : List Nat) (fi : SD → (List PyData → Bool → Prop) → Prop) (g : DG1) (body : DSX) : DSX := fun E σ => fi (frzL is σ) fun items b => b = true ∧ loopD g body items E (frzL is σ)
instance {wi : TI} {is fi} {g : TG} {fg ix} {tb : TS} {gb : DSX} [FV wi is] [hi : DI F0 H0 wi fi] [hg : DGt F0 H0 g fg ix] [hb : DS F0 H0 tb gb] : DS F0 H0 (tFor wi g tb) (dFor is fi fg gb) where
  run Z T H E D r h l := by
    obtain ⟨Z0, e1, e2, r0⟩ := Rep.frzL is r
    unfold dFor at h
    rw [← e2] at h
    rw [← e1]
    refine hi.run Z0 T H _ _ r0.1 h fun items b h1 J H1 A ⟨F1, r1⟩ na w => ?_
    obtain ⟨rfl, I, h0, hs, hk⟩ := h1
    have nA := na rfl
    have nTA : ∀ {Z' : Zt}, (∀ p ∈ Z' ++ T, NoAli p) → ∀ p ∈ Z' ++ (T ++ A), NoAli p := fun n p hp => by
      rw [← List.append_assoc] at hp
      rcases List.mem_append.mp hp with z | z
      · exact n p z
      · exact nA p z
    have back : ∀ {Z' : Zt} {H' : Hp}, RepS F0 H0 H' (Z' ++ (T ++ A)) → RepS F0 H0 H' (Z' ++ T) := fun {Z' H'} q => by
      obtain ⟨⟨F', q1⟩, q2⟩ := q
      rw [← List.append_assoc] at q1 q2
      exact ⟨⟨F', q1.left⟩, noali_left q2⟩
    refine ⟨fun i m σ H => m = items.length - i ∧ i ≤ items.length ∧ ∃ Z', Z'.map Prod.fst = σ ∧ RepS F0 H0 H (Z' ++ (T ++ A)) ∧ I i (Z'.map Prod.snd), ⟨items.length, by simp, Nat.zero_le _, Z0, rfl, ⟨⟨F1, r1⟩, nTA r0.2⟩, h0⟩, ?_⟩
    rintro i m σ H' ⟨rfl, hle, Z', rfl, r', hI⟩
    obtain ⟨⟨F', r1'⟩, n'⟩ := r'
    have r2 : Rep F0 H0 F' H' ((Z' ++ T) ++ A) := by rw [List.append_assoc]; exact r1'
    by_cases hlt : i < items.length
    · refine .inr ⟨w.goes i H' F' _ hlt r2, fun σ H => ∃ Z', Z'.map Prod.fst = σ ∧ RepS F0 H0 H (Z' ++ (T ++ A)) ∧ I (i + 1) (Z'.map Prod.snd), fun σ2 H2 hn => ⟨items.length - (i + 1), by omega, rfl, hlt, hn⟩, fun x H2 y => ?_⟩
      have hd : items[i]? = some items[i] := List.getElem?_eq_getElem hlt
      obtain ⟨F2, r3⟩ := w.yields i H' x H2 F' _ _ hd r2 y
      refine hg.run Z' (T ++ A) H2 F2 x items[i] _ _ (by rw [← List.append_assoc]; exact r3.left) r3.last (hs i _ _ hd hI) fun Z3 p3 s3 => ?_
      refine hb.run Z3 (T ++ A) H2 _ _ ⟨⟨F2, s3.rep⟩, fun p hp => ?_⟩ p3 ⟨fun Z4 H4 q p => ⟨Z4, rfl, q, p⟩, fun Z4 H4 q p => l.nx Z4 H4 (back q) p, fun Z4 H4 q p => ⟨Z4, rfl, q, p⟩, l.rt⟩
      rcases List.mem_append.mp hp with z | z
      · rcases s3.mem p z with z | ⟨d', z⟩
        · exact n' p (List.mem_append_left _ z)
        · exact fun es e => by rw [z] at e; cases e
      · exact n' p (List.mem_append_right _ z)
    · have e : i = items.length := by omega
      subst e
      exact .inl ⟨w.stops H' F' _ r2, l.nx Z' H' (back ⟨⟨F', r1'⟩, n'⟩) (hk _ hI)⟩
end
end DL
/-! Reading by data: rules with K named, small things. -/
namespace DL
open PySem PySem.Spec PyProof.Rows L2 NB
theorem pe_z {X : Cx} (n : Int) {j pos} {i : Int} (h : i = n := by rfl) : PE X (.Constant (.int i) j pos) (tC (.int n)) := by subst h; exact pe_int
theorem pass00 {X : Cx} : Passes CX0 X (fun _ _ _ => False) := pass0
section
variable {X : Cx} {K : PySem.W.Frag}
theorem call_lenK (h : X.K = K) : CallR X (.builtin "len") (fun xs H Q => ∃ p ys, xs = [.ref p] ∧ (SqL K H p ys ∨ SqT K H p ys) ∧ Q (.int ys.length) H) := h ▸ call_len_seq
theorem call_listK (h : X.K = K) : CallR X (.type "list") (fun xs H Q => ∃ p ys, xs = [.ref p] ∧ (SqL K H p ys ∨ SqT K H p ys) ∧ ∀ l, H l = none → Q (.ref l) (upd H l (.lst ys))) := h ▸ call_list_of
theorem cr_sumK (h : X.K = K) (hc : X.calm = true) : CallR X (.builtin "sum") (rSum K) := h ▸ cr_sum hc
theorem cr_anyK (h : X.K = K) (hc : X.calm = true) : CallR X (.builtin "any") (rAny K) := h ▸ cr_any hc
theorem cr_allK (h : X.K = K) (hc : X.calm = true) : CallR X (.builtin "all") (rAll K) := h ▸ cr_all hc
end
end DL
/-! Data: lists of ints, equality. -/
namespace DL
open PySem PySem.Spec PyProof.Rows L2 NB
theorem D_at {α : Type} {ds : List α} {i : Int} (h0 : 0 ≤ i) (h : i < ds.length) : atI ds i = some (ds[i.toNat]'(by omega)) := by
  unfold atI ixN
  rw [if_pos h0, if_pos h]
  simp
theorem D_atN {α : Type} {ds : List α} {i : Nat} {d : α} (h : ds[i]? = some d) : atI ds (i : Int) = some d := by
  have hl := (List.getElem?_eq_some_iff.mp h).1
  rw [D_at (by omega) (by omega)]
  simp only [Int.toNat_natCast]
  rw [← List.getElem?_eq_getElem, h]
theorem ixN_pos {n : Nat} {i : Int} (h0 : 0 ≤ i) (h : i < n) : ixN n i = some i.toNat := by unfold ixN; rw [if_pos h0, if_pos h]
theorem LI_len (ns : List Int) : (LI ns).length = ns.length := by unfold LI; simp
theorem LI_get {ns : List Int} {i : Nat} {z : Int} (h : ns[i]? = some z) : (LI ns)[i]? = some (.int z) := by unfold LI; rw [List.getElem?_map, h]; rfl
theorem LI_inv {ns : List Int} {i : Nat} {d : PyData} (h : (LI ns)[i]? = some d) : ∃ z, ns[i]? = some z ∧ d = .int z := by
  unfold LI at h
  rw [List.getElem?_map] at h
  cases e : ns[i]? with
  | none => rw [e] at h; cases h
  | some z => rw [e] at h; exact ⟨z, rfl, (Option.some.inj h).symm⟩
theorem LI_at {ns : List Int} {i : Int} (h0 : 0 ≤ i) (h : i < ns.length) : ∃ z, ns[i.toNat]? = some z ∧ atI (LI ns) i = some (.int z) := by
  refine ⟨ns[i.toNat]'(by omega), List.getElem?_eq_getElem _, ?_⟩
  rw [D_at h0 (by rw [LI_len]; exact h)]
  unfold LI
  simp
theorem LI_app (a b : List Int) : LI a ++ LI b = LI (a ++ b) := by unfold LI; simp
theorem LI_snoc (a : List Int) (z : Int) : LI a ++ [.int z] = LI (a ++ [z]) := by unfold LI; simp
theorem LI_nil : ([] : List PyData) = LI [] := rfl
theorem LI_set (a : List Int) (i : Nat) (z : Int) : (LI a).set i (.int z) = LI (a.set i z) := by unfold LI; rw [List.map_set]
theorem LI_take (a : List Int) (n : Nat) : (LI a).take n = LI (a.take n) := by unfold LI; rw [List.map_take]
theorem LI_drop (a : List Int) (n : Nat) : (LI a).drop n = LI (a.drop n) := by unfold LI; rw [List.map_drop]
theorem LI_rep (n : Nat) (z : Int) : (List.replicate n [PyData.int z]).flatten = LI (List.replicate n z) := by
  unfold LI
  induction n with
  | zero => rfl
  | succ n ih => rw [List.replicate_succ, List.flatten_cons, ih]; simp [List.replicate_succ]
theorem sIx_len (n : Nat) : HT.sIx n n none = n := by rfl
theorem cutD_nat {ds : List PyData} {lo hi : Nat} : cutD ds (some (lo : Int)) (some (hi : Int)) = (ds.drop (min lo ds.length)).take (min hi ds.length - min lo ds.length) := by
  unfold cutD
  rw [HT.sIx_nat, HT.sIx_nat]
theorem cutD_to {ds : List PyData} {hi : Nat} : cutD ds none (some (hi : Int)) = ds.take hi := by
  unfold cutD
  have e : HT.sIx ds.length 0 none = 0 := by rfl
  rw [e, HT.sIx_nat, List.drop_zero, Nat.sub_zero]
  by_cases h : hi ≤ ds.length
  · rw [Nat.min_eq_left h]
  · rw [Nat.min_eq_right (by omega), List.take_of_length_le (by omega), List.take_of_length_le (by omega)]
theorem cutD_from {ds : List PyData} {lo : Nat} : cutD ds (some (lo : Int)) none = ds.drop lo := by
  unfold cutD
  have e : HT.sIx ds.length ds.length none = ds.length := by rfl
  rw [e, HT.sIx_nat]
  by_cases h : lo ≤ ds.length
  · rw [Nat.min_eq_left h, List.take_of_length_le (by rw [List.length_drop]; exact Nat.le_refl _)]
  · rw [Nat.min_eq_right (by omega), Nat.sub_self, List.take_zero, List.drop_of_length_le (by omega)]
/-! equality of plain things -/
def flat0 : PyData → Bool
  | .none => true
  | .bool _ => true
  | .int _ => true
  | _ => false
theorem flat_lay {d : PyData} (h : flat0 d = true) : PyData.canLay0 d = true := by cases d <;> first | rfl | (simp [PyData.canLay0]; done) | exact Bool.noConfusion h
theorem flat_dep {d : PyData} (h : flat0 d = true) : PyData.depth d = 0 := by cases d <;> first | rfl | (simp [PyData.depth]; done) | exact Bool.noConfusion h
theorem flat_eqv {d : PyData} (h : flat0 d = true) : PyData.eqv d d = true := by cases d <;> first | rfl | (simp [PyData.eqv]; done) | exact Bool.noConfusion h
/-- plain things in lists and tuples, n deep -/
def flatN : Nat → PyData → Bool
  | 0, d => flat0 d
  | n + 1, .list ds => ds.all (flatN n)
  | n + 1, .tuple ds => ds.all (flatN n)
  | _ + 1, d => flat0 d
mutual
theorem N_lay : ∀ (n : Nat) (d : PyData), flatN n d = true → PyData.canLay0 d = true ∧ PyData.depth d ≤ 2 * n ∧ PyData.eqv d d = true
  | 0, d, h => ⟨flat_lay h, by rw [flat_dep h]; omega, flat_eqv h⟩
  | n + 1, .list ds, h => by
    obtain ⟨a, b, c⟩ := Ns_lay n ds h
    refine ⟨by simpa [PyData.canLay0] using a, by simp only [PyData.depth]; omega, by simpa [PyData.eqv] using c⟩
  | n + 1, .tuple ds, h => by
    obtain ⟨a, b, c⟩ := Ns_lay n ds h
    refine ⟨by simpa [PyData.canLay0] using a, by simp only [PyData.depth]; omega, by simpa [PyData.eqv] using c⟩
  | n + 1, .none, h => ⟨flat_lay rfl, by rw [flat_dep rfl]; omega, flat_eqv rfl⟩
  | n + 1, .bool _, h => ⟨flat_lay rfl, by rw [flat_dep rfl]; omega, flat_eqv rfl⟩
  | n + 1, .int _, h => ⟨flat_lay rfl, by rw [flat_dep rfl]; omega, flat_eqv rfl⟩
theorem Ns_lay : ∀ (n : Nat) (ds : List PyData), ds.all (flatN n) = true → PyData.canLayAll0 ds = true ∧ PyData.depthAll ds ≤ 2 * n + 1 ∧ PyData.eqvAll ds ds = true
  | n, [], _ => ⟨by simp [PyData.canLayAll0], by simp [PyData.depthAll], by simp [PyData.eqvAll]⟩
  | n, d :: ds, h => by
    rw [List.all_cons, Bool.and_eq_true] at h
    obtain ⟨a, b, c⟩ := N_lay n d h.1
    obtain ⟨a', b', c'⟩ := Ns_lay n ds h.2
    exact ⟨by simp [PyData.canLayAll0, a, a'], by simp only [PyData.depthAll]; omega, by simp [PyData.eqvAll, c, c']⟩
end
theorem shp {n : Nat} {d : PyData} (h : flatN n d = true) (hn : n ≤ 8 := by decide) : SeqAt.shaped d = true := by
  obtain ⟨a, b, c⟩ := N_lay n d h
  unfold SeqAt.shaped
  rw [Bool.and_eq_true]
  exact ⟨a, decide_eq_true (by omega)⟩
theorem eqv_self {n : Nat} {d : PyData} (h : flatN n d = true) : PyData.eqv d d = true := (N_lay n d h).2.2
/-- equal things are equal -/
theorem eqD_self {n : Nat} {sx sy : SV} {d : PyData} {P : SV → Prop} (e1 : sx.dat? = some d) (e2 : sy.dat? = some d) (h : flatN n d = true) (hp : P (.val (.bool true))) (hn : n ≤ 8 := by decide) : oEqD false sx sy P := by
  constructor
  rw [e1, e2]
  refine ⟨shp h hn, shp h hn, ?_⟩
  rw [eqv_self h]
  exact hp
theorem neD_self {n : Nat} {sx sy : SV} {d : PyData} {P : SV → Prop} (e1 : sx.dat? = some d) (e2 : sy.dat? = some d) (h : flatN n d = true) (hp : P (.val (.bool false))) (hn : n ≤ 8 := by decide) : oEqD true sx sy P := by
  constructor
  rw [e1, e2]
  refine ⟨shp h hn, shp h hn, ?_⟩
  rw [eqv_self h]
  exact hp
theorem neD1 {sx sy : SV} {d : PyData} {P : SV → Prop} (e1 : sx.dat? = some d) (e2 : sy.dat? = some d) (h : flatN 1 d = true) (hp : P (.val (.bool false))) : oEqD true sx sy P := neD_self e1 e2 h hp
theorem neD2 {sx sy : SV} {d : PyData} {P : SV → Prop} (e1 : sx.dat? = some d) (e2 : sy.dat? = some d) (h : flatN 2 d = true) (hp : P (.val (.bool false))) : oEqD true sx sy P := neD_self e1 e2 h hp
theorem eqD1 {sx sy : SV} {d : PyData} {P : SV → Prop} (e1 : sx.dat? = some d) (e2 : sy.dat? = some d) (h : flatN 1 d = true) (hp : P (.val (.bool true))) : oEqD false sx sy P := eqD_self e1 e2 h hp
theorem eqD2 {sx sy : SV} {d : PyData} {P : SV → Prop} (e1 : sx.dat? = some d) (e2 : sy.dat? = some d) (h : flatN 2 d = true) (hp : P (.val (.bool true))) : oEqD false sx sy P := eqD_self e1 e2 h hp
theorem LI_flat (ns : List Int) : (LI ns).all flat0 = true := by unfold LI; rw [List.all_map]; exact List.all_eq_true.mpr fun _ _ => rfl
theorem LI_flatN (ns : List Int) : flatN 1 (.list (LI ns)) = true := LI_flat ns
theorem LI_flatD (ns : List Int) : (LI ns).all flatD = true := by unfold LI; rw [List.all_map]; exact List.all_eq_true.mpr fun _ _ => rfl
end DL
/-! Data: try .. except at a def's own level. -/
namespace DL
open PySem PySem.Spec PyProof.Rows L2 NB ER
/-- what is told of the error that a suite holds: it is at a, of the class C, its at is n -/
class EInf (F0 : Hp) (K : PySem.W.Frag) (a : Addr) (cls : Value) (d : Option Addr) (C : outParam Addr) (n : outParam Int) : Prop where
  inf : cls = .ref C ∧ (∃ dd, d = some dd ∧ F0 dd = some (.xd [("at", .int n)])) ∧ ∃ mg x fI CH, XC K mg x C fI CH
/-- what is wanted of an error that leaves a try's body -/
class EOkW (F0 H0 : Hp) (W : WX) (ER : outParam (Addr → Int → SD → Prop)) : Prop where
  run : ∀ C n (Z T : Zt) H' dd, ER C n (Z.map Prod.snd) → (∃ F, Rep F0 H0 F H' (Z ++ T)) → (∀ p ∈ Z, NoAli p) → H' dd = none → W (.ref C) (some dd) (Z.map Prod.fst) (upd H' dd (.xd [("at", .int n)]))
class DS0 (F0 H0 : Hp) (t : TS) (g : outParam DSX) : Prop where
  run : ∀ (Z : Zt) (H : Hp) (E : DEnds) (D : Ends), RepS F0 H0 H (Z ++ []) → g E (Z.map Prod.snd) → Low F0 H0 [] E D → t D (Z.map Prod.fst) H
/-- a statement within a try, whose errors are told by ER -/
class DSW (F0 H0 : Hp) (t : TS) (g : outParam DSX) : Prop where
  run : ∀ (Z : Zt) (H : Hp) (E : DEnds) (D : Ends), RepS F0 H0 H (Z ++ []) → g E (Z.map Prod.snd) → Low F0 H0 [] E D → t D (Z.map Prod.fst) H
section
variable {F0 H0 F H : Hp} {K : PySem.W.Frag}
instance (priority := low) {t : TS} {g : DSX} [h : DS F0 H0 t g] : DS0 F0 H0 t g where
  run Z H E D := h.run Z [] H E D
instance {t u : TS} {g1 g2 : DSX} [h1 : DS0 F0 H0 t g1] [h2 : DS0 F0 H0 u g2] : DS0 F0 H0 (tSeq t u) (dSeq g1 g2) where
  run Z H E D r h l := h1.run Z H _ _ r h (l.nx' _ _ fun Z' H' r' h' => h2.run Z' H' E D r' h' l)
instance {t u : TS} {g1 g2 : DSX} [h1 : DS0 F0 H0 t g1] [h2 : DS0 F0 H0 u g2] : DS0 F0 H0 (C8.tCut t u) (dCut g1 g2) where
  run Z H E D r h l := by
    obtain ⟨M, h, k⟩ := h
    refine ⟨fun σ' H' => ∃ Z', Z'.map Prod.fst = σ' ∧ RepS F0 H0 H' (Z' ++ []) ∧ M (Z'.map Prod.snd), h1.run Z H _ _ r h (l.nx' _ _ fun Z' H' r' h' => ⟨Z', rfl, r', h'⟩), ?_⟩
    rintro σ' H' ⟨Z', rfl, r', h'⟩
    exact h2.run Z' H' E D r' (k _ h') l
instance {c : TT} {t u : TS} {fc : DTX} {g1 g2 : DSX} [hc : DT F0 H0 c fc] [h1 : DS0 F0 H0 t g1] [h2 : DS0 F0 H0 u g2] : DS0 F0 H0 (tIfS c t u) (dIfS fc g1 g2) where
  run Z H E D r h l := hc.run Z [] H _ _ r.1 h fun b hb H1 r1 => by
    cases b with
    | true => exact iteT (h1.run Z H1 E D ⟨r1, r.2⟩ hb.t l)
    | false => exact iteF (h2.run Z H1 E D ⟨r1, r.2⟩ hb.f l)
/-! the suite -/
def bIsE (K : PySem.W.Frag) (a C : Addr) : SV → SV → (SV → Prop) → Prop := fun x y P => x = .raw (.ref a) ∧ ∃ D b, y = .raw (.ref D) ∧ PySem.W.kitOne K (.ref C) (.ref D) = some b ∧ P (.val (.bool b))
instance {a : Addr} {cls : Value} {d : Option Addr} {C : Addr} {n : Int} [e : EInf F0 K a cls d C n] : CbD F0 H0 (rIsE K a cls d) (fun xs P => match xs with | [x, y] => bIsE K a C x y P | _ => False) :=
  .two fun W x y sx sy H F P Q r rx ry l ⟨ex, D, b, ey, hk, hp⟩ q => by
    obtain ⟨rfl, ⟨dd, rfl, hd⟩, T⟩ := e.inf
    subst ex ey
    cases rx
    cases ry
    exact ⟨C, .ref D, .ref D, b, dd, _, rfl, rfl, T, rfl, l _ _ (r.base _ _ hd), fun u h => h, hk, q _ hp _ _ ⟨F, r.pushV (.bl _)⟩⟩
def dAt (a : Addr) (n : Int) (f : DX) : DX := fun σ P => f σ fun sv => sv = .raw (.ref a) ∧ P (.val (.int n))
instance {a : Addr} {cls : Value} {d : Option Addr} {C : Addr} {n : Int} {te : TE} {f : DX} [e : EInf F0 K a cls d C n] [h : DE F0 H0 te f] : DE F0 H0 (tAt K a cls d te) (dAt a n f) where
  run Z T H P Q := fun hr hh q => h.run Z T H _ _ hr hh fun sv ⟨e1, hp⟩ v H' ⟨F, r⟩ => by
    obtain ⟨rfl, ⟨dd, rfl, hd⟩, X⟩ := e.inf
    subst e1
    obtain ⟨r0, rv⟩ := one_tmp r
    cases rv
    exact ⟨C, dd, n, rfl, rfl, X, rfl, r0.low _ _ (r0.base _ _ hd), q _ hp _ _ ⟨F, put_tmp r0 (.int _)⟩⟩
/-! the body -/
def dCallW (F0 : Hp) (R : RC) (ER : Addr → Int → SD → Prop) (fa : DAX) : DX := fun σ P => fa σ fun as => ∃ S, R F0 (as.map SV.frz) S ∧ ∀ r, S r → match r with
  | .ok sv => ((as.any SV.isAli || sv.isEnt) = true → sv.flat = true) ∧ P sv
  | .er C i => ER C i σ
/-- an expression within a try -/
class DEW (F0 H0 : Hp) (t : TE) (f : outParam DX) : Prop where
  run : ∀ (Z T : Zt) (H : Hp) (P : SV → Prop) (Q : VK), (∃ F, Rep F0 H0 F H (Z ++ T)) → (∀ p ∈ Z, NoAli p) → f (Z.map Prod.snd) P → (∀ sv, P sv → ∀ v H', (∃ F, Rep F0 H0 F H' (Z ++ (T ++ [(some v, some sv)]))) → Q v H') → t (Z.map Prod.fst) H Q
instance (priority := low) {t : TE} {f : DX} [h : DE F0 H0 t f] : DEW F0 H0 t f where
  run Z T H P Q r _ := h.run Z T H P Q r
instance {R : RC} [MonoR R] {W : WX} {ER} [he : EOkW F0 H0 W ER] {ta : TA} {fa : DAX} [ha : DA F0 H0 ta fa] : DEW F0 H0 (tCallS (spF R) (WE W) ta) (dCallW F0 R ER fa) where
  run Z T H P Q := fun hr na h q => ha.run Z T H _ _ hr h fun A h1 H1 ⟨F, r1⟩ => by
    have r1' : Rep F0 H0 F H1 ((Z ++ T) ++ A.map pr) := by rw [List.append_assoc]; exact r1
    obtain ⟨S, h1, h2⟩ := h1
    obtain ⟨s1, s2⟩ := keepArgs_at F H1 r1'.low A
    refine ⟨keepArgs F H1 A, A.map (fun p => (p.1, p.2.frz)), S, by simp, args_ok r1', (fun s hs => by
      rw [List.map_map] at hs
      obtain ⟨p, _, rfl⟩ := List.mem_map.mp hs
      obtain ⟨v, s⟩ := p
      cases s <;> rfl), MonoR.mono (r1'.base.trans s1) (by simpa [Function.comp_def] using h1), fun rs hs => ?_⟩
    have := h2 rs hs
    cases rs with
    | ok sv => exact fun v H' b => q sv this.2 v H' (by
        have := back_ok r1' b fun z => this.1 (by simpa [List.any_map] using z)
        simpa using this)
    | er C i =>
      intro dd H' sm nd
      refine he.run C i Z [] H' dd this ?_ na nd
      have rZ : Rep F0 H0 F H1 Z := r1'.left.left
      exact ⟨F, by rw [List.append_nil]; exact rZ.both (Same.refl _) (rZ.low.trans sm) sm fun _ h _ => h⟩
instance (priority := low) {t : TS} {g : DSX} [h : DS F0 H0 t g] : DSW F0 H0 t g where
  run Z H E D := h.run Z [] H E D
instance {te : TE} {f : DX} [he : DEW F0 H0 te f] : DSW F0 H0 (tDrop te) (dDrop f) where
  run Z H E D r h l := he.run Z [] H _ _ r.1 (noali_left r.2) h fun sv hs v H' ⟨F, r'⟩ => l.nx Z H' ⟨⟨F, (one_tmp r').1⟩, r.2⟩ hs
instance {te : TE} {f : DX} {i : Nat} [he : DEW F0 H0 te f] : DSW F0 H0 (tAsg te (gName i)) (dSet i f) where
  run Z H E D r h l := he.run Z [] H _ _ r.1 (noali_left r.2) h fun sv hs v H' r' => by
    show D.nx ((Z.map Prod.fst).set i (some v)) H'
    cases sv with
    | val d => exact low_set l (store_S r' r.2 (by intro _ e; cases e)) hs
    | raw u => exact low_set l (store_S r' r.2 (by intro _ e; cases e)) hs
    | ent u => exact hs.elim
    | ali ds => exact hs.elim
    | own ds =>
      rcases hs with hs | hs
      · exact low_set l (store_S r' r.2 (by intro _ e; cases e)) hs
      · obtain ⟨F', r'⟩ := r'
        rw [← List.append_assoc] at r'
        obtain ⟨F2, r2⟩ := r'.freeze
        exact low_set l (store_S ⟨F2, by rw [← List.append_assoc]; exact r2⟩ r.2 (by intro _ e; cases e)) hs
instance {te : TE} {f : DX} [he : DEW F0 H0 te f] : DSW F0 H0 (tRet te) (dRet f) where
  run Z H E D r h l := by
    obtain ⟨F, r0⟩ := r.1
    obtain ⟨F1, r1⟩ := Rep.frzAll (F0 := F0) (H0 := H0) Z [] [] F (noali_left r.2) r0
    have h' : f ((Z.map frzP).map Prod.snd) E.rt := by rw [frz_snd]; exact h
    have := he.run (Z.map frzP) [] H _ D.rt ⟨F1, r1⟩ (fun p hp es e => by
      obtain ⟨q, _, rfl⟩ := List.mem_map.mp hp
      obtain ⟨x, s⟩ := q
      cases s with
      | none => cases e
      | some s => cases s <;> cases e) h' fun sv hs v H' ⟨F2, r2⟩ => l.rt sv v H' hs ⟨F2, r2.sub ((List.sublist_append_right _ _).trans (List.sublist_append_right _ _))⟩
    rw [frz_fst] at this
    exact this
instance {t u : TS} {g1 g2 : DSX} [h1 : DSW F0 H0 t g1] [h2 : DSW F0 H0 u g2] : DSW F0 H0 (tSeq t u) (dSeq g1 g2) where
  run Z H E D r h l := h1.run Z H _ _ r h (l.nx' _ _ fun Z' H' r' h' => h2.run Z' H' E D r' h' l)
instance {c : TT} {t u : TS} {fc : DTX} {g1 g2 : DSX} [hc : DT F0 H0 c fc] [h1 : DSW F0 H0 t g1] [h2 : DSW F0 H0 u g2] : DSW F0 H0 (tIfS c t u) (dIfS fc g1 g2) where
  run Z H E D r h l := hc.run Z [] H _ _ r.1 h fun b hb H1 r1 => by
    cases b with
    | true => exact iteT (h1.run Z H1 E D ⟨r1, r.2⟩ hb.t l)
    | false => exact iteF (h2.run Z H1 E D ⟨r1, r.2⟩ hb.f l)
theorem DS0.cut {t u : TS} {g1 g2 : DSX} (h1 : DS0 F0 H0 t g1) (h2 : DS0 F0 H0 u g2) : DS0 F0 H0 (C8.tCut t u) (dCut g1 g2) := inferInstance
theorem DS0.seq {t u : TS} {g1 g2 : DSX} (h1 : DS0 F0 H0 t g1) (h2 : DS0 F0 H0 u g2) : DS0 F0 H0 (tSeq t u) (dSeq g1 g2) := inferInstance
/-! the try -/
def dTry (K : PySem.W.Frag) (c : Value) (i : Nat) (gb : (Addr → Int → SD → Prop) → DSX) (gs : Hp → Addr → Addr → Int → DSX) : DSX := fun E σ =>
  gb (fun C n σ' => (∃ mg x fI CH, XC K mg x C fI CH) ∧ PySem.W.exmOne K (.ref C) c = some true ∧ ∀ F0' a, gs F0' a C n { nx := fun σ'' => E.nx (σ''.set i none), rt := E.rt, bk := fun σ'' => E.bk (σ''.set i none), ct := fun σ'' => E.ct (σ''.set i none) } (σ'.set i (some (.raw (.ref a))))) E σ
theorem Low.more {F0' : Hp} {T : Zt} {E : DEnds} {D : Ends} (l : Low F0 H0 T E D) (s : Same F0 F0') (k : ∀ b, F0 b = none → H0 b ≠ none → F0' b = none) : Low F0' H0 T E D := by
  have k2 : ∀ {W : Zt} {F H : Hp}, Rep F0' H0 F H W → Rep F0 H0 F H W := fun r => ⟨s.trans r.base, r.low, r.ent, fun b h0 h1 => r.apart b (k b h0 h1) h1, r.ok, r.dist⟩
  have k3 : ∀ {W : Zt} {H : Hp}, RepS F0' H0 H W → RepS F0 H0 H W := fun ⟨⟨F, r⟩, n⟩ => ⟨⟨F, k2 r⟩, n⟩
  refine ⟨fun Z H r h => l.nx Z H (k3 r) h, fun Z H r h => l.bk Z H (k3 r) h, fun Z H r h => l.ct Z H (k3 r) h, fun sv v H h ⟨F, r⟩ => ?_⟩
  exact l.rt sv v H h ⟨F, k2 r⟩
theorem low_unset {Z : Zt} {i : Nat} {E : DEnds} {f : SD → Prop} {g : L2.St → Hp → Prop} (h : ∀ Z H, RepS F0 H0 H (Z ++ []) → f (Z.map Prod.snd) → g (Z.map Prod.fst) H) : RepS F0 H0 H (Z ++ []) → f ((Z.map Prod.snd).set i none) → g ((Z.map Prod.fst).set i none) H := fun r p => by
  have := h (Z.set i (none, none)) H ⟨by
    obtain ⟨⟨F, r⟩, _⟩ := r
    refine ⟨F, ?_⟩
    have r1 : Rep F0 H0 F H (Z ++ ([] ++ [((none : Option V), (none : Option SV))])) := by
      have r0 : Rep F0 H0 F H Z := by simpa using r
      refine ⟨r0.base, r0.low, r0.ent, r0.apart, fun p hp => ?_, ?_⟩
      · rcases List.mem_append.mp hp with z | z
        · exact r0.ok p z
        · simp at z; subst z; intro sv e; cases e
      · rw [List.pairwise_append]
        refine ⟨r0.dist, List.pairwise_singleton _ _, fun p hp q hq a es fs _ _ e => ?_⟩
        simp at hq; subst hq; cases e
    exact r1.store, fun p hp => by
    rw [List.append_nil] at hp
    rcases List.mem_or_eq_of_mem_set hp with z | z
    · exact r.2 p (by simpa using z)
    · subst z; exact fun es e => nomatch e⟩ (by rw [map_set_snd]; exact p)
  rw [map_set_fst] at this
  exact this
theorem DS0.tryI {c : Value} {i : Nat} {tb : WX → TS} {ts : Addr → Value → Option Addr → TS} {Wout : WX} {gb : (Addr → Int → SD → Prop) → DSX} {gs : Hp → Addr → Addr → Int → DSX}
    (hb : ∀ W ER, EOkW F0 H0 W ER → DSW F0 H0 (tb W) (gb ER)) (hs : ∀ F0' a cls d C n, EInf F0' K a cls d C n → DS F0' H0 (ts a cls d) (gs F0' a C n)) : DS0 F0 H0 (tTry K c i tb ts Wout) (dTry K c i gb gs) := ⟨fun Z H E D r h l => by
    have : EOkW F0 H0 (wAs K c i ts Wout D) (fun C n σ' => (∃ mg x fI CH, XC K mg x C fI CH) ∧ PySem.W.exmOne K (.ref C) c = some true ∧ ∀ F0' a, gs F0' a C n { nx := fun σ'' => E.nx (σ''.set i none), rt := E.rt, bk := fun σ'' => E.bk (σ''.set i none), ct := fun σ'' => E.ct (σ''.set i none) } (σ'.set i (some (.raw (.ref a))))) := by
      refine ⟨fun C n Z' T H' dd ⟨hX, he, hg⟩ ⟨F, r'⟩ na nd => ⟨true, he, fun _ a ha => ?_, fun z => Bool.noConfusion z⟩⟩
      have rZ : Rep F0 H0 F H' Z' := r'.left
      have rd := rZ.newF (o := HO.xd [("at", V.int n)]) nd
      have sF : Same F0 (upd F dd (.xd [("at", .int n)])) := rd.base
      let F0' := upd F dd (.xd [("at", .int n)])
      have inst : EInf F0' K a (.ref C) (some dd) C n := ⟨rfl, ⟨dd, rfl, upd_same⟩, hX⟩
      have r2 : Rep F0' H0 F0' (upd H' dd (.xd [("at", .int n)])) Z' := ⟨Same.refl _, rd.low, rd.ent, fun b h0 _ => h0, rd.ok, rd.dist⟩
      have r3 : RepS F0' H0 (upd H' dd (.xd [("at", .int n)])) (Z'.set i (some (.ref a), some (.raw (.ref a))) ++ []) := store_S ⟨F0', by simpa using r2.pushR⟩ (by simpa using na) (by intro _ e; cases e)
      have l2 : Low F0' H0 [] { nx := fun σ'' => E.nx (σ''.set i none), rt := E.rt, bk := fun σ'' => E.bk (σ''.set i none), ct := fun σ'' => E.ct (σ''.set i none) } { nx := fun σ' H' => D.nx (σ'.set i none) H', rt := D.rt, bk := fun σ' H' => D.bk (σ'.set i none) H', ct := fun σ' H' => D.ct (σ'.set i none) H' } := by
        have l1 := l.more sF rd.apart
        exact ⟨fun Z H r p => low_unset (E := E) l1.nx r p, fun Z H r p => low_unset (E := E) l1.bk r p, fun Z H r p => low_unset (E := E) l1.ct r p, l1.rt⟩
      have := (hs F0' a (.ref C) (some dd) C n inst).run _ [] _ _ _ r3 (by rw [map_set_snd]; exact hg F0' a) l2
      rw [map_set_fst] at this
      exact this
    exact (hb _ _ this).run Z H E D r h l⟩
end
end DL
/-! Data: defs keep contracts. -/
namespace DL
open PySem PySem.Spec PyProof.Rows L2 NB
section
variable {F0 H0 F H : Hp} {K : PySem.W.Frag}
/-! ### defs -/
/-- a contract's arguments are no aliases -/
def plainArgs (as : List SV) : Prop := ∀ s ∈ as, s.isAli = false
/-- from data to a def's reading -/
theorem def_run {R : RC} {N ps : List Str} {t : TS} {vs : List V} {Q : VK} {E : XK} (h : spF R vs H Q E) (hlen : ∀ F as S, R F as S → as.length = ps.length) {g : Hp → DSX} (inst : ∀ F0, DS0 F0 H t (g F0))
    (hx : ∀ F0 as S, R F0 as S → g F0 { nx := fun _ => S (.ok (.val .none)), rt := fun sv => S (.ok sv) } (as.map some ++ List.replicate (N.length - ps.length) none)) :
    t { nx := fun _ H' => Q .non H', rt := Q } (L2.start N vs) H := by
  obtain ⟨F, A, S, rfl, r, na, hR, hS⟩ := h
  have hl : A.length = ps.length := by have := hlen F _ S hR; simpa using this
  have e1 : (A.map pr ++ List.replicate (N.length - ps.length) ((none : Option V), (none : Option SV))).map Prod.fst = L2.start N (A.map Prod.fst) := by
    unfold L2.start
    rw [List.map_append, List.map_map, List.map_replicate, List.length_map, hl, List.map_map]; rfl
  have e2 : (A.map pr ++ List.replicate (N.length - ps.length) ((none : Option V), (none : Option SV))).map Prod.snd = (A.map Prod.snd).map some ++ List.replicate (N.length - ps.length) none := by
    rw [List.map_append, List.map_map, List.map_map, List.map_replicate]; rfl
  have rep : Rep F H F H (A.map pr ++ List.replicate (N.length - ps.length) ((none : Option V), (none : Option SV))) := by
    refine ⟨r.base, r.low, r.ent, r.apart, fun p hp => ?_, ?_⟩
    · rcases List.mem_append.mp hp with z | z
      · exact r.ok p z
      · rw [List.mem_replicate] at z
        rw [z.2]; intro sv e; cases e
    · rw [List.pairwise_append]
      refine ⟨r.dist, List.pairwise_replicate.mpr (.inr fun a es fs e => by cases e), fun p hp q hq a es fs _ _ e => ?_⟩
      rw [List.mem_replicate] at hq
      rw [hq.2] at e; cases e
  have noali : ∀ p ∈ A.map pr ++ List.replicate (N.length - ps.length) ((none : Option V), (none : Option SV)), NoAli p := fun p hp es e => by
    rcases List.mem_append.mp hp with z | z
    · obtain ⟨q, hq, rfl⟩ := List.mem_map.mp z
      have := na q.2 (List.mem_map.mpr ⟨q, hq, rfl⟩)
      rw [Option.some.inj e] at this; cases this
    · rw [List.mem_replicate] at z
      rw [z.2] at e; cases e
  have := (inst F).run _ H { nx := fun _ => S (.ok (.val .none)), rt := fun sv => S (.ok sv) } { nx := fun _ H' => Q .non H', rt := Q } ⟨⟨F, by rw [List.append_nil]; exact rep⟩, by rw [List.append_nil]; exact noali⟩ (by rw [e2]; exact hx F _ S hR)
    ⟨fun Z H' r' h' => hS _ h' .non H' (by
      obtain ⟨⟨F', q⟩, _⟩ := r'
      exact ⟨F', by simpa using (q.pushV (v := .non) (d := .none) .non).sub (List.sublist_append_right _ _)⟩), fun _ _ _ h => h.elim, fun _ _ _ h => h.elim, fun sv v H' h' b => hS _ h' v H' b⟩
  rw [e1] at this
  exact this
end
section
variable {P : Program} {w : World} {K : PySem.W.Frag} {mg : Str → Option Value} {base : Heap}
/-- a def that no error leaves keeps its contract -/
theorem okF {x qual : Str} {st : Stmt} {f : Addr} {fd : FuncData} {N ps : List Str} {k : Nat} {R : RC} (F : Fun K x qual st f fd) (S : FnScope N ps (defScope st)) (hlen : ∀ F as S, R F as S → as.length = ps.length)
    (body : ∀ (cdv : Value) (A : Around) (outer : List Env) (s : Shared) (H : Hp) (E : XK), Room k (A.deeper (envOfC qual (defScope st) s.heap.objs.size f cdv)) →
      ∃ (t : TS) (g : Hp → DSX), PSs (cxOf CX0 P w K mg base N qual (defScope st) f cdv A outer s H E).nox (defBody st) t ∧ (∀ F0, DS0 F0 H t (g F0)) ∧
        ∀ F0 as S, R F0 as S → g F0 { nx := fun _ => S (.ok (.val .none)), rt := fun sv => S (.ok sv) } (as.map some ++ List.replicate (N.length - ps.length) none)) : FnOk P w K mg base CX0 (k + 1) f fd ps (spF R) := by
  refine F.ok S (fun vs H Q E h => ?_) (fun cdv A outer s H vs Q E hr h => ?_)
  · obtain ⟨F, A, S, rfl, r, na, hR, hS⟩ := h
    simpa using hlen _ _ _ hR
  · obtain ⟨t, g, h1, h2, h3⟩ := body cdv A outer s H E hr
    exact ⟨t, h1, def_run h hlen h2 h3⟩
/-- the same of a def that errors may leave -/
theorem okFX {x qual : Str} {st : Stmt} {f : Addr} {fd : FuncData} {N ps : List Str} {k : Nat} {R : RC} (F : Fun K x qual st f fd) (S : FnScope N ps (defScope st)) (hlen : ∀ F as S, R F as S → as.length = ps.length)
    (body : ∀ (cdv : Value) (A : Around) (outer : List Env) (s : Shared) (H : Hp) (E : XK), Room k (A.deeper (envOfC qual (defScope st) s.heap.objs.size f cdv)) →
      ∃ (t : TS) (g : (Addr → Int → Prop) → Hp → DSX), PSs (cxOf (L2.CX P w) P w K mg base N qual (defScope st) f cdv A outer s H E) (defBody st) t ∧ (∀ F0 ER, EOk H E ER → DS0 F0 H t (g ER F0)) ∧
        ∀ F0 as (S : Rs → Prop), R F0 as S → g (fun C i => S (.er C i)) F0 { nx := fun _ => S (.ok (.val .none)), rt := fun sv => S (.ok sv) } (as.map some ++ List.replicate (N.length - ps.length) none)) : FnOk P w K mg base (L2.CX P w) (k + 1) f fd ps (spF R) := by
  refine F.okX S (fun vs H Q E h => ?_) (fun cdv A outer s H vs Q E hr h => ?_)
  · obtain ⟨F, A, S, rfl, r, na, hR, hS⟩ := h
    simpa using hlen _ _ _ hR
  · obtain ⟨t, g, h1, h2, h3⟩ := body cdv A outer s H E hr
    refine ⟨t, h1, ?_⟩
    obtain ⟨F1, A1, S1, e1, r1, na1, hR1, hS1⟩ := h
    refine def_run (R := fun F as S => S = S1 ∧ R F as S) (g := g (fun C i => S1 (.er C i))) ⟨F1, A1, S1, e1, r1, na1, ⟨rfl, hR1⟩, hS1⟩ (fun F as S h => hlen _ _ _ h.2) (fun F0 => h2 F0 _ ⟨fun C i hs dd H' sm nd => hS1 _ hs dd H' sm nd⟩) fun F0 as S h => ?_
    obtain ⟨rfl, h⟩ := h
    exact h3 F0 as S h
end

section
variable {F0 H0 F H : Hp}
/-- a law's rest, behind its first statement (which told the script's numbers): all that stands is let go -/
theorem law_rest {t : TS} {g : DSX} {Q : VK} {Z : Zt} {H : Hp} [inst : DS0 H H t g] (hz : ∀ p ∈ Z, ∀ sv, p.2 = some sv → ∃ v d, p.1 = some v ∧ sv = .val d ∧ Dv H v d) (hQ : ∀ H', Q (.bl true) H')
    (h : g { nx := fun _ => False, rt := fun sv => sv = .val (.bool true) } (Z.map Prod.snd)) : t { nx := fun _ H' => Q .non H', rt := Q } (Z.map Prod.fst) H := by
  refine inst.run Z H _ _ ⟨⟨H, Same.refl _, Same.refl _, Same.refl _, fun _ h _ => h, fun p hp => ?_, ?_⟩, fun p hp es e => ?_⟩ h ⟨fun _ _ _ h => h.elim, fun _ _ _ h => h.elim, fun _ _ _ h => h.elim, fun sv v H' e ⟨F, r⟩ => ?_⟩
  · intro sv e
    rw [List.append_nil] at hp
    obtain ⟨v, d, e1, rfl, hd⟩ := hz p hp sv e
    exact ⟨v, e1, hd⟩
  · refine List.Pairwise.imp_of_mem (S := Apart) (fun {p q} hp hq _ a es fs _ e _ _ => ?_) (all_pw (R := fun _ _ => True) (fun _ _ => trivial) _)
    rw [List.append_nil] at hp
    obtain ⟨v, d, _, z, _⟩ := hz p hp _ e
    cases z
  · rw [List.append_nil] at hp
    obtain ⟨v, d, _, z, _⟩ := hz p hp _ e
    cases z
  · subst e
    obtain ⟨w, e1, rv⟩ := r.ok (some v, some (SV.val (PyData.bool true))) (by simp) _ rfl
    cases e1
    cases rv
    exact hQ H'
theorem dv_ints (H : Hp) {l : Addr} {xs : List Int} (h : H l = some (.lst (xs.map V.int))) : Dv H (.ref l) (.list (LI xs)) := by
  have : ∀ ys : List Int, DvAll H (ys.map V.int) (LI ys) := fun ys => by
    unfold LI
    induction ys with
    | nil => exact .nil
    | cons y ys ih => exact .cons (.int y) ih
  exact .lst h (this xs)
end
section
variable {P : Program} {w : World} {K : PySem.W.Frag} {mg : Str → Option Value} {base : Heap}
def sp_draws (K : PySem.W.Frag) : Sp := fun vs H Q _ => ∃ (a : Addr) (ns : List Int), vs = [.ref a] ∧ SqL K H a (ns.map V.int) ∧ ns.length ≤ 63 ∧
  ∀ (l : Addr) (xs : List Int) H', Same H H' → H l = none → H' l = some (.lst (xs.map V.int)) → xs.length ≤ 4000 → Q (.ref l) H'
def sp_law (K : PySem.W.Frag) : Sp := fun vs H Q _ => ∃ (a : Addr) (ns : List Int), vs = [.ref a] ∧ SqL K H a (ns.map V.int) ∧ ns.length ≤ 63 ∧ ∀ H', Q (.bl true) H'
def lawEnds : DEnds := { nx := fun _ => False, rt := fun sv => sv = .val (.bool true) }
/-- a law that begins with draws = _law_draws(script) -/
theorem okLaw {x qual : Str} {st : Stmt} {f : Addr} {fd : FuncData} {N : List Str} {k : Nat} (F : Fun K x qual st f fd) (S : FnScope N ["script"] (defScope st)) (hN : 2 ≤ N.length)
    (body : ∀ (cdv : Value) (A : Around) (outer : List Env) (s : Shared) (H : Hp) (E : XK), Room k (A.deeper (envOfC qual (defScope st) s.heap.objs.size f cdv)) →
      ∃ (t : TS) (g : Hp → DSX), PSs (cxOf CX0 P w K mg base N qual (defScope st) f cdv A outer s H E).nox (defBody st) (tSeq (tAsg (tCall (sp_draws K) [] (fun _ _ _ => False) (tCons (tVar 0) tNil)) (gName 1)) t) ∧ (∀ F0, DS0 F0 F0 t (g F0)) ∧
        ∀ F0 (xs : List Int), xs.length ≤ 4000 → g F0 lawEnds (none :: some (.val (.list (LI xs))) :: List.replicate (N.length - 2) none)) : FnOk P w K mg base CX0 (k + 1) f fd ["script"] (sp_law K) := by
  refine F.ok S (fun vs H Q E h => ?_) (fun cdv A outer s H vs Q E hr h => ?_)
  · obtain ⟨a, ns, rfl, _⟩ := h; rfl
  · obtain ⟨a, ns, rfl, hS, hl, hQ⟩ := h
    obtain ⟨t, g, h1, h2, h3⟩ := body cdv A outer s H E hr
    refine ⟨_, h1, ?_⟩
    refine ⟨.ref a, rfl, a, ns, rfl, hS, hl, fun l xs H1 s1 nl hx hlen => ?_⟩
    have e : L2.start N [V.ref a] = some (.ref a) :: none :: List.replicate (N.length - 2) none := by
      unfold L2.start
      obtain ⟨m, hm⟩ : ∃ m, N.length = m + 2 := ⟨N.length - 2, by omega⟩
      rw [hm]
      show some (V.ref a) :: List.replicate (m + 2 - 1) none = some (V.ref a) :: none :: List.replicate (m + 2 - 2) none
      have : m + 2 - 1 = m + 1 := by omega
      rw [this, List.replicate_succ]; rfl
    show t _ ((L2.start N [V.ref a]).set 1 (some (.ref l))) H1
    rw [e]
    have inst := h2 H1
    have := law_rest (t := t) (g := g H1) (Q := Q) (Z := (some (.ref a), none) :: (some (.ref l), some (.val (.list (LI xs)))) :: List.replicate (N.length - 2) (none, none)) (H := H1) (fun p hp sv e => ?_) hQ (by
      simp only [List.map_cons, List.map_replicate]
      exact h3 H1 xs hlen)
    · simpa using this
    · rcases List.mem_cons.mp hp with z | hp
      · subst z; cases e
      · rcases List.mem_cons.mp hp with z | hp
        · subst z; cases e; exact ⟨_, _, rfl, rfl, dv_ints H1 hx⟩
        · rw [List.mem_replicate] at hp
          rw [hp.2] at e; cases e
end
end DL
/-! Data: isinstance, the draws of a law. -/
namespace DL
open PySem PySem.Spec PyProof.Rows L2 NB
section
variable {F0 H0 F H : Hp} {K : PySem.W.Frag}
theorem RV.ty {v : V} {sv : SV} {t : String} (r : RV H0 F H v sv) (l : Same F H) (e : sv.cls? = some t) : TyX K H v (.type t) := by
  match sv, r, e with
  | .val .none, r, e => cases e; cases r; exact .base .non
  | .val (.bool b), r, e => cases e; cases r; exact .base (.bl _)
  | .val (.int i), r, e => cases e; cases r; exact .base (.int _)
  | .val (.list ds), r, e =>
    cases e
    cases r with
    | lst h hs => exact .base (.lst (l _ _ h))
  | .val (.tuple ds), r, e =>
    cases e
    cases r with
    | tup h hs => exact .base (.tup (l _ _ h))
  | .own ds, r, e => cases e; obtain ⟨a, vs, rfl, _, _, h, hs⟩ := r; exact .base (.lst h)
  | .ali ds, r, e => cases e; obtain ⟨a, vs, rfl, h, hs⟩ := r; exact .base (.lst h)
def bIsi : SV → SV → (SV → Prop) → Prop := fun x y P => match x.cls?, y with | some t, .raw (.ty n) => ∃ b, kitB t n = some b ∧ P (.val (.bool b)) | _, _ => False
instance : CbD F0 H0 (rIsi K) (fun xs P => match xs with | [x, y] => bIsi x y P | _ => False) :=
  .two fun W x y sx sy H F P Q r rx ry l h q => by
    unfold bIsi at h
    cases e : sx.cls? with
    | none => rw [e] at h; exact h.elim
    | some t =>
      rw [e] at h
      match sy, h, ry with
      | .raw (.ty n), ⟨b, hb, hp⟩, ry =>
        cases ry
        exact ⟨x, .ty n, .type t, .type n, b, rfl, .ty n, rx.ty l e, kit_ty hb, q _ hp _ _ ⟨F, r.pushV (.bl _)⟩⟩
end
def rcMix : RC := pur fun as S => ∃ (ds : List Int) (k many : Int), as = [.val (.list (LI ds)), .val (.int k), .val (.int many)] ∧ 0 ≤ k ∧ k < 2 ^ 40 ∧ 0 < many ∧ ∀ v : Int, 0 ≤ v → v < many → S (.ok (.val (.int v)))
instance : MonoR rcMix := inferInstanceAs (MonoR (pur _))
/-- what a call that gives one value asks -/
theorem mix_go {F0 : Hp} {ds : List Int} {k many : Int} {al : SV → Bool} {P : SV → Prop} {ER : Addr → Int → Prop} (h : ∀ v : Int, 0 ≤ v → v < many → P (.val (.int v))) (hk : 0 ≤ k := by decide) (hk2 : k < 2 ^ 40 := by decide) (hm : 0 < many := by decide) :
    ∃ S, rcMix F0 [.val (.list (LI ds)), .val (.int k), .val (.int many)] S ∧ ∀ r, S r → match r with
      | .ok sv => (al sv = true → sv.flat = true) ∧ P sv
      | .er C i => ER C i := by
  refine ⟨fun r => ∃ v : Int, r = .ok (.val (.int v)) ∧ 0 ≤ v ∧ v < many, ⟨ds, k, many, rfl, hk, hk2, hm, fun v h1 h2 => ⟨v, rfl, h1, h2⟩⟩, ?_⟩
  rintro r ⟨v, rfl, h1, h2⟩
  exact ⟨fun _ => rfl, h v h1 h2⟩
/-! rules with K named: within a comprehension -/
section
variable {X : Cx} {K : PySem.W.Frag}
theorem pi_listK {tg l : Expr} {tl : TE} (h : X.K = K) (hl : PE X l tl) : PI X tg l (iList K tl) := h ▸ pi_list hl
theorem pi_enumK {e : Expr} {ta : TA} {p pos tpos : Pos} {elts : List Expr} {kk : Nat} (h : X.K = K) (hg : Gl X "enumerate") (hm : X.mg "enumerate" = none) (ha : PA X [e] ta) (hs : starEach [e] X.env = [(false, eval e X.env)] := by rfl) : PI X (.Tuple elts kk tpos) (.Call (.Name "enumerate" p) [e] [] pos) (iEnum K ta) := h ▸ pi_enum hg hm ha hs
theorem pi_zipK {e e2 : Expr} {ta : TA} {p pos tpos : Pos} {elts : List Expr} {kk : Nat} (h : X.K = K) (hg : Gl X "zip") (hm : X.mg "zip" = none) (ha : PA X [e, e2] ta)
    (hs : starEach [e, e2] X.env = (false, eval e X.env) :: starEach [e2] X.env := by rfl) (hpl : (backTo pos (starEach [e2] X.env)).any (·.1) = false := by rfl) : PI X (.Tuple elts kk tpos) (.Call (.Name "zip" p) [e, e2] [] pos) (iZip K ta) := h ▸ pi_zip hg hm ha hs hpl
theorem pi_revK {tg e : Expr} {ta : TA} {p pos : Pos} (h : X.K = K) (hg : Gl X "reversed") (hm : X.mg "reversed" = none) (ha : PA X [e] ta) (hs : starEach [e] X.env = [(false, eval e X.env)] := by rfl) : PI X tg (.Call (.Name "reversed" p) [e] [] pos) (iRev K ta) := h ▸ pi_reversed hg hm ha hs
theorem sl_listK (h : X.K = K) : SlR X (rSlL K) := h ▸ sl_list
theorem call_isK (h : X.K = K) : CallR X (.builtin "isinstance") (rIsi K) := h ▸ call_isi
theorem cr_maxK (h : X.K = K) (hc : X.calm = true) : CallR X (.builtin "max") (rMax K) := h ▸ cr_max hc
theorem cr_minK (h : X.K = K) (hc : X.calm = true) : CallR X (.builtin "min") (rMin K) := h ▸ cr_min hc
theorem op_inK (h : X.K = K) : OpR X (compareOp .In) (rIn K false) := h ▸ op_in_seq
theorem op_notInK (h : X.K = K) : OpR X (compareOp .NotIn) (rIn K true) := h ▸ op_notIn_seq
theorem pt_truK {a : Expr} {ta : TE} (h : X.K = K) (ha : PE X a ta) (he : ∀ whole, isTrue a X.env whole = (do let v ← whole; standAt a.pos; holding [v] (truthy v))) : PT X a (tTru K ta) := h ▸ pt_tru ha he
end
end DL
/-! Data: sums of bools. -/
namespace DL
open PySem PySem.Spec PyProof.Rows L2 NB
def b2n : V → Int
  | .bl true => 1
  | _ => 0
def rSumB (K : PySem.W.Frag) : List V → Hp → VK → Prop := fun vs H Q => ∃ (a : Addr) (bs : List Bool), vs = [V.ref a] ∧ SqL K H a (bs.map V.bl) ∧ Q (.int ((bs.map V.bl).map b2n).sum) H
theorem cr_sumB {X : Cx} (hc : X.calm = true) : CallR X (.builtin "sum") (rSumB X.K) := by
  intro pins s σ H vs us Q I r h
  obtain ⟨a, bs, rfl, hs, q⟩ := h
  obtain ⟨its, rv, hl, _⟩ := I.list hs
  rw [Vals.ref1 r]
  refine call_sum_walkAnyB (iter_any hl.isList fun s2 e2 st hne => ?_)
  subst e2
  refine ⟨_, _, _, _, _, _, _, fun i => b2n ((bs.map V.bl).getD i .non), rfl, (Walks.list (A := X.A.in1) (I.ok.hd hc) _ a hne its.toArray).toS, st, fun b hb => ?_, fun i v hv => ?_, fun s' t' m => ?_⟩
  · show b < (s.heap.push _).objs.size
    rw [Heap.size_push]
    obtain ⟨_, e, _⟩ := hl.isList
    have := Heap.lt_size e
    rcases List.mem_cons.mp hb with z | z
    · rw [z]; exact Nat.lt_succ_self _
    · rw [List.mem_singleton] at z; rw [z]; exact Nat.lt_succ_of_lt this
  · have hb := rv.bls
    have hv' : (bs.map Value.bool)[i]? = some v := by rw [← hb, ← List.getElem?_toArray]; exact hv
    rw [List.getElem?_map] at hv'
    cases e : bs[i]? with
    | none => rw [e] at hv'; cases hv'
    | some b =>
      rw [e] at hv'
      cases hv'
      refine .inr ⟨b, rfl, ?_⟩
      have : (bs.map V.bl).getD i .non = .bl b := by rw [List.getD_eq_getElem?_getD, List.getElem?_map, e]; rfl
      show b2n ((bs.map V.bl).getD i .non) = _
      rw [this]
      cases b <;> rfl
  · obtain ⟨h2, g2, d2, t2, o2⟩ := s'
    have eg : g2 = s.gens := m.gens
    have ed : d2 = s.drawn := m.drawn
    have eo : o2 = s.os := m.os
    subst eg ed eo
    refine ⟨.int _, H, I.kept (t' := t2) (h' := h2) fun b o e => m.heap b o (fun hm => ?_) (Heap.get?_push_of_some _ e), ⟨_, rfl⟩, ?_⟩
    · rw [List.mem_singleton] at hm
      have := Heap.lt_size e
      rw [hm] at this
      exact absurd this (Nat.lt_irrefl _)
    · have hn : its.toArray.size = (bs.map V.bl).length := by rw [List.size_toArray, rv.length]
      rw [hn, preSum_list (h := b2n) (bs.map V.bl) _ (fun i x hx => by rw [List.getD_eq_getElem?_getD, hx]; rfl) _ (Nat.le_refl _), List.take_length]
      exact q
/-- how many are true -/
def cntB (bs : List Bool) : Nat := (bs.filter id).length
theorem sum_cnt : ∀ bs : List Bool, ((bs.map V.bl).map b2n).sum = (cntB bs : Int)
  | [] => rfl
  | b :: bs => by
    have ih := sum_cnt bs
    simp only [List.map_cons, List.sum_cons, ih]
    cases b with
    | true => show (1 : Int) + (cntB bs : Int) = ((cntB (true :: bs) : Nat) : Int); unfold cntB; simp; omega
    | false => show (0 : Int) + (cntB bs : Int) = ((cntB (false :: bs) : Nat) : Int); unfold cntB; simp
section
variable {F0 H0 : Hp} {K : PySem.W.Frag}
theorem cr_sumBK {X : Cx} (h : X.K = K) (hc : X.calm = true) : CallR X (.builtin "sum") (rSumB K) := h ▸ cr_sumB hc
def bSumB : SV → (SV → Prop) → Prop := fun x P => ∃ bs : List Bool, x.items? = some (bs.map PyData.bool) ∧ P (.val (.int (cntB bs)))
instance : CbD F0 H0 (rSumB K) (fun xs P => match xs with | [x] => bSumB x P | _ => False) :=
  .one fun W x sx H F P Q r rx l ⟨ns, e, h⟩ q => by
    obtain ⟨a, vs, rfl, ha, hv⟩ := rx.items l e
    rw [all_bools hv] at ha
    exact ⟨a, ns, rfl, SqL.of ha, by rw [sum_cnt]; exact q _ h _ _ ⟨F, r.pushV (.int _)⟩⟩
end
end DL
/-! Data: objects that never change behind their making. -/
namespace DL
open PySem PySem.Spec PyProof.Rows L2 NB MKX
/-- an object of the class at C, its attributes in their order -/
def Ob (C : Addr) (fs : List (Str × PyData)) : PyData := .dict [(.int (.ofNat C), .tuple (fs.map fun p => PyData.str p.1)), (.none, .list (fs.map Prod.snd))]
/-- the attributes of an object, as they stand and as data -/
structure FsOk (F : Hp) (fs' : List (Str × V)) (fs : List (Str × PyData)) : Prop where
  nm : fs'.map Prod.fst = fs.map Prod.fst
  al : DvAll F (fs'.map Prod.snd) (fs.map Prod.snd)
theorem str_names {xs ys : List Str} (h : xs.map PyData.str = ys.map PyData.str) : xs = ys := (List.map_inj_right (fun a b e => PyData.str.inj e)).mp h
theorem Dv.obE {F : Hp} {v : V} {C : Addr} {fs : List (Str × PyData)} (h : Dv F v (Ob C fs)) : ∃ a dx fs', v = .ref a ∧ F a = some (.ins C dx fs') ∧ FsOk F fs' fs := by
  unfold Ob at h
  generalize hn : (fs.map fun p => PyData.str p.1) = ns at h
  generalize hd : fs.map Prod.snd = ds at h
  cases h with
  | ob h1 h2 h3 =>
    rename_i a dx fs'
    refine ⟨a, dx, fs', rfl, h1, str_names ?_, hd ▸ h3⟩
    rw [List.map_map, List.map_map]
    have := hn.trans h2
    exact this.symm
theorem Dv.obI {F : Hp} {a dx C : Addr} {fs' : List (Str × V)} {fs : List (Str × PyData)} (h : F a = some (.ins C dx fs')) (k : FsOk F fs' fs) : Dv F (.ref a) (Ob C fs) := .ob h (by
  have := congrArg (List.map PyData.str) k.nm
  rw [List.map_map, List.map_map] at this
  exact this.symm) k.al
theorem FsOk.mono {F F' : Hp} {fs' fs} (k : FsOk F fs' fs) (s : Same F F') : FsOk F' fs' fs := ⟨k.nm, k.al.mono s⟩
theorem FsOk.get {F : Hp} {f : Str} : ∀ {fs' : List (Str × V)} {fs : List (Str × PyData)} {d : PyData}, FsOk F fs' fs → fs.lookup f = some d → ∃ v, fs'.lookup f = some v ∧ Dv F v d
  | [], [], _, _, e => by cases e
  | [], _ :: _, _, k, _ => by have := k.nm; cases this
  | _ :: _, [], _, k, _ => by have := k.nm; cases this
  | (n, v) :: fs', (m, d') :: fs, d, k, e => by
    obtain ⟨h1, h2⟩ := k
    have e1 : n = m := (List.cons.inj h1).1
    subst e1
    cases h2 with
    | cons h hs =>
      by_cases z : f = n
      · subst z
        rw [List.lookup_cons_self] at e ⊢
        cases e
        exact ⟨v, rfl, h⟩
      · have z' : (f == n) = false := beq_eq_false_iff_ne.mpr z
        rw [List.lookup_cons, z'] at e ⊢
        exact FsOk.get ⟨(List.cons.inj h1).2, hs⟩ e
theorem FsOk.no {F : Hp} {f : Str} : ∀ {fs' : List (Str × V)} {fs : List (Str × PyData)}, FsOk F fs' fs → fs.lookup f = none → fs'.lookup f = none
  | [], [], _, _ => rfl
  | [], _ :: _, k, _ => by have := k.nm; cases this
  | _ :: _, [], k, _ => by have := k.nm; cases this
  | (n, v) :: fs', (m, d') :: fs, k, e => by
    obtain ⟨h1, h2⟩ := k
    have e1 : n = m := (List.cons.inj h1).1
    subst e1
    cases h2 with
    | cons h hs =>
      cases z : (f == n) with
      | true => rw [List.lookup_cons, z] at e; cases e
      | false =>
        rw [List.lookup_cons, z] at e ⊢
        exact FsOk.no ⟨(List.cons.inj h1).2, hs⟩ e
theorem FsOk.len {F : Hp} {fs' fs} (k : FsOk F fs' fs) : fs'.length = fs.length := by have := congrArg List.length k.nm; simpa using this
section
variable {F0 H0 F H : Hp} {K : PySem.W.Frag}
/-- e.f -/
def dFld (K : PySem.W.Frag) (f : Str) (g : DX) : DX := fun σ P => g σ fun sv => ∃ C fs d, sv = .val (Ob C fs) ∧ Cls K C ∧ NoAttr K C f ∧ fs.lookup f = some d ∧ P (.val d)
instance {te : TE} {g : DX} {f : Str} [he : DE F0 H0 te g] : DE F0 H0 (tFld K te f) (dFld K f g) where
  run Z T H P Q := fun hr h q => he.run Z T H _ _ hr h fun sv ⟨C, fs, d, e, c, n, l, hp⟩ v H' ⟨F, r⟩ => by
    subst e
    obtain ⟨r0, rv⟩ := one_tmp r
    obtain ⟨a, dx, fs', rfl, ha, k⟩ := Dv.obE rv
    obtain ⟨w, hw, hd⟩ := k.get l
    exact ⟨a, C, dx, fs', w, rfl, r0.low _ _ ha, c, n, hw, q _ hp _ _ ⟨F, put_tmp r0 hd⟩⟩
/-- o.m(..) -/
def dMeth (F0 : Hp) (C : Addr) (m : Str) (R : RC) (ER : Addr → Int → Prop) (f : DX) (fa : DAX) : DX := fun σ P => f σ fun x => ∃ fs, x = .val (Ob C fs) ∧ fs.lookup m = none ∧ fa σ fun as => ∃ S, R F0 (x :: as.map SV.frz) S ∧ ∀ r, S r → match r with
  | .ok sv => ((as.any SV.isAli || sv.isEnt) = true → sv.flat = true) ∧ P sv
  | .er C i => ER C i
theorem meth_run {R : RC} [MonoR R] {ER : Addr → Int → Prop} {E : XK} {C : Addr} {m : Str} {te : TE} {ta : TA} {f : DX} {fa : DAX} [he : DE F0 H0 te f] [ha : DA F0 H0 ta fa] (hE : ∀ C i, ER C i → ∀ dd H', Same H0 H' → H' dd = none → E (.ref C) (some dd) (upd H' dd (.xd [("at", .int i)])))
    {Z T : Zt} {H : Hp} {P : SV → Prop} {Q : VK} (hr : ∃ F, Rep F0 H0 F H (Z ++ T)) (h : dMeth F0 C m R ER f fa (Z.map Prod.snd) P) (q : ∀ sv, P sv → ∀ v H', (∃ F, Rep F0 H0 F H' (Z ++ (T ++ [(some v, some sv)]))) → Q v H') :
    te (Z.map Prod.fst) H fun x H1 => ∃ a dx fs, x = .ref a ∧ H1 a = some (.ins C dx fs) ∧ fs.lookup m = none ∧ ta (Z.map Prod.fst) H1 fun vs H2 => spF R (x :: vs) H2 Q E :=
  he.run Z T H _ _ hr h fun x ⟨fs, e, nl, h1⟩ v H1 ⟨F, r⟩ => by
    subst e
    obtain ⟨r0, rv⟩ := one_tmp r
    obtain ⟨a, dx, fs', rfl, hA, k⟩ := Dv.obE rv
    refine ⟨a, dx, fs', rfl, r0.low _ _ hA, k.no nl, ha.run Z (T ++ [(some (.ref a), some (.val (Ob C fs)))]) H1 _ _ ⟨F, r⟩ h1 fun A h2 H2 ⟨F2, r2⟩ => ?_⟩
    obtain ⟨S, h3, h4⟩ := h2
    exact call_run (ER := ER) (W := Z ++ T) (A := (.ref a, .val (Ob C fs)) :: A) (P := P) hE (by
      have := r2
      simp only [List.map_cons, List.append_assoc, List.cons_append, List.nil_append] at this ⊢
      exact this) ⟨S, h3, fun r hs => by
      have := h4 r hs
      cases r with
      | ok sv => exact ⟨fun z => this.1 (by simpa [SV.isAli] using z), this.2⟩
      | er C i => exact this⟩ fun sv hp v H3 r3 => q sv hp v H3 (by rw [← List.append_assoc]; exact r3)
instance {R : RC} [MonoR R] {C : Addr} {m : Str} {te : TE} {ta : TA} {f : DX} {fa : DAX} [he : DE F0 H0 te f] [ha : DA F0 H0 ta fa] : DE F0 H0 (tMeth C m (spF R) [] (fun _ _ _ => False) te ta) (dMeth F0 C m R (fun _ _ => False) f fa) where
  run Z T H P Q := fun hr h q => by
    have := meth_run (te := te) (ta := ta) (E := fun _ _ _ => False) (fun _ _ z => z.elim) hr h q
    unfold tMeth
    simpa only [List.append_nil] using this
instance {R : RC} [MonoR R] {E : XK} {ER} [hE : EOk H0 E ER] {C : Addr} {m : Str} {te : TE} {ta : TA} {f : DX} {fa : DAX} [he : DE F0 H0 te f] [ha : DA F0 H0 ta fa] : DE F0 H0 (tMtS C m (spF R) (fun _ cls d H => E cls d H) te ta) (dMeth F0 C m R ER f fa) where
  run Z T H P Q := fun hr h q => meth_run (te := te) (ta := ta) hE.run hr h q
end
end DL
/-! Data: objects are made. -/
namespace DL
open PySem PySem.Spec PyProof.Rows L2 NB MKX
/-- __init__: R tells of the arguments (without self) which objects may come -/
def spI (C : Addr) (R : RC) : Sp := fun vs H Q E => ∃ (x dx : Addr) (Hb F : Hp) (A : List (V × SV)) (S : Rs → Prop), vs = .ref x :: A.map Prod.fst ∧ Hb x = none ∧ Hb dx = none ∧ dx ≠ x ∧ H = upd (upd Hb dx (.own x)) x (.ins C dx []) ∧
  Rep F Hb F Hb (A.map pr) ∧ (∀ s ∈ A.map Prod.snd, s.isAli = false) ∧ R F (A.map Prod.snd) S ∧ ∀ r, S r → match r with
  | .ok sv => ∀ H', (∃ F', Rep F Hb F' H' [(some (.ref x), some sv)]) → Q .non H'
  | .er C i => ∀ dd H', Same Hb H' → H' dd = none → E (.ref C) (some dd) (upd H' dd (.xd [("at", .int i)]))
section
variable {F0 H0 F H : Hp} {K : PySem.W.Frag}
/-- a list as __init__ sees it: it stands at the entry, and stays -/
def SV.entz : SV → SV
  | .own ds => .ent ds
  | .ali ds => .ent ds
  | .val (.list ds) => .ent ds
  | x => x
theorem ent_ok {W : Zt} {A : List (V × SV)} (r : Rep F0 H0 F H (W ++ A.map pr)) : Rep F H F H ((A.map fun p => (p.1, p.2.entz)).map pr) := by
  refine ⟨Same.refl _, r.low, Same.refl _, fun b h _ => h, fun p hp sv e => ?_, ?_⟩
  · rw [List.map_map] at hp
    obtain ⟨⟨v, s⟩, hm, rfl⟩ := List.mem_map.mp hp
    cases e
    obtain ⟨w, e1, rv⟩ := r.ok (some v, some s) (List.mem_append_right _ (List.mem_map.mpr ⟨(v, s), hm, rfl⟩)) _ rfl
    cases e1
    refine ⟨v, rfl, ?_⟩
    cases s with
    | val d =>
      have rv' : Dv F v d := rv
      cases rv' with
      | lst h hs => exact ⟨_, _, rfl, r.low _ _ h, r.low _ _ h, hs⟩
      | non => exact Dv.non
      | bl b => exact Dv.bl b
      | int i => exact Dv.int i
      | str x => exact Dv.str x
      | tup h hs => exact Dv.tup h hs
      | ob h e hs => exact Dv.ob h e hs
    | raw u => exact rv
    | own ds =>
      obtain ⟨a, vs, rfl, _, _, h3, h4⟩ := rv
      exact ⟨a, vs, rfl, h3, h3, h4⟩
    | ali ds =>
      obtain ⟨a, vs, rfl, h3, h4⟩ := rv
      exact ⟨a, vs, rfl, h3, h3, h4⟩
    | ent ds =>
      obtain ⟨a, vs, rfl, _, h3, h4⟩ := rv
      exact ⟨a, vs, rfl, h3, h3, h4⟩
  · rw [List.pairwise_map, List.pairwise_map]
    refine all_pw (fun x y a es fs _ e2 _ _ => ?_) _
    obtain ⟨v, s⟩ := x
    cases s with
    | val d => cases d <;> cases e2
    | own _ => cases e2
    | ali _ => cases e2
    | raw _ => cases e2
    | ent _ => cases e2
theorem ent_na {A : List (V × SV)} : ∀ s ∈ (A.map fun p => (p.1, p.2.entz)).map Prod.snd, s.isAli = false := fun s hs => by
  rw [List.map_map] at hs
  obtain ⟨p, _, rfl⟩ := List.mem_map.mp hs
  obtain ⟨v, s⟩ := p
  cases s with
  | val d => cases d <;> rfl
  | own _ => rfl
  | ali _ => rfl
  | raw _ => rfl
  | ent _ => rfl
theorem made_ok {W : Zt} {v : V} {d : PyData} {H' : Hp} (r : Rep F0 H0 F H W) (b : ∃ F', Rep F H F' H' [(some v, some (.val d))]) : ∃ F', Rep F0 H0 F' H' (W ++ [(some v, some (.val d))]) := by
  obtain ⟨F', b⟩ := b
  have rF : Rep F0 H0 F' H' W := r.both b.base b.low b.ent b.apart
  obtain ⟨v', e0, rv⟩ := b.ok (some v, some (.val d)) (by simp) _ rfl
  cases e0
  exact ⟨F', rF.pushV rv⟩
/-- C(..), as data -/
def dMake (F0 : Hp) (R : RC) (ER : Addr → Int → Prop) (fa : DAX) : DX := fun σ P => fa σ fun as => ∃ S, R F0 (as.map SV.entz) S ∧ ∀ r, S r → match r with
  | .ok sv => (∃ d, sv = .val d) ∧ P sv
  | .er C i => ER C i
theorem make_run {C : Addr} {R : RC} [MonoR R] {ER : Addr → Int → Prop} {E : XK} {W : Zt} {A : List (V × SV)} {P : SV → Prop} {Q : VK} (hE : ∀ C i, ER C i → ∀ dd H', Same H0 H' → H' dd = none → E (.ref C) (some dd) (upd H' dd (.xd [("at", .int i)])))
    (r : Rep F0 H0 F H (W ++ A.map pr)) (h : ∃ S, R F0 ((A.map Prod.snd).map SV.entz) S ∧ ∀ r, S r → match r with
      | .ok sv => (∃ d, sv = .val d) ∧ P sv
      | .er C i => ER C i) (q : ∀ sv, P sv → ∀ v H', (∃ F, Rep F0 H0 F H' (W ++ [(some v, some sv)])) → Q v H') {x dx : Addr} (nx : H x = none) (nd : H dx = none) (ne : dx ≠ x) :
    spI C R (.ref x :: A.map Prod.fst) (upd (upd H dx (.own x)) x (.ins C dx [])) (fun v H2 => v = .non ∧ Q (.ref x) H2) E := by
  obtain ⟨S, h1, h2⟩ := h
  refine ⟨x, dx, H, F, A.map (fun p => (p.1, p.2.entz)), S, by simp, nx, nd, ne, rfl, ent_ok r, ent_na, MonoR.mono r.base (by simpa [Function.comp_def] using h1), fun rs hs => ?_⟩
  have := h2 rs hs
  cases rs with
  | ok sv =>
    obtain ⟨⟨d, rfl⟩, hp⟩ := this
    exact fun H' b => ⟨rfl, q _ hp (.ref x) H' (made_ok r.left b)⟩
  | er C i => exact fun dd H' s n => hE C i this dd H' (r.ent.trans s) n
instance {C : Addr} {R : RC} [MonoR R] {ta : TA} {fa : DAX} [ha : DA F0 H0 ta fa] : DE F0 H0 (tMake C (spI C R) [] (fun _ _ _ => False) ta) (dMake F0 R (fun _ _ => False) fa) where
  run Z T H P Q := fun hr h q => ha.run Z T H _ _ hr h fun A h1 H1 ⟨F, r1⟩ => by
    intro x dx nx nd ne
    rw [List.append_nil]
    exact make_run (W := Z ++ T) (P := P) (fun _ _ z => z.elim) (by rw [List.append_assoc]; exact r1) h1 (fun sv hp v H2 r2 => q sv hp v H2 (by rw [← List.append_assoc]; exact r2)) nx nd ne
instance {C : Addr} {R : RC} [MonoR R] {E : XK} {ER} [he : EOk H0 E ER] {ta : TA} {fa : DAX} [ha : DA F0 H0 ta fa] : DE F0 H0 (tMkS C (spI C R) (fun _ cls d H => E cls d H) ta) (dMake F0 R ER fa) where
  run Z T H P Q := fun hr h q => ha.run Z T H _ _ hr h fun A h1 H1 ⟨F, r1⟩ => by
    intro x dx nx nd ne
    exact make_run (W := Z ++ T) (P := P) he.run (by rw [List.append_assoc]; exact r1) h1 (fun sv hp v H2 r2 => q sv hp v H2 (by rw [← List.append_assoc]; exact r2)) nx nd ne
def dMakeW (F0 : Hp) (R : RC) (ER : Addr → Int → SD → Prop) (fa : DAX) : DX := fun σ P => fa σ fun as => ∃ S, R F0 (as.map SV.entz) S ∧ ∀ r, S r → match r with
  | .ok sv => (∃ d, sv = .val d) ∧ P sv
  | .er C i => ER C i σ
instance {C : Addr} {R : RC} [MonoR R] {W : WX} {ER} [he : EOkW F0 H0 W ER] {ta : TA} {fa : DAX} [ha : DA F0 H0 ta fa] : DEW F0 H0 (tMkS C (spI C R) (WE W) ta) (dMakeW F0 R ER fa) where
  run Z T H P Q := fun hr na h q => ha.run Z T H _ _ hr h fun A h1 H1 ⟨F, r1⟩ => by
    have r1' : Rep F0 H0 F H1 ((Z ++ T) ++ A.map pr) := by rw [List.append_assoc]; exact r1
    obtain ⟨S, h1, h2⟩ := h1
    intro x dx nx nd ne
    refine ⟨x, dx, H1, F, A.map (fun p => (p.1, p.2.entz)), S, by simp, nx, nd, ne, rfl, ent_ok r1', ent_na, MonoR.mono r1'.base (by simpa [Function.comp_def] using h1), fun rs hs => ?_⟩
    have := h2 rs hs
    cases rs with
    | ok sv =>
      obtain ⟨⟨d, rfl⟩, hp⟩ := this
      exact fun H' b => ⟨rfl, q _ hp (.ref x) H' (by
        have := made_ok r1'.left b
        simpa using this)⟩
    | er C i =>
      intro dd H' sm nd
      refine he.run C i Z [] H' dd this ?_ na nd
      have rZ : Rep F0 H0 F H1 Z := r1'.left.left
      exact ⟨F, by rw [List.append_nil]; exact rZ.both (Same.refl _) (rZ.low.trans sm) sm fun _ h _ => h⟩
/-! ### the body of __init__ -/
abbrev DIE := List (Str × PyData) → SD → Prop
abbrev DIX := DIE → List (Str × PyData) → SD → Prop
/-- what stands while self at x is being made -/
structure Mkg (F0 Hb : Hp) (C x : Addr) (fs' : List (Str × V)) (fs : List (Str × PyData)) (dx : Addr) (F1 : Hp) (H : Hp) (Z : Zt) : Prop where
  base : Same F0 F1
  apart : ∀ b, F0 b = none → Hb b ≠ none → F1 b = none
  nx : F1 x = none
  rep : RepS F1 (upd Hb x (.ins C dx fs')) H (Z ++ [])
  ok : FsOk F1 fs' fs
  slf : (Z.map Prod.snd)[0]? = some (some (.raw (.ref x)))
class DIn (F0 Hb : Hp) (C x : Addr) (t : TS) (g : outParam DIX) : Prop where
  run : ∀ (F1 H : Hp) (Z : Zt) (dx : Addr) (fs' : List (Str × V)) (fs : List (Str × PyData)) (E : DIE) (D : Ends), Mkg F0 Hb C x fs' fs dx F1 H Z → g E fs (Z.map Prod.snd) →
    (∀ F2 H' Z' fs2' fs2, Mkg F0 Hb C x fs2' fs2 dx F2 H' Z' → E fs2 (Z'.map Prod.snd) → D.nx (Z'.map Prod.fst) H') → t D (Z.map Prod.fst) H
variable {Hb : Hp} {C x : Addr}
/-- a statement that leaves self alone -/
def dStm (F0 : Hp) (g : Hp → DSX) : DIX := fun E fs σ => ∀ F1, Same F0 F1 → g F1 { nx := fun σ' => σ'[0]? = σ[0]? ∧ E fs σ', rt := fun _ => False } σ
theorem eok_at {Ex : XK} {ER : Addr → Int → Prop} {o : HO} (he : EOk Hb Ex ER) (nx : Hb x = none) : EOk (upd Hb x o) Ex ER := ⟨fun C i h dd H' s n => he.run C i h dd H' ((same_upd nx).trans s) n⟩
theorem DIn.stm {t : TS} {g : Hp → DSX} (h : ∀ F1 o, DS0 F1 (upd Hb x o) t (g F1)) : DIn F0 Hb C x t (dStm F0 g) where
  run F1 H Z dx fs' fs E D m hg k := (h F1 (.ins C dx fs')).run Z H _ D m.rep (hg F1 m.base) ⟨fun Z' H' r' h' => k F1 H' Z' fs' fs ⟨m.base, m.apart, m.nx, r', m.ok, h'.1.trans m.slf⟩ h'.2, fun _ _ _ h => h.elim, fun _ _ _ h => h.elim, fun _ _ _ h => h.elim⟩
def dISeq (g1 g2 : DIX) : DIX := fun E fs σ => g1 (fun fs σ => g2 E fs σ) fs σ
theorem DIn.seq {t u : TS} {g1 g2 : DIX} (h1 : DIn F0 Hb C x t g1) (h2 : DIn F0 Hb C x u g2) : DIn F0 Hb C x (tSeq t u) (dISeq g1 g2) where
  run F1 H Z dx fs' fs E D m hg k := h1.run F1 H Z dx fs' fs _ _ m hg fun F2 H' Z' fs2' fs2 m2 h' => h2.run F2 H' Z' dx fs2' fs2 E D m2 h' k
def dICut (g1 g2 : DIX) : DIX := fun E fs σ => ∃ M : DIE, g1 M fs σ ∧ ∀ fs σ', M fs σ' → g2 E fs σ'
theorem DIn.cut {t u : TS} {g1 g2 : DIX} (h1 : DIn F0 Hb C x t g1) (h2 : DIn F0 Hb C x u g2) : DIn F0 Hb C x (C8.tCut t u) (dICut g1 g2) where
  run F1 H Z dx fs' fs E D m hg k := by
    obtain ⟨M, a, b⟩ := hg
    refine ⟨fun σ' H' => ∃ F2 Z' fs2' fs2, Z'.map Prod.fst = σ' ∧ Mkg F0 Hb C x fs2' fs2 dx F2 H' Z' ∧ M fs2 (Z'.map Prod.snd), h1.run F1 H Z dx fs' fs _ _ m a fun F2 H' Z' fs2' fs2 m2 h' => ⟨F2, Z', fs2', fs2, rfl, m2, h'⟩, ?_⟩
    rintro σ' H' ⟨F2, Z', fs2', fs2, rfl, m2, h'⟩
    exact h2.run F2 H' Z' dx fs2' fs2 E D m2 (b _ _ h') k
theorem putF_new {f : Str} {v : V} : ∀ {fs : List (Str × V)}, fs.lookup f = none → putF f v fs = fs ++ [(f, v)]
  | [], _ => rfl
  | (g, y) :: fs, e => by
    cases z : (f == g) with
    | true => rw [List.lookup_cons, z] at e; cases e
    | false =>
      rw [List.lookup_cons, z] at e
      show (if g = f then _ else _) = _
      rw [if_neg (fun w => by subst w; simp at z), putF_new e]; rfl
/-- self.f = e -/
def dIFld (F0 : Hp) (K : PySem.W.Frag) (C : Addr) (f : Str) (g : Hp → DX) : DIX := fun E fs σ => Cls K C ∧ NoAttr K C f ∧ fs.length < 1000 ∧ fs.lookup f = none ∧ ∀ F1, Same F0 F1 → g F1 σ fun sv => ∃ d, sv.fix? = some d ∧ E (fs ++ [(f, d)]) σ
theorem DIn.fld {f : Str} {te : TE} {g : Hp → DX} (he : ∀ F1 o, DE F1 (upd Hb x o) te (g F1)) : DIn F0 Hb C x (sFld K (tVar 0) te f) (dIFld F0 K C f g) where
  run F1 H Z dx fs' fs E D m hg k := by
    obtain ⟨hc, hn, hl, hf, hg⟩ := hg
    refine (he F1 (.ins C dx fs')).run Z [] H _ _ m.rep.1 (hg F1 m.base) fun sv ⟨d, e, hE⟩ v H1 ⟨F, r⟩ => ?_
    obtain ⟨F2, r2⟩ := Rep.fixLast (by rw [List.nil_append] at r; exact r) e
    have rv := r2.last
    have rZ := r2.left
    have m0 := m.slf
    rw [List.getElem?_map] at m0
    cases eZ : Z[0]? with
    | none => rw [eZ] at m0; cases m0
    | some p =>
      rw [eZ] at m0
      obtain ⟨y, s⟩ := p
      have e1 : s = some (.raw (.ref x)) := Option.some.inj m0
      subst e1
      obtain ⟨w, e2, e3⟩ := rZ.ok (y, some (.raw (.ref x))) (List.mem_of_getElem? eZ) _ rfl
      have e2' : y = some w := e2
      subst e2'
      have e3' : w = .ref x := e3
      subst e3'
      have hx : H1 x = some (.ins C dx fs') := rZ.ent _ _ upd_same
      have fx : F2 x = none := rZ.apart x m.nx (by rw [upd_same]; simp)
      refine ⟨.ref x, by rw [List.getElem?_map, eZ]; rfl, x, C, dx, fs', rfl, hx, hc, hn, by rw [m.ok.len]; exact hl, ?_⟩
      have nl := m.ok.no hf
      rw [putF_new nl]
      have sF : Same F1 F2 := rZ.base
      refine k F2 _ Z (fs' ++ [(f, v)]) (fs ++ [(f, d)]) ⟨m.base.trans sF, fun b h0 h1 => ?_, fx, ⟨⟨F2, Same.refl _, fun b o e => ?_, fun b o e => ?_, fun _ h _ => h, fun p hp sv' e => ?_, ?_⟩, m.rep.2⟩, ⟨by
        rw [List.map_append, List.map_append, m.ok.nm]; rfl, by
        rw [List.map_append, List.map_append]
        exact (m.ok.al.mono sF).app (.cons rv .nil)⟩, m.slf⟩ hE
      · refine rZ.apart b (m.apart b h0 h1) ?_
        by_cases z : b = x
        · subst z; rw [upd_same]; simp
        · rw [upd_ne z]; exact h1
      · have : b ≠ x := fun z => by subst z; rw [fx] at e; cases e
        rw [upd_ne this]; exact rZ.low _ _ e
      · by_cases z : b = x
        · subst z; rw [upd_same] at e ⊢; exact e
        · rw [upd_ne z] at e ⊢
          exact rZ.ent _ _ (by rw [upd_ne z]; exact e)
      · have hp' : p ∈ Z := by simpa using hp
        obtain ⟨w, e1, rr⟩ := rZ.ok p hp' sv' e
        refine ⟨w, e1, ?_⟩
        cases sv' with
        | val d' => exact rr
        | raw u => exact rr
        | ali ds => exact absurd e (m.rep.2 p hp ds)
        | ent ds =>
          obtain ⟨a, vs, q1, q3, q4, q5⟩ := rr
          subst q1
          by_cases z : a = x
          · subst z; rw [hx] at q4; cases q4
          · exact ⟨a, vs, rfl, by rw [upd_ne z] at q3 ⊢; exact q3, by rw [upd_ne z]; exact q4, q5⟩
        | own ds =>
          obtain ⟨a, vs, q1, q2, q3, q4, q5⟩ := rr
          have : a ≠ x := fun z => by subst z; rw [upd_same] at q3; cases q3
          exact ⟨a, vs, q1, q2, by rw [upd_ne this] at q3 ⊢; exact q3, by rw [upd_ne this]; exact q4, q5⟩
      · rw [List.append_nil]; exact rZ.dist
/-- the end: the object stays as it is -/
theorem Mkg.done {F1 : Hp} {Z : Zt} {dx : Addr} {fs' fs} (hb : Hb x = none) (m : Mkg F0 Hb C x fs' fs dx F1 H Z) : ∃ F', Rep F0 Hb F' H [(some (.ref x), some (.val (Ob C fs)))] := by
  obtain ⟨⟨F, r⟩, _⟩ := m.rep
  have fx : F x = none := r.apart x m.nx (by rw [upd_same]; simp)
  have hx : H x = some (.ins C dx fs') := r.ent _ _ upd_same
  have s1 : Same F (upd F x (.ins C dx fs')) := same_upd fx
  have r0 : Rep F0 Hb (upd F x (.ins C dx fs')) H [] := ⟨m.base.trans (r.base.trans s1), fun b o e => by
      by_cases z : b = x
      · subst z; rw [upd_same] at e; rw [← e]; exact hx
      · rw [upd_ne z] at e; exact r.low _ _ e, (same_upd hb).trans r.ent, fun b h0 h1 => by
      have z : b ≠ x := fun z => by subst z; exact h1 hb
      rw [upd_ne z]
      exact r.apart b (m.apart b h0 h1) (by rw [upd_ne z]; exact h1), fun p hp => (by cases hp), .nil⟩
  refine ⟨upd F x (.ins C dx fs'), ?_⟩
  exact r0.pushV (.obI upd_same ((m.ok.mono r.base).mono s1))
end
section
variable {P : Program} {w : World} {K : PySem.W.Frag} {mg : Str → Option Value} {base : Heap}
/-- __init__ keeps its contract -/
theorem okInit {x qual : Str} {st : Stmt} {f C : Addr} {fd : FuncData} {N ps : List Str} {k : Nat} {R : RC} (F : Fun K x qual st f fd) (S : FnScope N ps (defScope st)) (hlen : ∀ F as S, R F as S → as.length + 1 = ps.length)
    (body : ∀ (cdv : Value) (A : Around) (outer : List Env) (s : Shared) (H : Hp) (E : XK), Room k (A.deeper (envOfC qual (defScope st) s.heap.objs.size f cdv)) →
      ∃ (t : TS) (g : (Addr → Int → Prop) → Hp → DIX), PSs (cxOf (L2.CX P w) P w K mg base N qual (defScope st) f cdv A outer s H E) (defBody st) t ∧ (∀ F0 Hb x ER, Hb x = none → EOk Hb E ER → DIn F0 Hb C x t (g ER F0)) ∧
        ∀ F0 as (S : Rs → Prop) x, R F0 as S → g (fun C i => S (.er C i)) F0 (fun fs _ => S (.ok (.val (Ob C fs)))) [] (some (.raw (.ref x)) :: as.map some ++ List.replicate (N.length - ps.length) none)) : FnOk P w K mg base (L2.CX P w) (k + 1) f fd ps (spI C R) := by
  refine F.okX S (fun vs H Q E h => ?_) (fun cdv A outer s H vs Q E hr h => ?_)
  · obtain ⟨x, dx, Hb, F, A, S, rfl, _, _, _, _, r, na, hR, hS⟩ := h
    simpa using hlen _ _ _ hR
  · obtain ⟨t, g, h1, h2, h3⟩ := body cdv A outer s H E hr
    refine ⟨t, h1, ?_⟩
    obtain ⟨x, dx, Hb, F, A, S1, rfl, nx, nd, ne, rfl, r, na, hR, hS⟩ := h
    have hl : A.length + 1 = ps.length := by have := hlen F _ S1 hR; simpa using this
    have fx : F x = none := r.low.free nx
    let H1 : Hp := upd (upd Hb dx (.own x)) x (.ins C dx [])
    have sH : Same Hb H1 := (same_upd nd).trans (same_upd (by rw [upd_ne (Ne.symm ne)]; exact nx))
    have ex : ∀ rest : List (Option V × Option SV), (((some (V.ref x), some (SV.raw (.ref x))) :: A.map pr ++ rest).map Prod.fst) = some (V.ref x) :: (A.map Prod.fst).map some ++ rest.map Prod.fst := fun rest => by
      simp [pr, Function.comp_def]
    have e1 : (((some (V.ref x), some (SV.raw (.ref x))) :: A.map pr ++ List.replicate (N.length - ps.length) ((none : Option V), (none : Option SV))).map Prod.fst) = L2.start N (.ref x :: A.map Prod.fst) := by
      rw [ex]
      unfold L2.start
      rw [List.map_replicate, List.map_cons, List.length_cons, List.length_map, hl]
    have e2 : (((some (V.ref x), some (SV.raw (.ref x))) :: A.map pr ++ List.replicate (N.length - ps.length) ((none : Option V), (none : Option SV))).map Prod.snd) = some (.raw (.ref x)) :: (A.map Prod.snd).map some ++ List.replicate (N.length - ps.length) none := by
      simp [pr, Function.comp_def]
    have rA : Rep F (upd Hb x (.ins C dx [])) F H1 (A.map pr) := ⟨Same.refl _, r.low.trans sH, fun b o e => by
        by_cases z : b = x
        · subst z; rw [upd_same] at e; rw [← e]; exact upd_same
        · rw [upd_ne z] at e; exact sH _ _ e, fun _ h _ => h, fun p hp sv e => by
        obtain ⟨v, e1, rv⟩ := r.ok p hp sv e
        refine ⟨v, e1, ?_⟩
        cases sv with
        | val d => exact rv
        | raw u => exact rv
        | own ds => obtain ⟨a, vs, q1, q2, q3, q4, q5⟩ := rv; rw [q3] at q4; cases q4
        | ent ds =>
          obtain ⟨a, vs, q1, q3, q4, q5⟩ := rv
          have z : a ≠ x := fun z => by subst z; rw [nx] at q3; cases q3
          exact ⟨a, vs, q1, by rw [upd_ne z]; exact q3, sH _ _ q4, q5⟩
        | ali ds => obtain ⟨a, vs, q1, q4, q5⟩ := rv; exact ⟨a, vs, q1, sH _ _ q4, q5⟩, r.dist⟩
    have noali : ∀ p ∈ ((some (V.ref x), some (SV.raw (.ref x))) :: A.map pr ++ List.replicate (N.length - ps.length) ((none : Option V), (none : Option SV))), NoAli p := fun p hp es e => by
      rcases List.mem_append.mp hp with z | z
      · rcases List.mem_cons.mp z with z | z
        · subst z; cases e
        · obtain ⟨q, hq, rfl⟩ := List.mem_map.mp z
          have := na q.2 (List.mem_map.mpr ⟨q, hq, rfl⟩)
          rw [Option.some.inj e] at this; cases this
      · rw [List.mem_replicate] at z
        rw [z.2] at e; cases e
    have rep : Rep F (upd Hb x (.ins C dx [])) F H1 ((some (V.ref x), some (SV.raw (.ref x))) :: A.map pr ++ List.replicate (N.length - ps.length) ((none : Option V), (none : Option SV))) := by
      refine ⟨rA.base, rA.low, rA.ent, rA.apart, fun p hp => ?_, ?_⟩
      · rcases List.mem_append.mp hp with z | z
        · rcases List.mem_cons.mp z with z | z
          · subst z; intro sv e; cases e; exact ⟨_, rfl, rfl⟩
          · exact rA.ok p z
        · rw [List.mem_replicate] at z
          rw [z.2]; intro sv e; cases e
      · rw [List.cons_append, List.pairwise_cons]
        refine ⟨fun q hq a es fs _ e => (by cases e), ?_⟩
        rw [List.pairwise_append]
        refine ⟨rA.dist, List.pairwise_replicate.mpr (.inr fun a es fs e => by cases e), fun p hp q hq a es fs _ _ e => ?_⟩
        rw [List.mem_replicate] at hq
        rw [hq.2] at e; cases e
    have he : EOk Hb E (fun C i => S1 (.er C i)) := ⟨fun C i hs dd H' sm nd => hS _ hs dd H' sm nd⟩
    have := (h2 F Hb x _ nx he).run F H1 _ dx [] [] (fun fs _ => S1 (.ok (.val (Ob C fs)))) { nx := fun _ H' => Q .non H', rt := Q } ⟨Same.refl _, fun b h _ => h, fx, ⟨⟨F, by rw [List.append_nil]; exact rep⟩, by rw [List.append_nil]; exact noali⟩, ⟨rfl, .nil⟩, rfl⟩ (by rw [e2]; exact h3 F _ S1 x hR)
      fun F2 H' Z' fs2' fs2 m2 h' => hS _ h' H' (m2.done nx)
    rw [e1] at this
    exact this
end
end DL
/-! Data: further built-ins and statements. -/
namespace DL
open PySem PySem.Spec PyProof.Rows L2 NB MKX
/-! any of ints -/
theorem truth_intsI {prog : Program} {w : World} {A : Around} {ns : List Int} {its : List Value} (e : IntsAre its ns) :
    TruthOf prog w A (fun i v => its.toArray[i]? = some v) (fun i => (ns.map fun n => decide (n ≠ 0)).getD i false) := fun i v s Q E hv hq => by
  have hv' : its[i]? = some v := by simpa using hv
  have key : ∀ {us : List Value} {ms : List Int} {i : Nat} {v : Value}, IntsAre us ms → us[i]? = some v → ∃ n t, ms[i]? = some n ∧ v = Value.int n t := fun {us} => by
    induction us with
    | nil => intro ms i v _ h; simp at h
    | cons u us ih =>
      intro ms i v h hi
      cases h with
      | cons n t h =>
        cases i with
        | zero => simp at hi; exact ⟨n, t, rfl, hi.symm⟩
        | succ i => simpa using ih h (by simpa using hi)
  obtain ⟨n, t, hn, rfl⟩ := key e hv'
  have hg : (ns.map fun n => decide (n ≠ 0)).getD i false = decide (n ≠ 0) := by rw [List.getD_eq_getElem?_getD, List.getElem?_map, hn]; rfl
  have hq' : Q ((ns.map fun n => decide (n ≠ 0)).getD i false) s := hq
  rw [hg] at hq'
  refine PyProof.Rows.truthy_int ?_
  have : (n != 0) = decide (n ≠ 0) := by by_cases z : n = 0 <;> simp [z]
  rw [this]; exact hq'
def rAnyI (K : PySem.W.Frag) : List V → Hp → VK → Prop := fun vs H Q => ∃ (a : Addr) (ns : List Int), vs = [V.ref a] ∧ SqL K H a (ns.map V.int) ∧ Q (.bl (ns.any fun n => decide (n ≠ 0))) H
theorem cr_anyI {X : Cx} (hc : X.calm = true) : CallR X (.builtin "any") (rAnyI X.K) := by
  intro pins s σ H vs us Q I r h
  obtain ⟨a, ns, rfl, hs, q⟩ := h
  obtain ⟨its, rv, hl, _⟩ := I.list hs
  rw [Vals.ref1 r]
  have hb := rv.ints
  refine call_any_walk (iter_any hl.isList fun s₂ e2 st hne => ?_)
  subst e2
  refine ⟨_, _, _, _, _, _, _, rfl, Walks.list (A := X.A.in1) (I.ok.hd hc) _ a hne its.toArray, st, truth_intsI hb, fun h' tk hk => ?_⟩
  refine ⟨.bl _, H, I.kept fun b o eo => hk b o (fun hmem => ?_) (Heap.get?_push_of_some _ eo), ?_, q⟩
  · rcases List.mem_cons.mp hmem with e1 | hmem
    · exact absurd (e1 ▸ Heap.lt_size eo) (Nat.lt_irrefl _)
    · cases hmem
  · show Value.bool _ = Value.bool _
    have hlen : its.length = (ns.map fun n => decide (n ≠ 0)).length := by rw [← rv.length, List.length_map, List.length_map]
    have := any_range (ns.map fun n => decide (n ≠ 0))
    rw [List.any_map] at this
    rw [List.size_toArray, hlen, this]; rfl
theorem cr_anyIK {X : Cx} {K : PySem.W.Frag} (h : X.K = K) (hc : X.calm = true) : CallR X (.builtin "any") (rAnyI K) := h ▸ cr_anyI hc
section
variable {F0 H0 F H : Hp} {K : PySem.W.Frag}
def bAnyI : SV → (SV → Prop) → Prop := fun x P => ∃ ns : List Int, x.items? = some (LI ns) ∧ P (.val (.bool (ns.any fun n => decide (n ≠ 0))))
instance : CbD F0 H0 (rAnyI K) (fun xs P => match xs with | [x] => bAnyI x P | _ => False) :=
  .one fun W x sx H F P Q r rx l ⟨ns, e, h⟩ q => by
    obtain ⟨a, vs, rfl, ha, hv⟩ := rx.items l e
    rw [all_ints hv] at ha
    exact ⟨a, ns, rfl, SqL.of ha, q _ h _ _ ⟨F, r.pushV (.bl _)⟩⟩
/-! x.extend(e), x an own list -/
def dExt (i : Nat) (f : DX) : DSX := fun E σ => match σ[i]? with
  | some (some (.own ds)) => f σ fun sv => match sv.items? with
    | some es => ds.length + es.length ≤ sizeLine ∧ E.nx (σ.set i (some (.own (ds ++ es))))
    | none => False
  | _ => False
instance {te : TE} {f : DX} {i : Nat} [he : DE F0 H0 te f] : DS F0 H0 (tDrop (tBM K "list" rExtend (tVar i) (tCons te tNil))) (dExt i f) where
  run Z T H E D r h l := by
    unfold dExt at h
    cases e3 : (Z.map Prod.snd)[i]? with
    | none => rw [e3] at h; exact h.elim
    | some ov =>
      match ov, e3 with
      | none, e3 => rw [e3] at h; exact h.elim
      | some (.val _), e3 => rw [e3] at h; exact h.elim
      | some (.ali _), e3 => rw [e3] at h; exact h.elim
      | some (.raw _), e3 => rw [e3] at h; exact h.elim
      | some (.ent _), e3 => rw [e3] at h; exact h.elim
      | some (.own ds), e3 =>
        rw [e3] at h
        obtain ⟨F, r0⟩ := r.1
        obtain ⟨a, vs, z1, z2, z3, _⟩ := own_slot r0 e3
        have h' : f (Z.map Prod.snd) fun sv => match sv.items? with
          | some es => ds.length + es.length ≤ sizeLine ∧ E.nx ((Z.map Prod.snd).set i (some (.own (ds ++ es))))
          | none => False := h
        refine ⟨.ref a, z2, .inl ⟨rfl, _, SqL.of z3⟩, he.run Z T H _ _ ⟨F, r0⟩ h' fun sv hs y H1 ⟨F1, r1⟩ => ?_⟩
        cases e : sv.items? with
        | none => rw [e] at hs; exact hs.elim
        | some es =>
          rw [e] at hs
          rw [← List.append_assoc] at r1
          obtain ⟨b, zs, rfl, hb, hz⟩ := r1.last.items r1.low e
          obtain ⟨a', vs2, q1, q2, q3, q4⟩ := own_slot r1.left e3
          rw [z1] at q1; cases q1
          refine ⟨a, b, vs2, zs, rfl, rfl, q3, hb, by rw [q4.length, hz.length]; exact hs.1, ?_⟩
          have := l.nx _ _ (own_put r1.left r.2 z1 (q4.app hz)) (by rw [map_set_snd]; exact hs.2)
          rw [map_set_fst, set_self z2] at this
          exact this
/-! a, b = e, f -/
def dPar (i j : Nat) (fa : DAX) : DSX := fun E σ => fa σ fun as => ∃ d e, as = [.val d, .val e] ∧ E.nx ((σ.set i (some (.val d))).set j (some (.val e)))
instance {ta : TA} {fa : DAX} {i j : Nat} [ha : DA F0 H0 ta fa] : DS F0 H0 (tPar i j ta) (dPar i j fa) where
  run Z T H E D r h l := ha.run Z T H _ _ r.1 h fun A ⟨d, e, hA, hn⟩ H1 ⟨F, r1⟩ => by
    match A, hA with
    | [(v, _), (w, _)], hA =>
      cases hA
      refine ⟨v, w, rfl, ?_⟩
      have r2 : RepS F0 H0 H1 (Z.set i (some v, some (.val d)) ++ (T ++ [(some w, some (.val e))])) := store_S (T := T ++ [(some w, some (.val e))]) ⟨F, by
        have r1' : Rep F0 H0 F H1 (Z ++ (T ++ [(some v, some (.val d)), (some w, some (.val e))])) := r1
        refine r1'.perm ?_
        refine List.Perm.append_left _ ?_
        rw [List.append_assoc]
        exact List.Perm.append_left _ (List.Perm.swap _ _ _)⟩ (fun p hp es e => by
          rcases List.mem_append.mp hp with z | z
          · exact r.2 p (List.mem_append_left _ z) es e
          · rcases List.mem_append.mp z with z | z
            · exact r.2 p (List.mem_append_right _ z) es e
            · simp at z; subst z; cases e) (by intro _ e; cases e)
      have r3 : RepS F0 H0 H1 ((Z.set i (some v, some (.val d))).set j (some w, some (.val e)) ++ T) := store_S r2.1 (fun p hp => r2.2 p (by
        rcases List.mem_append.mp hp with z | z
        · exact List.mem_append_left _ z
        · exact List.mem_append_right _ (List.mem_append_left _ z))) (by intro _ e; cases e)
      have := l.nx _ _ r3 (by rw [map_set_snd, map_set_snd]; exact hn)
      rw [map_set_fst, map_set_fst] at this
      exact this
/-! e.append(f), e a new list that nobody keeps -/
def dAppT (f fe : DX) : DSX := fun E σ => f σ fun x => ∃ ds, x = .own ds ∧ fe σ fun sv => (∃ d, sv.fix? = some d) ∧ ds.length < sizeLine ∧ E.nx σ
theorem dAppT_run {to te : TE} {f fe : DX} (ho : DE F0 H0 to f) (he : DE F0 H0 te fe) : DS F0 H0 (tDrop (tBM K "list" rAppend to (tCons te tNil))) (dAppT f fe) where
  run Z T H E D r h l := ho.run Z T H _ _ r.1 h fun x ⟨ds, ex, h2⟩ v H1 ⟨F1, r1⟩ => by
    subst ex
    obtain ⟨a, vs, rfl, _, _, ha, hv⟩ := (show RV H0 F1 H1 v (.own ds) from by
      have := r1
      rw [← List.append_assoc] at this
      exact this.last)
    refine ⟨.inl ⟨rfl, _, SqL.of ha⟩, he.run Z (T ++ [(some (.ref a), some (.own ds))]) H1 _ _ ⟨F1, r1⟩ h2 fun sv hs y H2 ⟨F2, r2⟩ => ?_⟩
    obtain ⟨⟨d, hd⟩, hl, hn⟩ := hs
    rw [← List.append_assoc] at r2
    obtain ⟨F3, r3⟩ := r2.fixLast hd
    have r4 : Rep F0 H0 F3 H2 ((Z ++ T) ++ (some (.ref a), some (.own ds)) :: []) := by have := r3.left; rw [← List.append_assoc] at this; exact this
    obtain ⟨w, e1, a', ws, e2, f1, f0, h1, hd2⟩ := r4.ok (some (.ref a), some (.own ds)) (by simp) _ rfl
    cases e1
    cases e2
    have r5 := r4.put (es := ds ++ [d]) (vs := ws ++ [y]) (fun p hp es e => by
      rcases hp with z | z
      · exact absurd e (r.2 p z es)
      · cases z) (hd2.app (.cons r3.last .nil))
    refine ⟨a, ws, y, rfl, rfl, h1, by rw [hd2.length]; exact hl, ?_⟩
    exact l.nx Z _ ⟨⟨F3, r5.left⟩, r.2⟩ hn
instance {C : Addr} {m : Str} {sp : Sp} {E : XK} {ta : TE} {t : TA} {te : TE} {f fe : DX} [ho : DE F0 H0 (tMeth C m sp [] E ta t) f] [he : DE F0 H0 te fe] : DS F0 H0 (tDrop (tBM K "list" rAppend (tMeth C m sp [] E ta t) (tCons te tNil))) (dAppT f fe) := dAppT_run ho he
end
end DL
/-! Data: repr of lists and tuples, where nothing is being printed. -/
namespace DL
open PySem PySem.Spec PyProof.Rows L2 NB
def isSeqD : PyData → Bool
  | .list _ => true
  | .tuple _ => true
  | _ => false
/-- what repr asks of a list or tuple -/
structure ReprOk (d : PyData) : Prop where
  sq : isSeqD d = true
  lay : d.canLay0 = true
  sh : d.showable = true
  dp : d.depth ≤ 60
  ln : d.shown.length ≤ sizeLine
section
variable {F0 H0 F H : Hp} {K : PySem.W.Frag}
def bRepr : SV → (SV → Prop) → Prop := fun x P => ∃ d, x.dat? = some d ∧ ReprOk d ∧ P (.val (.str d.shown))
instance : CbD F0 H0 (GR.rRepr K) (fun xs P => match xs with | [x] => bRepr x P | _ => False) :=
  .one fun W x sx H F P Q r rx l ⟨d, e, ok, h⟩ q => by
    have dp := rx.dat (K := K) l e ok.lay
    cases dp with
    | non => cases ok.sq
    | bl b => cases ok.sq
    | int i => cases ok.sq
    | str x => cases ok.sq
    | lst h1 h2 => exact ⟨_, _, rfl, .lst h1 h2, ok.sh, PySem.PyData.hasDict_of_canLay _ ok.lay, ok.dp, ok.ln, q _ h _ _ ⟨F, r.pushV (.str _)⟩⟩
    | tup h1 h2 => exact ⟨_, _, rfl, .tup h1 h2, ok.sh, PySem.PyData.hasDict_of_canLay _ ok.lay, ok.dp, ok.ln, q _ h _ _ ⟨F, r.pushV (.str _)⟩⟩
end
section
variable {P : Program} {w : World} {K : PySem.W.Frag} {mg : Str → Option Value} {base : Heap}
/-- okF of a def that prints -/
theorem okG {x qual : Str} {st : Stmt} {f : Addr} {fd : FuncData} {N ps : List Str} {k : Nat} {R : RC} (F : Fun K x qual st f fd) (S : FnScope N ps (defScope st)) (hlen : ∀ F as S, R F as S → as.length = ps.length)
    (body : ∀ (cdv : Value) (A : Around) (outer : List Env) (s : Shared) (H : Hp) (E : XK), (A.deeper (envOfC qual (defScope st) s.heap.objs.size f cdv)).guards = some [] → Room k (A.deeper (envOfC qual (defScope st) s.heap.objs.size f cdv)) →
      ∃ (t : TS) (g : Hp → DSX), PSs (cxOf CX0 P w K mg base N qual (defScope st) f cdv A outer s H E).nox (defBody st) t ∧ (∀ F0, DS0 F0 H t (g F0)) ∧
        ∀ F0 as S, R F0 as S → g F0 { nx := fun _ => S (.ok (.val .none)), rt := fun sv => S (.ok sv) } (as.map some ++ List.replicate (N.length - ps.length) none)) : GR.FnG P w K mg base CX0 (k + 1) f fd ps (spF R) := by
  refine GR.Fun.okG F S (fun vs H Q E h => ?_) (fun cdv A outer s H vs Q E gd hr h => ?_)
  · obtain ⟨F, A, S, rfl, r, na, hR, hS⟩ := h
    simpa using hlen _ _ _ hR
  · obtain ⟨t, g, h1, h2, h3⟩ := body cdv A outer s H E gd hr
    exact ⟨t, h1, def_run h hlen h2 h3⟩
end
section
variable {X : Cx} {k : Nat} {f : Addr} {fd : FuncData} {ps : List Str} {sp : Sp} {x : Str} {p pos : Pos} {e : Expr} {es : List Expr} {t : TA} {E : XK}
theorem run_fnG {pins : List (Addr × Obj)} {σ : L2.St} {H : Hp} {s : Shared} {Q : VK} {us : List Value} {vs : List V} (G : GR.FnG X.prog X.w X.K X.mg X.base CX0 k f fd ps sp) (hg : X.A.guards = some []) (hl : us.length = ps.length) (hr : Room k X.A) (hb : L2.Binds X.K fd ps [])
    (I : Inv X pins σ H s) (r : Vals vs us) (hx : Passes CX0 X E) (h : sp vs H Q E) : wpAny (model X.prog X.w) X.A (call (.ref f) us) (EP X pins σ Q) X.xe s := by
  have b := hb s us I.kIn (by rw [List.append_nil]; exact hl)
  rw [List.append_nil] at b
  refine wpAny_call (codeAny_mono (G X.A X.stack s H ⟨us, []⟩ us vs Q E hg hr I.env0 b r h) fun r s' hq => ?_)
  cases r with
  | error e => exact hx pins σ H s e s' I hq
  | ok fl =>
    cases fl with
    | ret u => exact I.after hq
    | next => exact False.elim hq
    | brk => exact False.elim hq
    | cont => exact False.elim hq
theorem pe_callG (G : GR.FnG X.prog X.w X.K X.mg X.base CX0 k f fd ps sp) (hgd : X.A.guards = some []) (hlen : ∀ vs H Q E, sp vs H Q E → vs.length = ps.length) (hr : Room k X.A) (hg : Gl X x) (hm : X.mg x = some (.ref f)) (hk : PySem.W.keepIn X.K (.ref f) = true) (hb : L2.Binds X.K fd ps []) (hx : Passes CX0 X E)
    (ha : PA X (e :: es) t) (hdb : (x == ("__debug__" : Str)) = false := by decide) (he : starEach (e :: es) X.env = (false, eval e X.env) :: starEach es X.env := by rfl) (hpl : (backTo pos (starEach es X.env)).any (·.1) = false := by rfl) :
    PE X (.Call (.Name x p) (e :: es) [] pos) (tCall sp [] E t) := by
  refine ⟨fun pins s σ H Q I h => ?_⟩
  refine wpAny_Call_Name_kw (ld_glob I hg hm ?_ hdb)
  refine PySem.W.callWith_K (h₀ := X.base) I.ok.mod.kin hk (thn (ha.run pos pins s σ H _ I h) fun us s1 ⟨vs, H1, I1, r, q1⟩ => ⟨I1.kIn, ?_⟩) he hpl
  have q2 : sp (vs ++ []) H1 Q E := q1
  rw [List.append_nil] at q2
  exact run_fnG G hgd (by show us.length = ps.length; rw [← r.length]; exact hlen _ _ _ _ q2) hr hb I1 r hx q2
end
/-- what repr asks, by the size -/
theorem ReprOk.of {d : PyData} (sq : isSeqD d = true) (lay : PyData.layable0 d = true) (short : d.intsShort 13 = true) (sh : d.showable = true) (dp : d.depth ≤ 60) : ReprOk d :=
  ⟨sq, SeqAt.canLay_of_layable lay, sh, dp, by have := PyProof.Rows.shown_le13 lay short; have := sizeLine_eq; omega⟩
section
variable {P : Program} {w : World} {K : PySem.W.Frag} {mg : Str → Option Value} {base : Heap}
/-- okLaw of a law that prints, or calls a def that does -/
theorem okLawG {x qual : Str} {st : Stmt} {f : Addr} {fd : FuncData} {N : List Str} {k : Nat} (F : Fun K x qual st f fd) (S : FnScope N ["script"] (defScope st)) (hN : 2 ≤ N.length)
    (body : ∀ (cdv : Value) (A : Around) (outer : List Env) (s : Shared) (H : Hp) (E : XK), (A.deeper (envOfC qual (defScope st) s.heap.objs.size f cdv)).guards = some [] → Room k (A.deeper (envOfC qual (defScope st) s.heap.objs.size f cdv)) →
      ∃ (t : TS) (g : Hp → DSX), PSs (cxOf CX0 P w K mg base N qual (defScope st) f cdv A outer s H E).nox (defBody st) (tSeq (tAsg (tCall (sp_draws K) [] (fun _ _ _ => False) (tCons (tVar 0) tNil)) (gName 1)) t) ∧ (∀ F0, DS0 F0 F0 t (g F0)) ∧
        ∀ F0 (xs : List Int), xs.length ≤ 4000 → g F0 lawEnds (none :: some (.val (.list (LI xs))) :: List.replicate (N.length - 2) none)) : GR.FnG P w K mg base CX0 (k + 1) f fd ["script"] (sp_law K) := by
  refine GR.Fun.okG F S (fun vs H Q E h => ?_) (fun cdv A outer s H vs Q E gd hr h => ?_)
  · obtain ⟨a, ns, rfl, _⟩ := h; rfl
  · obtain ⟨a, ns, rfl, hS, hl, hQ⟩ := h
    obtain ⟨t, g, h1, h2, h3⟩ := body cdv A outer s H E gd hr
    refine ⟨_, h1, ?_⟩
    refine ⟨.ref a, rfl, a, ns, rfl, hS, hl, fun l xs H1 s1 nl hx hlen => ?_⟩
    have e : L2.start N [V.ref a] = some (.ref a) :: none :: List.replicate (N.length - 2) none := by
      unfold L2.start
      obtain ⟨m, hm⟩ : ∃ m, N.length = m + 2 := ⟨N.length - 2, by omega⟩
      rw [hm]
      show some (V.ref a) :: List.replicate (m + 2 - 1) none = some (V.ref a) :: none :: List.replicate (m + 2 - 2) none
      have : m + 2 - 1 = m + 1 := by omega
      rw [this, List.replicate_succ]; rfl
    show t _ ((L2.start N [V.ref a]).set 1 (some (.ref l))) H1
    rw [e]
    have inst := h2 H1
    have := law_rest (t := t) (g := g H1) (Q := Q) (Z := (some (.ref a), none) :: (some (.ref l), some (.val (.list (LI xs)))) :: List.replicate (N.length - 2) (none, none)) (H := H1) (fun p hp sv e => ?_) hQ (by
      simp only [List.map_cons, List.map_replicate]
      exact h3 H1 xs hlen)
    · simpa using this
    · rcases List.mem_cons.mp hp with z | hp
      · subst z; cases e
      · rcases List.mem_cons.mp hp with z | hp
        · subst z; cases e; exact ⟨_, _, rfl, rfl, dv_ints H1 hx⟩
        · rw [List.mem_replicate] at hp
          rw [hp.2] at e; cases e
end
section
variable {F0 H0 F H : Hp} {K : PySem.W.Frag}
/-- x += e, x an own list -/
instance {te : TE} {f : DX} {i : Nat} [he : DE F0 H0 te f] : DS F0 H0 (tAug i te rExt2) (dExt i f) where
  run Z T H E D r h l := by
    unfold dExt at h
    cases e3 : (Z.map Prod.snd)[i]? with
    | none => rw [e3] at h; exact h.elim
    | some ov =>
      match ov, e3 with
      | none, e3 => rw [e3] at h; exact h.elim
      | some (.val _), e3 => rw [e3] at h; exact h.elim
      | some (.ali _), e3 => rw [e3] at h; exact h.elim
      | some (.raw _), e3 => rw [e3] at h; exact h.elim
      | some (.ent _), e3 => rw [e3] at h; exact h.elim
      | some (.own ds), e3 =>
        rw [e3] at h
        obtain ⟨F, r0⟩ := r.1
        obtain ⟨a, vs, z1, z2, z3, _⟩ := own_slot r0 e3
        have h' : f (Z.map Prod.snd) fun sv => match sv.items? with
          | some es => ds.length + es.length ≤ sizeLine ∧ E.nx ((Z.map Prod.snd).set i (some (.own (ds ++ es))))
          | none => False := h
        refine ⟨.ref a, z2, he.run Z T H _ _ ⟨F, r0⟩ h' fun sv hs y H1 ⟨F1, r1⟩ => ?_⟩
        cases e : sv.items? with
        | none => rw [e] at hs; exact hs.elim
        | some es =>
          rw [e] at hs
          rw [← List.append_assoc] at r1
          obtain ⟨b, zs, rfl, hb, hz⟩ := r1.last.items r1.low e
          obtain ⟨a', vs2, q1, q2, q3, q4⟩ := own_slot r1.left e3
          rw [z1] at q1; cases q1
          refine ⟨a, b, vs2, zs, rfl, rfl, q3, hb, by rw [q4.length, hz.length]; exact hs.1, ?_⟩
          have := l.nx _ _ (own_put r1.left r.2 z1 (q4.app hz)) (by rw [map_set_snd]; exact hs.2)
          rw [map_set_fst] at this
          exact this
end
section
variable {F0 H0 F H : Hp} {K : PySem.W.Frag}
/-! for x in reversed(range(n)) -/
def stepD (a c : Int) (n : Nat) : List PyData := (List.range n).map fun (i : Nat) => PyData.int (a + (i : Int) * c)
theorem stepD_len (a c : Int) (n : Nat) : (stepD a c n).length = n := by unfold stepD; simp
theorem stepD_at {a c : Int} {n i : Nat} {d : PyData} (h : (stepD a c n)[i]? = some d) : i < n ∧ d = .int (a + (i : Int) * c) := by
  unfold stepD at h
  rw [List.getElem?_map] at h
  by_cases z : i < n
  · rw [List.getElem?_range z] at h
    exact ⟨z, (Option.some.inj h).symm⟩
  · rw [List.getElem?_eq_none (by simp; omega)] at h; cases h
theorem walk_stp (a c : Int) (n : Nat) : DWalk F0 H0 (Itc a c n) (stepD a c n) [] where
  goes i H F W hi r := by rw [stepD_len] at hi; exact hi
  stops H F W r := by rw [stepD_len]; exact Nat.le_refl _
  yields i H x H' F W d hd r y := by
    obtain ⟨rfl, rfl⟩ := y
    obtain ⟨_, rfl⟩ := stepD_at hd
    exact ⟨F, r.pushV (.int _)⟩
def dRevR1 (fa : DX) : SD → (List PyData → Bool → Prop) → Prop := fun σ P => fa σ fun x => match x.int? with | some j => (-(2 ^ 62) ≤ j ∧ j < 2 ^ 62) ∧ P (stepD ((j.toNat : Int) - 1) (-1) j.toNat) true | none => False
instance {ta : TE} {fa : DX} [ha : DE F0 H0 ta fa] : DI F0 H0 (iRevR (tRg1 ta)) (dRevR1 fa) where
  run Z T H P R := fun hr h q => ha.run Z T H _ _ hr h fun sv h1 v H1 ⟨F, r1⟩ => by
    cases e : sv.int? with
    | none => rw [e] at h1; exact h1.elim
    | some j =>
      rw [e] at h1
      obtain ⟨r0, rv⟩ := one_tmp r1
      have ev := rv.int e
      have := q _ _ h1.2 _ _ [] ⟨F, by simpa using r0⟩ (fun _ p hp => nomatch hp) (walk_stp ((j.toNat : Int) - 1) (-1) j.toNat)
      refine ⟨j, ev, by decide, by decide, h1.1.1, h1.1.2, ?_⟩
      have e0 : (j - 0).toNat = j.toNat := by rw [Int.sub_zero]
      rw [e0, Int.zero_add]
      exact this
end
theorem spF_len {R : RC} {n : Nat} (h : ∀ F as S, R F as S → as.length = n) : ∀ vs H Q E, spF R vs H Q E → vs.length = n := fun vs H Q E ⟨F, A, S, e, r, na, hR, hS⟩ => by
  subst e
  simpa using h _ _ _ hR
/-! what repr asks, put together -/
structure Rp (d : PyData) (n b : Nat) : Prop where
  sh : d.intsShort 13 = true
  wt : d.weight ≤ n
  sw : d.showable = true
  ly : d.canLay0 = true
  dp : d.depth ≤ b
structure RpA (ds : List PyData) (n b : Nat) : Prop where
  sh : PyData.intsShortAll 13 ds = true
  wt : PyData.weightAll ds ≤ n
  sw : PyData.showableAll ds = true
  ly : PyData.canLayAll0 ds = true
  dp : PyData.depthAll ds ≤ b
theorem RpA.nil {n b : Nat} : RpA [] n b := ⟨by simp [PyData.intsShortAll], by simp [PyData.weightAll], by simp [PyData.showableAll], by simp [PyData.canLayAll0], by simp [PyData.depthAll]⟩
theorem RpA.cons {d : PyData} {ds : List PyData} {n m N b : Nat} (h : Rp d n b) (k : RpA ds m b) (e : n + 1 + m ≤ N) : RpA (d :: ds) N b :=
  ⟨by rw [PyData.intsShortAll, h.sh, k.sh]; rfl, by rw [PyData.weightAll]; have := h.wt; have := k.wt; omega, by rw [PyData.showableAll, h.sw, k.sw]; rfl, by rw [PyData.canLayAll0, h.ly, k.ly]; rfl, by rw [PyData.depthAll]; have := h.dp; have := k.dp; omega⟩
theorem RpA.lst {ds : List PyData} {n b : Nat} (k : RpA ds n b) : Rp (.list ds) n (b + 1) :=
  ⟨by rw [PyData.intsShort]; exact k.sh, by rw [PyData.weight]; exact k.wt, by rw [PyData.showable]; exact k.sw, by rw [PyData.canLay0]; exact k.ly, by rw [PyData.depth]; have := k.dp; omega⟩
theorem RpA.tup {ds : List PyData} {n b : Nat} (k : RpA ds n b) : Rp (.tuple ds) n (b + 1) :=
  ⟨by rw [PyData.intsShort]; exact k.sh, by rw [PyData.weight]; exact k.wt, by rw [PyData.showable]; exact k.sw, by rw [PyData.canLay0]; exact k.ly, by rw [PyData.depth]; have := k.dp; omega⟩
theorem Rp.mono {d : PyData} {n m b c : Nat} (h : Rp d n b) (e : n ≤ m) (f : b ≤ c) : Rp d m c := ⟨h.sh, Nat.le_trans h.wt e, h.sw, h.ly, Nat.le_trans h.dp f⟩
theorem Rp.int {c : Int} (h0 : 0 ≤ c) (h : c < 256) : Rp (.int c) 10 1 := by
  obtain ⟨n, rfl⟩ := Int.eq_ofNat_of_zero_le h0
  have hn : n < 256 := by omega
  have hl : (n : Int).natAbs.log2 < 10 := by
    rw [Int.natAbs_natCast]
    by_cases z : n = 0
    · rw [z]; decide
    · exact Nat.lt_of_lt_of_le ((Nat.log2_lt (k := 8) z).mpr hn) (by decide)
  have hs : (PyData.shown (.int (n : Int))).length ≤ 13 := by
    have e := int_text_length_le (k := 10) (by decide) hl
    show (Str.ofString (toString (n : Int))).length ≤ 13
    rw [PySem.ofString_length]
    omega
  refine ⟨?_, ?_, ?_, ?_, ?_⟩
  · simp only [PyData.intsShort]; exact decide_eq_true hs
  · simp only [PyData.weight]
    split <;> omega
  · simp only [PyData.showable]; exact decide_eq_true (by omega)
  · simp [PyData.canLay0]
  · simp [PyData.depth]
theorem RpA.ints : ∀ {ns : List Int}, (∀ c ∈ ns, 0 ≤ c ∧ c < 256) → RpA (LI ns) (11 * ns.length) 1
  | [], _ => RpA.nil
  | c :: ns, h => by
    have hc := h c (by simp)
    exact RpA.cons (Rp.int hc.1 hc.2) (RpA.ints fun x hx => h x (List.mem_cons_of_mem _ hx)) (by rw [List.length_cons]; omega)
theorem Rp.ok {d : PyData} {n b : Nat} (h : Rp d n b) (sq : isSeqD d = true) (hn : n ≤ 2 ^ 20) (hb : b ≤ 60) : ReprOk d :=
  .of sq (by
    unfold PyData.layable0
    rw [Bool.and_eq_true, Bool.and_eq_true]
    exact ⟨⟨h.ly, decide_eq_true (by have := h.dp; omega)⟩, decide_eq_true (by have := h.wt; omega)⟩) h.sh h.sw (Nat.le_trans h.dp hb)
end DL
/-! Data: a def that gives a number and a new list in a tuple, of which the caller takes the list. -/
namespace DL
open PySem PySem.Spec PyProof.Rows L2 NB
/-- the contract of a def that returns (n, l), l a new list that nobody else holds -/
def spB (R : List SV → (Int → List PyData → Prop) → Prop) : Sp := fun vs H Q _ => ∃ (F : Hp) (A : List (V × SV)) (S : Int → List PyData → Prop), vs = A.map Prod.fst ∧ Rep F H F H (A.map pr) ∧ (∀ s ∈ A.map Prod.snd, s.isAli = false) ∧ R (A.map Prod.snd) S ∧
  ∀ n es, S n es → ∀ a b H', (∃ F', Rep F H F' H' [(some (.ref b), some (.own es))]) → H' a = some (.tup [.int n, .ref b]) → Q (.ref a) H'
section
variable {P : Program} {w : World} {K : PySem.W.Frag} {mg : Str → Option Value} {base : Heap}
theorem okFB {x qual : Str} {st : Stmt} {f : Addr} {fd : FuncData} {N ps : List Str} {k : Nat} {R : List SV → (Int → List PyData → Prop) → Prop} (i j : Nat) (F : Fun K x qual st f fd) (S : FnScope N ps (defScope st)) (hlen : ∀ as S, R as S → as.length = ps.length)
    (body : ∀ (cdv : Value) (A : Around) (outer : List Env) (s : Shared) (H : Hp) (E : XK), Room k (A.deeper (envOfC qual (defScope st) s.heap.objs.size f cdv)) →
      ∃ (t1 t2 : TS) (g1 g2 : Hp → DSX), PSs (cxOf CX0 P w K mg base N qual (defScope st) f cdv A outer s H E).nox (defBody st) (tSeq t1 (tSeq t2 (tRet (tTup (tCons (tVar i) (tCons (tVar j) tNil)))))) ∧ (∀ F0, DS0 F0 H t1 (g1 F0)) ∧ (∀ F0, DS0 F0 H t2 (g2 F0)) ∧
        ∀ F0 as S, R as S → g1 F0 { nx := g2 F0 { nx := fun σ => ∃ n es, σ[i]? = some (some (.val (.int n))) ∧ σ[j]? = some (some (.own es)) ∧ S n es, rt := fun _ => False }, rt := fun _ => False } (as.map some ++ List.replicate (N.length - ps.length) none)) : FnOk P w K mg base CX0 (k + 1) f fd ps (spB R) := by
  refine F.ok S (fun vs H Q E h => ?_) (fun cdv A outer s H vs Q E hr h => ?_)
  · obtain ⟨F, A, S, rfl, r, na, hR, hS⟩ := h
    simpa using hlen _ _ hR
  · obtain ⟨t1, t2, g1, g2, h1, i1, i2, h3⟩ := body cdv A outer s H E hr
    refine ⟨_, h1, ?_⟩
    obtain ⟨F, A, S, rfl, r, noA, hR, hS⟩ := h
    have last : ∀ Z H', RepS F H H' (Z ++ []) → (∃ n es, (Z.map Prod.snd)[i]? = some (some (.val (.int n))) ∧ (Z.map Prod.snd)[j]? = some (some (.own es)) ∧ S n es) →
        tRet (tTup (tCons (tVar i) (tCons (tVar j) tNil))) { nx := fun _ H' => Q .non H', rt := Q } (Z.map Prod.fst) H' := by
      rintro Z H' ⟨⟨F', r'⟩, _⟩ ⟨n, es, e1, e2, hs⟩
      rw [List.append_nil] at r'
      rw [List.getElem?_map] at e1 e2
      obtain ⟨p1, m1, q1⟩ := Option.map_eq_some_iff.mp e1
      obtain ⟨p2, m2, q2⟩ := Option.map_eq_some_iff.mp e2
      obtain ⟨v1, w1, rv1⟩ := r'.ok p1 (List.mem_of_getElem? m1) _ q1
      obtain ⟨v2, w2, rv2⟩ := r'.ok p2 (List.mem_of_getElem? m2) _ q2
      cases rv1
      obtain ⟨b, ws, rfl, b1, b2, b3, b4⟩ := rv2
      have s2 := sizeLine_eq
      refine ⟨.int n, by rw [List.getElem?_map, m1, Option.map_some, w1], .ref b, by rw [List.getElem?_map, m2, Option.map_some, w2], (show 2 ≤ sizeLine by omega), fun p np => ?_⟩
      refine hS n es hs p b _ ⟨F', ?_⟩ upd_same
      have r2 : Rep F H F' H' [(some (.ref b), some (.own es))] := r'.sub (by
        have : p2 = (some (.ref b), some (.own es)) := Prod.ext w2 q2
        rw [← this]
        exact List.singleton_sublist.mpr (List.mem_of_getElem? m2))
      exact r2.grow np
    have hl : A.length = ps.length := by have := hlen _ S hR; simpa using this
    have e1 : (A.map pr ++ List.replicate (N.length - ps.length) ((none : Option V), (none : Option SV))).map Prod.fst = L2.start N (A.map Prod.fst) := by
      unfold L2.start
      rw [List.map_append, List.map_map, List.map_replicate, List.length_map, hl, List.map_map]; rfl
    have e2 : (A.map pr ++ List.replicate (N.length - ps.length) ((none : Option V), (none : Option SV))).map Prod.snd = (A.map Prod.snd).map some ++ List.replicate (N.length - ps.length) none := by
      rw [List.map_append, List.map_map, List.map_map, List.map_replicate]; rfl
    have rep : Rep F H F H (A.map pr ++ List.replicate (N.length - ps.length) ((none : Option V), (none : Option SV))) := by
      refine ⟨r.base, r.low, r.ent, r.apart, fun p hp => ?_, ?_⟩
      · rcases List.mem_append.mp hp with z | z
        · exact r.ok p z
        · rw [List.mem_replicate] at z
          rw [z.2]; intro sv e; cases e
      · rw [List.pairwise_append]
        refine ⟨r.dist, List.pairwise_replicate.mpr (.inr fun a es fs e => by cases e), fun p hp q hq a es fs _ _ e => ?_⟩
        rw [List.mem_replicate] at hq
        rw [hq.2] at e; cases e
    have noali : ∀ p ∈ A.map pr ++ List.replicate (N.length - ps.length) ((none : Option V), (none : Option SV)), NoAli p := fun p hp es e => by
      rcases List.mem_append.mp hp with z | z
      · obtain ⟨q, hq, rfl⟩ := List.mem_map.mp z
        have := noA q.2 (List.mem_map.mpr ⟨q, hq, rfl⟩)
        rw [Option.some.inj e] at this; cases this
      · rw [List.mem_replicate] at z
        rw [z.2] at e; cases e
    have := (i1 F).run _ H { nx := g2 F { nx := fun σ => ∃ n es, σ[i]? = some (some (.val (.int n))) ∧ σ[j]? = some (some (.own es)) ∧ S n es, rt := fun _ => False }, rt := fun _ => False }
      { nx := tSeq t2 (tRet (tTup (tCons (tVar i) (tCons (tVar j) tNil)))) { nx := fun _ H' => Q .non H', rt := Q }, rt := Q } ⟨⟨F, by rw [List.append_nil]; exact rep⟩, by rw [List.append_nil]; exact noali⟩ (by rw [e2]; exact h3 F _ S hR)
      ⟨fun Z H' r' h' => (i2 F).run Z H' { nx := fun σ => ∃ n es, σ[i]? = some (some (.val (.int n))) ∧ σ[j]? = some (some (.own es)) ∧ S n es, rt := fun _ => False }
        { nx := tRet (tTup (tCons (tVar i) (tCons (tVar j) tNil))) { nx := fun _ H' => Q .non H', rt := Q }, rt := Q } r' h' ⟨fun Z2 H2 r2 h2 => last Z2 H2 r2 h2, fun _ _ _ h => h.elim, fun _ _ _ h => h.elim, fun _ _ _ h => h.elim⟩,
        fun _ _ _ h => h.elim, fun _ _ _ h => h.elim, fun _ _ _ h => h.elim⟩
    rw [e1] at this
    exact this
end
section
variable {F0 H0 F H : Hp} {K : PySem.W.Frag}
theorem callB_run {R : List SV → (Int → List PyData → Prop) → Prop} {E : XK} {W : Zt} {A : List (V × SV)} {P : SV → Prop} {Q : VK}
    (r : Rep F0 H0 F H (W ++ A.map pr)) (h : ∃ S, R ((A.map Prod.snd).map SV.frz) S ∧ ∀ n es, S n es → ((A.map Prod.snd).any SV.isAli = true → es.all flatD = true) ∧ P (.own es))
    (q : ∀ es, P (.own es) → ∀ a b n H', (∃ F, Rep F0 H0 F H' (W ++ [(some (.ref b), some (.own es))])) → H' a = some (.tup [.int n, .ref b]) → Q (.ref a) H') : spB R (A.map Prod.fst) H Q E := by
  obtain ⟨S, h1, h2⟩ := h
  obtain ⟨s1, s2⟩ := keepArgs_at F H r.low A
  refine ⟨keepArgs F H A, A.map (fun p => (p.1, p.2.frz)), S, by simp, args_ok r, (fun s hs => by
    rw [List.map_map] at hs
    obtain ⟨p, _, rfl⟩ := List.mem_map.mp hs
    obtain ⟨v, s⟩ := p
    cases s <;> rfl), by simpa [Function.comp_def] using h1, fun n es hs a b H' bk ha => ?_⟩
  have := h2 n es hs
  exact q es this.2 a b n H' (back_ok r bk fun z => this.1 (by simpa [List.any_map, SV.isEnt] using z)) ha
/-- o.m(..)[1] -/
def dMethB (C : Addr) (m : Str) (R : List SV → (Int → List PyData → Prop) → Prop) (f : DX) (fa : DAX) : DX := fun σ P => f σ fun x => ∃ fs, x = .val (Ob C fs) ∧ fs.lookup m = none ∧ fa σ fun as => ∃ S, R (x :: as.map SV.frz) S ∧ ∀ n es, S n es →
  (as.any SV.isAli = true → es.all flatD = true) ∧ P (.own es)
instance (priority := 2000) {R : List SV → (Int → List PyData → Prop) → Prop} {C : Addr} {m : Str} {te : TE} {ta : TA} {f : DX} {fa : DAX} [he : DE F0 H0 te f] [ha : DA F0 H0 ta fa] : DE F0 H0 (tOp (rIxT K) (tMeth C m (spB R) [] (fun _ _ _ => False) te ta) (tC (.int 1))) (dMethB C m R f fa) where
  run Z T H P Q := fun hr h q => he.run Z T H _ _ hr h fun x ⟨fs, e, nl, h1⟩ v H1 ⟨F, r⟩ => by
    subst e
    obtain ⟨r0, rv⟩ := one_tmp r
    obtain ⟨a, dx, fs', rfl, hA, k⟩ := Dv.obE rv
    refine ⟨a, dx, fs', rfl, r0.low _ _ hA, k.no nl, ha.run Z (T ++ [(some (.ref a), some (.val (Ob C fs)))]) H1 _ _ ⟨F, r⟩ h1 fun A h2 H2 ⟨F2, r2⟩ => ?_⟩
    obtain ⟨S, h3, h4⟩ := h2
    rw [List.append_nil]
    exact callB_run (W := Z ++ T) (A := (.ref a, .val (Ob C fs)) :: A) (P := P) (by
      have := r2
      simp only [List.map_cons, List.append_assoc, List.cons_append, List.nil_append] at this ⊢
      exact this) ⟨S, h3, fun n es hs => by
      have := h4 n es hs
      exact ⟨fun z => this.1 (by simpa [SV.isAli] using z), this.2⟩⟩ fun es hp c b n H3 r3 hc => ⟨c, [.int n, .ref b], 1, .ref b, rfl, rfl, SqT.of hc, rfl, q _ hp _ H3 (by rw [← List.append_assoc]; exact r3)⟩
end
end DL
/-! Data: list.index; x = f(..), a test, x[1].append(0): the list within what a call gave is new. -/
namespace DL
open PySem PySem.Spec PyProof.Rows L2 NB
/-- a contract that asks nothing of what stands -/
class PureR (R : RC) : Prop where
  pure : ∀ {F F' : Hp} {as : List SV} {S : Rs → Prop}, R F as S → R F' as S
instance {R : List SV → (Rs → Prop) → Prop} : PureR (pur R) := ⟨fun h => h⟩
def argFlat : SV → Bool
  | .val (.list ds) => ds.all flatD
  | .val d => flatD d
  | _ => false
def noOwnS : Option SV → Bool
  | some (.own _) => false
  | _ => true
/-- x = f(..); if c: return ..; if c2: x[1].append(0) -/
def dFresh (i : Nat) (R : RC) (fa : DAX) (fc fc2 : DTX) : DSX := fun E σ => fa σ fun as => (as.map SV.frz).all argFlat = true ∧ σ.all noOwnS = true ∧ i < σ.length ∧ ∃ S, R (fun _ => none) (as.map SV.frz) S ∧ ∀ r, S r →
  (r = .ok (.val .none) ∧ fc (σ.set i (some (.val .none))) (· = false) ∧ fc2 (σ.set i (some (.val .none))) (· = false) ∧ E.nx (σ.set i (some (.val .none)))) ∨
  (∃ n es, r = .ok (.val (.tuple [.int n, .list es])) ∧ (∀ s ∈ as.map SV.frz, s ≠ .val (.list es)) ∧ es.all flatD = true ∧ es.length < sizeLine ∧
    fc (σ.set i (some (.val (.tuple [.int n, .list es])))) (· = false) ∧ fc2 (σ.set i (some (.val (.tuple [.int n, .list es])))) (· = true) ∧ E.nx (σ.set i none))
section
variable {F0 H0 F H : Hp} {K : PySem.W.Frag}
def convP (p : Option V × Option SV) : Option V × Option SV := (p.1, match p.2 with
  | some (.own ds) => some (.ent ds)
  | some (.ali ds) => some (.ent ds)
  | x => x)
theorem flat_det {F F' : Hp} : ∀ {vs : List V} {ds es : List PyData}, DvAll F vs ds → DvAll F' vs es → es.all flatD = true → ds = es
  | _, _, _, .nil, .nil, _ => rfl
  | _, _, _, .cons h hs, .cons k ks, f => by
    rw [List.all_cons, Bool.and_eq_true] at f
    have e := flat_det hs ks f.2
    have : ∀ {v : V} {d e : PyData}, Dv F v d → Dv F' v e → flatD e = true → d = e := fun h k f => by
      cases k with
      | non => cases h; rfl
      | bl b => cases h; rfl
      | int i => cases h; rfl
      | str x => cases h; rfl
      | lst _ _ => cases f
      | tup _ _ => cases f
      | ob _ _ _ => cases f
    rw [this h k f.1, e]
instance {R : RC} [pR : PureR R] {ta : TA} {fa : DAX} {i : Nat} {tc tc2 : TT} {fc fc2 : DTX} {tv : TE} [ha : DA F0 H0 ta fa] [hc : ∀ G0 G1, DT G0 G1 tc fc] [hc2 : ∀ G0 G1, DT G0 G1 tc2 fc2] :
    DS F0 H0 (tSeq (tAsg (tCall (spF R) [] (fun _ _ _ => False) ta) (gName i)) (tSeq (tIfS tc (tRet tv) tNext) (tIfS tc2 (tDrop (tBM K "list" rAppend (tOp (rIxT K) (tVar i) (tC (.int 1))) (tCons (tC (.int 0)) tNil))) tNext))) (dFresh i R fa fc fc2) where
  run Z T H E D r h l := ha.run Z T H _ _ r.1 h fun A hA H1 ⟨F1, r1⟩ => by
    obtain ⟨fl, nOwn, hiZ0, S, hR, hS⟩ := hA
    have hiZ : i < Z.length := by simpa using hiZ0
    have rZ : Rep F0 H0 F1 H1 (Z ++ T) := r1.sub (by rw [← List.append_assoc]; exact List.sublist_append_left _ _)
    let L : List Addr := A.filterMap fun p => match p.1 with | .ref a => some a | _ => none
    let Fs : Hp := fun a => if a ∈ L then H1 a else none
    have inL : ∀ {a s}, ((V.ref a, s) : V × SV) ∈ A → a ∈ L := fun {a s} hm => List.mem_filterMap.mpr ⟨_, hm, rfl⟩
    have ofL : ∀ {a}, a ∈ L → ∃ s, ((V.ref a, s) : V × SV) ∈ A := fun {a} hm => by
      obtain ⟨⟨v, s⟩, h1, h2⟩ := List.mem_filterMap.mp hm
      cases v with
      | ref c => cases h2; exact ⟨s, h1⟩
      | _ => cases h2
    have FsIn : ∀ {a}, a ∈ L → Fs a = H1 a := fun h => if_pos h
    have FsOut : ∀ {a}, a ∉ L → Fs a = none := fun h => if_neg h
    have argOk : ∀ v s, (v, s) ∈ A → argFlat s.frz = true := fun v s hm => List.all_eq_true.mp fl _ (List.mem_map.mpr ⟨s, by
      have := hm
      exact List.mem_map.mpr ⟨(v, s), hm, rfl⟩, rfl⟩)
    have rvA : ∀ v s, (v, s) ∈ A → RV H0 F1 H1 v s := fun v s hm => by
      obtain ⟨w, e1, rv⟩ := r1.ok (some v, some s) (List.mem_append_right _ (List.mem_append_right _ (List.mem_map.mpr ⟨(v, s), hm, rfl⟩))) _ rfl
      cases e1; exact rv
    have small : ∀ v s, (v, s) ∈ A → RV H1 Fs H1 v s.frz := fun v s hm => by
      have fl := argOk v s hm
      have rv := rvA v s hm
      cases s with
      | val d =>
        cases d with
        | list ds =>
          cases rv with
          | lst h1 h2 => exact .lst (by rw [FsIn (inL hm)]; exact r1.low _ _ h1) (h2.flat fl)
        | none => exact Dv.flat rv rfl
        | bool b => exact Dv.flat rv rfl
        | int n => exact Dv.flat rv rfl
        | str x => exact Dv.flat rv rfl
        | _ => cases fl
      | own ds =>
        obtain ⟨a, vs, rfl, _, _, h3, h4⟩ := rv
        exact .lst (by rw [FsIn (inL hm)]; exact h3) (h4.flat fl)
      | ali ds =>
        obtain ⟨a, vs, rfl, h3, h4⟩ := rv
        exact .lst (by rw [FsIn (inL hm)]; exact h3) (h4.flat fl)
      | raw u => cases fl
      | ent ds => cases fl
    have lowS : Same Fs H1 := fun b o e => by
      by_cases z : b ∈ L
      · rw [FsIn z] at e; exact e
      · rw [FsOut z] at e; cases e
    have repA : Rep Fs H1 Fs H1 ((A.map fun p => (p.1, p.2.frz)).map pr) := by
      refine ⟨Same.refl _, lowS, Same.refl _, fun b h _ => h, fun p hp sv e => ?_, ?_⟩
      · rw [List.map_map] at hp
        obtain ⟨⟨v, s⟩, hm, rfl⟩ := List.mem_map.mp hp
        cases e
        exact ⟨v, rfl, small v s hm⟩
      · rw [List.pairwise_map, List.pairwise_map]
        refine all_pw (fun x y a es fs _ e2 _ _ => ?_) _
        obtain ⟨v, s⟩ := x
        cases s <;> cases e2
    show spF R (A.map Prod.fst ++ []) H1 _ _
    rw [List.append_nil]
    refine ⟨Fs, A.map (fun p => (p.1, p.2.frz)), S, by simp, repA, (fun s hs => by
      rw [List.map_map] at hs
      obtain ⟨⟨v, s⟩, _, rfl⟩ := List.mem_map.mp hs
      cases s <;> rfl), pR.pure (by simpa [Function.comp_def] using hR), fun rs hs => ?_⟩
    rcases hS rs hs with ⟨rfl, g1, g2, g3⟩ | ⟨n, es, rfl, hne, hfl, hlen, g1, g2, g3⟩
    · intro v H2 ⟨F', b⟩
      have b0 := b.last (W := [])
      cases b0
      have rb : Rep F0 H0 F1 H2 (Z ++ T) := rZ.both (Same.refl _) (rZ.low.trans b.ent) b.ent fun _ h _ => h
      have st := store_S (i := i) (T := T) (v := .non) (sv := .val .none) ⟨F1, by have := rb.pushV (v := .non) (d := .none) .non; rw [List.append_assoc] at this; exact this⟩ r.2 (fun es e => nomatch e)
      show tc _ H2 _
      have e1 : (Z.map Prod.fst).set i (some V.non) = (Z.set i (some V.non, some (SV.val .none))).map Prod.fst := by rw [List.map_set]
      show tc ((Z.map Prod.fst).set i (some V.non)) H2 _
      rw [e1]
      refine (hc F0 H0).run _ T H2 (· = false) _ st.1 (by rw [map_set_snd]; exact g1) fun bb hb H3 r3 => ?_
      subst hb
      show tc2 _ H3 _
      refine (hc2 F0 H0).run _ T H3 (· = false) _ r3 (by rw [map_set_snd]; exact g2) fun bb hb H4 r4 => ?_
      subst hb
      exact l.nx _ H4 ⟨r4, st.2⟩ (by rw [map_set_snd]; exact g3)
    · intro v H2 ⟨F', bk⟩
      have b0 := bk.last (W := [])
      cases b0 with
      | @tup a xs ds q1 q2 =>
        cases q2 with
        | cons q3 q4 =>
          cases q3
          cases q4 with
          | cons q5 q6 =>
            cases q6
            cases q5 with
            | @lst b ws ds q7 q8 =>
              have bL : b ∉ L := fun z => by
                obtain ⟨s, hm⟩ := ofL z
                have hb : Fs b = some (.lst ws) := by
                  have hs0 : Fs b = H1 b := FsIn z
                  cases e : Fs b with
                  | none =>
                    have fl := argOk _ _ hm
                    have rv := rvA _ _ hm
                    rw [e] at hs0
                    cases s with
                    | val d =>
                      cases rv with
                      | lst k1 k2 => rw [r1.low _ _ k1] at hs0; cases hs0
                      | tup _ _ => cases fl
                      | ob _ _ _ => cases fl
                    | own ds => obtain ⟨a, vs, e1, _, _, h3, h4⟩ := rv; cases e1; rw [h3] at hs0; cases hs0
                    | ali ds => obtain ⟨a, vs, e1, h3, h4⟩ := rv; cases e1; rw [h3] at hs0; cases hs0
                    | raw u => cases fl
                    | ent ds => cases fl
                  | some o => rw [bk.base _ _ e] at q7; exact q7
                have h1 := small _ _ hm
                have hfr : ∃ ds0, s.frz = .val (.list ds0) ∧ DvAll Fs ws ds0 := by
                  have fl := argOk _ _ hm
                  revert h1 fl
                  cases s.frz with
                  | val d =>
                    intro h1 fl
                    cases h1 with
                    | lst k1 k2 => rw [hb] at k1; cases k1; exact ⟨_, rfl, k2⟩
                    | tup _ _ => cases fl
                    | ob _ _ _ => cases fl
                  | _ => intro h1 fl; cases fl
                obtain ⟨ds0, e1, k2⟩ := hfr
                have := flat_det k2 q8 hfl
                subst this
                exact hne _ (List.mem_map.mpr ⟨s, List.mem_map.mpr ⟨_, hm, rfl⟩, rfl⟩) e1
              have aL : a ∉ L := fun z => by
                obtain ⟨s, hm⟩ := ofL z
                have h1 := small _ _ hm
                have fl := argOk _ _ hm
                revert h1 fl
                cases s.frz with
                | val d =>
                  intro h1 fl
                  cases h1 with
                  | lst k1 k2 => rw [bk.base _ _ k1] at q1; cases q1
                  | tup _ _ => cases fl
                  | ob _ _ _ => cases fl
                | _ => intro h1 fl; cases fl
              have nb : H1 b = none := by
                cases e : H1 b with
                | none => rfl
                | some o => have := bk.apart b (FsOut bL) (by rw [e]; simp); rw [q7] at this; cases this
              have na : H1 a = none := by
                cases e : H1 a with
                | none => rfl
                | some o => have := bk.apart a (FsOut aL) (by rw [e]; simp); rw [q1] at this; cases this
              have ha2 : H2 a = some (.tup [.int n, .ref b]) := bk.low _ _ q1
              have hb2 : H2 b = some (.lst ws) := bk.low _ _ q7
              have ab : a ≠ b := fun z => by rw [z, hb2] at ha2; cases ha2
              let F2 : Hp := fun x => if x = a then H2 a else if x = b then H2 b else F1 x
              have F2a : F2 a = H2 a := if_pos rfl
              have F2b : F2 b = H2 b := by show (if b = a then H2 a else if b = b then H2 b else F1 b) = _; rw [if_neg (Ne.symm ab), if_pos rfl]
              have F2o : ∀ {x}, x ≠ a → x ≠ b → F2 x = F1 x := fun h1 h2 => by show (if _ = a then H2 a else if _ = b then H2 b else F1 _) = _; rw [if_neg h1, if_neg h2]
              have s12 : Same F1 F2 := fun x o e => by
                have hx := rZ.low _ _ e
                rw [F2o (fun z => by rw [z, na] at hx; cases hx) (fun z => by rw [z, nb] at hx; cases hx)]; exact e
              have l2 : Same F2 H2 := fun x o e => by
                by_cases z : x = a
                · subst z; rw [F2a] at e; exact e
                · by_cases y : x = b
                  · subst y; rw [F2b] at e; exact e
                  · rw [F2o z y] at e; exact bk.ent _ _ (rZ.low _ _ e)
              have conv : ∀ p, p ∈ Z ++ T → PairOk H2 F2 H2 (convP p) := fun p hp sv e => by
                obtain ⟨x, s⟩ := p
                cases s with
                | none => cases e
                | some s =>
                  obtain ⟨w, e1, rv⟩ := rZ.ok _ hp _ rfl
                  refine ⟨w, e1, ?_⟩
                  cases s with
                  | val d => cases e; exact rv.mono s12
                  | raw u => cases e; exact rv
                  | own ds => cases e; obtain ⟨c, vs, q1, _, _, q4, q5⟩ := rv; exact ⟨c, vs, q1, bk.ent _ _ q4, bk.ent _ _ q4, q5.mono s12⟩
                  | ali ds => cases e; obtain ⟨c, vs, q1, q4, q5⟩ := rv; exact ⟨c, vs, q1, bk.ent _ _ q4, bk.ent _ _ q4, q5.mono s12⟩
                  | ent ds => cases e; obtain ⟨c, vs, q1, _, q4, q5⟩ := rv; exact ⟨c, vs, q1, bk.ent _ _ q4, bk.ent _ _ q4, q5.mono s12⟩
              have convZ : ∀ p ∈ Z, convP p = p := fun p hp => by
                obtain ⟨x, s⟩ := p
                cases s with
                | none => rfl
                | some s =>
                  cases s with
                  | own ds => have := List.all_eq_true.mp nOwn (some (.own ds)) (List.mem_map.mpr ⟨_, hp, rfl⟩); cases this
                  | ali ds => exact absurd rfl (r.2 _ (List.mem_append_left _ hp) ds)
                  | _ => rfl
              let Z1 : Zt := Z.set i (some (.ref a), some (.val (.tuple [.int n, .list es])))
              have tupV : Dv F2 (.ref a) (.tuple [.int n, .list es]) := .tup (by rw [F2a]; exact ha2) (.cons (.int n) (.cons (.lst (by rw [F2b]; exact hb2) (q8.flat hfl)) .nil))
              have rM : Rep F2 H2 F2 H2 (Z1 ++ T.map convP) := by
                refine ⟨Same.refl _, l2, Same.refl _, fun b h _ => h, fun p hp => ?_, ?_⟩
                · rcases List.mem_append.mp hp with z | z
                  · rcases List.mem_or_eq_of_mem_set z with z | z
                    · have := conv p (List.mem_append_left _ z)
                      rw [convZ p z] at this; exact this
                    · subst z
                      exact fun sv e => by cases e; exact ⟨_, rfl, tupV⟩
                  · obtain ⟨p', hp', rfl⟩ := List.mem_map.mp z
                    exact conv p' (List.mem_append_right _ hp')
                · refine List.Pairwise.imp_of_mem (S := Apart) (fun {p q} hp hq _ a' es' fs' _ e _ _ => ?_) (all_pw (R := fun _ _ => True) (fun _ _ => trivial) _)
                  rcases List.mem_append.mp hp with z | z
                  · rcases List.mem_or_eq_of_mem_set z with z | z
                    · have := List.all_eq_true.mp nOwn p.2 (List.mem_map.mpr ⟨_, z, rfl⟩)
                      rw [e] at this; cases this
                    · subst z; cases e
                  · obtain ⟨p, hp, rfl⟩ := List.mem_map.mp z
                    obtain ⟨x, s⟩ := p
                    cases s with
                    | none => cases e
                    | some s => cases s <;> cases e
              have e1 : (Z.map Prod.fst).set i (some (V.ref a)) = Z1.map Prod.fst := by show _ = (Z.set i _).map Prod.fst; rw [List.map_set]
              have e2 : Z1.map Prod.snd = (Z.map Prod.snd).set i (some (.val (.tuple [.int n, .list es]))) := by show (Z.set i _).map Prod.snd = _; rw [List.map_set]
              show tc ((Z.map Prod.fst).set i (some (V.ref a))) H2 _
              rw [e1]
              refine (hc F2 H2).run _ (T.map convP) H2 (· = false) _ ⟨F2, rM⟩ (by rw [e2]; exact g1) fun bb hb H3 r3 => ?_
              subst hb
              show tc2 _ H3 _
              refine (hc2 F2 H2).run _ (T.map convP) H3 (· = true) _ r3 (by rw [e2]; exact g2) fun bb hb H4 r4 => ?_
              subst hb
              obtain ⟨F4, r4⟩ := r4
              have s24 : Same H2 H4 := r4.ent
              have ha4 := s24 _ _ ha2
              have hb4 := s24 _ _ hb2
              have hi : (Z1.map Prod.fst)[i]? = some (some (V.ref a)) := by
                rw [← e1, List.getElem?_set_self (by rw [List.length_map]; exact hiZ)]
              show ∃ v, (Z1.map Prod.fst)[i]? = some (some v) ∧ _
              refine ⟨.ref a, hi, ?_⟩
              refine ⟨a, [.int n, .ref b], 1, .ref b, rfl, rfl, SqT.of ha4, rfl, .inl ⟨rfl, _, SqL.of hb4⟩, ?_⟩
              refine ⟨b, ws, .int 0, rfl, rfl, hb4, by rw [q8.length]; exact hlen, ?_⟩
              have s14 : Same H1 H4 := bk.ent.trans s24
              have s15 : Same H1 (upd H4 b (.lst (ws ++ [.int 0]))) := fun x o e => by
                rw [upd_ne (fun z => by rw [z, nb] at e; cases e)]; exact s14 _ _ e
              have rE : Rep F0 H0 F1 (upd H4 b (.lst (ws ++ [.int 0]))) (Z ++ T) := rZ.both (Same.refl _) (rZ.low.trans s15) s15 fun _ h _ => h
              have rS : Rep F0 H0 F1 (upd H4 b (.lst (ws ++ [.int 0]))) (Z.set i (some (.ref a), none) ++ T) := by
                refine ⟨rE.base, rE.low, rE.ent, rE.apart, fun p hp => ?_, ?_⟩
                · rcases List.mem_append.mp hp with z | z
                  · rcases List.mem_or_eq_of_mem_set z with z | z
                    · exact rE.ok p (List.mem_append_left _ z)
                    · subst z; exact fun sv e => by cases e
                  · exact rE.ok p (List.mem_append_right _ z)
                · have hT := rE.dist
                  rw [List.pairwise_append] at hT ⊢
                  have noZ : ∀ p ∈ Z.set i (some (V.ref a), (none : Option SV)), ∀ es', p.2 ≠ some (.own es') := fun p hp es' e => by
                    rcases List.mem_or_eq_of_mem_set hp with z | z
                    · have := List.all_eq_true.mp nOwn p.2 (List.mem_map.mpr ⟨_, z, rfl⟩)
                      rw [e] at this; cases this
                    · subst z; cases e
                  refine ⟨List.Pairwise.imp_of_mem (S := Apart) (fun {p q} hp hq _ a' es' fs' _ e _ _ => noZ p hp es' e) (all_pw (R := fun _ _ => True) (fun _ _ => trivial) _), hT.2.1, fun p hp q hq a' es' fs' _ e _ _ => noZ p hp es' e⟩
              have := l.nx (Z.set i (some (.ref a), none)) _ ⟨⟨F1, rS⟩, fun p hp => by
                rcases List.mem_append.mp hp with z | z
                · rcases List.mem_or_eq_of_mem_set z with z | z
                  · exact r.2 p (List.mem_append_left _ z)
                  · subst z; intro es' e; cases e
                · exact r.2 p (List.mem_append_right _ z)⟩ (by rw [map_set_snd]; exact g3)
              rw [map_set_fst] at this
              rw [← e1]
              exact this
/-- e.index(f) of a list of numbers -/
def dIdx (f fe : DX) : DX := fun σ P => f σ fun x => ∃ ns : List Int, x.items? = some (LI ns) ∧ fe σ fun y => ∃ (k : Int) (j : Nat), y.int? = some k ∧ ns[j]? = some k ∧ (∀ m, m < j → ns[m]? ≠ some k) ∧ P (.val (.int (j : Int)))
instance {to te : TE} {f fe : DX} [ho : DE F0 H0 to f] [he : DE F0 H0 te fe] : DE F0 H0 (tBM K "list" (rIndex K) to (tCons te tNil)) (dIdx f fe) where
  run Z T H P Q := fun hr h q => ho.run Z T H _ _ hr h fun x ⟨ns, e1, hx⟩ v H1 ⟨F1, r1⟩ => by
    have isL : ∃ a vs, v = .ref a ∧ H1 a = some (.lst vs) := by
      obtain ⟨b, ws, eb, hb, _⟩ := (one_tmp r1).2.items r1.low e1
      exact ⟨b, ws, eb, hb⟩
    obtain ⟨a, vs, rfl, hv⟩ := isL
    refine ⟨.inl ⟨rfl, _, SqL.of hv⟩, he.run Z (T ++ [(some (.ref a), some x)]) H1 _ _ ⟨F1, r1⟩ hx fun y hy u H2 ⟨F2, r2⟩ => ?_⟩
    obtain ⟨k, j, e2, g1, g2, hp⟩ := hy
    obtain ⟨r0, ry⟩ := one_tmp r2
    obtain ⟨r00, rx⟩ := one_tmp r0
    have eu := ry.int e2
    subst eu
    obtain ⟨b, ws, eb, hb, hw⟩ := rx.items r0.low e1
    cases eb
    rw [all_ints hw] at hb
    refine ⟨a, ns.map V.int, .int k, j, .int k, rfl, rfl, SqL.of hb, rfl, ?_, by rw [List.getElem?_map, g1]; rfl, ?_, fun m z hm hz => ?_, q _ hp _ _ ⟨F2, put_tmp r00 (.int _)⟩⟩
    · rw [List.all_map]; exact List.all_eq_true.mpr fun _ _ => rfl
    · simp [eqV]
    · rw [List.getElem?_map] at hz
      obtain ⟨c, hc, rfl⟩ := Option.map_eq_some_iff.mp hz
      have : c ≠ k := fun e => g2 m hm (by rw [hc, e])
      simp [eqV, this]
/-! for x in range(a, b, c) -/
def dRng3 (fa : DAX) : SD → (List PyData → Bool → Prop) → Prop := fun σ P => fa σ fun xs => match xs with
  | [x, y, z] => ∃ i j c n, x.int? = some i ∧ y.int? = some j ∧ z.int? = some c ∧ RgC i j c n ∧ P (stepD i c n) true
  | _ => False
instance {ta : TA} {fa : DAX} [ha : DA F0 H0 ta fa] : DI F0 H0 (iRng3 ta) (dRng3 fa) where
  run Z T H P R := fun hr h q => ha.run Z T H _ _ hr h fun A h1 H1 ⟨F, r1⟩ => by
    match A, h1, r1 with
    | [(v, sv), (w, sw), (u, su)], h1, r1 =>
      obtain ⟨i, j, c, n, e1, e2, e3, hc, hp⟩ := h1
      have rv : ∀ p s, (some p, some s) ∈ Z ++ (T ++ [(some v, some sv), (some w, some sw), (some u, some su)]) → RV H0 F H1 p s := fun p s hm => by
        obtain ⟨p', e, rr⟩ := r1.ok _ hm _ rfl
        cases e; exact rr
      have a1 := (rv v sv (by simp)).int e1
      have a2 := (rv w sw (by simp)).int e2
      have a3 := (rv u su (by simp)).int e3
      refine ⟨i, j, c, n, by rw [← a1, ← a2, ← a3]; rfl, hc, q _ _ hp _ _ [] ⟨F, ?_⟩ (fun _ p hp => nomatch hp) (walk_stp i c n)⟩
      rw [List.append_nil]
      refine r1.sub ?_
      rw [← List.append_assoc]
      exact List.sublist_append_left _ _
end
end DL
/-! Data: for x in [a, e, ..], a a list of one's own that stays so behind the loop. -/
namespace DL
open PySem PySem.Spec PyProof.Rows L2 NB
def isFl : SV → Bool
  | .val d => flatD d
  | _ => false
def rawOf (v : Option V) (s : Option SV) : Option SV := match s with
  | none => none
  | some sv => if isFl sv then some sv else v.map SV.raw
def cvP (p : Option V × Option SV) : Option V × Option SV := (p.1, rawOf p.1 p.2)
def rawDs (f : Nat → V) : Nat → SD → SD
  | _, [] => []
  | c, s :: σ => rawOf (some (f c)) s :: rawDs f (c + 1) σ
theorem rawDs_get (f : Nat → V) : ∀ (c : Nat) (σ : SD) (k : Nat), (rawDs f c σ)[k]? = (σ[k]?).map (rawOf (some (f (c + k))))
  | _, [], k => by simp [rawDs]
  | c, s :: σ, 0 => by simp [rawDs]
  | c, s :: σ, k + 1 => by
    have := rawDs_get f (c + 1) σ k
    have e : c + 1 + k = c + (k + 1) := by omega
    rw [e] at this
    simpa [rawDs] using this
theorem rawDs_len (f : Nat → V) : ∀ (c : Nat) (σ : SD), (rawDs f c σ).length = σ.length
  | _, [] => rfl
  | c, s :: σ => by rw [rawDs, List.length_cons, rawDs_len f (c + 1) σ, List.length_cons]
def dForOwn (i x : Nat) (fa : DAX) (gb : Hp → DSX) : DSX := fun E σ => ∃ (j : Nat) (ds : List PyData), σ[i]? = some (some (.own ds)) ∧ ds.all flatD = true ∧ j ≠ x ∧ j < σ.length ∧ x < σ.length ∧ fa σ fun as => ∃ es : List (List PyData), as.map SV.frz = es.map (fun e => SV.val (.list e)) ∧ (∀ e ∈ es, e.all flatD = true) ∧ es.length + 1 ≤ sizeLine ∧
  (∀ (G : Hp) (f : Nat → V) (e : List PyData), e = ds ∨ e ∈ es → ∀ o : Option SV, gb G { nx := fun σ' => ∃ b : Bool, σ' = ((rawDs f 0 σ).set x (some (.val (.list e)))).set j (some (.val (.bool b))), rt := fun _ => False } (((rawDs f 0 σ).set x (some (.val (.list e)))).set j o)) ∧
  ∀ b : Bool, E.nx ((σ.set x none).set j (some (.val (.bool b))))
section
variable {F0 H0 F H : Hp} {K : PySem.W.Frag}
theorem Rep.mix {A B T : Zt} (r : Rep F0 H0 F H (A ++ T)) (hl : B.length = A.length) (h : ∀ (k : Nat) (p : Option V × Option SV), B[k]? = some p → A[k]? = some p ∨ (PairOk H0 F H p ∧ ∀ es, p.2 ≠ some (.own es))) : Rep F0 H0 F H (B ++ T) := by
  have dd := r.dist
  rw [List.pairwise_append] at dd
  obtain ⟨dA, dT, dAT⟩ := dd
  refine ⟨r.base, r.low, r.ent, r.apart, fun p hp => ?_, ?_⟩
  · rcases List.mem_append.mp hp with z | z
    · obtain ⟨k, hk⟩ := List.mem_iff_getElem?.mp z
      rcases h k p hk with y | y
      · exact r.ok p (List.mem_append_left _ (List.mem_of_getElem? y))
      · exact y.1
    · exact r.ok p (List.mem_append_right _ z)
  · rw [List.pairwise_append]
    refine ⟨?_, dT, fun p hp q hq => ?_⟩
    · rw [List.pairwise_iff_getElem]
      intro a b ha hb hab
      rcases h a _ (List.getElem?_eq_getElem ha) with y | y
      · rcases h b _ (List.getElem?_eq_getElem hb) with w | w
        · have h1 := (List.getElem?_eq_some_iff.mp y)
          have h2 := (List.getElem?_eq_some_iff.mp w)
          obtain ⟨l1, e1⟩ := h1
          obtain ⟨l2, e2⟩ := h2
          rw [← e1, ← e2]
          exact List.pairwise_iff_getElem.mp dA a b l1 l2 hab
        · exact fun c es fs _ _ _ e => w.2 fs e
      · exact fun c es fs _ e _ _ => y.2 es e
    · obtain ⟨k, hk⟩ := List.mem_iff_getElem?.mp hp
      rcases h k p hk with y | y
      · exact dAT p (List.mem_of_getElem? y) q hq
      · exact fun c es fs _ e _ _ => y.2 es e
theorem dForOwn_ds {i x : Nat} {ta : TA} {fa : DAX} {tb : TS} {gb : Hp → DSX} (ha : DA F0 H0 ta fa) (hb : ∀ G0 G1, DS G0 G1 tb (gb G0)) : DS F0 H0 (tFor (iList K (tLst (tCons (tVar i) ta))) (gName x) tb) (dForOwn i x fa gb) where
  run Z T H E D r h l := by
    obtain ⟨j, ds, hi, dfl, hjx, hj, hx, h1⟩ := h
    obtain ⟨⟨F, r0⟩, noA⟩ := r
    obtain ⟨b, ws0, z1, z2, z3, z4⟩ := own_slot r0 hi
    refine ⟨.ref b, z2, ha.run Z T H _ _ ⟨F, r0⟩ h1 fun A hA H1 ⟨F1, r1⟩ => ?_⟩
    obtain ⟨es, he, efl, hlen, hbody, hnx⟩ := hA
    have lA : A.length = es.length := by have := congrArg List.length he; simpa using this
    refine ⟨by rw [List.length_cons, List.length_map, lA]; omega, fun p np => ?_⟩
    obtain ⟨b', ws, q1, q2, q3, q4⟩ := own_slot (T := T ++ A.map pr) r1 hi
    rw [z1] at q1
    cases q1
    let xs : List V := .ref b :: A.map Prod.fst
    let HL : Hp := upd H1 p (.lst xs)
    have hLp : HL p = some (.lst xs) := upd_same
    have sL : Same H1 HL := fun c o e => by show upd H1 p (.lst xs) c = _; rw [upd_ne (ne_of_none e np)]; exact e
    have rZ1 : Rep F0 H0 F1 H1 (Z ++ T) := r1.sub (by rw [← List.append_assoc]; exact List.sublist_append_left _ _)
    have rL : Rep F0 H0 F1 HL (Z ++ T) := rZ1.grow np
    -- the elements
    have elem : ∀ (k : Nat) (v : V), xs[k]? = some v → ∃ (a : Addr) (e : List PyData) (us : List V), v = V.ref a ∧ (e = ds ∨ e ∈ es) ∧ HL a = some (.lst us) ∧ DvAll F1 us e ∧ (F1 a = none ∨ F1 a = some (.lst us)) := fun k v hk => by
      have own0 := (rZ1.ok _ (List.mem_append_left _ (List.mem_of_getElem? z1)) _ rfl)
      match k, hk with
      | 0, hk =>
        have : V.ref b = v := Option.some.inj hk
        subst this
        obtain ⟨w, e1, rv⟩ := own0
        cases e1
        obtain ⟨b2, us, e2, f1, f0, hh, hd⟩ := rv
        cases e2
        exact ⟨b, ds, us, rfl, .inl rfl, sL _ _ hh, hd, .inl f1⟩
      | k + 1, hk =>
        have hk' : (A.map Prod.fst)[k]? = some v := hk
        rw [List.getElem?_map] at hk'
        obtain ⟨⟨v', s⟩, hm, rfl⟩ := Option.map_eq_some_iff.mp hk'
        have hes : ∃ e, es[k]? = some e ∧ s.frz = .val (.list e) := by
          have := congrArg (fun l => l[k]?) he
          simp only [List.getElem?_map] at this
          rw [hm] at this
          cases g : es[k]? with
          | none => rw [g] at this; cases this
          | some e => rw [g] at this; exact ⟨e, rfl, Option.some.inj this⟩
        obtain ⟨e, g1, g2⟩ := hes
        have hmem : e ∈ es := List.mem_of_getElem? g1
        obtain ⟨w, e1, rv⟩ := r1.ok (some v', some s) (List.mem_append_right _ (List.mem_append_right _ (List.mem_map.mpr ⟨(v', s), List.mem_of_getElem? hm, rfl⟩))) _ rfl
        cases e1
        cases s with
        | val d =>
          cases g2
          cases rv with
          | @lst a us ds' k1 k2 => exact ⟨a, e, us, rfl, .inr hmem, sL _ _ (r1.low _ _ k1), k2, .inr k1⟩
        | own ds' => cases g2; obtain ⟨a, us, rfl, f1, _, hh, hd⟩ := rv; exact ⟨a, e, us, rfl, .inr hmem, sL _ _ hh, hd, .inl f1⟩
        | ali ds' =>
          cases g2
          obtain ⟨a, us, rfl, hh, hd⟩ := rv
          refine ⟨a, e, us, rfl, .inr hmem, sL _ _ hh, hd, ?_⟩
          cases g : F1 a with
          | none => exact .inl rfl
          | some o => have := r1.low _ _ g; rw [hh] at this; cases this; exact .inr rfl
        | raw u => cases g2
        | ent ds' => cases g2
    have eflat : ∀ e, e = ds ∨ e ∈ es → e.all flatD = true := fun e h => by
      rcases h with rfl | h
      · exact dfl
      · exact efl e h
    have nxs : xs.length = es.length + 1 := by show (A.map Prod.fst).length + 1 = _; rw [List.length_map, lA]
    refine ⟨p, rfl, ⟨xs, SqL.of hLp⟩, fun k m σ H' => m + k = xs.length ∧ Same HL H' ∧ ∃ Z' : Zt, Z'.map Prod.fst = σ ∧ Rep F0 H0 F1 H' (Z' ++ T) ∧ (∀ q ∈ Z' ++ T, NoAli q) ∧ ((k = 0 ∧ Z'.map Prod.snd = Z.map Prod.snd) ∨ ∃ bb : Bool, Z'.map Prod.snd = ((Z.map Prod.snd).set x none).set j (some (.val (.bool bb)))), ⟨xs.length, rfl, Same.refl _, Z, rfl, rL, noA, .inl ⟨rfl, rfl⟩⟩, ?_⟩
    rintro k m σ H' ⟨hmk, sH, Z', rfl, rp, nA, hz⟩
    have hLp' : H' p = some (.lst xs) := sH _ _ hLp
    by_cases hk : k < xs.length
    · refine .inr ⟨⟨xs, xs[k], SqL.of hLp', List.getElem?_eq_getElem hk⟩, fun σ' H2 => ∃ m', m' < m ∧ (m' + (k + 1) = xs.length ∧ Same HL H2 ∧ ∃ Z' : Zt, Z'.map Prod.fst = σ' ∧ Rep F0 H0 F1 H2 (Z' ++ T) ∧ (∀ q ∈ Z' ++ T, NoAli q) ∧ ((k + 1 = 0 ∧ Z'.map Prod.snd = Z.map Prod.snd) ∨ ∃ bb : Bool, Z'.map Prod.snd = ((Z.map Prod.snd).set x none).set j (some (.val (.bool bb))))), fun _ _ h => h, ?_⟩
      rintro v H3 ⟨e3, hv⟩
      rw [e3]
      have hv' := hv xs (SqL.of hLp')
      obtain ⟨a, e, us, rfl, hmem, ha1, hd1, hF⟩ := elem k v hv'
      have ha2 := sH _ _ ha1
      have eF := eflat e hmem
      -- the frame of this turn
      let Fi : Hp := fun c => if c = a then H' a else F1 c
      have Fia : Fi a = some (.lst us) := by show (if a = a then H' a else F1 a) = _; rw [if_pos rfl]; exact ha2
      have s1i : Same F1 Fi := fun c o g => by
        show (if c = a then H' a else F1 c) = _
        by_cases z : c = a
        · subst z
          rw [if_pos rfl]
          rcases hF with f | f
          · rw [f] at g; cases g
          · rw [f] at g; rw [ha2, ← g]
        · rw [if_neg z]; exact g
      have li : Same Fi H' := fun c o g => by
        by_cases z : c = a
        · subst z; rw [Fia] at g; rw [ha2]; exact g
        · have : Fi c = F1 c := if_neg z
          rw [this] at g; exact rp.low _ _ g
      have lZ : Z'.length = Z.length := by
        rcases hz with ⟨_, g⟩ | ⟨bb, g⟩
        · have := congrArg List.length g; simpa using this
        · have := congrArg List.length g; simpa using this
      have xZ : x < Z.length := by simpa using hx
      have jZ : j < Z.length := by simpa using hj
      let Zi : Zt := (Z'.map cvP).set x (some (.ref a), some (.val (.list e)))
      let f : Nat → V := fun k => match Z'[k]? with | some (some v, _) => v | _ => .non
      have cvok : ∀ q, q ∈ Z' ++ T → ∀ sv, q.2 = some sv → ∃ v, q.1 = some v ∧ RV H0 F1 H' v sv := fun q hq => rp.ok q hq
      have rM : Rep Fi H' Fi H' (Zi ++ T.map convP) := by
        refine ⟨Same.refl _, li, Same.refl _, fun c g _ => g, fun q hq => ?_, ?_⟩
        · rcases List.mem_append.mp hq with z | z
          · rcases List.mem_or_eq_of_mem_set z with z | z
            · obtain ⟨q', hq', rfl⟩ := List.mem_map.mp z
              intro sv esv
              obtain ⟨v?, s?⟩ := q'
              cases s? with
              | none => cases esv
              | some s =>
                obtain ⟨v, e1, rv⟩ := cvok _ (List.mem_append_left _ hq') s rfl
                have e1' : v? = some v := e1
                subst e1'
                show ∃ w, some v = some w ∧ _
                refine ⟨v, rfl, ?_⟩
                have esv' : (if isFl s then some s else (some v).map SV.raw) = some sv := esv
                by_cases c : isFl s = true
                · rw [if_pos c] at esv'
                  have es0 : s = sv := Option.some.inj esv'
                  subst es0
                  cases s with
                  | val d => exact Dv.flat rv c
                  | _ => cases c
                · rw [if_neg c] at esv'
                  cases esv'
                  rfl
            · subst z
              exact fun sv esv => by cases esv; exact ⟨_, rfl, .lst Fia (hd1.flat eF)⟩
          · obtain ⟨q', hq', rfl⟩ := List.mem_map.mp z
            intro sv esv
            obtain ⟨v?, s?⟩ := q'
            cases s? with
            | none => cases esv
            | some s =>
              obtain ⟨v, e1, rv⟩ := cvok _ (List.mem_append_right _ hq') s rfl
              refine ⟨v, e1, ?_⟩
              cases s with
              | val d => cases esv; exact rv.mono s1i
              | raw u => cases esv; exact rv
              | own ds => cases esv; obtain ⟨c, vs, q1, _, _, q4, q5⟩ := rv; exact ⟨c, vs, q1, q4, q4, q5.mono s1i⟩
              | ali ds => cases esv; obtain ⟨c, vs, q1, q4, q5⟩ := rv; exact ⟨c, vs, q1, q4, q4, q5.mono s1i⟩
              | ent ds => cases esv; obtain ⟨c, vs, q1, _, q4, q5⟩ := rv; exact ⟨c, vs, q1, q4, q4, q5.mono s1i⟩
        · refine List.Pairwise.imp_of_mem (S := Apart) (fun {q q2} hq hq2 _ a' es' fs' _ g _ _ => ?_) (all_pw (R := fun _ _ => True) (fun _ _ => trivial) _)
          rcases List.mem_append.mp hq with z | z
          · rcases List.mem_or_eq_of_mem_set z with z | z
            · obtain ⟨⟨v?, s?⟩, hq', rfl⟩ := List.mem_map.mp z
              cases s? with
              | none => cases g
              | some s =>
                have g' : (if isFl s then some s else v?.map SV.raw) = some (.own es') := g
                by_cases c : isFl s = true
                · rw [if_pos c] at g'; cases g'; cases c
                · rw [if_neg c] at g'; cases v? <;> cases g'
            · subst z; cases g
          · obtain ⟨⟨v?, s?⟩, hq', rfl⟩ := List.mem_map.mp z
            cases s? with
            | none => cases g
            | some s => cases s <;> cases g
      have noM : ∀ q ∈ Zi ++ T.map convP, NoAli q := fun q hq es' g => by
        rcases List.mem_append.mp hq with z | z
        · rcases List.mem_or_eq_of_mem_set z with z | z
          · obtain ⟨⟨v?, s?⟩, hq', rfl⟩ := List.mem_map.mp z
            cases s? with
            | none => cases g
            | some s =>
              have g' : (if isFl s then some s else v?.map SV.raw) = some (.ali es') := g
              by_cases c : isFl s = true
              · rw [if_pos c] at g'; cases g'; cases c
              · rw [if_neg c] at g'; cases v? <;> cases g'
          · subst z; cases g
        · obtain ⟨⟨v?, s?⟩, hq', rfl⟩ := List.mem_map.mp z
          cases s? with
          | none => cases g
          | some s => cases s <;> cases g
      have sndC : (Z'.map cvP).map Prod.snd = rawDs f 0 (Z'.map Prod.snd) := by
        refine List.ext_getElem? fun k => ?_
        rw [rawDs_get, List.getElem?_map, List.getElem?_map, List.getElem?_map, Nat.zero_add]
        cases g : Z'[k]? with
        | none => rfl
        | some q =>
          obtain ⟨v?, s?⟩ := q
          show some (rawOf v? s?) = some (rawOf (some (f k)) s?)
          cases s? with
          | none => rfl
          | some s =>
            obtain ⟨v, e1, _⟩ := cvok _ (List.mem_append_left _ (List.mem_of_getElem? g)) s rfl
            have e1' : v? = some v := e1
            subst e1'
            have : f k = v := by show (match Z'[k]? with | some (some v, _) => v | _ => V.non) = v; rw [g]
            rw [this]
      let σ0 := Z.map Prod.snd
      have lσ : σ0.length = Z.length := List.length_map _
      have sndI : ∃ o : Option SV, Zi.map Prod.snd = ((rawDs f 0 σ0).set x (some (.val (.list e)))).set j o := by
        have e0 : Zi.map Prod.snd = (rawDs f 0 (Z'.map Prod.snd)).set x (some (.val (.list e))) := by
          show ((Z'.map cvP).set x _).map Prod.snd = _
          rw [List.map_set, sndC]
        rw [e0]
        rcases hz with ⟨_, g⟩ | ⟨bb, g⟩
        · rw [g]
          refine ⟨((rawDs f 0 σ0).set x (some (.val (.list e))))[j]'(by rw [List.length_set, rawDs_len, lσ]; exact jZ), ?_⟩
          exact (List.set_getElem_self _).symm
        · rw [g]
          refine ⟨some (.val (.bool bb)), List.ext_getElem? fun k => ?_⟩
          by_cases c1 : k = j
          · subst c1
            rw [List.getElem?_set_self (by rw [List.length_set, rawDs_len, lσ]; exact jZ), List.getElem?_set_ne (Ne.symm hjx), rawDs_get, List.getElem?_set_self (by rw [List.length_set, lσ]; exact jZ)]
            rfl
          · rw [List.getElem?_set_ne (Ne.symm c1)]
            by_cases c2 : k = x
            · subst c2
              rw [List.getElem?_set_self (by rw [rawDs_len, List.length_set, List.length_set, lσ]; exact xZ), List.getElem?_set_self (by rw [rawDs_len, lσ]; exact xZ)]
            · rw [List.getElem?_set_ne (Ne.symm c2), List.getElem?_set_ne (Ne.symm c2), rawDs_get, rawDs_get, List.getElem?_set_ne (Ne.symm c1), List.getElem?_set_ne (Ne.symm c2)]
      obtain ⟨o, sndI⟩ := sndI
      have hgo := hbody Fi f e hmem o
      have fstI : (Z'.map Prod.fst).set x (some (V.ref a)) = Zi.map Prod.fst := by
        show _ = ((Z'.map cvP).set x _).map Prod.fst
        rw [List.map_set, List.map_map]; rfl
      show tb _ ((Z'.map Prod.fst).set x (some (V.ref a))) H'
      rw [fstI]
      refine (hb Fi H').run Zi (T.map convP) H' { nx := fun σ' => ∃ b : Bool, σ' = ((rawDs f 0 σ0).set x (some (.val (.list e)))).set j (some (.val (.bool b))), rt := fun _ => False } _ ⟨⟨Fi, rM⟩, noM⟩ (by rw [sndI]; exact hgo) ⟨fun Z2 H2 r2 h2 => ?_, fun _ _ _ w => w.elim, fun _ _ _ w => w.elim, fun _ _ _ w => w.elim⟩
      obtain ⟨bb, h2⟩ := h2
      obtain ⟨⟨F2, r2⟩, n2⟩ := r2
      have s22 : Same H' H2 := r2.ent
      have l2 : Z2.length = Z.length := by
        have h9 : Z2.length = σ0.length := by have := congrArg List.length h2; simpa [rawDs_len] using this
        exact h9.trans lσ
      refine ⟨m - 1, by omega, by omega, sH.trans s22, List.zip (Z2.map Prod.fst) ((σ0.set x none).set j (some (.val (.bool bb)))), ?_, ?_, ?_, .inr ⟨bb, ?_⟩⟩
      · rw [List.map_fst_zip (by rw [List.length_map, List.length_set, List.length_set, lσ, l2]; exact Nat.le_refl _)]
      · have rp2 : Rep F0 H0 F1 H2 (Z' ++ T) := rp.both (Same.refl _) (rp.low.trans s22) s22 fun _ g _ => g
        refine rp2.mix (by rw [List.length_zip, List.length_map, List.length_set, List.length_set, lσ, l2, lZ, Nat.min_self]) fun k q hq => ?_
        rw [List.getElem?_zip_eq_some] at hq
        obtain ⟨q1, q2⟩ := hq
        rw [List.getElem?_map] at q1
        obtain ⟨w2, hw2, ew2⟩ := Option.map_eq_some_iff.mp q1
        have hs2 : w2.2 = (((rawDs f 0 σ0).set x (some (.val (.list e)))).set j (some (.val (.bool bb))))[k]?.join := by
          have := congrArg (fun l => l[k]?) h2
          simp only [List.getElem?_map] at this
          rw [hw2] at this
          rw [← this]; rfl
        have ok2 := r2.ok w2 (List.mem_append_left _ (List.mem_of_getElem? hw2))
        obtain ⟨v?, s?⟩ := q
        have ew2' : w2.1 = v? := ew2
        by_cases c1 : k = j
        · subst c1
          rw [List.getElem?_set_self (by rw [List.length_set, lσ]; exact jZ)] at q2
          rw [List.getElem?_set_self (by rw [List.length_set, rawDs_len, lσ]; exact jZ)] at hs2
          cases q2
          refine .inr ⟨fun sv esv => ?_, fun es' g => by cases g⟩
          cases esv
          obtain ⟨v, e1, rv⟩ := ok2 _ hs2
          exact ⟨v, ew2'.symm.trans e1, Dv.flat rv rfl⟩
        · rw [List.getElem?_set_ne (Ne.symm c1)] at q2 hs2
          by_cases c2 : k = x
          · subst c2
            rw [List.getElem?_set_self (by rw [lσ]; exact xZ)] at q2
            cases q2
            exact .inr ⟨fun sv esv => (by cases esv), fun es' g => (by cases g)⟩
          · rw [List.getElem?_set_ne (Ne.symm c2)] at q2 hs2
            rw [rawDs_get, q2, Nat.zero_add] at hs2
            have hs2' : w2.2 = rawOf (some (f k)) s? := hs2
            cases s? with
            | none => exact .inr ⟨fun sv esv => (by cases esv), fun es' g => (by cases g)⟩
            | some s =>
              by_cases c : isFl s = true
              · have : w2.2 = some s := by rw [hs2']; show (if isFl s then some s else _) = _; rw [if_pos c]
                obtain ⟨v, e1, rv⟩ := ok2 _ this
                cases s with
                | val d => exact .inr ⟨fun sv esv => (by cases esv; exact ⟨v, ew2'.symm.trans e1, Dv.flat rv c⟩), fun es' g => (by cases g)⟩
                | _ => cases c
              · have : w2.2 = some (.raw (f k)) := by rw [hs2']; show (if isFl s then some s else _) = _; rw [if_neg c]; rfl
                obtain ⟨v, e1, rv⟩ := ok2 _ this
                cases rv
                -- it is the old one
                have zk : (Z'.map Prod.snd)[k]? = some (some s) := by
                  rcases hz with ⟨_, g⟩ | ⟨b3, g⟩
                  · rw [g]; exact q2
                  · rw [g, List.getElem?_set_ne (Ne.symm c1), List.getElem?_set_ne (Ne.symm c2)]; exact q2
                rw [List.getElem?_map] at zk
                obtain ⟨⟨y?, t?⟩, hy, et⟩ := Option.map_eq_some_iff.mp zk
                have et' : t? = some s := et
                subst et'
                obtain ⟨v0, e0, _⟩ := cvok _ (List.mem_append_left _ (List.mem_of_getElem? hy)) s rfl
                have e0' : y? = some v0 := e0
                subst e0'
                have fk : f k = v0 := by show (match Z'[k]? with | some (some v, _) => v | _ => V.non) = v0; rw [hy]
                refine .inl ?_
                rw [hy, ← ew2', e1, fk]
      · intro q hq es' g
        rcases List.mem_append.mp hq with z | z
        · obtain ⟨v?, s?⟩ := q
          have := (List.of_mem_zip z).2
          have g' : s? = some (.ali es') := g
          subst g'
          rcases List.mem_or_eq_of_mem_set this with w | w
          · rcases List.mem_or_eq_of_mem_set w with w | w
            · obtain ⟨q', hq', e1⟩ := List.mem_map.mp w
              exact noA q' (List.mem_append_left _ hq') es' e1
            · cases w
          · cases w
        · exact nA q (List.mem_append_right _ z) es' g
      · rw [List.map_snd_zip (by rw [List.length_map, List.length_set, List.length_set, lσ, l2]; exact Nat.le_refl _)]
    · refine .inl ⟨⟨xs, SqL.of hLp', by omega⟩, ?_⟩
      rcases hz with ⟨k0, _⟩ | ⟨bb, g⟩
      · omega
      · exact l.nx Z' H' ⟨⟨F1, rp⟩, nA⟩ (by rw [g]; exact hnx bb)
theorem dForOwn0 {i x : Nat} {ta : TA} {fa : DAX} {tb : TS} {gb : Hp → DSX} (ha : DA F0 H0 ta fa) (hb : ∀ G0 G1, DS G0 G1 tb (gb G0)) : DS0 F0 H0 (tFor (iList K (tLst (tCons (tVar i) ta))) (gName x) tb) (dForOwn i x fa gb) := by
  have h := dForOwn_ds (K := K) (i := i) (x := x) ha hb
  exact ⟨fun Z H E D r g l => h.run Z [] H E D r g l⟩
theorem cut_last (l : List PyData) (x : PyData) : DL.cutD (l ++ [x]) none (some (-1)) = l := by
  unfold DL.cutD
  have e : HT.sIx (l ++ [x]).length 0 none = 0 := by rfl
  rw [e, List.drop_zero, Nat.sub_zero]
  have e2 : HT.sIx (l ++ [x]).length (l ++ [x]).length (some (-1)) = l.length := by
    show (if (-1 : Int) < 0 then (-1 + ((l ++ [x]).length : Int)).toNat else min (-1 : Int).toNat (l ++ [x]).length) = _
    rw [if_pos (by decide), List.length_append, List.length_singleton]
    omega
  rw [e2]; simp
end
end DL
/-! Data: a, b, c = e, f, g. -/
namespace DL
open PySem PySem.Spec PyProof.Rows L2 NB
section
variable {P : Program} {w : World} {K : PySem.W.Frag} {mg : Str → Option Value} {base : Heap} {F0 H0 : Hp}
def dPar3 (i j k : Nat) (fa : DAX) : DSX := fun E σ => fa σ fun as => ∃ d e f, as = [.val d, .val e, .val f] ∧ E.nx (((σ.set i (some (.val d))).set j (some (.val e))).set k (some (.val f)))
instance {ta : TA} {fa : DAX} {i j k : Nat} [ha : DA F0 H0 ta fa] : DS F0 H0 (tPar3 i j k ta) (dPar3 i j k fa) where
  run Z T H E D r h l := ha.run Z T H _ _ r.1 h fun A ⟨d, e, f, hA, hn⟩ H1 ⟨F, r1⟩ => by
    match A, hA with
    | [(v, _), (w, _), (u, _)], hA =>
      cases hA
      refine ⟨v, w, u, rfl, ?_⟩
      have r2 : RepS F0 H0 H1 (Z.set i (some v, some (.val d)) ++ (T ++ [(some w, some (.val e)), (some u, some (.val f))])) := store_S (T := T ++ [(some w, some (.val e)), (some u, some (.val f))]) ⟨F, by
        have r1' : Rep F0 H0 F H1 (Z ++ (T ++ [(some v, some (.val d)), (some w, some (.val e)), (some u, some (.val f))])) := r1
        refine r1'.perm ?_
        refine List.Perm.append_left _ ?_
        rw [List.append_assoc]
        refine List.Perm.append_left _ ?_
        exact (List.Perm.swap _ _ _).trans (List.Perm.cons _ (List.Perm.swap _ _ _))⟩ (fun p hp es e => by
          rcases List.mem_append.mp hp with z | z
          · exact r.2 p (List.mem_append_left _ z) es e
          · rcases List.mem_append.mp z with z | z
            · exact r.2 p (List.mem_append_right _ z) es e
            · simp at z; rcases z with z | z <;> subst z <;> cases e) (by intro _ e; cases e)
      have r3 : RepS F0 H0 H1 ((Z.set i (some v, some (.val d))).set j (some w, some (.val e)) ++ (T ++ [(some u, some (.val f))])) := store_S (T := T ++ [(some u, some (.val f))]) (by
        obtain ⟨F, q⟩ := r2.1
        refine ⟨F, q.perm ?_⟩
        rw [List.append_assoc]
        refine List.Perm.append_left _ ?_
        exact List.Perm.append_left _ (List.Perm.swap _ _ _)) (fun p hp => r2.2 p (by
        rcases List.mem_append.mp hp with z | z
        · exact List.mem_append_left _ z
        · rcases List.mem_append.mp z with z | z
          · exact List.mem_append_right _ (List.mem_append_left _ z)
          · exact List.mem_append_right _ (List.mem_append_right _ (by simp at z; subst z; simp)))) (by intro _ e; cases e)
      have r4 : RepS F0 H0 H1 (((Z.set i (some v, some (.val d))).set j (some w, some (.val e))).set k (some u, some (.val f)) ++ T) := store_S (by
        obtain ⟨F, q⟩ := r3.1
        exact ⟨F, q⟩) (fun p hp => r3.2 p (by
        rcases List.mem_append.mp hp with z | z
        · exact List.mem_append_left _ z
        · exact List.mem_append_right _ (List.mem_append_left _ z))) (by intro _ e; cases e)
      have := l.nx _ _ r4 (by rw [map_set_snd, map_set_snd, map_set_snd]; exact hn)
      rw [map_set_fst, map_set_fst, map_set_fst] at this
      exact this
end
end DL
/-! Data: x[k] op= e, x a list of one's own. -/
namespace DL
open PySem PySem.Spec PyProof.Rows L2 NB
theorem get_list {X : Cx} : PGet X (rIxL X.K) := by
  intro pins s σ H x y v u Q I rx ry h
  obtain ⟨p, xs, i, z, rfl, rfl, hq, he, q⟩ := h
  cases rx
  obtain ⟨t, rfl⟩ := ry
  obtain ⟨its, r, pl, hz⟩ := I.list hq
  obtain ⟨j, h1, h2, h3, h4, h5⟩ := atI_get he
  obtain ⟨w, ew, rw'⟩ := r.get h2
  have hl := r.length
  have hn := line63
  have fin : EP X pins σ Q w s := ⟨z, H, I, rw', q⟩
  by_cases h0 : 0 ≤ i
  · have hj : i.toNat = j := by
      rw [seqIndex_of h0 h5] at h1
      exact Option.some.inj h1
    exact wpAny_getItem_list pl.isList h0 (by omega) (by rw [hj]; simpa using ew) fin
  · have hj : (i + (its.toArray.size : Int)).toNat = j := by
      rw [seqIndex_neg (by omega) h4] at h1
      rw [List.size_toArray, ← hl]
      exact Option.some.inj h1
    exact wpAny_getItem_list_neg pl.isList (by omega) (by rw [List.size_toArray] <;> omega) (by omega) (by rw [hj]; simpa using ew) fin
section
variable {P : Program} {w : World} {K : PySem.W.Frag} {mg : Str → Option Value} {base : Heap} {F0 H0 : Hp}
def dAugS (i : Nat) (fk fe : DX) (o : SV → SV → (SV → Prop) → Prop) : DSX := fun E σ => match σ[i]? with
  | some (some (.own ds)) => fk σ fun sk => match sk.int? with
    | some k => ∃ j d, ixN ds.length k = some j ∧ ds[j]? = some d ∧ fe σ fun sy => o (.val d) sy fun sv => match sv with
      | .val e => E.nx (σ.set i (some (.own (ds.set j e))))
      | _ => False
    | none => False
  | _ => False
instance {te tk : TE} {fe fk : DX} {i : Nat} {ti : TIp} {o : SV → SV → (SV → Prop) → Prop} [he : DE F0 H0 te fe] [hk : DE F0 H0 tk fk] [ho : OpD F0 H0 ti o] : DS F0 H0 (tAugS (tVar i) tk te (rIxL K) ti rSetL) (dAugS i fk fe o) where
  run Z T H E D r h l := by
    unfold dAugS at h
    cases e3 : (Z.map Prod.snd)[i]? with
    | none => rw [e3] at h; exact h.elim
    | some ov =>
      match ov, e3 with
      | none, e3 => rw [e3] at h; exact h.elim
      | some (.val _), e3 => rw [e3] at h; exact h.elim
      | some (.ali _), e3 => rw [e3] at h; exact h.elim
      | some (.raw _), e3 => rw [e3] at h; exact h.elim
      | some (.ent _), e3 => rw [e3] at h; exact h.elim
      | some (.own ds), e3 =>
        rw [e3] at h
        obtain ⟨F, r0⟩ := r.1
        obtain ⟨a, vs, z1, z2, _, _⟩ := own_slot r0 e3
        refine ⟨.ref a, z2, hk.run Z T H _ _ ⟨F, r0⟩ h fun sk hk' u H1 ⟨F1, r1⟩ => ?_⟩
        cases e4 : sk.int? with
        | none => rw [e4] at hk'; exact hk'.elim
        | some k =>
          rw [e4] at hk'
          obtain ⟨j, d, hj, hd, h2⟩ := hk'
          have r1b : Rep F0 H0 F1 H1 ((Z ++ T) ++ [(some u, some sk)]) := by rw [List.append_assoc]; exact r1
          have ru := r1b.last.int e4
          subst ru
          obtain ⟨a1, vs1, q1, q2, q3, q4⟩ := own_slot r1b.left e3
          rw [z1] at q1; cases q1
          obtain ⟨v, hv, dv⟩ := q4.get hd
          refine ⟨a, vs1, k, v, rfl, rfl, SqL.of q3, by unfold atI; rw [q4.length, hj]; exact hv, ?_⟩
          have r2 : Rep F0 H0 F1 H1 (Z ++ (T ++ [(some v, some (.val d))])) := by rw [← List.append_assoc]; exact r1b.left.pushV dv
          refine he.run Z (T ++ [(some v, some (.val d))]) H1 _ _ ⟨F1, r2⟩ h2 fun sy hy y H2 ⟨F2, r3⟩ => ?_
          refine ho.run (Z ++ T) v y (.val d) sy H2 _ _ ⟨F2, by simpa using r3⟩ hy fun sv hs x H3 ⟨F3, r4⟩ => ?_
          cases sv with
          | own _ => exact hs.elim
          | ali _ => exact hs.elim
          | raw _ => exact hs.elim
          | ent _ => exact hs.elim
          | val e =>
            have rv := r4.last
            obtain ⟨a', vs3, z3, z4, z5, z6⟩ := own_slot r4.left e3
            rw [z1] at z3; cases z3
            refine ⟨a, vs3, k, j, rfl, rfl, z5, by rw [z6.length]; exact hj, ?_⟩
            have r5 := own_put r4.left r.2 z1 (z6.set (show Dv F3 x e from rv) j)
            have := l.nx _ _ r5 (by rw [map_set_snd]; exact hs)
            rw [map_set_fst, set_self z2] at this
            exact this
end
end DL
/-! Data: enumerate(list, start=k). -/
namespace DL
open PySem PySem.Spec PyProof.Rows L2 NB
theorem callWith_typeK {M : Model} {A : Around} {E : Value → Shared → Prop} {s : Shared} {pos : Pos} {T : String} {args : List (Bool × Sem Value)} {keywords : List (Option Str × Sem Value)} {Q : Value → Shared → Prop}
    (hplain : args.any (·.1) = false) (hkw : keywords.any (·.1.isNone) = false)
    (h : wpAny M A (evalArgs (.type T) true args keywords) (fun a s₁ => wpAny M A (call (.type T) ([] ++ a.pos) a.kw) Q E s₁) E s) :
    wpAny M A (callWith pos (.type T) [] args keywords) Q E s := by
  unfold callWith
  refine wpAny_bind (wpAny_holding (wpAny_mono h (fun a s₁ h₁ => wpAny_bind (wpAny_standAt ?_)) fun _ _ x => x))
  simp only [hplain, hkw, Bool.or_false]
  refine wpAny_bind (wpAny_pure ?_)
  exact wpAny_bind (wpAny_mono h₁ (fun r s₂ hr => wpAny_bind (wpAny_holding (wpAny_point (wpAny_pure hr)))) fun _ _ x => x)
def ItS (K : PySem.W.Frag) (a : Addr) (k0 : Int) : It :=
  ⟨fun i H => ∃ (xs : List V) (x : V), SqL K H a xs ∧ xs[i]? = some x, fun i H v H' => ∃ T x, v = .ref T ∧ H T = none ∧ H' = upd H T (.tup [.int (k0 + (i : Nat)), x]) ∧ ∀ xs, SqL K H a xs → xs[i]? = some x, fun i H => ∃ xs : List V, SqL K H a xs ∧ xs.length ≤ i⟩
theorem turn_enumS {P : Program} {w : World} {K : PySem.W.Frag} {elts : List Expr} {kk : Nat} {tpos : Pos} (k0 : Int) (a e it : Addr) :
    Turn P w K (.Tuple elts kk tpos) (ItS K a k0) [e, it] e (fun i h => (∃ old, IsEnum h e it (k0 + (i : Nat)) old) ∧ h.IsListIter it a i ∧ e ≠ it) where
  mem := by simp
  obj := fun i h st b hb => by
    obtain ⟨⟨old, he⟩, ⟨o, ho, hc, hd⟩, _⟩ := st
    have e' : b = e ∨ b = it := by simpa using hb
    rcases e' with z | z
    · rw [z]; exact ⟨_, he, fun v q => nomatch q⟩
    · rw [z]; exact ⟨o, ho, fun v q => by rw [hd] at q; cases q⟩
  keep := fun i h h' st k => let ⟨⟨old, he⟩, hi, hne⟩ := st; ⟨⟨old, k e (by simp) _ he⟩, hi.at fun o q => k it (by simp) o q, hne⟩
  item := by
    intro X hP hw hK hc i pins s σ H E I hf st hg
    subst hP hw hK
    obtain ⟨⟨old, he⟩, hit, hne⟩ := st
    obtain ⟨xs, x, hq, hx⟩ := hg
    obtain ⟨its, rv, p, hz⟩ := I.list hq
    obtain ⟨u, hu, ru⟩ := rv.get hx
    have hel : e < s.heap.objs.size := Heap.lt_size he
    have hil : it < s.heap.objs.size := by obtain ⟨_, q, _⟩ := hit; exact Heap.lt_size q
    have ha : a ≠ it := fun z => by
      obtain ⟨o, ho, hc1, _⟩ := p.isList
      obtain ⟨o2, ho2, hc2, _⟩ := hit
      rw [z, ho2] at ho
      cases ho
      rw [hc1] at hc2
      exact absurd hc2 (by decide)
    have hae : e ≠ a := fun z => by
      obtain ⟨o, ho, hc1, _⟩ := p.isList
      have he' : s.heap.get? e = _ := he
      rw [z, ho] at he'
      cases he'
      exact absurd (show Value.type "enumerate" = Value.type "list" from hc1) (by decide)
    have hu' : its.toArray[i]? = some u := by simpa using hu
    refine wpAny_pyNext_enum_itemC (n := its.toArray.size) (Draws.list (A := X.A.in1) (I.ok.hd hc) it a ha its.toArray) he ⟨hit, p.isList⟩ (Array.getElem?_eq_some_iff.mp hu').1 hne (by simp [hne, hae]) fun y h' tk hy ho st' hT hsz hk => ?_
    rw [hu'] at hy
    cases hy
    obtain ⟨hit', _⟩ := st'
    refine ⟨_, rfl, wpAny_letOwnedTupleGo_enum (s := { s with heap := h', toks := tk + 1 }) ho fun h'' he' sb => ?_⟩
    have hT2 : h''.get? s.heap.objs.size = some { cls := .type "tuple", data := .seq #[.int (k0 + (i : Nat)) tk, u] } := (sb.2 _ (Nat.ne_of_gt hel)).trans hT
    have new : ObjOk X.prog X.w (upd H s.heap.objs.size (.tup [.int (k0 + (i : Nat)), x])) h'' s.heap.objs.size (.tup [.int (k0 + (i : Nat)), x]) :=
      ⟨by show 2 ≤ sizeLine; decide, [.int (k0 + (i : Nat)) tk, u], .cons ⟨_, rfl⟩ (.cons ru .nil), ⟨_, hT2, rfl, _, rfl⟩⟩
    have I1 : Inv X pins σ (upd H s.heap.objs.size (.tup [.int (k0 + (i : Nat)), x])) { s with heap := h'', toks := tk + 1 } :=
      I.turnedNew (ch := [e, it]) (fun b ob hb q => (sb.2 b (fun z => hb (by simp [z]))).trans (hk b ob (fun z => hb (by simp [z])) (fun z => hb (by simp [z])) q)) hf (Nat.le_refl _) new
    refine ⟨.ref s.heap.objs.size, _, I1, rfl, ⟨_, x, rfl, I.hok.fresh (Nat.le_refl _), rfl, fun ys hy => by rw [I.list_inj hy hq]; exact hx⟩, ⟨⟨u, ?_⟩, hit'.at fun o q => (sb.2 it (Ne.symm hne)).trans q, hne⟩, fun b hb => ?_⟩
    · have e1 : k0 + ((i + 1 : Nat) : Int) = k0 + (i : Int) + 1 := by omega
      rw [e1]; exact he'
    · have hb' : b < s.heap.objs.size := by
        have e' : b = e ∨ b = it := by simpa using hb
        rcases e' with z | z
        · rw [z]; exact hel
        · rw [z]; exact hil
      rw [upd_ne (Nat.ne_of_lt hb')]
      exact (hf b hb).1
  done := by
    intro X hP hw hK hc i pins s σ H E I hf st hg
    subst hP hw hK
    obtain ⟨⟨old, he⟩, hit, hne⟩ := st
    obtain ⟨xs, hq, hx⟩ := hg
    obtain ⟨its, rv, p, hz⟩ := I.list hq
    obtain ⟨f0, f1, f2, f3, f4, f5⟩ := hf it (by simp)
    have hl := rv.length
    have hT : s.TypeIs (.ref e) "enumerate" := ⟨_, he, rfl⟩
    unfold pyNext
    refine wpAny_bind (wpAny_attempt (wpAny_callSpecial?_slot (name := Str.ofString "__next__") hT F.slot_enumerate_next
      (wpAny_call_entry F.slot_enumerate_next hT F.entry_enumerate_next ?_ (F.args_enumerate_next_1 _))))
    show wpAny _ _ (field (.ref e) 2 >>= _) _ _ _
    refine wpAny_bind (wpAny_field he rfl (x := .ref it) rfl ?_)
    refine wpAny_bind (wpAny_nextOf_list_end (I.ok.hd hc) hit p.isList (by simp; omega) fun h' x he' hx' => ?_)
    obtain ⟨o, ho, hc'⟩ := hx'
    refine wpAny_bind (wpAny_isInstance (T := "StopIteration") (b := true) ⟨o, ho, hc'⟩ isSubtype_stop ?_)
    exact wpAny_pure ⟨rfl, I.turned (t' := s.toks) (fun b o hb q => he' b o hb q) f0 f1 f3 f4 f5⟩
  self := fun A i s Q E st h => let ⟨⟨_, he⟩, _⟩ := st; wpAny_pyIter_enum he h
def iEnumS (K : PySem.W.Frag) (ta tk : TA) : TI := fun σ H R => ta σ H fun vs H1 => tk σ H1 fun zs H2 => ∃ a xs k0, vs = [.ref a] ∧ zs = [.int k0] ∧ SqL K H2 a xs ∧ -(2 ^ 63) ≤ k0 ∧ k0 < 2 ^ 63 ∧ R (ItS K a k0) H2
theorem pi_enumS {X : Cx} {e f : Expr} {ta tk : TA} {p pos tpos kpos : Pos} {elts : List Expr} {kk : Nat} (hg : Gl X "enumerate") (hm : X.mg "enumerate" = none) (ha : PA X [e] ta) (hk : PK X [⟨some (Str.ofString "start"), f, kpos⟩] tk) (hs : starEach [e] X.env = [(false, eval e X.env)] := by rfl) :
    PI X (.Tuple elts kk tpos) (.Call (.Name "enumerate" p) [e] [⟨some (Str.ofString "start"), f, kpos⟩] pos) (iEnumS X.K ta tk) := by
  refine ⟨fun pins s σ H R I h => ?_⟩
  refine wpAny_Call_Name_kw (ld_blt I hg hm boot_enumerate (callWith_typeK (by rw [hs]; rfl) rfl (evalArgs_kw2 rfl (thn (ha.run pos pins s σ H _ I h) fun us s1 ⟨vs, H1, I1, r1, q1⟩ => ?_) hs)))
  refine thn (hk.run pos pins s1 σ H1 _ I1 q1) fun ws s2 ⟨zs, H2, I2, r2, q2⟩ => ?_
  obtain ⟨a, xs, k0, ex, ez, hq, k1, k2, q⟩ := q2
  subst ex ez
  cases r1 with
  | cons r rr =>
    cases rr
    cases r
    cases r2 with
    | cons rk rrk =>
      cases rrk
      obtain ⟨tk0, rfl⟩ := rk
      obtain ⟨its, rv, p', hz⟩ := I2.list hq
      show wpAny _ _ (call (.type "enumerate") [.ref a] [(Str.ofString "start", .int k0 tk0)]) _ _ s2
      refine enum_begins_start (begins_list a its.toArray) p'.isList k1 k2 fun h' he hit hsz hk' => wpAny_pyIter_enum he ?_
      have I3 : Inv X pins σ H2 { s2 with heap := h' } := I2.kept (t' := s2.toks) hk'
      refine ⟨s2.heap.objs.size + 1, [s2.heap.objs.size + 1, s2.heap.objs.size], _, _, H2, rfl, I3, turn_enumS k0 a (s2.heap.objs.size + 1) s2.heap.objs.size, ⟨⟨.none, by rw [show k0 + ((0 : Nat) : Int) = k0 from by omega]; exact he⟩, ⟨_, hit, rfl, rfl⟩, Nat.succ_ne_self _⟩, fun b hb => ?_, q⟩
      have e' : b = s2.heap.objs.size + 1 ∨ b = s2.heap.objs.size := by simpa using hb
      have hle : s2.heap.objs.size ≤ b := by
        rcases e' with z | z
        · rw [z]; exact Nat.le_add_right _ _
        · rw [z]; exact Nat.le_refl _
      exact I2.fpOk hle (I2.hok.fresh hle)
section
variable {F0 H0 F H : Hp} {K : PySem.W.Frag}
theorem enumS_go {H : Hp} {a : Addr} {xs : List V} {k0 : Int} {i : Nat} (hi : i < xs.length) (h : SqL K H a xs) : (ItS K a k0).go i H := ⟨xs, xs[i], h, List.getElem?_eq_getElem hi⟩
/-- enumerate from k0: pairs -/
def enumS (k0 : Int) (ds : List PyData) : List PyData := ds.mapIdx fun i d => .tuple [.int (k0 + (i : Nat)), d]
theorem enumS_len (k0 : Int) (ds : List PyData) : (enumS k0 ds).length = ds.length := by unfold enumS; simp
theorem enumS_at {k0 : Int} {ds : List PyData} {i : Nat} {d : PyData} (h : (enumS k0 ds)[i]? = some d) : ∃ e, ds[i]? = some e ∧ d = .tuple [.int (k0 + (i : Nat)), e] := by
  unfold enumS at h
  rw [List.getElem?_mapIdx] at h
  cases e : ds[i]? with
  | none => rw [e] at h; cases h
  | some x => rw [e] at h; exact ⟨x, rfl, (Option.some.inj h).symm⟩
theorem walk_enmS {v : V} {sv : SV} {ds : List PyData} {a : Addr} (k0 : Int) (ev : v = .ref a) (e : sv.items? = some ds) : DWalk F0 H0 (ItS K a k0) (enumS k0 ds) [(some v, some sv)] where
  goes i H F W hi r := by
    obtain ⟨a', vs, h1, h2, h3⟩ := r.last.items r.low e
    rw [ev] at h1; cases h1
    exact enumS_go (by rw [h3.length, ← enumS_len k0]; exact hi) (SqL.of h2)
  stops H F W r := by
    obtain ⟨a', vs, h1, h2, h3⟩ := r.last.items r.low e
    rw [ev] at h1; cases h1
    rw [enumS_len, ← h3.length]
    exact ⟨vs, SqL.of h2, Nat.le_refl _⟩
  yields i H x H' F W d hd r y := by
    obtain ⟨a', vs, h1, h2, h3⟩ := r.last.items r.low e
    rw [ev] at h1; cases h1
    obtain ⟨c, hc, rfl⟩ := enumS_at hd
    obtain ⟨T, x2, rfl, nT, rfl, e2⟩ := y
    obtain ⟨w, h4, h5⟩ := h3.get hc
    have e2' := e2 vs (SqL.of h2)
    rw [h4] at e2'; cases e2'
    exact ⟨_, r.pushT nT (.cons (.int _) (.cons h5 .nil))⟩
def dEnumS (fa fk : DAX) : SD → (List PyData → Bool → Prop) → Prop := fun σ P => fa σ fun xs => fk σ fun ks => match xs, ks with
  | [x], [k] => match x.items?, k.int? with | some ds, some k0 => -(2 ^ 63) ≤ k0 ∧ k0 < 2 ^ 63 ∧ P (enumS k0 ds) (!x.isAli) | _, _ => False
  | _, _ => False
instance {ta tk : TA} {fa fk : DAX} [ha : DA F0 H0 ta fa] [hk : DA F0 H0 tk fk] : DI F0 H0 (iEnumS K ta tk) (dEnumS fa fk) where
  run Z T H P R := fun hr h q => ha.run Z T H _ _ hr h fun A h1 H1 r1 => hk.run Z _ H1 _ _ r1 h1 fun B h2 H2 ⟨F, r2⟩ => by
    match A, B, h2, r2 with
    | [(v, sv)], [(u, su)], h2', r2 =>
      have h2 : (match sv.items?, su.int? with | some ds, some k0 => -(2 ^ 63) ≤ k0 ∧ k0 < 2 ^ 63 ∧ P (enumS k0 ds) (!sv.isAli) | _, _ => False) := h2'
      clear h2'
      cases e : sv.items? with
      | none => rw [e] at h2; exact h2.elim
      | some ds =>
        cases e2 : su.int? with
        | none => rw [e, e2] at h2; exact h2.elim
        | some k0 =>
          rw [e, e2] at h2
          have r3 : Rep F0 H0 F H2 (((Z ++ T) ++ [(some v, some sv)]) ++ [(some u, some su)]) := by simpa [pr] using r2
          have ru := r3.last.int e2
          obtain ⟨a, vs, rfl, h4, h5⟩ := r3.left.last.items r3.low e
          refine ⟨a, vs, k0, rfl, ?_, SqL.of h4, h2.1, h2.2.1, q _ _ h2.2.2 _ _ [(some (.ref a), some sv)] ⟨F, by rw [← List.append_assoc]; exact r3.left⟩ (fun z => noali_of z) (walk_enmS k0 rfl e)⟩
          show [u] = _
          rw [ru]
    | [], _, h2, r2 => exact h2.elim
    | _ :: _ :: _, _, h2, r2 => exact h2.elim
    | [_], [], h2, r2 => exact h2.elim
    | [_], _ :: _ :: _, h2, r2 => exact h2.elim
end
end DL
/-! Data: texts are compared; a cut with lists let go. -/
namespace DL
open PySem PySem.Spec PyProof.Rows L2 NB
theorem frz0 {F0 H0 : Hp} (is : List Nat) {t : TS} {g : DSX} (h : DS0 F0 H0 t g) : DS0 F0 H0 t (fun E σ => g E (frzL is σ)) where
  run Z H E D r hh l := by
    obtain ⟨Z0, e1, e2, r0⟩ := Rep.frzL is r
    rw [← e1]
    exact h.run Z0 H E D r0 (by rw [e2]; exact hh) l
def rNeS : R2 := rNe
def rEqS : R2 := rEq
theorem op_neS {X : Cx} : OpR X (compareOp .NotEq) rNeS := op_ne
theorem op_eqS {X : Cx} : OpR X (compareOp .Eq) rEqS := op_eq
def oS (neg : Bool) : SV → SV → (SV → Prop) → Prop := fun x y P => ∃ a b : Str, x = .val (.str a) ∧ y = .val (.str b) ∧ P (.val (.bool (if neg then !decide (a = b) else decide (a = b))))
theorem str_dec (a b : Str) : decide (V.str a = V.str b) = decide (a = b) := by by_cases h : a = b <;> simp [h]
instance {F0 H0 : Hp} : OpD F0 H0 rNeS (oS true) where
  run W x y sx sy H P Q := fun ⟨F, re⟩ ⟨a, b, e1, e2, h⟩ q => by
    subst e1 e2
    obtain ⟨r0, r1, r2⟩ := two re
    cases r1
    cases r2
    exact ⟨rfl, by rw [str_dec]; exact q _ h _ H ⟨F, r0.pushV (.bl _)⟩⟩
instance {F0 H0 : Hp} : OpD F0 H0 rEqS (oS false) where
  run W x y sx sy H P Q := fun ⟨F, re⟩ ⟨a, b, e1, e2, h⟩ q => by
    subst e1 e2
    obtain ⟨r0, r1, r2⟩ := two re
    cases r1
    cases r2
    exact ⟨rfl, by rw [str_dec]; exact q _ h _ H ⟨F, r0.pushV (.bl _)⟩⟩
theorem strNe {x : Str} {P : SV → Prop} (h : P (.val (.bool false))) : oS true (.val (.str x)) (.val (.str x)) P := ⟨x, x, rfl, rfl, by rw [if_pos rfl, decide_eq_true rfl]; exact h⟩
theorem strEq {x : Str} {P : SV → Prop} (h : P (.val (.bool true))) : oS false (.val (.str x)) (.val (.str x)) P := ⟨x, x, rfl, rfl, by rw [if_neg Bool.false_ne_true, decide_eq_true rfl]; exact h⟩
end DL
/-! Data: objects that change stand in a region of their own, which the rest takes for what stood at the entry. -/
namespace DL
open PySem PySem.Spec PyProof.Rows L2 NB
/-- what stood, but for fp, stands -/
def Frm (fp : List Addr) (H H' : Hp) : Prop := ∀ b o, H b = some o → b ∉ fp → H' b = some o
theorem Frm.refl (fp : List Addr) (H : Hp) : Frm fp H H := fun b o e _ => e
theorem Frm.new {fp : List Addr} {H H' : Hp} (h : Frm fp H H') {a : Addr} {o : HO} (n : H' a = none) : Frm fp H (upd H' a o) := fun b u e nb => by
  have := h b u e nb
  rw [upd_ne (fun z => by subst z; rw [n] at this; cases this)]; exact this
theorem Frm.put {fp : List Addr} {H H' : Hp} (h : Frm fp H H') {a : Addr} {o : HO} (n : a ∈ fp) : Frm fp H (upd H' a o) := fun b u e nb => by
  rw [upd_ne (fun z => by subst z; exact nb n)]; exact h b u e nb
theorem Frm.same {fp : List Addr} {H H' H2 : Hp} (h : Frm fp H H') (s : Same H' H2) : Frm fp H H2 := fun b u e nb => s _ _ (h b u e nb)
theorem Frm.trans {fp : List Addr} {H H' H2 : Hp} (h : Frm fp H H') (k : Frm fp H' H2) : Frm fp H H2 := fun b u e nb => k b u (h b u e nb) nb
theorem Frm.sub {fp gp : List Addr} {H H' : Hp} (h : Frm fp H H') (s : ∀ a ∈ fp, a ∈ gp) : Frm gp H H' := fun b u e nb => h b u e fun z => nb (s b z)
theorem Frm.of_same {fp : List Addr} {H H' : Hp} (s : Same H H') : Frm fp H H' := fun b u e _ => s _ _ e
/-- only what stood matters -/
theorem Frm.cut {fp gp : List Addr} {H H' : Hp} (h : Frm fp H H') (s : ∀ a ∈ fp, a ∉ gp → H a = none) : Frm gp H H' := fun b u e nb => h b u e fun z => by
  rw [s b z nb] at e; cases e
/-- the entry, and the region as it stands in H2 -/
def rg (H0 : Hp) (fp : List Addr) (H2 : Hp) : Hp := fun b => if b ∈ fp then H2 b else H0 b
theorem rg_in {H0 H2 : Hp} {fp : List Addr} {a : Addr} (h : a ∈ fp) : rg H0 fp H2 a = H2 a := if_pos h
theorem rg_out {H0 H2 : Hp} {fp : List Addr} {a : Addr} (h : a ∉ fp) : rg H0 fp H2 a = H0 a := if_neg h
section
variable {F0 H0 F H : Hp} {Z : Zt} {fp : List Addr}
theorem Rep.enter {H2 : Hp} (r : Rep F0 H0 F H Z) (s : Same H H2) (n : ∀ a ∈ fp, H a = none) : Rep F0 (rg H0 fp H2) F H2 Z where
  base := r.base
  low := r.low.trans s
  ent := fun b o e => by
    by_cases z : b ∈ fp
    · rw [rg_in z] at e; exact e
    · rw [rg_out z] at e; exact s _ _ (r.ent _ _ e)
  apart := fun b h0 h1 => by
    by_cases z : b ∈ fp
    · exact r.low.free (n b z)
    · rw [rg_out z] at h1; exact r.apart b h0 h1
  ok := fun p hp sv e => by
    obtain ⟨v, e1, rv⟩ := r.ok p hp sv e
    refine ⟨v, e1, ?_⟩
    cases sv with
    | val d => exact rv
    | raw u => exact rv
    | own ds =>
      obtain ⟨a, vs, q1, q2, q3, q4, q5⟩ := rv
      have z : a ∉ fp := fun z => by rw [n a z] at q4; cases q4
      exact ⟨a, vs, q1, q2, by rw [rg_out z]; exact q3, s _ _ q4, q5⟩
    | ali ds => obtain ⟨a, vs, q1, q4, q5⟩ := rv; exact ⟨a, vs, q1, s _ _ q4, q5⟩
    | ent ds =>
      obtain ⟨a, vs, q1, q3, q4, q5⟩ := rv
      have z : a ∉ fp := fun z => by rw [n a z] at q4; cases q4
      exact ⟨a, vs, q1, by rw [rg_out z]; exact q3, s _ _ q4, q5⟩
  dist := r.dist
/-- the region has changed: it is left -/
theorem Rep.leave {F' H2 H3 H4 : Hp} (r0 : Rep F0 H0 F H Z) (n : ∀ a ∈ fp, H a = none) (t : ∀ a ∈ fp, H2 a ≠ none) (r : Rep F0 (rg H0 fp H2) F' H3 Z) (f : Frm fp H3 H4) : Rep F0 H0 F' H4 Z := by
  have nH0 : ∀ a ∈ fp, H0 a = none := fun a z => r0.ent.free (n a z)
  have nF0 : ∀ a ∈ fp, F0 a = none := fun a z => (r0.base.trans r0.low).free (n a z)
  have nF : ∀ b o, F' b = some o → b ∉ fp := fun b o e z => by
    have := r.apart b (nF0 b z) (by rw [rg_in z]; exact t b z)
    rw [this] at e; cases e
  refine ⟨r.base, fun b o e => f b o (r.low _ _ e) (nF b o e), fun b o e => ?_, fun b h0 h1 => ?_, fun p hp sv e => ?_, r.dist⟩
  · have z : b ∉ fp := fun z => by rw [nH0 b z] at e; cases e
    exact f b o (r.ent _ _ (by rw [rg_out z]; exact e)) z
  · have z : b ∉ fp := fun z => h1 (nH0 b z)
    exact r.apart b h0 (by rw [rg_out z]; exact h1)
  · obtain ⟨v, e1, rv⟩ := r.ok p hp sv e
    obtain ⟨v0, e0, rv0⟩ := r0.ok p hp sv e
    have ev : v = v0 := Option.some.inj (e1.symm.trans e0)
    refine ⟨v, e1, ?_⟩
    cases sv with
    | val d => exact rv
    | raw u => exact rv
    | own ds =>
      obtain ⟨a, vs, q1, q2, q3, q4, q5⟩ := rv
      have z : a ∉ fp := fun z => by rw [rg_in z] at q3; exact t a z q3
      exact ⟨a, vs, q1, q2, by rw [rg_out z] at q3; exact q3, f _ _ q4 z, q5⟩
    | ali ds =>
      obtain ⟨a, vs, q1, q4, q5⟩ := rv
      obtain ⟨a0, vs0, w1, w4, w5⟩ := rv0
      have ea : a = a0 := V.ref.inj (q1.symm.trans (ev.trans w1))
      have z : a ∉ fp := fun z => by have := n a z; rw [ea, w4] at this; cases this
      exact ⟨a, vs, q1, f _ _ q4 z, q5⟩
    | ent ds =>
      obtain ⟨a, vs, q1, q3, q4, q5⟩ := rv
      obtain ⟨a0, vs0, w1, w3, w4, w5⟩ := rv0
      have ea : a = a0 := V.ref.inj (q1.symm.trans (ev.trans w1))
      have z : a ∉ fp := fun z => by have := n a z; rw [ea, w4] at this; cases this
      exact ⟨a, vs, q1, by rw [rg_out z] at q3; exact q3, f _ _ q4 z, q5⟩
end
/-- what a call by data tells, for the old contracts -/
theorem spF_int {R : RC} {vs : List V} {H : Hp} {Q : VK} {E : XK} (h : spF R vs H Q E) : ∃ (F : Hp) (A : List (V × SV)) (S : Rs → Prop), vs = A.map Prod.fst ∧ (∀ p ∈ A, ∀ i, p.2 = .val (.int i) → p.1 = .int i) ∧ R F (A.map Prod.snd) S ∧ (∀ v d H', Same H H' → S (.ok (.val d)) → Dv F v d → Q v H') ∧ (∀ C i, S (.er C i) → ∀ dd H', Same H H' → H' dd = none → E (.ref C) (some dd) (upd H' dd (.xd [("at", .int i)]))) := by
  obtain ⟨F, A, S, e, r, na, hR, hS⟩ := h
  refine ⟨F, A, S, e, fun p hp i e => ?_, hR, fun v d H' sm hs hd => ?_, fun C i hs => hS _ hs⟩
  · obtain ⟨w, e1, rv⟩ := r.ok (pr p) (List.mem_map.mpr ⟨p, hp, rfl⟩) _ rfl
    cases e1
    obtain ⟨v, s⟩ := p
    subst e
    cases rv
    rfl
  · refine hS _ hs v H' ⟨F, ⟨Same.refl _, r.low.trans sm, sm, fun b h _ => h, fun p hp => ?_, List.pairwise_singleton _ _⟩⟩
    rw [List.mem_singleton] at hp
    subst hp
    exact fun sv e => ⟨v, rfl, (Option.some.inj e) ▸ hd⟩
theorem one_val {A : List (V × SV)} {i : Int} (e : A.map Prod.snd = [.val (.int i)]) (h : ∀ p ∈ A, ∀ i, p.2 = .val (.int i) → p.1 = .int i) : A.map Prod.fst = [.int i] := by
  match A, e, h with
  | [(v, s)], e, h =>
    have e1 : s = .val (.int i) := (List.cons.inj e).1
    have := h (v, s) (by simp) i e1
    show [v] = _
    rw [show v = .int i from this]
theorem two_val {A : List (V × SV)} {i j : Int} (e : A.map Prod.snd = [.val (.int i), .val (.int j)]) (h : ∀ p ∈ A, ∀ i, p.2 = .val (.int i) → p.1 = .int i) : A.map Prod.fst = [.int i, .int j] := by
  match A, e, h with
  | [(v, s), (u, t)], e, h =>
    have e1 : s = .val (.int i) := (List.cons.inj e).1
    have e2 : t = .val (.int j) := (List.cons.inj (List.cons.inj e).2).1
    have h1 := h (v, s) (by simp) i e1
    have h2 := h (u, t) (by simp) j e2
    show [v, u] = _
    rw [show v = .int i from h1, show u = .int j from h2]
end DL
/-! Data: statements beside a region that changes. -/
namespace DL
open PySem PySem.Spec PyProof.Rows L2 NB
/-- what is no list of __init__'s arguments -/
def NoEnt (p : Option V × Option SV) : Prop := ∀ es, p.2 ≠ some (.ent es)
/-- a kind of region: what it holds, and where -/
structure Reg (γ : Type) where
  at_ : γ → Hp → List Addr → Prop
  loc : ∀ {c : γ} {H H' : Hp} {fp : List Addr}, at_ c H fp → (∀ a ∈ fp, H' a = H a) → at_ c H' fp
  has : ∀ {c : γ} {H : Hp} {fp : List Addr} {a : Addr}, at_ c H fp → a ∈ fp → H a ≠ none
structure StR {γ : Type} (R : Reg γ) (F0 Hb : Hp) (fp : List Addr) (F H : Hp) (W : Zt) (c : γ) : Prop where
  reg : R.at_ c H fp
  nb : ∀ a ∈ fp, Hb a = none
  nf : ∀ a ∈ fp, F0 a = none
  rep : Rep F0 (rg Hb fp H) F H W
def StN {γ : Type} (R : Reg γ) (F0 Hb H : Hp) (W : Zt) (c : γ) : Prop := (∃ fp F, StR R F0 Hb fp F H W c) ∧ ∀ p ∈ W, NoAli p
structure REnds (γ : Type) where
  nx : γ → SD → Prop
  rt : γ → SV → Prop
  bk : γ → SD → Prop := fun _ _ => False
  ct : γ → SD → Prop := fun _ _ => False
abbrev RX (γ : Type) := REnds γ → γ → SD → Prop
section
variable {γ : Type} {R : Reg γ} {F0 Hb F H : Hp} {W Z T : Zt} {c : γ} {fp : List Addr} {K : PySem.W.Frag}
structure LowR (R : Reg γ) (F0 Hb : Hp) (T : Zt) (E : REnds γ) (D : Ends) : Prop where
  nx : ∀ Z H c, StN R F0 Hb H (Z ++ T) c → E.nx c (Z.map Prod.snd) → D.nx (Z.map Prod.fst) H
  bk : ∀ Z H c, StN R F0 Hb H (Z ++ T) c → E.bk c (Z.map Prod.snd) → D.bk (Z.map Prod.fst) H
  ct : ∀ Z H c, StN R F0 Hb H (Z ++ T) c → E.ct c (Z.map Prod.snd) → D.ct (Z.map Prod.fst) H
  rt : ∀ sv v H c, E.rt c sv → (∃ fp F, StR R F0 Hb fp F H [(some v, some sv)] c) → D.rt v H
/-- a statement -/
structure DSR (R : Reg γ) (F0 Hb : Hp) (t : TS) (g : RX γ) : Prop where
  run : ∀ (Z T : Zt) (H : Hp) (c : γ) (E : REnds γ) (D : Ends), (∀ p ∈ T, NoEnt p) → StN R F0 Hb H (Z ++ T) c → g E c (Z.map Prod.snd) → LowR R F0 Hb T E D → t D (Z.map Prod.fst) H
/-- the rest has moved on, the region stands -/
theorem StR.stay {F' H' : Hp} {W' : Zt} (s : StR R F0 Hb fp F H W c) (r : Rep F0 (rg Hb fp H) F' H' W') : StR R F0 Hb fp F' H' W' c := by
  have same : ∀ a ∈ fp, H' a = H a := fun a ha => by
    cases e : H a with
    | none => exact absurd e (R.has s.reg ha)
    | some o => exact r.ent _ _ (by rw [rg_in ha]; exact e)
  have eg : rg Hb fp H' = rg Hb fp H := funext fun b => by
    by_cases z : b ∈ fp
    · rw [rg_in z, rg_in z]; exact same b z
    · rw [rg_out z, rg_out z]
  exact ⟨R.loc s.reg same, s.nb, s.nf, by rw [eg]; exact r⟩
theorem LowR.nx' {E : REnds γ} {D : Ends} (l : LowR R F0 Hb T E D) (f : L2.St → Hp → Prop) (p : γ → SD → Prop) (h : ∀ Z H c, StN R F0 Hb H (Z ++ T) c → p c (Z.map Prod.snd) → f (Z.map Prod.fst) H) : LowR R F0 Hb T { E with nx := p } { D with nx := f } := ⟨h, l.bk, l.ct, l.rt⟩
/-- a statement that leaves the region alone -/
def rLift (g : DSX) : RX γ := fun E c σ => g { nx := E.nx c, rt := E.rt c, bk := E.bk c, ct := E.ct c } σ
theorem DSR.lift {t : TS} {g : DSX} (h : ∀ H0, DS F0 H0 t g) : DSR R F0 Hb t (rLift g) where
  run Z T H c E D hT s hg l := by
    obtain ⟨⟨fp, F, s⟩, na⟩ := s
    exact (h (rg Hb fp H)).run Z T H _ D ⟨⟨F, s.rep⟩, na⟩ hg ⟨fun Z' H' ⟨⟨F', r'⟩, na'⟩ h' => l.nx Z' H' c ⟨⟨fp, F', s.stay r'⟩, na'⟩ h', fun Z' H' ⟨⟨F', r'⟩, na'⟩ h' => l.bk Z' H' c ⟨⟨fp, F', s.stay r'⟩, na'⟩ h', fun Z' H' ⟨⟨F', r'⟩, na'⟩ h' => l.ct Z' H' c ⟨⟨fp, F', s.stay r'⟩, na'⟩ h', fun sv v H' h' ⟨F', r'⟩ => l.rt sv v H' c h' ⟨fp, F', s.stay r'⟩⟩
def rSeq (g1 g2 : RX γ) : RX γ := fun E c σ => g1 { E with nx := g2 E } c σ
theorem DSR.seq {t u : TS} {g1 g2 : RX γ} (h1 : DSR R F0 Hb t g1) (h2 : DSR R F0 Hb u g2) : DSR R F0 Hb (tSeq t u) (rSeq g1 g2) where
  run Z T H c E D hT s hg l := h1.run Z T H c _ _ hT s hg (l.nx' _ _ fun Z' H' c' s' h' => h2.run Z' T H' c' E D hT s' h' l)
def rCut (g1 g2 : RX γ) : RX γ := fun E c σ => ∃ M : γ → SD → Prop, g1 { E with nx := M } c σ ∧ ∀ c' σ', M c' σ' → g2 E c' σ'
theorem DSR.cut {t u : TS} {g1 g2 : RX γ} (h1 : DSR R F0 Hb t g1) (h2 : DSR R F0 Hb u g2) : DSR R F0 Hb (C8.tCut t u) (rCut g1 g2) where
  run Z T H c E D hT s hg l := by
    obtain ⟨M, h, k⟩ := hg
    refine ⟨fun σ' H' => ∃ Z' c', Z'.map Prod.fst = σ' ∧ StN R F0 Hb H' (Z' ++ T) c' ∧ M c' (Z'.map Prod.snd), h1.run Z T H c _ _ hT s h (l.nx' _ _ fun Z' H' c' s' h' => ⟨Z', c', rfl, s', h'⟩), ?_⟩
    rintro σ' H' ⟨Z', c', rfl, s', h'⟩
    exact h2.run Z' T H' c' E D hT s' (k _ _ h') l
def rIf (fc : DTX) (g1 g2 : RX γ) : RX γ := fun E c σ => fc σ fun b => Br b (g1 E c σ) (g2 E c σ)
theorem DSR.ifS {cd : TT} {t u : TS} {fc : DTX} {g1 g2 : RX γ} (hc : ∀ H0, DT F0 H0 cd fc) (h1 : DSR R F0 Hb t g1) (h2 : DSR R F0 Hb u g2) : DSR R F0 Hb (tIfS cd t u) (rIf fc g1 g2) where
  run Z T H c E D hT s hg l := by
    obtain ⟨⟨fp, F, s⟩, na⟩ := s
    exact (hc (rg Hb fp H)).run Z T H _ _ ⟨F, s.rep⟩ hg fun b hb H1 ⟨F1, r1⟩ => by
      cases b with
      | true => exact iteT (h1.run Z T H1 c E D hT ⟨⟨fp, F1, s.stay r1⟩, na⟩ hb.t l)
      | false => exact iteF (h2.run Z T H1 c E D hT ⟨⟨fp, F1, s.stay r1⟩, na⟩ hb.f l)
def rWhile (fc : DTX) (g : RX γ) : RX γ := fun E c σ => ∃ (I : γ → SD → Prop) (μ : γ → SD → Nat), I c σ ∧ ∀ c σ, I c σ → fc σ fun b => Br b (g { E with nx := fun c' σ' => I c' σ' ∧ μ c' σ' < μ c σ, ct := fun c' σ' => I c' σ' ∧ μ c' σ' < μ c σ, bk := E.nx } c σ) (E.nx c σ)
theorem DSR.whileS {cd : TT} {t : TS} {fc : DTX} {g : RX γ} (hc : ∀ H0, DT F0 H0 cd fc) (hg : DSR R F0 Hb t g) : DSR R F0 Hb (tWhile cd t) (rWhile fc g) where
  run Z T H c E D hT s h l := by
    obtain ⟨I, μ, h0, hs⟩ := h
    refine ⟨fun m σ H => ∃ Z' c', Z'.map Prod.fst = σ ∧ StN R F0 Hb H (Z' ++ T) c' ∧ I c' (Z'.map Prod.snd) ∧ m = μ c' (Z'.map Prod.snd), ⟨_, Z, c, rfl, s, h0, rfl⟩, ?_⟩
    rintro m σ H' ⟨Z', c', rfl, ⟨⟨fp, F', s'⟩, na⟩, h', rfl⟩
    refine (hc (rg Hb fp H')).run Z' T H' _ _ ⟨F', s'.rep⟩ (hs _ _ h') fun b hb H1 ⟨F1, r1⟩ => ?_
    have s1 : StN R F0 Hb H1 (Z' ++ T) c' := ⟨⟨fp, F1, s'.stay r1⟩, na⟩
    cases b with
    | true =>
      refine iteT ⟨fun σ H => ∃ Z2 c2, Z2.map Prod.fst = σ ∧ StN R F0 Hb H (Z2 ++ T) c2 ∧ I c2 (Z2.map Prod.snd) ∧ μ c2 (Z2.map Prod.snd) < μ c' (Z'.map Prod.snd), fun σ' H' ⟨Z2, c2, a, b, cc, d⟩ => ⟨_, d, Z2, c2, a, b, cc, rfl⟩, ?_⟩
      exact hg.run Z' T H1 c' _ _ hT s1 hb.t ⟨fun Z2 H2 c2 q p => ⟨Z2, c2, rfl, q, p.1, p.2⟩, l.nx, fun Z2 H2 c2 q p => ⟨Z2, c2, rfl, q, p.1, p.2⟩, l.rt⟩
    | false => exact iteF (l.nx Z' H1 c' s1 hb.f)
/-! walks beside a region -/
theorem noent_of {v : V} {sv : SV} (h : sv.isEnt = false) : ∀ p ∈ [((some v, some sv) : Option V × Option SV)], NoEnt p := fun p hp es e => by
  rw [List.mem_singleton] at hp
  subst hp
  cases e
  cases h
class DIA (F0 : Hp) (w : TI) (f : outParam (SD → (List PyData → Bool → Prop) → Prop)) : Prop where
  run : ∀ (H0 : Hp) (Z T : Zt) (H : Hp) (P : List PyData → Bool → Prop) (R : It → Hp → Prop), (∃ F, Rep F0 H0 F H (Z ++ T)) → f (Z.map Prod.snd) P →
    (∀ items b, P items b → ∀ J H' A, (∃ F, Rep F0 H0 F H' (Z ++ (T ++ A))) → (b = true → ∀ p ∈ A, NoAli p ∧ NoEnt p) → (∀ H0', DWalk F0 H0' J items A) → R J H') → w (Z.map Prod.fst) H R
instance {ta : TE} {fa : DX} [ha : ∀ H0, DE F0 H0 ta fa] : DIA F0 (iList K ta) (fun σ P => fa σ fun sv => sv.isEnt = false ∧ match sv.items? with | some ds => P ds (!sv.isAli) | none => False) where
  run H0 Z T H P R := fun hr h q => (ha H0).run Z T H _ _ hr h fun sv ⟨ne, h1⟩ v H1 ⟨F, r1⟩ => by
    cases e : sv.items? with
    | none => rw [e] at h1; exact h1.elim
    | some ds =>
      rw [e] at h1
      obtain ⟨r0, rv⟩ := one_tmp r1
      obtain ⟨a, vs, rfl, h2, h3⟩ := rv.items r1.low e
      exact ⟨a, rfl, ⟨vs, SqL.of h2⟩, q ds _ h1 _ _ [(some (.ref a), some sv)] ⟨F, r1⟩ (fun z p hp => ⟨noali_of z p hp, noent_of ne p hp⟩) (fun H0' => walk_lst rfl e)⟩
theorem DIA.rng1 {ta : TA} {fa : DAX} (ha : ∀ H0, DA F0 H0 ta fa) : DIA F0 (iRng1 ta) (dRng1 fa) where
  run H0 Z T H P R := fun hr h q => (ha H0).run Z T H _ _ hr h fun A h1 H1 ⟨F, r1⟩ => by
    match A, h1, r1 with
    | [(v, sv)], h1, r1 =>
      cases e : sv.int? with
      | none => simp only [List.map_cons, List.map_nil] at h1; rw [e] at h1; exact h1.elim
      | some j =>
        simp only [List.map_cons, List.map_nil] at h1
        rw [e] at h1
        obtain ⟨r0, rv⟩ := one_tmp (v := v) (sv := sv) r1
        exact ⟨j, by rw [← rv.int e]; rfl, h1.1.1, h1.1.2, q _ _ h1.2 _ _ [] ⟨F, by simpa using r0⟩ (fun _ p hp => nomatch hp) (fun H0' => walk_rng 0 _)⟩
instance {ta : TA} {fa : DAX} [ha : ∀ H0, DA F0 H0 ta fa] : DIA F0 (iRng1 ta) (dRng1 fa) := DIA.rng1 ha
instance {ta : TA} {fa : DAX} [ha : ∀ H0, DA F0 H0 ta fa] : DIA F0 (iRng2 ta) (dRng2 fa) where
  run H0 Z T H P R := fun hr h q => (ha H0).run Z T H _ _ hr h fun A h1 H1 ⟨F, r1⟩ => by
    match A, h1, r1 with
    | [(v, sv), (w, sw)], h1, r1 =>
      simp only [List.map_cons, List.map_nil] at h1
      cases e : sv.int? with
      | none => rw [e] at h1; exact h1.elim
      | some i =>
        cases e2 : sw.int? with
        | none => rw [e, e2] at h1; exact h1.elim
        | some j =>
          rw [e, e2] at h1
          have r1' : Rep F0 H0 F H1 ((Z ++ T) ++ [(some v, some sv), (some w, some sw)]) := by simpa [pr] using r1
          obtain ⟨r0, rv, rw'⟩ := two r1'
          exact ⟨i, j, by rw [← rv.int e, ← rw'.int e2]; rfl, h1.1, q _ _ h1.2 _ _ [] ⟨F, by simpa using r0⟩ (fun _ p hp => nomatch hp) (fun H0' => walk_rng _ _)⟩
theorem DIA.enum {ta : TA} {fa : DAX} (ha : ∀ H0, DA F0 H0 ta fa) : DIA F0 (iEnum K ta) (fun σ P => fa σ fun as => match as with | [sv] => sv.isEnt = false ∧ (match sv.items? with | some ds => P (enumD ds) (!sv.isAli) | none => False) | _ => False) where
  run H0 Z T H P R := fun hr h q => (ha H0).run Z T H _ _ hr h fun A h1 H1 ⟨F, r1⟩ => by
    match A, h1, r1 with
    | [(v, sv)], h1, r1 =>
      simp only [List.map_cons, List.map_nil] at h1
      obtain ⟨ne, h1⟩ := h1
      cases e : sv.items? with
      | none => rw [e] at h1; exact h1.elim
      | some ds =>
        rw [e] at h1
        obtain ⟨r0, rv⟩ := one_tmp (v := v) (sv := sv) r1
        obtain ⟨a, vs, rfl, h2, h3⟩ := rv.items r1.low e
        exact ⟨a, vs, rfl, SqL.of h2, q _ _ h1 _ _ [(some (.ref a), some sv)] ⟨F, r1⟩ (fun z p hp => ⟨noali_of z p hp, noent_of ne p hp⟩) (fun H0' => walk_enm rfl e)⟩
instance {ta : TA} {fa : DAX} [ha : ∀ H0, DA F0 H0 ta fa] : DIA F0 (iEnum K ta) (fun σ P => fa σ fun as => match as with | [sv] => sv.isEnt = false ∧ (match sv.items? with | some ds => P (enumD ds) (!sv.isAli) | none => False) | _ => False) := DIA.enum ha
def rFor (fi : SD → (List PyData → Bool → Prop) → Prop) (g : DG1) (body : RX γ) : RX γ := fun E c σ => fi σ fun items b => b = true ∧ ∃ I : Nat → γ → SD → Prop, I 0 c σ ∧
  (∀ i d c σ, items[i]? = some d → I i c σ → g d σ fun σ' => body { E with nx := I (i + 1), ct := I (i + 1), bk := E.nx } c σ') ∧ ∀ c σ, I items.length c σ → E.nx c σ
theorem DSR.forS {wi : TI} {fi} {g : TG} {fg ix} {tb : TS} {gb : RX γ} (hi : DIA F0 wi fi) (hg : ∀ H0, DGt F0 H0 g fg ix) (hb : DSR R F0 Hb tb gb) : DSR R F0 Hb (tFor wi g tb) (rFor fi fg gb) where
  run Z T H c E D hT s h l := by
    obtain ⟨⟨fp, F, s⟩, na0⟩ := s
    refine hi.run (rg Hb fp H) Z T H _ _ ⟨F, s.rep⟩ h fun items b h1 J H1 A ⟨F1, r1⟩ na w => ?_
    obtain ⟨rfl, I, h0, hs, hk⟩ := h1
    have nA := na rfl
    have nTA : ∀ {Z' : Zt}, (∀ p ∈ Z' ++ T, NoAli p) → ∀ p ∈ Z' ++ (T ++ A), NoAli p := fun n p hp => by
      rw [← List.append_assoc] at hp
      rcases List.mem_append.mp hp with z | z
      · exact n p z
      · exact (nA p z).1
    have hTA : ∀ p ∈ T ++ A, NoEnt p := fun p hp => by
      rcases List.mem_append.mp hp with z | z
      · exact hT p z
      · exact (nA p z).2
    have back : ∀ {Z' : Zt} {H' : Hp} {c' : γ}, StN R F0 Hb H' (Z' ++ (T ++ A)) c' → StN R F0 Hb H' (Z' ++ T) c' := fun {Z' H' c'} q => by
      obtain ⟨⟨fp', F', q1⟩, q2⟩ := q
      rw [← List.append_assoc] at q2
      have q3 := q1.rep
      rw [← List.append_assoc] at q3
      exact ⟨⟨fp', F', q1.reg, q1.nb, q1.nf, q3.left⟩, noali_left q2⟩
    refine ⟨fun i m σ H => m = items.length - i ∧ i ≤ items.length ∧ ∃ Z' c', Z'.map Prod.fst = σ ∧ StN R F0 Hb H (Z' ++ (T ++ A)) c' ∧ I i c' (Z'.map Prod.snd), ⟨items.length, by simp, Nat.zero_le _, Z, c, rfl, ⟨⟨fp, F1, s.stay r1⟩, nTA na0⟩, h0⟩, ?_⟩
    rintro i m σ H' ⟨rfl, hle, Z', c', rfl, ⟨⟨fp', F', s'⟩, n'⟩, hI⟩
    have r2 : Rep F0 (rg Hb fp' H') F' H' ((Z' ++ T) ++ A) := by rw [List.append_assoc]; exact s'.rep
    by_cases hlt : i < items.length
    · refine .inr ⟨(w _).goes i H' F' _ hlt r2, fun σ H => ∃ Z' c', Z'.map Prod.fst = σ ∧ StN R F0 Hb H (Z' ++ (T ++ A)) c' ∧ I (i + 1) c' (Z'.map Prod.snd), fun σ2 H2 hn => ⟨items.length - (i + 1), by omega, rfl, hlt, hn⟩, fun x H2 y => ?_⟩
      have hd : items[i]? = some items[i] := List.getElem?_eq_getElem hlt
      obtain ⟨F2, r3⟩ := (w _).yields i H' x H2 F' _ _ hd r2 y
      refine (hg (rg Hb fp' H')).run Z' (T ++ A) H2 F2 x items[i] _ _ (by rw [← List.append_assoc]; exact r3.left) r3.last (hs i _ _ _ hd hI) fun Z3 p3 s3 => ?_
      refine hb.run Z3 (T ++ A) H2 c' _ _ hTA ⟨⟨fp', F2, s'.stay s3.rep⟩, fun p hp => ?_⟩ p3 ⟨fun Z4 H4 c4 q p => ⟨Z4, c4, rfl, q, p⟩, fun Z4 H4 c4 q p => l.nx Z4 H4 c4 (back q) p, fun Z4 H4 c4 q p => ⟨Z4, c4, rfl, q, p⟩, l.rt⟩
      rcases List.mem_append.mp hp with z | z
      · rcases s3.mem p z with z | ⟨d', z⟩
        · exact n' p (List.mem_append_left _ z)
        · exact fun es e => by rw [z] at e; cases e
      · exact n' p (List.mem_append_right _ z)
    · have e : i = items.length := by omega
      subst e
      exact .inl ⟨(w _).stops H' F' _ r2, l.nx Z' H' c' (back ⟨⟨fp', F', s'⟩, n'⟩) (hk _ _ hI)⟩
theorem Rep.drop (r : Rep F0 (rg Hb fp H) F H W) (nb : ∀ a ∈ fp, Hb a = none) (has : ∀ a ∈ fp, H a ≠ none) (ne : ∀ p ∈ W, NoEnt p) : Rep F0 Hb F H W where
  base := r.base
  low := r.low
  ent := fun b o e => r.ent b o (by rw [rg_out (fun z => by rw [nb b z] at e; cases e)]; exact e)
  apart := fun b h0 h1 => r.apart b h0 (by rw [rg_out (fun z => h1 (nb b z))]; exact h1)
  ok := fun p hp sv e => by
    obtain ⟨v, e1, rv⟩ := r.ok p hp sv e
    refine ⟨v, e1, ?_⟩
    cases sv with
    | val d => exact rv
    | raw u => exact rv
    | own ds =>
      obtain ⟨a, vs, q1, q2, q3, q4, q5⟩ := rv
      have z : a ∉ fp := fun z => by rw [rg_in z] at q3; exact has a z q3
      exact ⟨a, vs, q1, q2, by rw [rg_out z] at q3; exact q3, q4, q5⟩
    | ali ds => exact rv
    | ent ds => exact absurd e (ne p hp ds)
  dist := r.dist
/-- the region moves on; B is let go -/
theorem StR.step (s : StR R F0 Hb fp F H W c) {H' : Hp} {fp' : List Addr} {c' : γ} (B : List Addr) (na : ∀ p ∈ W, NoAli p) (ne : ∀ p ∈ W, NoEnt p) (fr : Frm fp H H') (hr : R.at_ c' H' fp') (hfp : ∀ a ∈ fp', a ∈ fp ∨ H a = none) (hB : ∀ b ∈ B, (H b = none ∨ b ∈ fp) ∧ b ∉ fp' ∧ H' b ≠ none) : StR R F0 Hb fp' (fun b => if b ∈ B then H' b else F b) H' W c' := by
  have nHb : ∀ a, a ∈ fp ∨ H a = none → Hb a = none := fun a h => by
    by_cases z : a ∈ fp
    · exact s.nb a z
    · rcases h with h | h
      · exact absurd h z
      · have := s.rep.ent.free h
        rw [rg_out z] at this; exact this
  have nF0 : ∀ a, a ∈ fp ∨ H a = none → F0 a = none := fun a h => by
    rcases h with h | h
    · exact s.nf a h
    · exact (s.rep.base.trans s.rep.low).free h
  have nFf : ∀ a ∈ fp, F a = none := fun a h => s.rep.apart a (s.nf a h) (by rw [rg_in h]; exact R.has s.reg h)
  have nF : ∀ a, a ∈ fp ∨ H a = none → F a = none := fun a h => by
    rcases h with h | h
    · exact nFf a h
    · exact s.rep.low.free h
  have sm : Same F (fun b => if b ∈ B then H' b else F b) := fun b o e => by
    show (if b ∈ B then H' b else F b) = some o
    split
    · rename_i hb
      rw [nF b (hB b hb).1.symm] at e; cases e
    · exact e
  refine ⟨hr, fun a ha => nHb a (hfp a ha), fun a ha => nF0 a (hfp a ha), s.rep.base.trans sm, fun b o e => ?_, fun b o e => ?_, fun b h0 h1 => ?_, fun p hp sv e => ?_, s.rep.dist⟩
  · have e : (if b ∈ B then H' b else F b) = some o := e
    split at e
    · exact e
    · exact fr b o (s.rep.low _ _ e) fun z => by rw [nFf b z] at e; cases e
  · by_cases z : b ∈ fp'
    · rw [rg_in z] at e; exact e
    · rw [rg_out z] at e
      have z2 : b ∉ fp := fun y => by rw [s.nb b y] at e; cases e
      exact fr b o (s.rep.ent _ _ (by rw [rg_out z2]; exact e)) z2
  · show (if b ∈ B then H' b else F b) = none
    by_cases z : b ∈ fp'
    · rw [if_neg fun y => (hB b y).2.1 z]
      exact nF b (hfp b z)
    · rw [rg_out z] at h1
      rw [if_neg fun y => h1 (nHb b (hB b y).1.symm)]
      have z2 : b ∉ fp := fun y => h1 (s.nb b y)
      exact s.rep.apart b h0 (by rw [rg_out z2]; exact h1)
  · obtain ⟨v, e1, rv⟩ := s.rep.ok p hp sv e
    refine ⟨v, e1, ?_⟩
    cases sv with
    | val d => exact Dv.mono sm rv
    | raw u => exact rv
    | own ds =>
      obtain ⟨a, vs, q1, q2, q3, q4, q5⟩ := rv
      have z : a ∉ fp := fun z => by rw [rg_in z] at q3; exact R.has s.reg z q3
      have zH : ¬ (a ∈ fp ∨ H a = none) := fun y => y.elim z fun y => by rw [y] at q4; cases q4
      refine ⟨a, vs, q1, ?_, ?_, fr _ _ q4 z, q5.mono sm⟩
      · show (if a ∈ B then H' a else F a) = none
        rw [if_neg fun y => zH (hB a y).1.symm]; exact q2
      · rw [rg_out fun y => zH (hfp a y)]
        rw [rg_out z] at q3; exact q3
    | ali ds => exact absurd e (na p hp ds)
    | ent ds => exact absurd e (ne p hp ds)
/-- a body beside a region that begins empty -/
theorem DSR.close {t : TS} {g : RX γ} (h : DSR R F0 Hb t g) (c0 : γ) (hc : ∀ H, R.at_ c0 H []) : DS0 F0 Hb t (fun E σ => g { nx := fun _ σ' => E.nx σ' ∧ ∀ x ∈ σ', ∀ es, x ≠ some (.ent es), rt := fun _ sv => E.rt sv ∧ ∀ es, sv ≠ .ent es } c0 σ) where
  run Z H E D r hg l := by
    obtain ⟨⟨F, r⟩, na⟩ := r
    have e0 : rg Hb [] H = Hb := funext fun b => if_neg List.not_mem_nil
    refine h.run Z [] H c0 _ D (fun p hp => absurd hp List.not_mem_nil) ⟨⟨[], F, hc H, fun a ha => absurd ha List.not_mem_nil, fun a ha => absurd ha List.not_mem_nil, by rw [e0]; exact r⟩, na⟩ hg ⟨fun Z' H' c' ⟨⟨fp, F', s⟩, na'⟩ ⟨h', ne⟩ => l.nx Z' H' ⟨⟨F', s.rep.drop s.nb (fun a ha => R.has s.reg ha) fun p hp es e => ?_⟩, na'⟩ h', fun _ _ _ _ h => h.elim, fun _ _ _ _ h => h.elim, fun sv v H' c' ⟨h', ne⟩ ⟨fp, F', s⟩ => l.rt sv v H' h' ⟨F', s.rep.drop s.nb (fun a ha => R.has s.reg ha) fun p hp es e => ?_⟩⟩
    · rw [List.append_nil] at hp
      exact ne p.2 (List.mem_map.mpr ⟨p, hp, rfl⟩) es e
    · rw [List.mem_singleton] at hp
      subst hp
      exact ne es (Option.some.inj e)
end
end DL
/-! Data: statements beside a region that changes. -/
/-! Data: a dict that changes, kept by one slot; in. -/
namespace DL
open PySem PySem.Spec PyProof.Rows L2 NB
/-! a dict with integer keys -/
section
variable {F0 Hb : Hp} {K : PySem.W.Frag}
theorem same_rg {fp : List Addr} {H2 : Hp} (n : ∀ a ∈ fp, Hb a = none) : Same Hb (rg Hb fp H2) := fun b o e => by
  by_cases z : b ∈ fp
  · rw [n b z] at e; cases e
  · rw [rg_out z]; exact e
/-- a statement that leaves the region alone, and may raise -/
theorem DSR.lift' {γ : Type} {R : Reg γ} {t : TS} {g : DSX} (h : ∀ H0, Same Hb H0 → DS F0 H0 t g) : DSR R F0 Hb t (rLift g) where
  run Z T H c E D hT s hg l := by
    obtain ⟨⟨fp, F, s⟩, na⟩ := s
    exact (h (rg Hb fp H) (same_rg s.nb)).run Z T H _ D ⟨⟨F, s.rep⟩, na⟩ hg ⟨fun Z' H' ⟨⟨F', r'⟩, na'⟩ h' => l.nx Z' H' c ⟨⟨fp, F', s.stay r'⟩, na'⟩ h', fun Z' H' ⟨⟨F', r'⟩, na'⟩ h' => l.bk Z' H' c ⟨⟨fp, F', s.stay r'⟩, na'⟩ h', fun Z' H' ⟨⟨F', r'⟩, na'⟩ h' => l.ct Z' H' c ⟨⟨fp, F', s.stay r'⟩, na'⟩ h', fun sv v H' h' ⟨F', r'⟩ => l.rt sv v H' c h' ⟨fp, F', s.stay r'⟩⟩
def NoEd (σ : SD) : Prop := ∀ o ∈ σ, ∀ es, o ≠ some (.ent es)
theorem NoEd.all {Z T : Zt} (h : NoEd (Z.map Prod.snd)) (hT : ∀ p ∈ T, NoEnt p) : ∀ p ∈ Z ++ T, NoEnt p := fun p hp => by
  rcases List.mem_append.mp hp with z | z
  · exact h p.2 (List.mem_map.mpr ⟨p, z, rfl⟩)
  · exact hT p z
theorem store_Rd {γ : Type} {R : Reg γ} {fp : List Addr} {F F' H H' : Hp} {Z T : Zt} {c : γ} {v : V} {sv : SV} {i : Nat} (s : StR R F0 Hb fp F H (Z ++ T) c) (r : Rep F0 (rg Hb fp H) F' H' (Z ++ (T ++ [(some v, some sv)]))) (n : ∀ p ∈ Z ++ T, NoAli p) (ns : ∀ es, sv ≠ .ali es) : StN R F0 Hb H' (Z.set i (some v, some sv) ++ T) c := by
  obtain ⟨⟨F2, r2⟩, na⟩ := store_S (i := i) ⟨F', r⟩ n ns
  exact ⟨⟨fp, F2, s.stay r2⟩, na⟩
theorem lowR_setd {γ : Type} {R : Reg γ} {H : Hp} {Z T : Zt} {E : REnds γ} {D : Ends} {i : Nat} {v : V} {sv : SV} {c : γ} (l : LowR R F0 Hb T E D) (r : StN R F0 Hb H (Z.set i (some v, some sv) ++ T) c) (h : E.nx c ((Z.map Prod.snd).set i (some sv))) : D.nx ((Z.map Prod.fst).set i (some v)) H := by
  have := l.nx _ _ c r (by rw [map_set_snd]; exact h)
  rw [map_set_fst] at this
  exact this
/-- a region of one dict -/
def DicR : Reg (Option (Addr × List (Key × V))) where
  at_ c H fp := match c with
    | none => fp = []
    | some c => fp = [c.1] ∧ H c.1 = some (.dK c.2) ∧ ∀ p ∈ c.2, p.2 = .bl true
  loc := fun {c H H' fp} h e => by
    cases c with
    | none => exact h
    | some c =>
      obtain ⟨rfl, h, k⟩ := h
      exact ⟨rfl, by rw [e _ (by simp)]; exact h, k⟩
  has := fun {c H fp a} h ha => by
    cases c with
    | none =>
      have h : fp = [] := h
      subst h; exact absurd ha List.not_mem_nil
    | some c =>
      obtain ⟨rfl, h, k⟩ := h
      rw [List.mem_singleton] at ha
      rw [ha, h]; simp
/-- x = {} -/
def rDNew (i : Nat) : RX (Option (Addr × List (Key × V))) := fun E c σ => c = none ∧ NoEd σ ∧ ∀ a : Addr, E.nx (some (a, [])) (σ.set i (some (.raw (.ref a))))
theorem DSR.dnew {i : Nat} : DSR DicR F0 Hb (tAsg tDNewK (gName i)) (rDNew i) where
  run Z T H c E D hT s hg l := by
    obtain ⟨rfl, hne, hE⟩ := hg
    obtain ⟨⟨fp, F, s⟩, na⟩ := s
    have efp : fp = [] := s.reg
    subst efp
    intro p np
    have s2 : StR DicR F0 Hb [p] _ (upd H p (.dK [])) (Z ++ T) (some (p, [])) := s.step (H' := upd H p (.dK [])) [] na (hne.all hT) ((Frm.refl _ H).new np) ⟨rfl, upd_same, fun q hq => nomatch hq⟩ (fun a ha => by rw [List.mem_singleton] at ha; rw [ha]; exact .inr np) fun b hb => absurd hb List.not_mem_nil
    exact lowR_setd l (store_Rd s2 (by rw [← List.append_assoc]; exact s2.rep.pushR (v := .ref p)) na (by intro _ e; cases e)) (hE p)
/-- if e in d: .. -/
def rIfIn (j i : Nat) (g1 g2 : RX (Option (Addr × List (Key × V)))) : RX (Option (Addr × List (Key × V))) := fun E c σ => ∃ (a : Addr) (kvs : List (Key × V)) (n : Int), c = some (a, kvs) ∧ σ[i]? = some (some (.raw (.ref a))) ∧ σ[j]? = some (some (.val (.int n))) ∧ Br (valV kvs (Sum.inl n)).isSome (g1 E c σ) (g2 E c σ)
theorem DSR.ifIn {i j : Nat} {t u : TS} {g1 g2 : RX (Option (Addr × List (Key × V)))} (h1 : DSR DicR F0 Hb t g1) (h2 : DSR DicR F0 Hb u g2) : DSR DicR F0 Hb (tIfS (tB (tDIn (tVar j) (tVar i))) t u) (rIfIn j i g1 g2) where
  run Z T H c E D hT s hg l := by
    obtain ⟨a, kvs, n, rfl, hi, hj, hb⟩ := hg
    have s0 := s
    obtain ⟨⟨fp, F, s⟩, na⟩ := s
    obtain ⟨vi, qi, fi, ri⟩ := slot_val s.rep hi
    have ei : vi = .ref a := ri
    subst ei
    obtain ⟨vj, qj, fj, rj⟩ := slot_val s.rep hj
    cases rj
    obtain ⟨efp, hd, _⟩ := s.reg
    refine ⟨_, fj, _, fi, a, _, rfl, DGet.k (k := Sum.inl n) hd, _, rfl, ?_⟩
    cases hh : (valV kvs (Sum.inl n)).isSome with
    | true => rw [hh] at hb; exact iteT (h1.run Z T H _ E D hT s0 hb.t l)
    | false => rw [hh] at hb; exact iteF (h2.run Z T H _ E D hT s0 hb.f l)
/-- d[e] = True -/
def rDPut (j i : Nat) : RX (Option (Addr × List (Key × V))) := fun E c σ => ∃ (a : Addr) (kvs : List (Key × V)) (n : Int), c = some (a, kvs) ∧ NoEd σ ∧ σ[i]? = some (some (.raw (.ref a))) ∧ σ[j]? = some (some (.val (.int n))) ∧ kvs.length < sizeLine ∧ E.nx (some (a, putK kvs (Sum.inl n) (.bl true))) σ
theorem DSR.dput {i j : Nat} : DSR DicR F0 Hb (sDPut (tVar i) (tVar j) (tC (.bl true))) (rDPut j i) where
  run Z T H c E D hT s hg l := by
    obtain ⟨a, kvs, n, rfl, hne, hi, hj, hk, hE⟩ := hg
    obtain ⟨⟨fp, F, s⟩, na⟩ := s
    obtain ⟨vi, qi, fi, ri⟩ := slot_val s.rep hi
    have ei : vi = .ref a := ri
    subst ei
    obtain ⟨vj, qj, fj, rj⟩ := slot_val s.rep hj
    cases rj
    obtain ⟨efp, hd, hk2⟩ := s.reg
    have efp : fp = [a] := efp
    subst efp
    have hd : H a = some (.dK kvs) := hd
    refine ⟨_, fi, _, fj, a, _, rfl, DPut.k (k := Sum.inl n) hd hk, ?_⟩
    have s2 : StR DicR F0 Hb [a] _ (upd H a (.dK (putK kvs (Sum.inl n) (.bl true)))) (Z ++ T) (some (a, putK kvs (Sum.inl n) (.bl true))) := s.step (H' := upd H a (.dK (putK kvs (Sum.inl n) (.bl true)))) [] na (hne.all hT) ((Frm.refl _ H).put (by simp)) ⟨rfl, upd_same, ?_⟩ (fun b hb => .inl hb) fun b hb => absurd hb List.not_mem_nil
    · exact l.nx Z _ _ ⟨⟨_, _, s2⟩, na⟩ hE
    · intro p hp
      have hp : p ∈ putK kvs (Sum.inl n) (.bl true) := hp
      unfold putK at hp
      split at hp
      · obtain ⟨q, hq, rfl⟩ := List.mem_map.mp hp
        split
        · rfl
        · exact hk2 q hq
      · rcases List.mem_append.mp hp with z | z
        · exact hk2 p z
        · rw [List.mem_singleton] at z; rw [z]
end
/-! n in a list of ints -/
section
variable {F0 H0 : Hp} {K : PySem.W.Frag}
theorem inV_ints (n : Int) : ∀ ns : List Int, inV (.int n) (ns.map V.int) = decide (n ∈ ns)
  | [] => by simp [inV]
  | k :: ns => by
    have ih := inV_ints n ns
    unfold inV at ih ⊢
    rw [List.map_cons, List.any_cons, ih]
    by_cases h : n = k
    · subst h; simp [eqV]
    · simp [h, Ne.symm h, eqV]
def oIn (neg : Bool) : SV → SV → (SV → Prop) → Prop := fun x y P => ∃ (n : Int) (ns : List Int), x = .val (.int n) ∧ y.items? = some (LI ns) ∧ P (.val (.bool (if neg then !decide (n ∈ ns) else decide (n ∈ ns))))
instance {neg : Bool} : OpD F0 H0 (rIn K neg) (oIn neg) where
  run W x y sx sy H P Q := fun ⟨F, re⟩ ⟨n, ns, e1, e2, h⟩ q => by
    subst e1
    obtain ⟨r0, r1, r2⟩ := two re
    have r1 : Dv F x (.int n) := r1
    cases r1
    obtain ⟨a, vs, rfl, ha, hv⟩ := r2.items re.low e2
    have evs := all_ints hv
    subst evs
    refine ⟨a, _, rfl, .inl (SqL.of ha), rfl, ?_, ?_⟩
    · rw [List.all_map]; exact List.all_eq_true.mpr fun _ _ => rfl
    · rw [inV_ints]
      exact q _ h _ H ⟨F, by
        cases neg
        · exact r0.pushV (.bl _)
        · exact r0.pushV (.bl _)⟩
end
end DL
namespace K04o
open PySem PySem.Spec L2 NB ER MKX
def top (i : Nat) : Stmt := PySem.Challenge.pw_farhaul_k04_roots_and_points.main.body.getD i (.Pass ⟨0, 0, 0, 0⟩)
abbrev s_init : Stmt := inClass (top 3) 0
theorem sc_init : FnScope ["self", "at"] ["self", "at"] (defScope s_init) := ⟨rfl, rfl, rfl, by decide +kernel, rfl, by decide +kernel, by decide +kernel⟩
abbrev s_degree : Stmt := top 22
theorem sc_degree : FnScope ["p"] ["p"] (defScope s_degree) := ⟨rfl, rfl, rfl, by decide +kernel, rfl, by decide +kernel, by decide +kernel⟩
abbrev s_times_binary : Stmt := top 23
theorem sc_times_binary : FnScope ["p", "q", "total", "i"] ["p", "q"] (defScope s_times_binary) := ⟨rfl, rfl, rfl, by decide +kernel, rfl, by decide +kernel, by decide +kernel⟩
abbrev s_divide : Stmt := top 25
theorem sc_divide : FnScope ["p", "q", "quotient", "rest", "shift"] ["p", "q"] (defScope s_divide) := ⟨rfl, rfl, rfl, by decide +kernel, rfl, by decide +kernel, by decide +kernel⟩
abbrev s_common : Stmt := top 26
theorem sc_common : FnScope ["p", "q", "last", "rest"] ["p", "q"] (defScope s_common) := ⟨rfl, rfl, rfl, by decide +kernel, rfl, by decide +kernel, by decide +kernel⟩
abbrev s_product_rest : Stmt := top 27
theorem sc_product_rest : FnScope ["p", "q", "modulus"] ["p", "q", "modulus"] (defScope s_product_rest) := ⟨rfl, rfl, rfl, by decide +kernel, rfl, by decide +kernel, by decide +kernel⟩
abbrev s_is_irreducible : Stmt := top 28
theorem sc_is_irreducible : FnScope ["p", "power", "_"] ["p"] (defScope s_is_irreducible) := ⟨rfl, rfl, rfl, by decide +kernel, rfl, by decide +kernel, by decide +kernel⟩
abbrev s__law_degree : Stmt := top 35
theorem sc__law_degree : FnScope ["p", "top", "k"] ["p"] (defScope s__law_degree) := ⟨rfl, rfl, rfl, by decide +kernel, rfl, by decide +kernel, by decide +kernel⟩
abbrev s__law_times : Stmt := top 36
theorem sc__law_times : FnScope ["p", "q", "total", "k"] ["p", "q"] (defScope s__law_times) := ⟨rfl, rfl, rfl, by decide +kernel, rfl, by decide +kernel, by decide +kernel⟩
abbrev s__law_divided : Stmt := top 37
theorem sc__law_divided : FnScope ["p", "q", "size", "whole", "k", "shift"] ["p", "q"] (defScope s__law_divided) := ⟨rfl, rfl, rfl, by decide +kernel, rfl, by decide +kernel, by decide +kernel⟩
abbrev s__law_irreducible : Stmt := top 39
theorem sc__law_irreducible : FnScope ["p", "top", "q"] ["p"] (defScope s__law_irreducible) := ⟨rfl, rfl, rfl, by decide +kernel, rfl, by decide +kernel, by decide +kernel⟩
abbrev s__powers_of : Stmt := top 32
theorem sc__powers_of : FnScope ["e", "modulus", "powers", "power"] ["e", "modulus"] (defScope s__powers_of) := ⟨rfl, rfl, rfl, by decide +kernel, rfl, by decide +kernel, by decide +kernel⟩
abbrev s__root_powers : Stmt := top 31
theorem sc__root_powers : FnScope ["turn", "modulus", "e", "powers"] ["turn", "modulus"] (defScope s__root_powers) := ⟨rfl, rfl, rfl, by decide +kernel, rfl, by decide +kernel, by decide +kernel⟩
abbrev s_Field___init__ : Stmt := inClass (top 30) 0
theorem sc_Field___init__ : FnScope ["self", "m", "modulus", "k", "e"] ["self", "m", "modulus"] (defScope s_Field___init__) := ⟨rfl, rfl, rfl, by decide +kernel, rfl, by decide +kernel, by decide +kernel⟩
abbrev s__law_modulus : Stmt := top 40
theorem sc__law_modulus : FnScope ["m", "drawn", "found", "p"] ["m", "drawn"] (defScope s__law_modulus) := ⟨rfl, rfl, rfl, by decide +kernel, rfl, by decide +kernel, by decide +kernel⟩
/-! ### the mathematics of bits -/
theorem mod_pow_succ (q i : Nat) : q % 2 ^ (i + 1) = q % 2 ^ i ^^^ (if q / 2 ^ i % 2 = 1 then 2 ^ i else 0) := by
  apply Nat.eq_of_testBit_eq
  intro j
  rw [Nat.testBit_xor, Nat.testBit_mod_two_pow, Nat.testBit_mod_two_pow]
  by_cases e : j = i
  · subst e
    by_cases h : q / 2 ^ j % 2 = 1
    · rw [if_pos h, Nat.testBit_two_pow_self]; simp [Nat.testBit_eq_decide_div_mod_eq, h]
    · rw [if_neg h]; simp [Nat.testBit_eq_decide_div_mod_eq, h]
  · have e2 : (if q / 2 ^ i % 2 = 1 then 2 ^ i else 0).testBit j = false := by
      split
      · rw [Nat.testBit_two_pow]; simp; omega
      · simp
    rw [e2]
    by_cases h : j < i
    · simp [h]; omega
    · have : ¬ j < i + 1 := by omega
      simp [h, this]
theorem times_step (p q i : Nat) : GF.mul p (q % 2 ^ (i + 1)) = GF.mul p (q % 2 ^ i) ^^^ (if q / 2 ^ i % 2 = 1 then 2 ^ i * p else 0) := by
  rw [mod_pow_succ, GF.mul_xor]
  congr 1
  split
  · exact GF.mul_pow _ _
  · exact GF.mul_zero _
theorem bits_lt (q : Nat) : q < 2 ^ NB.bits q := by
  unfold NB.bits
  split
  · rename_i h; subst h; decide
  · exact Nat.lt_log2_self
theorem bits_le {q n : Nat} : NB.bits q ≤ n ↔ q < 2 ^ n := by
  unfold NB.bits
  split
  · rename_i h; subst h; simp [Nat.two_pow_pos]
  · rename_i h2
    exact Nat.log2_lt h2
theorem bits_pos {q : Nat} (h : q ≠ 0) : NB.bits q = q.log2 + 1 := by unfold NB.bits; rw [if_neg h]
theorem bits_deg {q : Nat} (h : q ≠ 0) : GF.Deg q (NB.bits q - 1) := by rw [bits_pos h]; exact GF.deg_log h
/-- the bit is not there -/
theorem or_xor {k s : Nat} (h : k % 2 ^ (s + 1) = 0) : k ||| 2 ^ s = k ^^^ 2 ^ s := by
  have hb : k.testBit s = false := by
    have := Nat.testBit_mod_two_pow k (s + 1) s
    rw [h] at this
    simp at this
    exact this
  apply Nat.eq_of_testBit_eq
  intro j
  rw [Nat.testBit_or, Nat.testBit_xor, Nat.testBit_two_pow]
  by_cases e : s = j
  · subst e; rw [hb]; simp
  · simp [e]
theorem xor_mod_zero {k s t : Nat} (h : k % 2 ^ (s + 1) = 0) (ht : t ≤ s) : (k ^^^ 2 ^ s) % 2 ^ t = 0 := by
  rw [Nat.xor_mod_two_pow]
  have d : 2 ^ t ∣ 2 ^ (s + 1) := Nat.pow_dvd_pow 2 (by omega)
  have d2 : 2 ^ t ∣ 2 ^ s := Nat.pow_dvd_pow 2 ht
  have h1 : k % 2 ^ t = 0 := Nat.mod_eq_zero_of_dvd (Nat.dvd_trans d (Nat.dvd_of_mod_eq_zero h))
  rw [h1, Nat.mod_eq_zero_of_dvd d2]; rfl
theorem div_step {r q s : Nat} (hq : q ≠ 0) (hs : NB.bits r = NB.bits q + s) : NB.bits (r ^^^ 2 ^ s * q) < NB.bits r := by
  have hb := bits_pos hq
  have hr : r ≠ 0 := by intro z; subst z; unfold NB.bits at hs; simp at hs; rw [if_neg hq] at hs; omega
  have dr := bits_deg hr
  have dq := GF.deg_shift (bits_deg hq) s
  have e : s + (NB.bits q - 1) = NB.bits r - 1 := by omega
  rw [e] at dq
  have := bits_le.mpr (GF.deg_xor dr dq)
  omega
theorem xor_swap (a b c : Nat) : a ^^^ c ^^^ (b ^^^ c) = a ^^^ b := by rw [Nat.xor_assoc a c, Nat.xor_comm b c, ← Nat.xor_assoc c c, Nat.xor_self, Nat.zero_xor]
section
variable {P : Program} {w : World} {K : PySem.W.Frag} {mg : Str → Option Value} {base : Heap}
theorem ok_init {f : Addr} {fd : FuncData} (F : Fun K "__init__" "HaulError.__init__" s_init f fd) (mv : mg "ValueError" = none) (vV : PySem.W.findCls K (.type "ValueError") (.type "type") "__init__" = some (.val (.builtin "ValueError.__init__"))) :
    FnOk P w K mg base CX0 1 f fd ["self", "at"] (sp_init K) := by
  refine F.ok sc_init (fun vs H Q E h => ?_) (fun cdv A outer s H vs Q E hr h => ?_)
  · obtain ⟨a, C, i, rfl, _⟩ := h; rfl
  · obtain ⟨a, C, i, rfl, ⟨mg', x, fI, CH, T⟩, ha, hi, k⟩ := h
    refine ⟨_, pss_cons (ps_expr (pe_veinit rfl mv vV (pa_cons (pv 0) (pa_cons (pe_joined (.cons pe_str (.cons (pe_fmt (pv 1)) .nil))) pa_nil))))
      (pss_one (ps_ost (pv 0) (pv 1))), ?_⟩
    refine ⟨_, rfl, _, rfl, ?_, _, rfl, .inr ⟨i, rfl, hi, _, rfl, at_len hi, a, C, _, rfl, by simp, T.oex, ha, ?_⟩⟩
    · decide +kernel
    · refine ⟨_, rfl, _, rfl, a, C, rfl, T.oex, T.no, .inl ⟨ha, fun dx nx ne => k dx nx ne⟩⟩
def sp_degree : Sp := fun vs H Q _ => ∃ p : Nat, vs = [.int p] ∧ Q (.int ((NB.bits p : Nat) - 1 : Int)) H
theorem ok_degree {f : Addr} {fd : FuncData} (D : Df K mg "degree" ["p"] s_degree f fd) : FnOk P w K mg base CX0 1 f fd ["p"] sp_degree := by
  refine D.F.ok sc_degree (fun vs H Q E h => ?_) (fun cdv A outer s H vs Q E hr h => ?_)
  · obtain ⟨p, rfl, _⟩ := h; rfl
  · obtain ⟨p, rfl, k⟩ := h
    refine ⟨_, pss_one (ps_ret (pe_op op_sub (pe_bits (pv 0)) pe_int)), ?_⟩
    refine ⟨_, rfl, _, rfl, _, _, rfl, rfl, ?_⟩
    rw [intBits_nat]
    exact k
def sp_times_binary : Sp := fun vs H Q _ => ∃ p q : Nat, vs = [.int p, .int q] ∧ p < 2 ^ 64 ∧ q < 2 ^ 64 ∧ Q (.int ((GF.mul p q : Nat) : Int)) H
theorem ok_times_binary {f : Addr} {fd : FuncData} (D : Da K mg "times_binary" "times" ["p", "q"] s_times_binary f fd) (B : Bl mg) : FnOk P w K mg base CX0 1 f fd ["p", "q"] sp_times_binary := by
  refine D.F.ok sc_times_binary (fun vs H Q E h => ?_) (fun cdv A outer s H vs Q E hr h => ?_)
  · obtain ⟨p, q, rfl, _⟩ := h; rfl
  · obtain ⟨p, q, rfl, hp, hq, k⟩ := h
    refine ⟨_, (pss_cons (ps_set (i := 2) sc_times_binary.nd rfl (Or.inl rfl) (pe_nat 0))
      (pss_cons (ps_for PassesOwn.never rfl (pi_range1 rfl B.range (pa_cons (pe_bits (pv 1)) pa_nil)) (pg_name (i := 3) sc_times_binary.nd rfl (Or.inl rfl) (Or.inr rfl))
        (pss_one (ps_if (pt_truth (pe_op nb_and (pe_op nb_shr (pv 1) (pv 3)) (pe_nat 1)) (by intro _; rfl)) (pss_one (ps_aug (i := 2) sc_times_binary.nd rfl (Or.inl rfl) (pe_op nb_shl (pv 0) (pv 3)) nbi_xor)) pss_nil)))
      (pss_one (ps_ret (pv 2))))), ?_⟩
    have hb := bits_le.mpr hq
    refine ⟨_, rfl, _, rfl, _, rfl, by omega, by rw [intBits_nat]; omega, ?_⟩
    rw [intBits_nat]
    refine for_rangeN (lo := 0) (n := NB.bits q) (fun i σ H' => ∃ v, σ = [some (.int p), some (.int q), some (.int ((GF.mul p (q % 2 ^ i) : Nat) : Int)), v] ∧ H' = H) ⟨none, ?_, rfl⟩ ?_ ?_
    · rw [Nat.pow_zero, Nat.mod_one, GF.mul_zero]; rfl
    · rintro i σ H' hi ⟨v, rfl, rfl⟩
      rw [Nat.zero_add]
      refine ⟨_, rfl, _, rfl, _, _, rfl, rfl, _, _, rfl, rfl, _, rfl, ?_⟩
      have key := times_step p q i
      rw [Nat.and_one_is_mod]
      refine iteZ (fun c => ?_) (fun c => ?_)
      · rw [if_pos (by omega)] at key
        refine ⟨_, rfl, _, rfl, _, rfl, _, _, rfl, rfl, ⟨hp, by omega⟩, _, _, rfl, rfl, some (.int i), ?_, rfl⟩
        rw [key]; rfl
      · rw [if_neg (by omega), Nat.xor_zero] at key
        refine ⟨some (.int i), ?_, rfl⟩
        rw [key]; rfl
    · rintro σ H' ⟨v, rfl, rfl⟩
      rw [Nat.mod_eq_of_lt (bits_lt q)]
      exact ⟨_, rfl, k⟩
def sp_divide (C : Addr) : Sp := fun vs H Q E => ∃ p q : Nat, vs = [.int p, .int q] ∧ p < 2 ^ 64 ∧ q < 2 ^ 64 ∧
  (q = 0 → ∀ d, H d = none → E (.ref C) (some d) (upd H d (.xd [("at", .int 0)]))) ∧
  (q ≠ 0 → ∀ a, H a = none → Q (.ref a) (upd H a (.tup [.int ((GF.pdiv p q : Nat) : Int), .int ((GF.pmod p q : Nat) : Int)])))
theorem ok_divide {f f_degree f_init C CH : Addr} {fd fd_degree fd_init : FuncData} (D : Df K mg "divide" ["p", "q"] s_divide f fd) (D_degree : Df K mg "degree" ["p"] s_degree f_degree fd_degree)
    (X_NoDivisor : XC K mg "NoDivisor" C f_init CH) (G_init : FnOk P w K mg base CX0 1 f_init fd_init ["self", "at"] (sp_init K)) (b_init : Binds K fd_init ["self", "at"] []) : FnOk P w K mg base (L2.CX P w) 3 f fd ["p", "q"] (sp_divide C) := by
  have G_degree : FnOk P w K mg base CX0 1 f_degree fd_degree ["p"] sp_degree := ok_degree D_degree
  refine D.F.okX sc_divide (fun vs H Q E h => ?_) (fun cdv A outer s H vs Q E hr h => ?_)
  · obtain ⟨p, q, rfl, _⟩ := h; rfl
  · obtain ⟨p, q, rfl, hp, hq, kE, kQ⟩ := h
    refine ⟨_, (pss_cons (ps_if (pt_cmpR op_eq (pv 1) (pe_nat 0) (nomark _)) (pss_one (ps_err rfl X_NoDivisor G_init (hr.mono (by decide)) b_init pass0 (takes_of rfl rfl rfl rfl) (pa_cons (pe_nat 0) pa_nil))) pss_nil)
      (pss_cons (ps_set (i := 2) sc_divide.nd rfl (Or.inl rfl) (pe_nat 0))
      (pss_cons (ps_set (i := 3) sc_divide.nd rfl (Or.inl rfl) (pv 0))
      (pss_cons (ps_set (i := 4) sc_divide.nd rfl (Or.inl rfl) (pe_op op_sub (pe_call G_degree (hr.mono (by decide)) rfl D_degree.g D_degree.F.kp D_degree.b .nil pass0 (pa_cons (pv 3) pa_nil)) (pe_call G_degree (hr.mono (by decide)) rfl D_degree.g D_degree.F.kp D_degree.b .nil pass0 (pa_cons (pv 1) pa_nil))))
      (pss_cons (ps_while (passes_of rfl) (pt_cmpR op_ge (pv 4) (pe_nat 0) (nomark _))
        (pss_cons (ps_aug (i := 2) sc_divide.nd rfl (Or.inl rfl) (pe_op nb_shl (pe_nat 1) (pv 4)) nbi_or)
        (pss_cons (ps_aug (i := 3) sc_divide.nd rfl (Or.inl rfl) (pe_op nb_shl (pv 1) (pv 4)) nbi_xor)
        (pss_one (ps_set (i := 4) sc_divide.nd rfl (Or.inl rfl) (pe_op op_sub (pe_call G_degree (hr.mono (by decide)) rfl D_degree.g D_degree.F.kp D_degree.b .nil pass0 (pa_cons (pv 3) pa_nil)) (pe_call G_degree (hr.mono (by decide)) rfl D_degree.g D_degree.F.kp D_degree.b .nil pass0 (pa_cons (pv 1) pa_nil))))))))
      (pss_one (ps_ret (pe_tup (pa_cons (pv 2) (pa_cons (pv 3) pa_nil)))))))))), ?_⟩
    refine ⟨_, rfl, rfl, _, rfl, iteD (fun c => ?_) (fun c => ?_)⟩
    · have q0 : q = 0 := by have := V.int.inj c; omega
      exact ⟨0, rfl, by decide, fun d hd => kE q0 d hd⟩
    · have q0 : q ≠ 0 := fun z => c (by rw [z])
      refine ⟨_, rfl, _, rfl, p, rfl, _, rfl, q, rfl, _, _, rfl, rfl, ?_⟩
      refine while_by (fun σ H' => H' = H ∧ ∃ (k r : Nat) (z : Int), σ = [some (.int p), some (.int q), some (.int (k : Int)), some (.int (r : Int)), some (.int z)] ∧ z = (NB.bits r : Int) - NB.bits q ∧ p = GF.mul k q ^^^ r ∧ k % 2 ^ (NB.bits r + 1 - NB.bits q) = 0 ∧ r < 2 ^ 64)
        (fun σ _ => match σ with | [_, _, _, some (.int r), _] => NB.bits r.toNat | _ => 0) ⟨rfl, 0, p, _, rfl, ?_, ?_, ?_, hp⟩ ?_ ?_
      · omega
      · rw [GF.zero_mul, Nat.zero_xor]
      · exact Nat.zero_mod _
      · rintro σ H' ⟨rfl, k, r, z, rfl, hz, hpk, hk, hr64⟩
        refine ⟨_, rfl, _, _, rfl, rfl, _, rfl, iteD (fun c => ?_) (fun c => ?_)⟩
        · have c' : 0 ≤ z := c
          obtain ⟨s, rfl⟩ := Int.eq_ofNat_of_zero_le c'
          have hs : NB.bits r = NB.bits q + s := by omega
          have hb64 := bits_le.mpr hr64
          have e1 : NB.bits r + 1 - NB.bits q = s + 1 := by omega
          rw [e1] at hk
          have hd := div_step q0 hs
          refine ⟨_, rfl, _, rfl, _, _, rfl, rfl, ⟨by decide, by omega⟩, _, _, rfl, rfl, _, rfl, _, rfl, _, rfl, _, _, rfl, rfl, ⟨hq, by omega⟩, _, _, rfl, rfl, _, rfl, _, rfl, _, rfl, q, rfl, _, _, rfl, rfl, ⟨rfl, k ^^^ 2 ^ s, r ^^^ 2 ^ s * q, (NB.bits (r ^^^ 2 ^ s * q) : Int) - 1 - ((NB.bits q : Int) - 1), ?_, ?_, ?_, ?_, ?_⟩, ?_⟩
          · rw [Nat.mul_one, ← or_xor hk]; rfl
          · omega
          · rw [GF.xor_mul, GF.pow_mul, hpk, xor_swap]
          · exact xor_mod_zero hk (by omega)
          · exact Nat.lt_of_lt_of_le (bits_lt _) (Nat.pow_le_pow_right (by decide) (by omega))
          · exact hd
        · have c' : z < 0 := by have : ¬ (0 : Int) ≤ z := c; omega
          have hb := bits_pos q0
          have hrl : r < 2 ^ q.log2 := bits_le.mp (by omega)
          obtain ⟨e1, e2⟩ := GF.mod_of q0 hrl hpk
          refine ⟨_, rfl, _, rfl, (by show 2 ≤ sizeLine; decide), fun a ha => ?_⟩
          have := kQ q0 a ha
          rw [e1, e2] at this
          exact this
      · rintro σ H' Q1 Q2 kk ⟨v, e, i, j, e1, e2, b, e3, qq⟩
        exact ⟨v, e, i, j, e1, e2, b, e3, kk _ _ qq⟩
def sp_common : Sp := fun vs H Q _ => ∃ p q : Nat, vs = [.int p, .int q] ∧ p < 2 ^ 64 ∧ q < 2 ^ 64 ∧ ∀ H', Same H H' → Q (.int ((GF.gcd p q : Nat) : Int)) H'
theorem ok_common {f f_divide C : Addr} {fd fd_divide : FuncData} (D : Df K mg "common" ["p", "q"] s_common f fd) (D_divide : Df K mg "divide" ["p", "q"] s_divide f_divide fd_divide)
    (G_divide : FnOk P w K mg base (L2.CX P w) 3 f_divide fd_divide ["p", "q"] (sp_divide C)) : FnOk P w K mg base CX0 4 f fd ["p", "q"] sp_common := by
  refine D.F.ok sc_common (fun vs H Q E h => ?_) (fun cdv A outer s H vs Q E hr h => ?_)
  · obtain ⟨p, q, rfl, _⟩ := h; rfl
  · obtain ⟨p, q, rfl, hp, hq, k⟩ := h
    refine ⟨_, (pss_cons (ps_set (i := 2) sc_common.nd rfl (Or.inl rfl) (pv 0))
      (pss_cons (ps_set (i := 3) sc_common.nd rfl (Or.inl rfl) (pv 1))
      (pss_cons (ps_while PassesOwn.never (pt_cmpR op_ne (pv 3) (pe_nat 0) (nomark _))
        (pss_one (ps_par (i := 2) (j := 3) (by rfl) sc_common.nd rfl rfl (by decide) rfl rfl (pa_cons (pv 3) (pa_cons (pe_ix ix_tup (pe_call G_divide (hr.mono (by decide)) rfl D_divide.g D_divide.F.kp D_divide.b .nil passL (pa_cons (pv 2) (pa_cons (pv 3) pa_nil))) (pe_nat 1) (fun _ _ => rfl)) pa_nil)) (by rfl))))
      (pss_one (ps_ret (pv 2)))))), ?_⟩
    refine ⟨_, rfl, _, rfl, ?_⟩
    refine while_by (fun σ H' => ∃ a b : Nat, σ = [some (.int p), some (.int q), some (.int (a : Int)), some (.int (b : Int))] ∧ GF.gcd a b = GF.gcd p q ∧ a < 2 ^ 64 ∧ b < 2 ^ 64 ∧ Same H H')
      (fun σ _ => match σ with | [_, _, _, some (.int r)] => GF.siz r.toNat | _ => 0) ⟨p, q, rfl, rfl, hp, hq, Same.refl H⟩ ?_ ?_
    · rintro σ H' ⟨a, b, rfl, hg, ha, hb, sm⟩
      refine ⟨_, rfl, rfl, _, rfl, iteN (fun c => ?_) (fun c => ?_)⟩
      · have b0 : b ≠ 0 := fun z => c (by rw [z])
        refine ⟨_, rfl, _, rfl, _, rfl, a, b, rfl, ha, hb, fun z => absurd z b0, fun _ t ht => ?_⟩
        refine ⟨t, _, _, _, rfl, rfl, SqT.of upd_same, atI_nat (j := 1) rfl, _, _, rfl, ⟨b, GF.pmod a b, rfl, ?_, hb, ?_, same_new sm ht⟩, ?_⟩
        · rw [← hg, GF.gcd_step a b0]
        · exact Nat.lt_trans (GF.mod_lt b0) (Nat.pow_lt_pow_right (by decide) ((Nat.log2_lt b0).mpr hb))
        · exact GF.siz_mod b0
      · have b0 : b = 0 := by have := V.int.inj c; omega
        subst b0
        rw [GF.gcd_zero] at hg
        refine ⟨_, rfl, ?_⟩
        rw [hg]
        exact k _ sm
    · rintro σ H' Q1 Q2 kk ⟨v, e, hs, b, e3, qq⟩
      exact ⟨v, e, hs, b, e3, kk _ _ qq⟩
theorem mul_lt {p q i j : Nat} (hp : p < 2 ^ i) (hq : q < 2 ^ j) : GF.mul p q < 2 ^ (i + j) := by
  by_cases p0 : p = 0
  · subst p0; rw [GF.zero_mul]; exact Nat.two_pow_pos _
  · by_cases q0 : q = 0
    · subst q0; rw [GF.mul_zero]; exact Nat.two_pow_pos _
    · have h1 := (Nat.log2_lt p0).mpr hp
      have h2 := (Nat.log2_lt q0).mpr hq
      have := (GF.mul_deg (GF.deg_log p0) (GF.deg_log q0)).2
      exact Nat.lt_of_lt_of_le this (Nat.pow_le_pow_right (by decide) (by omega))
def sp_product_rest : Sp := fun vs H Q _ => ∃ p q n : Nat, vs = [.int p, .int q, .int n] ∧ p < 2 ^ 32 ∧ q < 2 ^ 32 ∧ n < 2 ^ 64 ∧ n ≠ 0 ∧ ∀ H', Same H H' → Q (.int ((GF.pmod (GF.mul p q) n : Nat) : Int)) H'
theorem ok_product_rest {f f_divide f_times_binary C : Addr} {fd fd_divide fd_times_binary : FuncData} (D : Df K mg "product_rest" ["p", "q", "modulus"] s_product_rest f fd) (D_divide : Df K mg "divide" ["p", "q"] s_divide f_divide fd_divide)
    (G_divide : FnOk P w K mg base (L2.CX P w) 3 f_divide fd_divide ["p", "q"] (sp_divide C)) (D_times_binary : Da K mg "times_binary" "times" ["p", "q"] s_times_binary f_times_binary fd_times_binary)
    (G_times_binary : FnOk P w K mg base CX0 1 f_times_binary fd_times_binary ["p", "q"] sp_times_binary) : FnOk P w K mg base CX0 4 f fd ["p", "q", "modulus"] sp_product_rest := by
  refine D.F.ok sc_product_rest (fun vs H Q E h => ?_) (fun cdv A outer s H vs Q E hr h => ?_)
  · obtain ⟨p, q, n, rfl, _⟩ := h; rfl
  · obtain ⟨p, q, n, rfl, hp, hq, hn, n0, k⟩ := h
    refine ⟨_, (pss_one (ps_ret (pe_ix ix_tup (pe_call G_divide (hr.mono (by decide)) rfl D_divide.g D_divide.F.kp D_divide.b .nil passL (pa_cons (pe_call G_times_binary (hr.mono (by decide)) rfl D_times_binary.g D_times_binary.F.kp D_times_binary.b .nil pass0 (pa_cons (pv 0) (pa_cons (pv 1) pa_nil))) (pa_cons (pv 2) pa_nil))) (pe_nat 1) (fun _ _ => rfl)))), ?_⟩
    refine ⟨_, rfl, _, rfl, p, q, rfl, by omega, by omega, _, rfl, GF.mul p q, n, rfl, mul_lt hp hq, hn, fun z => absurd z n0, fun _ t ht => ?_⟩
    exact ⟨t, _, _, _, rfl, rfl, SqT.of upd_same, atI_nat (j := 1) rfl, k _ (same_upd ht)⟩
def sp_irr : Sp := fun vs H Q _ => ∃ p : Nat, vs = [.int p] ∧ p < 131072 ∧ ∀ (b : Bool) H', (b = true ↔ GF.Irr p) → Same H H' → Q (.bl b) H'
theorem fr_lt {p : Nat} (h2 : 2 ≤ p) (hp : p < 131072) (i : Nat) : GF.fr i p < 2 ^ 32 := by
  have h0 : p ≠ 0 := by omega
  cases i with
  | zero => show 2 < 2 ^ 32; decide
  | succ i =>
    have h1 : p.log2 < 17 := (Nat.log2_lt h0).mpr hp
    exact Nat.lt_trans (GF.mod_lt h0) (Nat.pow_lt_pow_right (by decide) (by omega))
theorem ok_is_irreducible {f f_degree f_product_rest f_common : Addr} {fd fd_degree fd_product_rest fd_common : FuncData} {tk : Tok} (D : Df K mg "is_irreducible" ["p"] s_is_irreducible f fd) (B : Bl mg) (c_X : mg "X" = some (.int 2 tk))
    (D_degree : Df K mg "degree" ["p"] s_degree f_degree fd_degree) (G_degree : FnOk P w K mg base CX0 1 f_degree fd_degree ["p"] sp_degree)
    (D_product_rest : Df K mg "product_rest" ["p", "q", "modulus"] s_product_rest f_product_rest fd_product_rest) (G_product_rest : FnOk P w K mg base CX0 4 f_product_rest fd_product_rest ["p", "q", "modulus"] sp_product_rest)
    (D_common : Df K mg "common" ["p", "q"] s_common f_common fd_common) (G_common : FnOk P w K mg base CX0 4 f_common fd_common ["p", "q"] sp_common) : FnOk P w K mg base CX0 5 f fd ["p"] sp_irr := by
  refine D.F.ok sc_is_irreducible (fun vs H Q E h => ?_) (fun cdv A outer s H vs Q E hr h => ?_)
  · obtain ⟨p, rfl, _⟩ := h; rfl
  · obtain ⟨p, rfl, hp, k⟩ := h
    refine ⟨_, (pss_cons (ps_if (pt_cmpR op_lt (pe_call G_degree (hr.mono (by decide)) rfl D_degree.g D_degree.F.kp D_degree.b .nil pass0 (pa_cons (pv 0) pa_nil)) (pe_nat 1) (nomark _)) (pss_one (ps_ret pe_bl)) pss_nil)
      (pss_cons (ps_set (i := 1) sc_is_irreducible.nd rfl (Or.inl rfl) (pe_glob (v := .int ((2 : Nat) : Int)) rfl c_X ⟨_, rfl⟩))
      (pss_cons (ps_for PassesOwn.never rfl (pi_range1 rfl B.range (pa_cons (pe_op op_fdiv (pe_call G_degree (hr.mono (by decide)) rfl D_degree.g D_degree.F.kp D_degree.b .nil pass0 (pa_cons (pv 0) pa_nil)) (pe_nat 2)) pa_nil)) (pg_name (i := 2) sc_is_irreducible.nd rfl (Or.inl rfl) (Or.inr rfl))
        (pss_cons (ps_set (i := 1) sc_is_irreducible.nd rfl (Or.inl rfl) (pe_call G_product_rest (hr.mono (by decide)) rfl D_product_rest.g D_product_rest.F.kp D_product_rest.b .nil pass0 (pa_cons (pv 1) (pa_cons (pv 1) (pa_cons (pv 0) pa_nil)))))
        (pss_one (ps_if (pt_cmpR op_ne (pe_call G_common (hr.mono (by decide)) rfl D_common.g D_common.F.kp D_common.b .nil pass0 (pa_cons (pe_op nb_xor (pv 1) (pe_glob (v := .int ((2 : Nat) : Int)) rfl c_X ⟨_, rfl⟩)) (pa_cons (pv 0) pa_nil))) (pe_nat 1) (nomark _)) (pss_one (ps_ret pe_bl)) pss_nil))))
      (pss_one (ps_ret pe_bl))))), ?_⟩
    have hb17 : NB.bits p ≤ 17 := bits_le.mpr hp
    refine ⟨_, rfl, p, rfl, _, _, rfl, rfl, _, rfl, iteD (fun c => ?_) (fun c => ?_)⟩
    · have c' : (NB.bits p : Int) - 1 < 1 := c
      have hp1 : p < 2 ^ 1 := bits_le.mp (by omega)
      exact k false H ⟨(fun z => nomatch z), fun z => by have := z.1; omega⟩ (Same.refl H)
    · have c' : ¬ (NB.bits p : Int) - 1 < 1 := c
      have h2 : 2 ≤ p := by
        apply Classical.byContradiction
        intro n
        have : NB.bits p ≤ 1 := bits_le.mpr (by omega)
        omega
      have hp0 : p ≠ 0 := by omega
      have hbp := bits_pos hp0
      refine ⟨_, rfl, p, rfl, _, _, rfl, rfl, ⟨by decide, by decide⟩, _, rfl, by omega, by omega, ?_⟩
      have en : (((NB.bits p : Int) - 1) / ((2 : Nat) : Int)).toNat = p.log2 / 2 := by omega
      rw [en]
      refine for_rangeN (lo := 0) (n := p.log2 / 2) (fun i σ H' => ∃ v, σ = [some (.int p), some (.int ((GF.fr i p : Nat) : Int)), v] ∧ Same H H' ∧ ∀ j, 1 ≤ j → j ≤ i → GF.gcd (GF.fr j p ^^^ 2) p = 1) ⟨none, rfl, Same.refl H, fun j h1 h2 => by omega⟩ ?_ ?_
      · rintro i σ H' hi ⟨v, rfl, sm, ht⟩
        have hf := fr_lt h2 hp i
        have hf2 := fr_lt h2 hp (i + 1)
        refine ⟨_, rfl, _, rfl, _, rfl, GF.fr i p, GF.fr i p, p, rfl, hf, hf, by omega, hp0, fun H1 s1 => ?_⟩
        refine ⟨_, rfl, _, _, rfl, rfl, _, rfl, GF.fr (i + 1) p ^^^ 2, p, rfl, ?_, by omega, fun H2 s2 => ?_⟩
        · exact GF.xor_lt (n := 64) (by omega) (by decide)
        · refine ⟨rfl, _, rfl, iteN (fun d => ?_) (fun d => ?_)⟩
          · refine k false H2 ⟨(fun z => nomatch z), fun z => ?_⟩ ((sm.trans s1).trans s2)
            exfalso
            apply d
            rw [GF.test_of_irr z hp (i + 1) (by omega) (by omega)]
          · have d' : GF.gcd (GF.fr (i + 1) p ^^^ 2) p = 1 := by have := V.int.inj d; omega
            refine ⟨some (.int ((0 + i : Nat) : Int)), rfl, (sm.trans s1).trans s2, fun j h1 h3 => ?_⟩
            by_cases e : j = i + 1
            · subst e; exact d'
            · exact ht j h1 (by omega)
      · rintro σ H' ⟨v, rfl, sm, ht⟩
        exact k true H' ⟨fun _ => GF.irr_of_test h2 hp ht, fun _ => rfl⟩ sm
end
section
variable {P : Program} {w : World} {K : PySem.W.Frag} {mg : Str → Option Value} {base : Heap}
theorem shr_pos {p k : Nat} : 0 < p / 2 ^ k ↔ k < NB.bits p := by
  constructor
  · intro h
    apply Classical.byContradiction
    intro n
    have := bits_le.mp (show NB.bits p ≤ k by omega)
    rw [Nat.div_eq_of_lt this] at h
    omega
  · intro h
    apply Nat.div_pos _ (Nat.two_pow_pos k)
    apply Classical.byContradiction
    intro n
    have := bits_le.mpr (show p < 2 ^ k by omega)
    omega
theorem odd_of {x : Nat} (c : V.int ((x &&& 1 : Nat) : Int) = .int ((1 : Nat) : Int)) : x % 2 = 1 := by
  have := V.int.inj c
  rw [Nat.and_one_is_mod] at this; omega
theorem odd_mk {x : Nat} (c : x % 2 = 1) : V.int ((x &&& 1 : Nat) : Int) = .int ((1 : Nat) : Int) := by rw [Nat.and_one_is_mod, c]
def sp_ldegree : Sp := fun vs H Q _ => ∃ p : Nat, vs = [.int p] ∧ p < 2 ^ 70 ∧ Q (.int ((NB.bits p : Nat) - 1 : Int)) H
theorem ok__law_degree {f : Addr} {fd : FuncData} (D : Df K mg "_law_degree" ["p"] s__law_degree f fd) (B : Bl mg) : FnOk P w K mg base CX0 1 f fd ["p"] sp_ldegree := by
  refine D.F.ok sc__law_degree (fun vs H Q E h => ?_) (fun cdv A outer s H vs Q E hr h => ?_)
  · obtain ⟨p, rfl, _⟩ := h; rfl
  · obtain ⟨p, rfl, hp, k⟩ := h
    refine ⟨_, (pss_cons (ps_set (i := 1) sc__law_degree.nd rfl (Or.inl rfl) (pe_un un_neg (pe_nat 1)))
      (pss_cons (ps_for PassesOwn.never rfl (pi_range1 rfl B.range (pa_cons (pe_nat 70) pa_nil)) (pg_name (i := 2) sc__law_degree.nd rfl (Or.inl rfl) (Or.inr rfl))
        (pss_one (ps_if (pt_cmpR op_gt (pe_op nb_shr (pv 0) (pv 2)) (pe_nat 0) (nomark _)) (pss_one (ps_set (i := 1) sc__law_degree.nd rfl (Or.inl rfl) (pv 2))) pss_nil)))
      (pss_one (ps_ret (pv 1))))), ?_⟩
    have hb := bits_le.mpr hp
    refine ⟨1, rfl, _, rfl, by omega, by omega, ?_⟩
    refine for_rangeN (lo := 0) (n := 70) (fun i σ H' => ∃ v, σ = [some (.int p), some (.int ((Nat.min i (NB.bits p) : Nat) - 1 : Int)), v] ∧ H' = H) ⟨none, ?_, rfl⟩ ?_ ?_
    · rw [show Nat.min 0 (NB.bits p) = 0 from Nat.zero_min _]; rfl
    · rintro i σ H' hi ⟨v, rfl, rfl⟩
      rw [Nat.zero_add]
      refine ⟨_, rfl, _, rfl, _, _, rfl, rfl, _, _, rfl, rfl, _, rfl, iteD (fun c => ?_) (fun c => ?_)⟩
      · have c1 : i < NB.bits p := shr_pos.mp (by have : (0 : Int) < ((p / 2 ^ i : Nat) : Int) := c; omega)
        refine ⟨_, rfl, some (.int i), ?_, rfl⟩
        have e : ((Nat.min (i + 1) (NB.bits p) : Nat) - 1 : Int) = (i : Int) := by
          have : Nat.min (i + 1) (NB.bits p) = i + 1 := Nat.min_eq_left (by omega)
          rw [this]; omega
        rw [e]; rfl
      · have c1 : ¬ i < NB.bits p := fun z => c (by have := shr_pos.mpr z; show (0 : Int) < ((p / 2 ^ i : Nat) : Int); omega)
        refine ⟨some (.int i), ?_, rfl⟩
        have e : Nat.min (i + 1) (NB.bits p) = Nat.min i (NB.bits p) := by
          rw [show Nat.min (i + 1) (NB.bits p) = NB.bits p from Nat.min_eq_right (by omega), show Nat.min i (NB.bits p) = NB.bits p from Nat.min_eq_right (by omega)]
        rw [e]; rfl
    · rintro σ H' ⟨v, rfl, rfl⟩
      rw [show Nat.min 70 (NB.bits p) = NB.bits p from Nat.min_eq_right (by omega)]
      exact ⟨_, rfl, k⟩
def sp_ltimes : Sp := fun vs H Q _ => ∃ p q : Nat, vs = [.int p, .int q] ∧ p < 2 ^ 64 ∧ q < 2 ^ 36 ∧ Q (.int ((GF.mul p q : Nat) : Int)) H
theorem ok__law_times {f : Addr} {fd : FuncData} (D : Df K mg "_law_times" ["p", "q"] s__law_times f fd) (B : Bl mg) : FnOk P w K mg base CX0 1 f fd ["p", "q"] sp_ltimes := by
  refine D.F.ok sc__law_times (fun vs H Q E h => ?_) (fun cdv A outer s H vs Q E hr h => ?_)
  · obtain ⟨p, q, rfl, _⟩ := h; rfl
  · obtain ⟨p, q, rfl, hp, hq, k⟩ := h
    refine ⟨_, (pss_cons (ps_set (i := 2) sc__law_times.nd rfl (Or.inl rfl) (pe_nat 0))
      (pss_cons (ps_for PassesOwn.never rfl (pi_range1 rfl B.range (pa_cons (pe_nat 36) pa_nil)) (pg_name (i := 3) sc__law_times.nd rfl (Or.inl rfl) (Or.inr rfl))
        (pss_one (ps_if (pt_cmpR op_eq (pe_op nb_and (pe_op nb_shr (pv 1) (pv 3)) (pe_nat 1)) (pe_nat 1) (nomark _)) (pss_one (ps_set (i := 2) sc__law_times.nd rfl (Or.inl rfl) (pe_op nb_xor (pv 2) (pe_op nb_shl (pv 0) (pv 3))))) pss_nil)))
      (pss_one (ps_ret (pv 2))))), ?_⟩
    refine ⟨_, rfl, by omega, by omega, ?_⟩
    refine for_rangeN (lo := 0) (n := 36) (fun i σ H' => ∃ v, σ = [some (.int p), some (.int q), some (.int ((GF.mul p (q % 2 ^ i) : Nat) : Int)), v] ∧ H' = H) ⟨none, ?_, rfl⟩ ?_ ?_
    · rw [Nat.pow_zero, Nat.mod_one, GF.mul_zero]; rfl
    · rintro i σ H' hi ⟨v, rfl, rfl⟩
      rw [Nat.zero_add]
      have key := times_step p q i
      refine ⟨_, rfl, _, rfl, _, _, rfl, rfl, _, _, rfl, rfl, rfl, _, rfl, ?_⟩
      refine iteD (fun c => ?_) (fun c => ?_)
      · rw [if_pos (odd_of c)] at key
        refine ⟨_, rfl, _, rfl, _, rfl, _, _, rfl, rfl, ⟨hp, by omega⟩, _, _, rfl, rfl, some (.int i), ?_, rfl⟩
        rw [key]; rfl
      · rw [if_neg (fun z => c (odd_mk z)), Nat.xor_zero] at key
        refine ⟨some (.int i), ?_, rfl⟩
        rw [key]; rfl
    · rintro σ H' ⟨v, rfl, rfl⟩
      rw [Nat.mod_eq_of_lt hq]
      exact ⟨_, rfl, k⟩
def sp_ldivided : Sp := fun vs H Q _ => ∃ p q : Nat, vs = [.int p, .int q] ∧ p < 2 ^ 64 ∧ q < 2 ^ 64 ∧ q ≠ 0 ∧
  ∀ a, H a = none → Q (.ref a) (upd H a (.tup [.int ((GF.pdiv p q : Nat) : Int), .int ((GF.pmod p q : Nat) : Int)]))
theorem or_add {k s : Nat} (h : k % 2 ^ (s + 1) = 0) : k + 2 ^ s = k ^^^ 2 ^ s := by
  rw [← or_xor h]
  have e : k = 2 ^ (s + 1) * (k / 2 ^ (s + 1)) := by
    have := Nat.div_add_mod k (2 ^ (s + 1)); omega
  rw [e]
  exact Nat.two_pow_add_eq_or_of_lt (Nat.pow_lt_pow_right (by decide) (by omega)) _
theorem bit_test {p n : Nat} (h : p < 2 ^ (n + 1)) : p / 2 ^ n % 2 = 1 ↔ GF.Deg p n := by
  rw [GF.deg_top h, Nat.testBit_eq_decide_div_mod_eq, decide_eq_true_eq]
theorem ok__law_divided {f f__law_degree : Addr} {fd fd__law_degree : FuncData} (D : Df K mg "_law_divided" ["p", "q"] s__law_divided f fd) (B : Bl mg)
    (D__law_degree : Df K mg "_law_degree" ["p"] s__law_degree f__law_degree fd__law_degree) (G__law_degree : FnOk P w K mg base CX0 1 f__law_degree fd__law_degree ["p"] sp_ldegree) : FnOk P w K mg base CX0 2 f fd ["p", "q"] sp_ldivided := by
  refine D.F.ok sc__law_divided (fun vs H Q E h => ?_) (fun cdv A outer s H vs Q E hr h => ?_)
  · obtain ⟨p, q, rfl, _⟩ := h; rfl
  · obtain ⟨p, q, rfl, hp, hq, q0, k⟩ := h
    refine ⟨_, (pss_cons (ps_set (i := 2) sc__law_divided.nd rfl (Or.inl rfl) (pe_call G__law_degree (hr.mono (by decide)) rfl D__law_degree.g D__law_degree.F.kp D__law_degree.b .nil pass0 (pa_cons (pv 1) pa_nil)))
      (pss_cons (ps_set (i := 3) sc__law_divided.nd rfl (Or.inl rfl) (pe_nat 0))
      (pss_cons (ps_for PassesOwn.never rfl (pi_range1 rfl B.range (pa_cons (pe_nat 70) pa_nil)) (pg_name (i := 4) sc__law_divided.nd rfl (Or.inl rfl) (Or.inr rfl))
        (pss_cons (ps_set (i := 5) sc__law_divided.nd rfl (Or.inl rfl) (pe_op nb_sub (pe_nat 69) (pv 4)))
        (pss_one (ps_if (pt_cmpR op_eq (pe_op nb_and (pe_op nb_shr (pv 0) (pe_op nb_add (pv 5) (pv 2))) (pe_nat 1)) (pe_nat 1) (nomark _)) (pss_cons (ps_set (i := 0) sc__law_divided.nd rfl (Or.inl rfl) (pe_op nb_xor (pv 0) (pe_op nb_shl (pv 1) (pv 5))))
          (pss_one (ps_set (i := 3) sc__law_divided.nd rfl (Or.inl rfl) (pe_op nb_add (pv 3) (pe_op nb_shl (pe_nat 1) (pv 5)))))) pss_nil))))
      (pss_one (ps_ret (pe_tup (pa_cons (pv 3) (pa_cons (pv 0) pa_nil)))))))), ?_⟩
    have hb := bits_pos q0
    have hl64 : q.log2 < 64 := (Nat.log2_lt q0).mpr hq
    refine ⟨_, rfl, q, rfl, by omega, ?_⟩
    rw [show ((NB.bits q : Nat) - 1 : Int) = ((q.log2 : Nat) : Int) by omega]
    refine ⟨_, rfl, by omega, by omega, ?_⟩
    refine for_rangeN (lo := 0) (n := 70) (fun i σ H' => ∃ (r ww : Nat) (v5 v6 : Option V), σ = [some (.int (r : Int)), some (.int q), some (.int ((q.log2 : Nat) : Int)), some (.int (ww : Int)), v5, v6] ∧ H' = H ∧ p = GF.mul ww q ^^^ r ∧ r < 2 ^ (70 - i + q.log2) ∧ ww % 2 ^ (70 - i) = 0) ⟨p, 0, none, none, rfl, rfl, ?_, ?_, Nat.zero_mod _⟩ ?_ ?_
    · rw [GF.zero_mul, Nat.zero_xor]
    · exact Nat.lt_of_lt_of_le hp (Nat.pow_le_pow_right (by decide) (by omega))
    · rintro i σ H' hi ⟨r, ww, v5, v6, rfl, rfl, hpk, hr', hw⟩
      rw [Nat.zero_add]
      have e1 : 70 - i = (69 - i) + 1 := by omega
      have e2 : 70 - (i + 1) = 69 - i := by omega
      have e3 : 70 - i + q.log2 = (69 - i + q.log2) + 1 := by omega
      rw [e3] at hr'
      rw [e1] at hw
      refine ⟨_, rfl, _, _, rfl, rfl, by show i ≤ 69; omega, _, rfl, _, rfl, _, rfl, _, _, rfl, rfl, _, _, rfl, rfl, _, _, rfl, rfl, rfl, _, rfl, ?_⟩
      refine iteD (fun c => ?_) (fun c => ?_)
      · have dr := (bit_test hr').mp (odd_of c)
        have dq := GF.deg_shift (GF.deg_log q0) (69 - i)
        refine ⟨_, rfl, _, rfl, _, rfl, _, _, rfl, rfl, ⟨hq, by omega⟩, _, _, rfl, rfl, _, rfl, _, rfl, _, _, rfl, rfl, ⟨by decide, by omega⟩, _, _, rfl, rfl, r ^^^ 2 ^ (69 - i) * q, ww ^^^ 2 ^ (69 - i), some (.int i), some (.int ((69 - i : Nat) : Int)), ?_, rfl, ?_, ?_, ?_⟩
        · rw [← or_add hw, Nat.mul_one]; rfl
        · rw [GF.xor_mul, GF.pow_mul, hpk, xor_swap]
        · rw [e2]; exact GF.deg_xor dr dq
        · rw [e2]; exact xor_mod_zero hw (Nat.le_refl _)
      · have dr : ¬ GF.Deg r (69 - i + q.log2) := fun z => c (odd_mk ((bit_test hr').mpr z))
        refine ⟨r, ww, some (.int i), some (.int ((69 - i : Nat) : Int)), rfl, rfl, hpk, ?_, ?_⟩
        · rw [e2]
          rcases Nat.lt_or_ge r (2 ^ (69 - i + q.log2)) with l | g
          · exact l
          · exact absurd ⟨g, hr'⟩ dr
        · rw [e2]
          exact Nat.mod_eq_zero_of_dvd (Nat.dvd_trans (Nat.pow_dvd_pow 2 (by omega)) (Nat.dvd_of_mod_eq_zero hw))
    · rintro σ H' ⟨r, ww, v5, v6, rfl, rfl, hpk, hr', hw⟩
      rw [Nat.sub_self, Nat.zero_add] at hr'
      obtain ⟨e1, e2⟩ := GF.mod_of q0 hr' hpk
      refine ⟨_, rfl, _, rfl, (by show 2 ≤ sizeLine; decide), fun a ha => ?_⟩
      have := k a ha
      rw [e1, e2] at this
      exact this
def sp_lirr : Sp := fun vs H Q _ => ∃ p : Nat, vs = [.int p] ∧ p < 2 ^ 32 ∧ ∀ (b : Bool) H', (b = true ↔ GF.Irr p) → Same H H' → Q (.bl b) H'
theorem ok__law_irreducible {f f__law_degree f__law_divided : Addr} {fd fd__law_degree fd__law_divided : FuncData} (D : Df K mg "_law_irreducible" ["p"] s__law_irreducible f fd) (B : Bl mg)
    (D__law_degree : Df K mg "_law_degree" ["p"] s__law_degree f__law_degree fd__law_degree) (G__law_degree : FnOk P w K mg base CX0 1 f__law_degree fd__law_degree ["p"] sp_ldegree)
    (D__law_divided : Df K mg "_law_divided" ["p", "q"] s__law_divided f__law_divided fd__law_divided) (G__law_divided : FnOk P w K mg base CX0 2 f__law_divided fd__law_divided ["p", "q"] sp_ldivided) : FnOk P w K mg base CX0 3 f fd ["p"] sp_lirr := by
  refine D.F.ok sc__law_irreducible (fun vs H Q E h => ?_) (fun cdv A outer s H vs Q E hr h => ?_)
  · obtain ⟨p, rfl, _⟩ := h; rfl
  · obtain ⟨p, rfl, hp, k⟩ := h
    refine ⟨_, (pss_cons (ps_set (i := 1) sc__law_irreducible.nd rfl (Or.inl rfl) (pe_call G__law_degree (hr.mono (by decide)) rfl D__law_degree.g D__law_degree.F.kp D__law_degree.b .nil pass0 (pa_cons (pv 0) pa_nil)))
      (pss_cons (ps_if (pt_cmpR op_lt (pv 1) (pe_nat 1) (nomark _)) (pss_one (ps_ret pe_bl)) pss_nil)
      (pss_cons (ps_for PassesOwn.never rfl (pi_range2 rfl B.range (pa_cons (pe_nat 2) (pa_cons (pe_op nb_shl (pe_nat 1) (pe_op nb_add (pe_op nb_fdiv (pv 1) (pe_nat 2)) (pe_nat 1))) pa_nil))) (pg_name (i := 2) sc__law_irreducible.nd rfl (Or.inl rfl) (Or.inr rfl))
        (pss_one (ps_if (pt_cmpR op_eq (pe_ix ix_tup (pe_call G__law_divided (hr.mono (by decide)) rfl D__law_divided.g D__law_divided.F.kp D__law_divided.b .nil pass0 (pa_cons (pv 0) (pa_cons (pv 2) pa_nil))) (pe_nat 1) (fun _ _ => rfl)) (pe_nat 0) (nomark _)) (pss_one (ps_ret pe_bl)) pss_nil)))
      (pss_one (ps_ret pe_bl))))), ?_⟩
    have hb32 : NB.bits p ≤ 32 := bits_le.mpr hp
    refine ⟨_, rfl, p, rfl, by omega, _, rfl, _, _, rfl, rfl, _, rfl, iteD (fun c => ?_) (fun c => ?_)⟩
    · have c' : (NB.bits p : Int) - 1 < 1 := c
      have hp1 : p < 2 ^ 1 := bits_le.mp (by omega)
      exact k false H ⟨(fun z => nomatch z), fun z => by have := z.1; omega⟩ (Same.refl H)
    · have c' : ¬ (NB.bits p : Int) - 1 < 1 := c
      have h2 : 2 ≤ p := by
        apply Classical.byContradiction
        intro n
        have : NB.bits p ≤ 1 := bits_le.mpr (by omega)
        omega
      have hp0 : p ≠ 0 := by omega
      have hbp := bits_pos hp0
      have hlt := GF.log_pos h2
      rw [show ((NB.bits p : Nat) - 1 : Int) = ((p.log2 : Nat) : Int) by omega]
      have hpw : (2 : Nat) ^ (p.log2 / 2 + 1) ≤ 2 ^ 32 := Nat.pow_le_pow_right (by decide) (by omega)
      have hpw2 : (2 : Nat) ≤ 2 ^ (p.log2 / 2 + 1) := Nat.le_trans (by decide) (Nat.pow_le_pow_right (by decide) (show 1 ≤ p.log2 / 2 + 1 by omega))
      refine ⟨_, rfl, _, _, rfl, rfl, ⟨by decide, by decide⟩, _, _, rfl, rfl, _, _, rfl, rfl, ⟨by decide, by omega⟩, _, _, rfl, ⟨by decide, by decide, by omega, by omega⟩, ?_⟩
      rw [Nat.mul_one, show (((2 ^ (p.log2 / 2 + 1) : Nat) : Int) - ((2 : Nat) : Int)).toNat = 2 ^ (p.log2 / 2 + 1) - 2 by omega]
      refine for_rangeN (lo := 2) (n := 2 ^ (p.log2 / 2 + 1) - 2) (fun i σ H' => ∃ v, σ = [some (.int p), some (.int ((p.log2 : Nat) : Int)), v] ∧ Same H H' ∧ ∀ q, 2 ≤ q → q < 2 + i → ¬ GF.Dvd q p) ⟨none, rfl, Same.refl H, fun q h1 h2 => by omega⟩ ?_ ?_
      · rintro i σ H' hi ⟨v, rfl, sm, hd⟩
        have hq0 : 2 + i ≠ 0 := by omega
        refine ⟨_, rfl, _, rfl, p, 2 + i, rfl, by omega, by omega, hq0, fun t ht => ⟨t, _, _, _, rfl, rfl, SqT.of upd_same, atI_nat (j := 1) rfl, rfl, _, rfl, iteD (fun d => ?_) (fun d => ?_)⟩⟩
        · have d' : GF.pmod p (2 + i) = 0 := by have := V.int.inj d; omega
          refine k false _ ⟨(fun z => nomatch z), fun z => ?_⟩ (same_new sm ht)
          exfalso
          refine z.2 (2 + i) (by omega) ?_ ((GF.dvd_mod hq0).mpr d')
          have : (2 + i).log2 < p.log2 / 2 + 1 := (Nat.log2_lt hq0).mpr (by omega)
          omega
        · have d' : GF.pmod p (2 + i) ≠ 0 := fun z => d (by rw [z])
          refine ⟨some (.int ((2 + i : Nat) : Int)), rfl, same_new sm ht, fun q g1 g2 => ?_⟩
          by_cases e : q = 2 + i
          · subst e; exact fun z => d' ((GF.dvd_mod hq0).mp z)
          · exact hd q g1 (by omega)
      · rintro σ H' ⟨v, rfl, sm, hd⟩
        refine k true H' ⟨fun _ => ⟨h2, fun q g1 g2 => hd q g1 ?_⟩, fun _ => rfl⟩ sm
        have : q < 2 ^ (p.log2 / 2 + 1) := (Nat.log2_lt (by omega)).mp (by omega)
        omega
end
theorem NL_get_inv {ns : List Nat} {i : Nat} {x : V} (h : (NL ns)[i]? = some x) : ∃ z : Nat, ns[i]? = some z ∧ x = .int (z : Int) := by
  unfold NL at h
  rw [List.getElem?_map] at h
  cases e : ns[i]? with
  | none => rw [e] at h; cases h
  | some z => rw [e] at h; exact ⟨z, rfl, (Option.some.inj h).symm⟩
section
variable {P : Program} {w : World} {K : PySem.W.Frag} {mg : Str → Option Value} {base : Heap}
open FLD
/-- the powers of e from 0 to k - 1 -/
def pws (q e k : Nat) : List Nat := (List.range k).map (pw q e)
theorem pws_len (q e k : Nat) : (pws q e k).length = k := by unfold pws; rw [List.length_map, List.length_range]
theorem pws_get {q e k i : Nat} (h : i < k) : (pws q e k)[i]? = some (pw q e i) := by unfold pws; rw [List.getElem?_map, List.getElem?_range h]; rfl
theorem pws_more (q e k : Nat) : pws q e (k + 1) = pws q e k ++ [pw q e k] := by unfold pws; rw [List.range_succ, List.map_append]; rfl
def sp_powers_of : Sp := fun vs H Q _ => ∃ e q m : Nat, vs = [.int e, .int q] ∧ Fd m q ∧ e ≠ 0 ∧ e < 2 ^ m ∧
  ∀ (a : Addr) H' (k : Nat), Same H H' → H a = none → H' a = some (.lst (NL (pws q e k))) → 1 ≤ k → k ≤ 2 ^ m - 1 → pw q e k = 1 → (∀ i, 1 ≤ i → i < k → pw q e i ≠ 1) → Q (.ref a) H'
theorem pow_m {m q : Nat} (F : Fd m q) : 4 ≤ 2 ^ m ∧ 2 ^ m ≤ 256 :=
  ⟨Nat.le_trans (by decide) (Nat.pow_le_pow_right (n := 2) (by decide) F.h2), Nat.le_trans (Nat.pow_le_pow_right (n := 2) (by decide) F.h8) (by decide)⟩
theorem ok__powers_of {f f_product_rest : Addr} {fd fd_product_rest : FuncData} (D : Df K mg "_powers_of" ["e", "modulus"] s__powers_of f fd)
    (D_product_rest : Df K mg "product_rest" ["p", "q", "modulus"] s_product_rest f_product_rest fd_product_rest) (G_product_rest : FnOk P w K mg base CX0 4 f_product_rest fd_product_rest ["p", "q", "modulus"] sp_product_rest) :
    FnOk P w K mg base CX0 5 f fd ["e", "modulus"] sp_powers_of := by
  refine D.F.ok sc__powers_of (fun vs H Q E h => ?_) (fun cdv A outer s H vs Q E hr h => ?_)
  · obtain ⟨e, q, m, rfl, _⟩ := h; rfl
  · obtain ⟨e, q, m, rfl, F, e0, elt, k⟩ := h
    refine ⟨_, (pss_cons (ps_set (i := 2) sc__powers_of.nd rfl (Or.inl rfl) (pe_lst (pa_cons (pe_nat 1) pa_nil)))
      (pss_cons (ps_set (i := 3) sc__powers_of.nd rfl (Or.inl rfl) (pv 0))
      (pss_cons (ps_while PassesOwn.never (pt_cmpR op_ne (pv 3) (pe_nat 1) (nomark _))
        (pss_cons (ps_expr (pe_bm PySem.F.plainAttrs_list PySem.F.slot_list_append PySem.F.type_list_append mt_append (pv 2) (pa_cons (pv 3) pa_nil)))
        (pss_one (ps_set (i := 3) sc__powers_of.nd rfl (Or.inl rfl) (pe_call G_product_rest (hr.mono (by decide)) rfl D_product_rest.g D_product_rest.F.kp D_product_rest.b .nil pass0 (pa_cons (pv 3) (pa_cons (pv 0) (pa_cons (pv 1) pa_nil))))))))
      (pss_one (ps_ret (pv 2)))))), ?_⟩
    obtain ⟨hm4, hm256⟩ := pow_m F
    have hq5 := q_512 F
    obtain ⟨r, hR⟩ := root_ex F
    have hall := pw_all F hR e0 elt
    refine ⟨(by show 1 ≤ sizeLine; decide), fun a na => ⟨_, rfl, ?_⟩⟩
    refine while_by (fun σ H' => ∃ j : Nat, σ = [some (.int e), some (.int q), some (.ref a), some (.int ((pw q e j : Nat) : Int))] ∧ 1 ≤ j ∧ j ≤ 2 ^ m - 1 ∧ H' a = some (.lst (NL (pws q e j))) ∧ Same H H' ∧ ∀ i, 1 ≤ i → i < j → pw q e i ≠ 1)
      (fun _ H' => match H' a with | some (.lst l) => 256 - l.length | _ => 0) ⟨1, ?_, Nat.le_refl _, by omega, ?_, same_upd na, fun i h1 h2 => by omega⟩ ?_ ?_
    · rw [pw_first F elt]; rfl
    · rw [upd_same]; rfl
    · rintro σ H' ⟨j, rfl, hj, hjN, ha, sm, hno⟩
      have hpl := pw_lt F e j
      refine ⟨_, rfl, rfl, _, rfl, iteN (fun c => ?_) (fun c => ?_)⟩
      · have c' : pw q e j ≠ 1 := fun z => c (by rw [z])
        have hj2 : j ≠ 2 ^ m - 1 := fun z => c' (by rw [z]; exact hall)
        refine ⟨_, rfl, .inl ⟨rfl, _, SqL.of ha⟩, _, rfl, a, _, _, rfl, rfl, ha, by rw [NL_len, pws_len]; exact small1000 (by omega), ?_⟩
        refine ⟨_, rfl, _, rfl, _, rfl, pw q e j, e, q, rfl, by omega, by omega, by omega, q0 F, fun H1 s1 => ⟨⟨j + 1, rfl, by omega, by omega, ?_, (same_upd2 sm na).trans s1, fun i h1 h2 => ?_⟩, ?_⟩⟩
        · refine s1 _ _ ?_
          rw [upd_same, NL_app, ← pws_more]
        · by_cases z : i = j
          · subst z; exact c'
          · exact hno i h1 (by omega)
        · have h1 : H1 a = some (.lst (NL (pws q e (j + 1)))) := s1 _ _ (by rw [upd_same, NL_app, ← pws_more])
          show (match H1 a with | some (.lst l) => 256 - l.length | _ => 0) < (match H' a with | some (.lst l) => 256 - l.length | _ => 0)
          rw [h1, ha]
          show 256 - (NL (pws q e (j + 1))).length < 256 - (NL (pws q e j)).length
          rw [NL_len, NL_len, pws_len, pws_len]; omega
      · have c' : pw q e j = 1 := by have := V.int.inj c; omega
        exact ⟨_, rfl, k a H' j sm na ha hj hjN c' hno⟩
    · rintro σ H' Q1 Q2 kk ⟨v, e1, hs, b, e3, qq⟩
      exact ⟨v, e1, hs, b, e3, kk _ _ qq⟩
def sp_root_powers : Sp := fun vs H Q _ => ∃ q m : Nat, vs = [.int ((2 ^ m - 1 : Nat) : Int), .int q] ∧ Fd m q ∧
  ∀ (a : Addr) H' (r : Nat), Same H H' → H a = none → LeastRoot m q r → H' a = some (.lst (NL (pws q r (2 ^ m - 1)))) → Q (.ref a) H'
theorem ok__root_powers {f f__powers_of : Addr} {fd fd__powers_of : FuncData} (D : Df K mg "_root_powers" ["turn", "modulus"] s__root_powers f fd) (B : Bl mg)
    (D__powers_of : Df K mg "_powers_of" ["e", "modulus"] s__powers_of f__powers_of fd__powers_of) (G__powers_of : FnOk P w K mg base CX0 5 f__powers_of fd__powers_of ["e", "modulus"] sp_powers_of) :
    FnOk P w K mg base CX0 6 f fd ["turn", "modulus"] sp_root_powers := by
  refine D.F.ok sc__root_powers (fun vs H Q E h => ?_) (fun cdv A outer s H vs Q E hr h => ?_)
  · obtain ⟨q, m, rfl, _⟩ := h; rfl
  · obtain ⟨q, m, rfl, F, k⟩ := h
    refine ⟨_, (pss_cons (ps_set (i := 2) sc__root_powers.nd rfl (Or.inl rfl) (pe_nat 2))
      (pss_cons (ps_set (i := 3) sc__root_powers.nd rfl (Or.inl rfl) (pe_call G__powers_of (hr.mono (by decide)) rfl D__powers_of.g D__powers_of.F.kp D__powers_of.b .nil pass0 (pa_cons (pv 2) (pa_cons (pv 1) pa_nil))))
      (pss_cons (ps_while PassesOwn.never (pt_cmpR op_lt (pe_callB call_len_seq (by rfl) B.len PySem.boot_len (pa_cons (pv 3) pa_nil)) (pv 0) (nomark _))
        (pss_cons (ps_aug (i := 2) sc__root_powers.nd rfl (Or.inl rfl) (pe_nat 1) nbi_add)
        (pss_one (ps_set (i := 3) sc__root_powers.nd rfl (Or.inl rfl) (pe_call G__powers_of (hr.mono (by decide)) rfl D__powers_of.g D__powers_of.F.kp D__powers_of.b .nil pass0 (pa_cons (pv 2) (pa_cons (pv 1) pa_nil)))))))
      (pss_one (ps_ret (pv 3)))))), ?_⟩
    obtain ⟨hm4, hm256⟩ := pow_m F
    obtain ⟨r, hR, hleast⟩ := least_ex F
    have hr2 := hR.ge
    have hrl := hR.lt
    have done : ∀ (e k0 : Nat), 2 ≤ e → e ≤ r → 1 ≤ k0 → k0 ≤ 2 ^ m - 1 → pw q e k0 = 1 → (∀ i, 1 ≤ i → i < k0 → pw q e i ≠ 1) → ¬ k0 < 2 ^ m - 1 → e = r ∧ k0 = 2 ^ m - 1 := fun e k0 h1 h2 h3 h4 h5 h6 h7 => by
      have e1 : k0 = 2 ^ m - 1 := by omega
      subst e1
      refine ⟨?_, rfl⟩
      apply Classical.byContradiction
      intro n
      exact hleast e (by omega) ⟨by omega, h1, h5, h6⟩
    refine ⟨_, rfl, _, rfl, 2, q, m, rfl, F, by decide, by omega, fun a H1 k0 s1 na h1 hk1 hk2 hk3 hk4 => ?_⟩
    refine while_by (fun σ H' => ∃ (e : Nat) (b : Addr) (k0 : Nat), σ = [some (.int ((2 ^ m - 1 : Nat) : Int)), some (.int q), some (.int (e : Int)), some (.ref b)] ∧ 2 ≤ e ∧ e ≤ r ∧ Same H H' ∧ H b = none ∧ H' b = some (.lst (NL (pws q e k0))) ∧ 1 ≤ k0 ∧ k0 ≤ 2 ^ m - 1 ∧ pw q e k0 = 1 ∧ ∀ i, 1 ≤ i → i < k0 → pw q e i ≠ 1)
      (fun σ _ => match σ with | [_, _, some (.int e), _] => r - e.toNat | _ => 0) ⟨2, a, k0, rfl, Nat.le_refl _, hr2, s1, na, h1, hk1, hk2, hk3, hk4⟩ ?_ ?_
    · rintro σ H' ⟨e, b, k0, rfl, e2, er, sm, nb, hb, hk1, hk2, hk3, hk4⟩
      refine ⟨_, rfl, b, _, rfl, .inl (SqL.of hb), _, rfl, _, _, rfl, rfl, _, rfl, iteD (fun c => ?_) (fun c => ?_)⟩
      · have c' : k0 < 2 ^ m - 1 := by
          have : ((NL (pws q e k0)).length : Int) < ((2 ^ m - 1 : Nat) : Int) := c
          rw [NL_len, pws_len] at this; omega
        have ne : e ≠ r := fun z => by subst z; exact hR.no k0 hk1 c' hk3
        refine ⟨_, rfl, _, _, rfl, rfl, _, rfl, _, rfl, e + 1, q, m, rfl, F, by omega, by omega, fun a2 H2 k2 s2 na2 g1 g2 g3 g4 g5 => ⟨⟨e + 1, a2, k2, rfl, by omega, by omega, sm.trans s2, sm.free na2, g1, g2, g3, g4, g5⟩, ?_⟩⟩
        show r - (e + 1) < r - e
        omega
      · have c' : ¬ k0 < 2 ^ m - 1 := fun z => c (by
          show ((NL (pws q e k0)).length : Int) < ((2 ^ m - 1 : Nat) : Int)
          rw [NL_len, pws_len]; omega)
        obtain ⟨e1, e3⟩ := done e k0 e2 er hk1 hk2 hk3 hk4 c'
        subst e1 e3
        exact ⟨_, rfl, k b H' e sm nb ⟨hR, hleast⟩ hb⟩
    · rintro σ H' Q1 Q2 kk ⟨v, e1, p, ys, e2, hp, u, e3, i, j, e4, e5, b, e6, qq⟩
      exact ⟨v, e1, p, ys, e2, hp, u, e3, i, j, e4, e5, b, e6, kk _ _ qq⟩
end
section
variable {P : Program} {w : World} {K : PySem.W.Frag} {mg : Str → Option Value} {base : Heap}
open FLD
/-- the attributes of a field, before the products stand -/
def ffl0 (m q : Nat) (a b : Addr) : List (Str × V) :=
  putF "_logs" (.ref b) (putF "_powers" (.ref a) (putF "_turn" (.int ((2 ^ m - 1 : Nat) : Int)) (putF "_modulus" (.int (q : Int)) (putF "_bits" (.int (m : Int)) []))))
/-- the attributes of a field -/
def ffl (m q : Nat) (a b c : Addr) : List (Str × V) := putF "_products" (.ref c) (ffl0 m q a b)
theorem str1 : ¬ (("_bits" : Str) = "_logs") ∧ ¬ (("_bits" : Str) = "_powers") ∧ ¬ (("_bits" : Str) = "_turn") ∧ ¬ (("_bits" : Str) = "_modulus") ∧ ¬ (("_bits" : Str) = "_products") := by decide +kernel
theorem str2 : ¬ (("_modulus" : Str) = "_logs") ∧ ¬ (("_modulus" : Str) = "_powers") ∧ ¬ (("_modulus" : Str) = "_turn") ∧ ¬ (("_turn" : Str) = "_logs") ∧ ¬ (("_turn" : Str) = "_powers") ∧ ¬ (("_powers" : Str) = "_logs") := by decide +kernel
theorem str3 : ¬ (("_modulus" : Str) = "_products") ∧ ¬ (("_turn" : Str) = "_products") ∧ ¬ (("_powers" : Str) = "_products") ∧ ¬ (("_logs" : Str) = "_products") := by decide +kernel
theorem ffl0_turn (m q : Nat) (a b : Addr) : (ffl0 m q a b).lookup ("_turn" : Str) = some (.int ((2 ^ m - 1 : Nat) : Int)) := by
  obtain ⟨b1, b2, b3, b4, b5, b6⟩ := str2
  unfold ffl0; simp only [lookup_putF, b4, b5, if_false, if_true]
theorem ffl0_powers (m q : Nat) (a b : Addr) : (ffl0 m q a b).lookup ("_powers" : Str) = some (.ref a) := by
  obtain ⟨b1, b2, b3, b4, b5, b6⟩ := str2
  unfold ffl0; simp only [lookup_putF, b6, if_false, if_true]
theorem ffl0_logs (m q : Nat) (a b : Addr) : (ffl0 m q a b).lookup ("_logs" : Str) = some (.ref b) := by unfold ffl0; simp only [lookup_putF, if_true]
def fl4 (m q : Nat) (a : Addr) : List (Str × V) := putF "_powers" (.ref a) (putF "_turn" (.int ((2 ^ m - 1 : Nat) : Int)) (putF "_modulus" (.int (q : Int)) (putF "_bits" (.int (m : Int)) [])))
theorem fl4_turn (m q : Nat) (a : Addr) : (fl4 m q a).lookup ("_turn" : Str) = some (.int ((2 ^ m - 1 : Nat) : Int)) := by
  obtain ⟨b1, b2, b3, b4, b5, b6⟩ := str2
  unfold fl4; simp only [lookup_putF, b5, if_false, if_true]
theorem ffl0_len (m q : Nat) (a b : Addr) : (ffl0 m q a b).length = 5 := by
  obtain ⟨a1, a2, a3, a4, a5⟩ := str1
  obtain ⟨b1, b2, b3, b4, b5, b6⟩ := str2
  unfold ffl0
  simp only [putF, a1, a2, a3, a4, b1, b2, b3, b4, b5, b6, if_false]
  rfl
theorem ffl_bits (m q : Nat) (a b c : Addr) : (ffl m q a b c).lookup ("_bits" : Str) = some (.int (m : Int)) := by
  obtain ⟨a1, a2, a3, a4, a5⟩ := str1
  unfold ffl ffl0; simp only [lookup_putF, a1, a2, a3, a4, a5, if_false, if_true]
theorem ffl_modulus (m q : Nat) (a b c : Addr) : (ffl m q a b c).lookup ("_modulus" : Str) = some (.int (q : Int)) := by
  obtain ⟨b1, b2, b3, b4, b5, b6⟩ := str2
  obtain ⟨c1, c2, c3, c4⟩ := str3
  unfold ffl ffl0; simp only [lookup_putF, b1, b2, b3, c1, if_false, if_true]
theorem ffl_turn (m q : Nat) (a b c : Addr) : (ffl m q a b c).lookup ("_turn" : Str) = some (.int ((2 ^ m - 1 : Nat) : Int)) := by
  obtain ⟨b1, b2, b3, b4, b5, b6⟩ := str2
  obtain ⟨c1, c2, c3, c4⟩ := str3
  unfold ffl ffl0; simp only [lookup_putF, b4, b5, c2, if_false, if_true]
theorem ffl_powers (m q : Nat) (a b c : Addr) : (ffl m q a b c).lookup ("_powers" : Str) = some (.ref a) := by
  obtain ⟨b1, b2, b3, b4, b5, b6⟩ := str2
  obtain ⟨c1, c2, c3, c4⟩ := str3
  unfold ffl ffl0; simp only [lookup_putF, b6, c3, if_false, if_true]
theorem ffl_logs (m q : Nat) (a b c : Addr) : (ffl m q a b c).lookup ("_logs" : Str) = some (.ref b) := by
  obtain ⟨c1, c2, c3, c4⟩ := str3
  unfold ffl ffl0; simp only [lookup_putF, c4, if_false, if_true]
theorem ffl_products (m q : Nat) (a b c : Addr) : (ffl m q a b c).lookup ("_products" : Str) = some (.ref c) := by unfold ffl; simp only [lookup_putF, if_true]
theorem ffl_no (m q : Nat) (a b c : Addr) {x : Str} (h1 : ¬ x = "_logs") (h2 : ¬ x = "_powers") (h3 : ¬ x = "_turn") (h4 : ¬ x = "_modulus") (h5 : ¬ x = "_bits") (h6 : ¬ x = "_products" := by decide +kernel) : (ffl m q a b c).lookup x = none := by
  unfold ffl ffl0; simp only [lookup_putF, h1, h2, h3, h4, h5, h6, if_false]; rfl
/-- the products, by the sums of the logarithms -/
def prods (m q r : Nat) : List Nat := pws q r (2 ^ m - 1) ++ pws q r (2 ^ m - 1) ++ List.replicate (2 * (2 ^ m - 1) + 1) 0
theorem prods_get {m q r i j : Nat} (hi : i < 2 ^ m - 1) (hj : j < 2 ^ m - 1) : (prods m q r)[i + j]? = some (if i + j < 2 ^ m - 1 then pw q r (i + j) else pw q r (i + j - (2 ^ m - 1))) := by
  unfold prods
  rw [List.getElem?_append_left (by rw [List.length_append, pws_len]; omega)]
  by_cases z : i + j < 2 ^ m - 1
  · rw [if_pos z, List.getElem?_append_left (by rw [pws_len]; exact z), pws_get z]
  · rw [if_neg z, List.getElem?_append_right (by rw [pws_len]; omega), pws_len, pws_get (by omega)]
theorem prods_zero {m q r k : Nat} (h : 2 * (2 ^ m - 1) ≤ k) (h2 : k < 4 * (2 ^ m - 1) + 1) : (prods m q r)[k]? = some 0 := by
  unfold prods
  rw [List.getElem?_append_right (by rw [List.length_append, pws_len]; omega), List.getElem?_replicate, if_pos (by rw [List.length_append, pws_len]; omega)]
/-- a field stands at p -/
structure FieldAt (C : Addr) (H : Hp) (p : Addr) (m q r : Nat) : Prop where
  fd : Fd m q
  lr : LeastRoot m q r
  ex : ∃ (dx a b c : Addr) (logs : List Nat), H p = some (.ins C dx (ffl m q a b c)) ∧ H a = some (.lst (NL (pws q r (2 ^ m - 1)))) ∧ H b = some (.lst (NL logs)) ∧ (∀ k, k < 2 ^ m - 1 → logs[pw q r k]? = some k) ∧ H c = some (.lst (NL (prods m q r))) ∧ logs[0]? = some (2 * (2 ^ m - 1))
theorem FieldAt.mono {C : Addr} {H H' : Hp} {p : Addr} {m q r : Nat} (h : FieldAt C H p m q r) (s : Same H H') : FieldAt C H' p m q r := by
  obtain ⟨dx, a, b, c, logs, h1, h2, h3, h4, h5, h6⟩ := h.ex
  exact ⟨h.fd, h.lr, dx, a, b, c, logs, s _ _ h1, s _ _ h2, s _ _ h3, h4, s _ _ h5, h6⟩
/-- what the top says of the class -/
structure FC (K : PySem.W.Frag) (C : Addr) : Prop where
  cl : Cls K C
  n1 : NoAttr K C "_bits"
  n2 : NoAttr K C "_modulus"
  n3 : NoAttr K C "_turn"
  n4 : NoAttr K C "_powers"
  n5 : NoAttr K C "_logs"
  n6 : NoAttr K C "_products"
/-- a field stands at p, its lists are new -/
structure FieldNew (C : Addr) (H H' : Hp) (p : Addr) (m q r : Nat) : Prop where
  fd : Fd m q
  lr : LeastRoot m q r
  ex : ∃ (dx a b c : Addr) (logs : List Nat), H' p = some (.ins C dx (ffl m q a b c)) ∧ H' a = some (.lst (NL (pws q r (2 ^ m - 1)))) ∧ H' b = some (.lst (NL logs)) ∧ (∀ k, k < 2 ^ m - 1 → logs[pw q r k]? = some k) ∧ H' c = some (.lst (NL (prods m q r))) ∧ logs[0]? = some (2 * (2 ^ m - 1)) ∧ H a = none ∧ H b = none ∧ H c = none
def sp_finit (C C1 C2 : Addr) : Sp := fun vs H Q E => ∃ (p dx : Addr) (m q : Int), vs = [.ref p, .int m, .int q] ∧ H p = some (.ins C dx []) ∧ m.natAbs.log2 < 1920 ∧ q.natAbs.log2 < 1920 ∧ q.natAbs < 2 ^ 64 ∧
  (¬ (2 ≤ m ∧ m ≤ 8) → ∀ d, H d = none → E (.ref C1) (some d) (upd H d (.xd [("at", .int m)]))) ∧
  (2 ≤ m → m ≤ 8 → ¬ (0 ≤ q ∧ Fd m.toNat q.toNat) → ∀ d H', Same H H' → H' d = none → E (.ref C2) (some d) (upd H' d (.xd [("at", .int q)]))) ∧
  (∀ mn qn r : Nat, m = (mn : Int) → q = (qn : Int) → Fd mn qn → ∀ H', (∀ b o, H b = some o → b ≠ p → H' b = some o) → FieldNew C H H' p mn qn r → Q .non H')
theorem ok_Field___init__ {f f_degree f_is_irreducible f__root_powers f_init C C_OutOfRange C_NotIrreducible CH : Addr} {fd fd_degree fd_is_irreducible fd__root_powers fd_init : FuncData} (F : Fun K "__init__" "Field.__init__" s_Field___init__ f fd) (B : Bl mg) (T : FC K C)
    (D_degree : Df K mg "degree" ["p"] s_degree f_degree fd_degree) (G_degree : FnOk P w K mg base CX0 1 f_degree fd_degree ["p"] sp_degree)
    (D_is_irreducible : Df K mg "is_irreducible" ["p"] s_is_irreducible f_is_irreducible fd_is_irreducible) (G_is_irreducible : FnOk P w K mg base CX0 5 f_is_irreducible fd_is_irreducible ["p"] sp_irr)
    (D__root_powers : Df K mg "_root_powers" ["turn", "modulus"] s__root_powers f__root_powers fd__root_powers) (G__root_powers : FnOk P w K mg base CX0 6 f__root_powers fd__root_powers ["turn", "modulus"] sp_root_powers)
    (X_OutOfRange : XC K mg "OutOfRange" C_OutOfRange f_init CH) (X_NotIrreducible : XC K mg "NotIrreducible" C_NotIrreducible f_init CH) (G_init : FnOk P w K mg base CX0 1 f_init fd_init ["self", "at"] (sp_init K)) (b_init : Binds K fd_init ["self", "at"] []) :
    FnOk P w K mg base (L2.CX P w) 8 f fd ["self", "m", "modulus"] (sp_finit C C_OutOfRange C_NotIrreducible) := by
  refine F.okX sc_Field___init__ (fun vs H Q E h => ?_) (fun cdv A outer s H vs Q E hr h => ?_)
  · obtain ⟨p, dx, m, q, rfl, _⟩ := h; rfl
  · obtain ⟨p, dx, m, q, rfl, hp, hm, hq, hq64, kM, kN, kQ⟩ := h
    refine ⟨_, (pss_cons (ps_if (PW.pt (pw_or (pt_cmpR op_lt (pv 1) (pe_nat 2) (nomark _)) (pw_or1 (pt_cmpR op_gt (pv 1) (pe_nat 8) (nomark _))))) (pss_one (ps_err rfl X_OutOfRange G_init (hr.mono (by decide)) b_init pass0 (takes_of rfl rfl rfl rfl) (pa_cons (pv 1) pa_nil))) pss_nil)
      (pss_cons (ps_if (PW.pt (pw_or (pt_cmpR op_lt (pv 2) (pe_nat 0) (nomark _)) (pw_or (pt_cmpR op_ne (pe_call G_degree (hr.mono (by decide)) rfl D_degree.g D_degree.F.kp D_degree.b .nil pass0 (pa_cons (pv 2) pa_nil)) (pv 1) (nomark _)) (pw_or1 (pt_not (pt_val (pe_call G_is_irreducible (hr.mono (by decide)) rfl D_is_irreducible.g D_is_irreducible.F.kp D_is_irreducible.b .nil pass0 (pa_cons (pv 2) pa_nil)))))))) (pss_one (ps_err rfl X_NotIrreducible G_init (hr.mono (by decide)) b_init pass0 (takes_of rfl rfl rfl rfl) (pa_cons (pv 2) pa_nil))) pss_nil)
      (pss_cons (ps_fld (pv 0) (pv 1) rfl)
      (pss_cons (ps_fld (pv 0) (pv 2) rfl)
      (pss_cons (ps_fld (pv 0) (pe_op nb_sub (pe_op nb_shl (pe_nat 1) (pv 1)) (pe_nat 1)) rfl)
      (pss_cons (ps_fld (pv 0) (pe_call G__root_powers (hr.mono (by decide)) rfl D__root_powers.g D__root_powers.F.kp D__root_powers.b .nil pass0 (pa_cons (pe_fld (pv 0) rfl) (pa_cons (pv 2) pa_nil))) rfl)
      (pss_cons (ps_fld (pv 0) (pe_op op_rep (pe_lst (pa_cons (pe_op nb_mul (pe_nat 2) (pe_fld (pv 0) rfl)) pa_nil)) (pe_op nb_shl (pe_nat 1) (pv 1))) rfl)
      (pss_cons (ps_for (passes_of rfl) rfl (pi_enum rfl B.enumerate (pa_cons (pe_fld (pv 0) rfl) pa_nil)) (pg_tup rfl (pgs_cons (pg_name (i := 3) sc_Field___init__.nd rfl (Or.inl rfl) (Or.inr rfl)) (pgs_cons (pg_name (i := 4) sc_Field___init__.nd rfl (Or.inl rfl) (Or.inr rfl)) pgs_nil)))
        (pss_one (ps_asg (pv 3) (pg_sub (pe_fld (pv 0) rfl) (pv 4) set_list))))
      (pss_one (ps_fld (pv 0) (pe_op op_cat (pe_op op_cat (pe_fld (pv 0) rfl) (pe_fld (pv 0) rfl)) (pe_op op_rep (pe_lst (pa_cons (pe_nat 0) pa_nil)) (pe_op nb_add (pe_op nb_mul (pe_nat 2) (pe_fld (pv 0) rfl)) (pe_nat 1)))) rfl)))))))))), ?_⟩
    refine ⟨_, rfl, _, _, rfl, rfl, _, rfl, iteD (fun c => ?_) (fun c => ?_)⟩
    · have c' : m < 2 := c
      refine iteT ?_
      exact ⟨_, rfl, m, rfl, hm, fun d hd => kM (by omega) d hd⟩
    have c1 : ¬ m < 2 := c
    refine ⟨_, rfl, _, _, rfl, rfl, _, rfl, iteD (fun c => ?_) (fun c => ?_)⟩
    · have c' : 8 < m := c
      exact ⟨_, rfl, m, rfl, hm, fun d hd => kM (by omega) d hd⟩
    have c2 : ¬ 8 < m := c
    obtain ⟨mn, rfl⟩ := Int.eq_ofNat_of_zero_le (show 0 ≤ m by omega)
    have bad : ¬ (0 ≤ q ∧ Fd mn q.toNat) → ∀ H', Same H H' → tRaise C_NotIrreducible (fun cls d _ H => E cls d H) (tCons (tVar 2) tNil) { nx := fun _ _ => True, rt := fun _ _ => True } [some (.ref p), some (.int (mn : Int)), some (.int q), none, none] H' := fun hb H' sm => ⟨_, rfl, q, rfl, hq, fun d hd => kN (by omega) (by omega) hb d H' sm hd⟩
    refine ⟨_, rfl, _, _, rfl, rfl, _, rfl, iteD (fun c => ?_) (fun c => ?_)⟩
    · have c' : q < 0 := c
      refine iteT ?_
      exact bad (fun z => by omega) H (Same.refl H)
    have c3 : ¬ q < 0 := c
    obtain ⟨qn, rfl⟩ := Int.eq_ofNat_of_zero_le (show 0 ≤ q by omega)
    refine ⟨_, rfl, qn, rfl, _, rfl, rfl, _, rfl, iteN (fun c => ?_) (fun c => ?_)⟩
    · refine bad (fun z => c ?_) H (Same.refl H)
      have hl := z.2.lg
      have h0 := q0 z.2
      have := bits_pos (q := qn) h0
      have hl2 : qn.log2 = mn := hl
      show V.int ((NB.bits qn : Int) - 1) = V.int (mn : Int)
      exact congrArg V.int (by omega)
    have c4 : (NB.bits qn : Int) - 1 = (mn : Int) := V.int.inj c
    have hq0 : qn ≠ 0 := fun z => by subst z; unfold NB.bits at c4; simp at c4
    have hb := bits_pos hq0
    have hlg : qn.log2 = mn := by omega
    have hq131 : qn < 131072 := Nat.lt_of_lt_of_le (bits_lt qn) (Nat.le_trans (Nat.pow_le_pow_right (n := 2) (by decide) (show NB.bits qn ≤ 17 by omega)) (by decide))
    refine ⟨_, rfl, qn, rfl, hq131, fun b H1 hb1 s1 => ⟨b, rfl, ?_⟩⟩
    cases b with
    | false =>
      refine iteT ?_
      exact bad (fun z => nomatch hb1.mpr z.2.irr) H1 s1
    | true =>
      refine iteF ?_
      have FD : Fd mn qn := ⟨by omega, by omega, hb1.mp rfl, hlg⟩
      obtain ⟨hm4, hm256⟩ := pow_m FD
      have hp1 := s1 _ _ hp
      refine ⟨_, rfl, _, rfl, p, C, dx, _, rfl, hp1, T.cl, T.n1, (by show 0 < 1000; decide), ?_⟩
      refine ⟨_, rfl, _, rfl, p, C, dx, _, rfl, upd_same, T.cl, T.n2, (by show 1 < 1000; decide), ?_⟩
      refine ⟨_, rfl, _, _, rfl, rfl, ⟨by decide, by omega⟩, _, _, rfl, rfl, (by show 1 ≤ 2 ^ mn * 1; omega), _, rfl, p, C, dx, _, rfl, upd_same, T.cl, T.n3, (by show 2 < 1000; decide), ?_⟩
      rw [Nat.mul_one]
      refine ⟨_, rfl, p, C, dx, _, _, rfl, upd_same, T.cl, T.n3, rfl, _, rfl, qn, mn, rfl, FD, fun a H2 r s2 na hL ha => ?_⟩
      have hpa : p ≠ a := ne_of_none upd_same na
      have hp2 := s2 _ _ upd_same
      refine ⟨_, rfl, p, C, dx, _, rfl, hp2, T.cl, T.n4, (by show 3 < 1000; decide), ?_⟩
      -- logs
      have e2t : (2 : Int) * ((2 ^ mn - 1 : Nat) : Int) = ((2 * (2 ^ mn - 1) : Nat) : Int) := by rw [Int.natCast_mul]; rfl
      refine ⟨_, rfl, p, C, dx, _, _, rfl, upd_same, T.cl, T.n3, fl4_turn mn qn a, 2, 2 ^ mn - 1, rfl, rfl, .inl (by decide), (by show 1 ≤ sizeLine; decide), fun z nz => ?_⟩
      have hpz : p ≠ z := ne_of_none upd_same nz
      have haz : a ≠ z := ne_of_none (by rw [upd_ne (Ne.symm hpa)]; exact ha) nz
      refine ⟨_, rfl, _, _, rfl, rfl, ⟨by decide, by omega⟩, z, ((2 ^ mn * 1 : Nat) : Int), _, rfl, rfl, upd_same, by omega, by omega, ?_, fun b nb => ?_⟩
      · have : sizeLine = 16777216 := sizeLine_eq
        show 1 * ((2 ^ mn * 1 : Nat) : Int).toNat ≤ sizeLine
        rw [Int.toNat_natCast]; omega
      have hpb : p ≠ b := ne_of_none (by rw [upd_ne hpz]; exact upd_same) nb
      have hab : a ≠ b := ne_of_none (by rw [upd_ne haz, upd_ne (Ne.symm hpa)]; exact ha) nb
      have erep : (List.replicate ((2 ^ mn * 1 : Nat) : Int).toNat [V.int ((2 * (2 ^ mn - 1) : Nat) : Int)]).flatten = NL (List.replicate (2 ^ mn) (2 * (2 ^ mn - 1))) := by
        rw [Int.toNat_natCast, Nat.mul_one]
        generalize 2 * (2 ^ mn - 1) = w
        generalize 2 ^ mn = n
        induction n with
        | zero => rfl
        | succ n ih => rw [List.replicate_succ, List.flatten_cons, ih, List.replicate_succ, NL_cons]; rfl
      rw [erep]
      refine ⟨_, rfl, p, C, dx, fl4 mn qn a, rfl, ?_, T.cl, T.n5, (by show 4 < 1000; decide), ?_⟩
      · rw [upd_ne hpb, upd_ne hpz]; exact upd_same
      -- the loop
      refine ⟨_, rfl, p, C, dx, _, _, rfl, upd_same, T.cl, T.n4, ffl0_powers mn qn a b, a, NL (pws qn r (2 ^ mn - 1)), rfl, SqL.of ?_, ?_⟩
      · rw [upd_ne (Ne.symm hpa), upd_ne hab, upd_ne haz, upd_ne (Ne.symm hpa)]; exact ha
      have keep : ∀ x o, H x = some o → x ≠ p → (upd (upd (upd (upd H2 p (.ins C dx (putF "_powers" (.ref a) (putF "_turn" (.int ((2 ^ mn - 1 : Nat) : Int)) (putF "_modulus" (.int (qn : Int)) (putF "_bits" (.int (mn : Int)) [])))))) z (.lst [V.int ((2 * (2 ^ mn - 1) : Nat) : Int)])) b (.lst (NL (List.replicate (2 ^ mn) (2 * (2 ^ mn - 1)))))) p (.ins C dx (ffl0 mn qn a b))) x = some o := fun x o hx hxp => by
        have h1 := s1 _ _ hx
        have h2 : H2 x = some o := s2 _ _ (by rw [upd_ne hxp, upd_ne hxp, upd_ne hxp]; exact h1)
        have h3 : (upd H2 p (.ins C dx (putF "_powers" (.ref a) (putF "_turn" (.int ((2 ^ mn - 1 : Nat) : Int)) (putF "_modulus" (.int (qn : Int)) (putF "_bits" (.int (mn : Int)) [])))))) x = some o := by rw [upd_ne hxp]; exact h2
        have hxz : x ≠ z := ne_of_none h3 nz
        have h4 : (upd (upd H2 p (.ins C dx (putF "_powers" (.ref a) (putF "_turn" (.int ((2 ^ mn - 1 : Nat) : Int)) (putF "_modulus" (.int (qn : Int)) (putF "_bits" (.int (mn : Int)) [])))))) z (.lst [V.int ((2 * (2 ^ mn - 1) : Nat) : Int)])) x = some o := by rw [upd_ne hxz]; exact h3
        have hxb : x ≠ b := ne_of_none h4 nb
        rw [upd_ne hxp, upd_ne hxb]; exact h4
      have nbH : ∀ x o, H x = some o → x ≠ p → x ≠ b := fun x o hx hxp hxb => by
        have h1 := s1 _ _ hx
        have h2 : H2 x = some o := s2 _ _ (by rw [upd_ne hxp, upd_ne hxp, upd_ne hxp]; exact h1)
        subst hxb
        rw [upd_ne (ne_of_none (by rw [upd_ne hxp]; exact h2) nz), upd_ne hxp, h2] at nb
        cases nb
      refine for_enumL (K := K) (a := a) (xs := NL (pws qn r (2 ^ mn - 1))) (fun i σ H' => ∃ (logs : List Nat) (v3 v4 : Option V), σ = [some (.ref p), some (.int (mn : Int)), some (.int (qn : Int)), v3, v4] ∧ H' p = some (.ins C dx (ffl0 mn qn a b)) ∧ H' a = some (.lst (NL (pws qn r (2 ^ mn - 1)))) ∧ H' b = some (.lst (NL logs)) ∧ logs.length = 2 ^ mn ∧
        (∀ k, k < i → logs[pw qn r k]? = some k) ∧ logs[0]? = some (2 * (2 ^ mn - 1)) ∧ ∀ x o, H x = some o → x ≠ p → H' x = some o) ⟨List.replicate (2 ^ mn) (2 * (2 ^ mn - 1)), none, none, rfl, upd_same, ?_, ?_, List.length_replicate, fun k hk => by omega, by rw [List.getElem?_replicate, if_pos (by omega)], keep⟩ (fun i σ H' _ h => by obtain ⟨logs, v3, v4, _, _, h2, _⟩ := h; exact SqL.of h2) ?_ ?_
      · rw [upd_ne (Ne.symm hpa), upd_ne hab, upd_ne haz, upd_ne (Ne.symm hpa)]; exact ha
      · rw [upd_ne (Ne.symm hpb), upd_same]
      · rintro i x t σ H' hx ⟨logs, v3, v4, rfl, g1, g2, g3, hll, hlk, hl0, kp⟩ nt
        obtain ⟨e, he, rfl⟩ := NL_get_inv hx
        have hiN : i < 2 ^ mn - 1 := by have := (List.getElem?_eq_some_iff.mp he).1; rw [pws_len] at this; exact this
        rw [pws_get hiN] at he
        cases he
        have hpl := pw_lt FD r i
        have hpt : p ≠ t := ne_of_none g1 nt
        have hat : a ≠ t := ne_of_none g2 nt
        have hbt : b ≠ t := ne_of_none g3 nt
        refine ⟨t, [_, _], rfl, SqT.of upd_same, rfl, _, _, rfl, _, _, rfl, rfl, ?_⟩
        refine ⟨_, rfl, _, rfl, p, C, dx, _, _, rfl, (by rw [upd_ne hpt]; exact g1), T.cl, T.n5, ffl0_logs _ _ _ _, _, rfl, b, _, _, pw qn r i, rfl, rfl, (by rw [upd_ne hbt]; exact g3), ixN_nat (by rw [NL_len]; omega), ?_⟩
        refine ⟨logs.set (pw qn r i) i, _, _, rfl, ?_, ?_, ?_, ?_, ?_, ?_, ?_⟩
        · rw [upd_ne hpb, upd_ne hpt]; exact g1
        · rw [upd_ne hab, upd_ne hat]; exact g2
        · rw [upd_same, NL_set]
        · rw [List.length_set]; exact hll
        · intro k hk
          by_cases z : k = i
          · subst z; exact List.getElem?_set_self (by omega)
          · rw [List.getElem?_set_ne (fun w => z (pw_inj FD hL.1 (by omega) hiN w.symm))]
            exact hlk k (by omega)
        · rw [List.getElem?_set_ne (pw_ne FD hL.1.lt (r0 FD hL.1) _)]; exact hl0
        · intro y o hy hyp
          have hy1 := kp y o hy hyp
          rw [upd_ne (nbH y o hy hyp), upd_ne (ne_of_none hy1 nt)]
          exact hy1
      · rintro σ H' ⟨logs, v3, v4, rfl, g1, g2, g3, hll, hlk, hl0, kp⟩
        rw [NL_len, pws_len] at hlk
        have sl := sizeLine_eq
        have lp := pws_len qn r (2 ^ mn - 1)
        have nlp : (NL (pws qn r (2 ^ mn - 1))).length = 2 ^ mn - 1 := by rw [NL_len, lp]
        refine ⟨_, rfl, p, C, dx, _, _, rfl, g1, T.cl, T.n4, ffl0_powers _ _ _ _, _, rfl, p, C, dx, _, _, rfl, g1, T.cl, T.n4, ffl0_powers _ _ _ _, a, a, _, _, rfl, rfl, g2, g2, by rw [nlp]; omega, fun x1 n1 => ?_⟩
        have p1 : p ≠ x1 := ne_of_none g1 n1
        have k1 : upd H' x1 (.lst (NL (pws qn r (2 ^ mn - 1)) ++ NL (pws qn r (2 ^ mn - 1)))) p = some (.ins C dx (ffl0 mn qn a b)) := by rw [upd_ne p1]; exact g1
        refine ⟨(by show 1 ≤ sizeLine; decide), fun x2 n2 => ?_⟩
        have p2 : p ≠ x2 := ne_of_none k1 n2
        have x12 : x1 ≠ x2 := ne_of_none upd_same n2
        refine ⟨_, rfl, p, C, dx, _, _, rfl, (by rw [upd_ne p2]; exact k1), T.cl, T.n3, ffl0_turn _ _ _ _, 2, 2 ^ mn - 1, rfl, rfl, .inl (by decide), 2 * (2 ^ mn - 1), 1, rfl, rfl, x2, ((2 * (2 ^ mn - 1) + 1 : Nat) : Int), _, rfl, rfl, upd_same, by omega, by omega, ?_, fun x3 n3 => ?_⟩
        · show 1 * ((2 * (2 ^ mn - 1) + 1 : Nat) : Int).toNat ≤ sizeLine
          rw [Int.toNat_natCast]; omega
        have erep0 : ∀ n : Nat, (List.replicate ((n : Nat) : Int).toNat [V.int ((0 : Nat) : Int)]).flatten = NL (List.replicate n 0) := fun n => by
          rw [Int.toNat_natCast]
          induction n with
          | zero => rfl
          | succ n ih => rw [List.replicate_succ, List.flatten_cons, ih, List.replicate_succ, NL_cons]; rfl
        have er := erep0 (2 * (2 ^ mn - 1) + 1)
        have p3 : p ≠ x3 := ne_of_none (by rw [upd_ne p2]; exact k1) n3
        have x13 : x1 ≠ x3 := ne_of_none (by rw [upd_ne x12]; exact upd_same) n3
        have nlz : (NL (List.replicate (2 * (2 ^ mn - 1) + 1) 0)).length = 2 * (2 ^ mn - 1) + 1 := by rw [NL_len, List.length_replicate]
        refine ⟨x1, x3, NL (pws qn r (2 ^ mn - 1)) ++ NL (pws qn r (2 ^ mn - 1)), NL (List.replicate (2 * (2 ^ mn - 1) + 1) 0), rfl, rfl, ?_, ?_, ?_, fun c nc => ?_⟩
        · rw [upd_ne x13, upd_ne x12]; exact upd_same
        · rw [upd_same, ← er]
        · rw [List.length_append, nlp, nlz]; omega
        have pc : p ≠ c := ne_of_none (by rw [upd_ne p3, upd_ne p2]; exact k1) nc
        refine ⟨_, rfl, p, C, dx, _, rfl, (by rw [upd_ne pc, upd_ne p3, upd_ne p2]; exact k1), T.cl, T.n6, (by rw [ffl0_len]; decide), ?_⟩
        have old : ∀ x o, H' x = some o → x ≠ p → (upd (upd (upd (upd (upd H' x1 (.lst (NL (pws qn r (2 ^ mn - 1)) ++ NL (pws qn r (2 ^ mn - 1))))) x2 (.lst [V.int ((0 : Nat) : Int)])) x3 (.lst ((List.replicate ((2 * (2 ^ mn - 1) + 1 : Nat) : Int).toNat [V.int ((0 : Nat) : Int)]).flatten))) c (.lst ((NL (pws qn r (2 ^ mn - 1)) ++ NL (pws qn r (2 ^ mn - 1))) ++ NL (List.replicate (2 * (2 ^ mn - 1) + 1) 0)))) p (.ins C dx (putF "_products" (.ref c) (ffl0 mn qn a b)))) x = some o := fun x o hx hxp => by
          have q1 : x ≠ x1 := ne_of_none hx n1
          have h1 : upd H' x1 (.lst (NL (pws qn r (2 ^ mn - 1)) ++ NL (pws qn r (2 ^ mn - 1)))) x = some o := by rw [upd_ne q1]; exact hx
          have q2 : x ≠ x2 := ne_of_none h1 n2
          have h2 : upd (upd H' x1 (.lst (NL (pws qn r (2 ^ mn - 1)) ++ NL (pws qn r (2 ^ mn - 1))))) x2 (.lst [V.int ((0 : Nat) : Int)]) x = some o := by rw [upd_ne q2]; exact h1
          have q3 : x ≠ x3 := ne_of_none h2 n3
          have q4 : x ≠ c := ne_of_none (by rw [upd_ne q3]; exact h2) nc
          rw [upd_ne hxp, upd_ne q4, upd_ne q3]; exact h2
        have ap : a ≠ p := Ne.symm hpa
        have bp : b ≠ p := Ne.symm hpb
        have nHa : H a = none := s1.free (by have := na; rwa [upd_ne ap, upd_ne ap, upd_ne ap] at this)
        have nHb : H b = none := by
          cases e : H b with
          | none => rfl
          | some o => exact absurd rfl (nbH b o e bp)
        have nHc : H c = none := by
          cases e : H c with
          | none => rfl
          | some o =>
            have q0 := kp c o e (Ne.symm pc)
            have q1 : c ≠ x1 := ne_of_none q0 n1
            have q2 : c ≠ x2 := ne_of_none (by rw [upd_ne q1]; exact q0) n2
            have q3 : c ≠ x3 := ne_of_none (by rw [upd_ne q2, upd_ne q1]; exact q0) n3
            rw [upd_ne q3, upd_ne q2, upd_ne q1, q0] at nc; cases nc
        refine kQ mn qn r rfl rfl FD _ (fun x o hx hxp => old x o (kp x o hx hxp) hxp) ⟨FD, hL, dx, a, b, c, logs, upd_same, old a _ g2 ap, old b _ g3 bp, hlk, ?_, hl0, nHa, nHb, nHc⟩
        rw [upd_ne (Ne.symm pc), upd_same]
        unfold prods
        rw [NL_app2, NL_app2]
end
section
variable {P : Program} {w : World} {K : PySem.W.Frag} {mg : Str → Option Value} {base : Heap}
open FLD
def sp_lmodulus : Sp := fun vs H Q _ => ∃ m x : Nat, vs = [.int (m : Int), .int (x : Int)] ∧ 2 ≤ m ∧ m ≤ 8 ∧ ∀ (q : Nat) H', Fd m q → Same H H' → Q (.int (q : Int)) H'
theorem ok__law_modulus {f f__law_irreducible : Addr} {fd fd__law_irreducible : FuncData} (D : Df K mg "_law_modulus" ["m", "drawn"] s__law_modulus f fd) (B : Bl mg)
    (D__law_irreducible : Df K mg "_law_irreducible" ["p"] s__law_irreducible f__law_irreducible fd__law_irreducible) (G__law_irreducible : FnOk P w K mg base CX0 3 f__law_irreducible fd__law_irreducible ["p"] sp_lirr) :
    FnOk P w K mg base CX0 4 f fd ["m", "drawn"] sp_lmodulus := by
  refine D.F.ok sc__law_modulus (fun vs H Q E h => ?_) (fun cdv A outer s H vs Q E hr h => ?_)
  · obtain ⟨m, x, rfl, _⟩ := h; rfl
  · obtain ⟨m, x, rfl, hm2, hm8, k⟩ := h
    refine ⟨_, (pss_cons (ps_setLc (i := 2) (own := [("p", 3)]) rfl sc__law_modulus.nd rfl rfl (sw_true rfl rfl rfl (by decide +kernel)) (pi_range2 rfl B.range (pa_cons (pe_op nb_shl (pe_nat 1) (pv 0)) (pa_cons (pe_op nb_shl (pe_nat 2) (pv 0)) pa_nil))) (blkOk_by (own := [("p", 3)]) (N := ["m", "drawn", "found", "p"]) (sc := defScope s__law_modulus) (by decide +kernel)) (fun _ _ _ _ _ => (pg_name (i := 3) sc__law_modulus.nd rfl (Or.inl rfl) (Or.inr rfl))) (fun _ _ _ _ _ => (pts_one (pt_val (pe_call G__law_irreducible (hr.mono (by decide)) rfl D__law_irreducible.g D__law_irreducible.F.kp D__law_irreducible.b .nil pass0 (pa_cons (pv 3) pa_nil))))) (fun _ _ _ _ _ => (pv 3)))
      (pss_one (ps_ret (pe_ix ix_list (pv 2) (pe_op nb_mod (pe_callTy call_int1 (by rfl) B.int (by decide +kernel) (pa_cons (pv 1) pa_nil)) (pe_callB call_len_seq (by rfl) B.len PySem.boot_len (pa_cons (pv 2) pa_nil))) (fun _ _ => rfl))))), ?_⟩
    have h4 : (4 : Nat) ≤ 2 ^ m := Nat.le_trans (by decide) (Nat.pow_le_pow_right (n := 2) (by decide) hm2)
    have h256 : (2 : Nat) ^ m ≤ 256 := Nat.le_trans (Nat.pow_le_pow_right (n := 2) (by decide) hm8) (by decide)
    have hpp := Nat.pow_succ 2 m
    refine ⟨_, rfl, _, _, rfl, rfl, ⟨by decide, by omega⟩, _, rfl, _, _, rfl, rfl, ⟨by decide, by omega⟩, _, _, rfl, ⟨by omega, by omega, by omega, by omega⟩, fun D0 nD => ?_⟩
    rw [show (((2 ^ m * 2 : Nat) : Int) - ((2 ^ m * 1 : Nat) : Int)).toNat = 2 ^ m by omega]
    refine lc_rangeN (lo := 2 ^ m * 1) (n := 2 ^ m) (fun i H' => ∃ acc : List Nat, H' D0 = some (.lst (NL acc)) ∧ acc.length ≤ i ∧ (∀ x ∈ acc, GF.Irr x ∧ 2 ^ m ≤ x ∧ x < 2 ^ (m + 1)) ∧ (∀ x, 2 ^ m ≤ x → x < 2 ^ m + i → GF.Irr x → x ∈ acc) ∧ Same H H') ⟨[], upd_same, Nat.le_refl _, (fun x hx => nomatch hx), fun x h1 h2 => by omega, same_upd nD⟩ ?_ ?_
    · rintro i H' hi ⟨acc, h1, h2, h3, h5, sm⟩
      rw [Nat.mul_one]
      refine ⟨rfl, _, rfl, 2 ^ m + i, rfl, by omega, fun b H1 hb s1 => ⟨b, rfl, ?_⟩⟩
      cases b with
      | true =>
        refine iteT ?_
        have hi2 := hb.mp rfl
        refine ⟨_, rfl, _, s1 _ _ h1, by rw [NL_len]; exact small1000 (by omega), acc ++ [2 ^ m + i], ?_, ?_, ?_, ?_, same_upd2 (sm.trans s1) nD⟩
        · rw [upd_same, NL_app]
        · rw [List.length_append]; show acc.length + 1 ≤ i + 1; omega
        · intro x hx
          rcases List.mem_append.mp hx with h | h
          · exact h3 x h
          · rw [List.mem_singleton] at h; subst h; exact ⟨hi2, by omega, by omega⟩
        · intro x g1 g2 g3
          by_cases e : x = 2 ^ m + i
          · subst e; exact List.mem_append.mpr (.inr (List.mem_singleton.mpr rfl))
          · exact List.mem_append.mpr (.inl (h5 x g1 (by omega) g3))
      | false =>
        refine iteF ?_
        refine ⟨acc, s1 _ _ h1, by omega, h3, fun x g1 g2 g3 => ?_, sm.trans s1⟩
        by_cases e : x = 2 ^ m + i
        · subst e; exact nomatch hb.mpr g3
        · exact h5 x g1 (by omega) g3
    · rintro H1 ⟨acc, h1, h2, h3, h5, sm⟩
      obtain ⟨i1, i2, i3⟩ := GF.irr_some (m := m) (by omega) (by omega)
      have hmem := h5 _ i2 (by omega) i1
      have hpos : 0 < acc.length := List.length_pos_of_mem hmem
      obtain ⟨q, hq⟩ : ∃ q, acc[x % acc.length]? = some q := ⟨_, List.getElem?_eq_getElem (Nat.mod_lt _ hpos)⟩
      obtain ⟨j1, j2, j3⟩ := h3 q (List.mem_of_getElem? hq)
      refine ⟨_, rfl, _, rfl, .inl ⟨_, rfl, _, rfl, D0, _, rfl, .inl (SqL.of h1), x, _, rfl, rfl, by rw [NL_len]; exact hpos, D0, NL acc, _, _, rfl, rfl, SqL.of h1, ?_, k q H1 ⟨hm2, hm8, j1, (GF.Deg.log ⟨j2, j3⟩)⟩ sm⟩⟩
      rw [NL_len]
      exact NL_at0 hq
end
end K04o
set_option synthInstance.maxSize 100000
set_option synthInstance.maxHeartbeats 0
namespace K04
open PySem PySem.Spec L2 NB ER MKX DL
def top (i : Nat) : Stmt := PySem.Challenge.pw_farhaul_k04_roots_and_points.main.body.getD i (.Pass ⟨0, 0, 0, 0⟩)
abbrev s_Field_modulus : Stmt := inClass (top 30) 2
theorem sc_Field_modulus : FnScope ["self"] ["self"] (defScope s_Field_modulus) := ⟨rfl, rfl, rfl, by decide +kernel, rfl, by decide +kernel, by decide +kernel⟩
abbrev s_Field_size : Stmt := inClass (top 30) 3
theorem sc_Field_size : FnScope ["self"] ["self"] (defScope s_Field_size) := ⟨rfl, rfl, rfl, by decide +kernel, rfl, by decide +kernel, by decide +kernel⟩
abbrev s_Field_times : Stmt := inClass (top 30) 5
theorem sc_Field_times : FnScope ["self", "e", "f"] ["self", "e", "f"] (defScope s_Field_times) := ⟨rfl, rfl, rfl, by decide +kernel, rfl, by decide +kernel, by decide +kernel⟩
abbrev s_Field_inverse : Stmt := inClass (top 30) 6
theorem sc_Field_inverse : FnScope ["self", "e"] ["self", "e"] (defScope s_Field_inverse) := ⟨rfl, rfl, rfl, by decide +kernel, rfl, by decide +kernel, by decide +kernel⟩
abbrev s_Field_log : Stmt := inClass (top 30) 9
theorem sc_Field_log : FnScope ["self", "e"] ["self", "e"] (defScope s_Field_log) := ⟨rfl, rfl, rfl, by decide +kernel, rfl, by decide +kernel, by decide +kernel⟩
abbrev s_Field_scaled : Stmt := inClass (top 30) 11
theorem sc_Field_scaled : FnScope ["self", "items", "e", "logs", "products", "shift", "f"] ["self", "items", "e"] (defScope s_Field_scaled) := ⟨rfl, rfl, rfl, by decide +kernel, rfl, by decide +kernel, by decide +kernel⟩
abbrev s_Field_value : Stmt := inClass (top 30) 13
theorem sc_Field_value : FnScope ["self", "items", "e", "logs", "products", "shift", "total", "f"] ["self", "items", "e"] (defScope s_Field_value) := ⟨rfl, rfl, rfl, by decide +kernel, rfl, by decide +kernel, by decide +kernel⟩
section
variable {P : Program} {w : World} {K : PySem.W.Frag} {mg : Str → Option Value} {base : Heap}
variable {f_init : Addr} {fd_init : FuncData} {CH C C_NoInverse : Addr}
open FLD
def NI (ns : List Nat) : List Int := ns.map fun (n : Nat) => (n : Int)
theorem NI_len (ns : List Nat) : (NI ns).length = ns.length := List.length_map _
theorem LI_NI_len (ns : List Nat) : (LI (NI ns)).length = ns.length := by rw [LI_len, NI_len]
theorem LI_NI_at {ns : List Nat} {k n : Nat} (h : ns[k]? = some n) : atI (LI (NI ns)) (k : Int) = some (.int (n : Int)) := atI_nat (by unfold LI NI; rw [List.getElem?_map, List.getElem?_map, h]; rfl)
theorem NI_app (a b : List Nat) : LI (NI a) ++ LI (NI b) = LI (NI (a ++ b)) := by unfold LI NI; rw [List.map_append, List.map_append]
theorem NI_at {ns : List Nat} {i : Nat} {d : PyData} (h : (LI (NI ns))[i]? = some d) : ∃ b, ns[i]? = some b ∧ d = .int ((b : Nat) : Int) := by
  unfold LI NI at h
  rw [List.getElem?_map, List.getElem?_map] at h
  cases e : ns[i]? with
  | none => rw [e] at h; cases h
  | some b => rw [e] at h; exact ⟨b, rfl, (Option.some.inj h).symm⟩
theorem take_one {α : Type} {xs : List α} {i : Nat} {d : α} (h : xs[i]? = some d) : xs.take i ++ [d] = xs.take (i + 1) := by rw [List.take_succ, h]; rfl
/-- the powers of e below the k-th -/
def pws (q e k : Nat) : List Nat := (List.range k).map (pw q e)
theorem pws_len (q e k : Nat) : (pws q e k).length = k := by unfold pws; rw [List.length_map, List.length_range]
theorem pws_get {q e k i : Nat} (h : i < k) : (pws q e k)[i]? = some (pw q e i) := by unfold pws; rw [List.getElem?_map, List.getElem?_range h]; rfl
/-- the products, by the sums of the logarithms -/
def prods (m q r : Nat) : List Nat := pws q r (2 ^ m - 1) ++ pws q r (2 ^ m - 1) ++ List.replicate (2 * (2 ^ m - 1) + 1) 0
theorem prods_get {m q r i j : Nat} (hi : i < 2 ^ m - 1) (hj : j < 2 ^ m - 1) : (prods m q r)[i + j]? = some (if i + j < 2 ^ m - 1 then pw q r (i + j) else pw q r (i + j - (2 ^ m - 1))) := by
  unfold prods
  rw [List.getElem?_append_left (by rw [List.length_append, pws_len]; omega)]
  by_cases z : i + j < 2 ^ m - 1
  · rw [if_pos z, List.getElem?_append_left (by rw [pws_len]; exact z), pws_get z]
  · rw [if_neg z, List.getElem?_append_right (by rw [pws_len]; omega), pws_len, pws_get (by omega)]
theorem prods_zero {m q r k : Nat} (h : 2 * (2 ^ m - 1) ≤ k) (h2 : k < 4 * (2 ^ m - 1) + 1) : (prods m q r)[k]? = some 0 := by
  unfold prods
  rw [List.getElem?_append_right (by rw [List.length_append, pws_len]; omega), List.getElem?_replicate, if_pos (by rw [List.length_append, pws_len]; omega)]
/-- a field's attributes, in the order in which they are set -/
def fsF (m q r : Nat) (logs : List Nat) : List (Str × PyData) := [("_bits", .int (m : Int)), ("_modulus", .int (q : Int)), ("_turn", .int ((2 ^ m - 1 : Nat) : Int)), ("_powers", .list (LI (NI (pws q r (2 ^ m - 1))))), ("_logs", .list (LI (NI logs))), ("_products", .list (LI (NI (prods m q r))))]
def FldO (C : Addr) (m q r : Nat) (logs : List Nat) : PyData := Ob C (fsF m q r logs)
structure FldOk (m q r : Nat) (logs : List Nat) : Prop where
  fd : Fd m q
  lr : LeastRoot m q r
  lg : ∀ k, k < 2 ^ m - 1 → logs[pw q r k]? = some k
  l0 : logs[0]? = some (2 * (2 ^ m - 1))
theorem sqf : (("_modulus" : Str) == "_bits") = false ∧ (("_turn" : Str) == "_bits") = false ∧ (("_turn" : Str) == "_modulus") = false ∧ (("_powers" : Str) == "_bits") = false ∧ (("_powers" : Str) == "_modulus") = false ∧ (("_powers" : Str) == "_turn") = false ∧ (("_logs" : Str) == "_bits") = false ∧ (("_logs" : Str) == "_modulus") = false ∧ (("_logs" : Str) == "_turn") = false ∧ (("_logs" : Str) == "_powers") = false ∧ (("_products" : Str) == "_bits") = false ∧ (("_products" : Str) == "_modulus") = false ∧ (("_products" : Str) == "_turn") = false ∧ (("_products" : Str) == "_powers") = false ∧ (("_products" : Str) == "_logs") = false := by decide +kernel
theorem lk_ne {x a : Str} {v : PyData} {l : List (Str × PyData)} (h : (x == a) = false) : ((a, v) :: l).lookup x = l.lookup x := by rw [List.lookup_cons, h]
theorem fsF_modulus (m q r logs) : (fsF m q r logs).lookup ("_modulus" : Str) = some (.int (q : Int)) := by
  obtain ⟨a1, _⟩ := sqf
  unfold fsF; rw [lk_ne a1, List.lookup_cons_self]
theorem fsF_turn (m q r logs) : (fsF m q r logs).lookup ("_turn" : Str) = some (.int ((2 ^ m - 1 : Nat) : Int)) := by
  obtain ⟨a1, a2, a3, _⟩ := sqf
  unfold fsF; rw [lk_ne a2, lk_ne a3, List.lookup_cons_self]
theorem fsF_powers (m q r logs) : (fsF m q r logs).lookup ("_powers" : Str) = some (.list (LI (NI (pws q r (2 ^ m - 1))))) := by
  obtain ⟨a1, a2, a3, a4, a5, a6, _⟩ := sqf
  unfold fsF; rw [lk_ne a4, lk_ne a5, lk_ne a6, List.lookup_cons_self]
theorem fsF_logs (m q r logs) : (fsF m q r logs).lookup ("_logs" : Str) = some (.list (LI (NI logs))) := by
  obtain ⟨a1, a2, a3, a4, a5, a6, a7, a8, a9, a10, _⟩ := sqf
  unfold fsF; rw [lk_ne a7, lk_ne a8, lk_ne a9, lk_ne a10, List.lookup_cons_self]
theorem fsF_products (m q r logs) : (fsF m q r logs).lookup ("_products" : Str) = some (.list (LI (NI (prods m q r)))) := by
  obtain ⟨a1, a2, a3, a4, a5, a6, a7, a8, a9, a10, a11, a12, a13, a14, a15⟩ := sqf
  unfold fsF; rw [lk_ne a11, lk_ne a12, lk_ne a13, lk_ne a14, lk_ne a15, List.lookup_cons_self]
theorem fsF_no (m q r logs) {x : Str} (h1 : (x == ("_bits" : Str)) = false := by decide +kernel) (h2 : (x == ("_modulus" : Str)) = false := by decide +kernel) (h3 : (x == ("_turn" : Str)) = false := by decide +kernel) (h4 : (x == ("_powers" : Str)) = false := by decide +kernel) (h5 : (x == ("_logs" : Str)) = false := by decide +kernel) (h6 : (x == ("_products" : Str)) = false := by decide +kernel) : (fsF m q r logs).lookup x = none := by
  unfold fsF; rw [lk_ne h1, lk_ne h2, lk_ne h3, lk_ne h4, lk_ne h5, lk_ne h6]; rfl
/-- what the top says of the class -/
structure FK (K : PySem.W.Frag) (C : Addr) : Prop where
  cl : Cls K C
  n1 : NoAttr K C "_bits"
  n2 : NoAttr K C "_modulus"
  n3 : NoAttr K C "_turn"
  n4 : NoAttr K C "_powers"
  n5 : NoAttr K C "_logs"
  n6 : NoAttr K C "_products"
/-- 2 ^ m for a field -/
theorem pow_mF {m q : Nat} (F : Fd m q) : 4 ≤ 2 ^ m ∧ 2 ^ m ≤ 256 := ⟨Nat.pow_le_pow_right (n := 2) (by decide) F.h2, Nat.pow_le_pow_right (n := 2) (by decide) F.h8⟩
/-- the sum of the logarithms leads to the product -/
theorem prod_at {m q r : Nat} {logs : List Nat} (O : FldOk m q r logs) {a b : Nat} (ha : a < 2 ^ m) (hb : b < 2 ^ m) : ∃ i j, logs[a]? = some i ∧ logs[b]? = some j ∧ i ≤ 510 ∧ j ≤ 510 ∧ (prods m q r)[i + j]? = some (mulm q a b) := by
  obtain ⟨p4, p256⟩ := pow_mF O.fd
  have L : ∀ {x}, x < 2 ^ m → (x = 0 ∧ logs[x]? = some (2 * (2 ^ m - 1))) ∨ ∃ k, k < 2 ^ m - 1 ∧ pw q r k = x ∧ logs[x]? = some k := fun {x} hx => by
    by_cases z : x = 0
    · subst z; exact .inl ⟨rfl, O.l0⟩
    · obtain ⟨k, hk, e⟩ := log_ex O.fd O.lr.1 z hx
      exact .inr ⟨k, hk, e, by rw [← e]; exact O.lg k hk⟩
  rcases L ha with ⟨rfl, la⟩ | ⟨i, hi, ei, la⟩
  · rcases L hb with ⟨rfl, lb⟩ | ⟨j, hj, ej, lb⟩
    · exact ⟨_, _, la, lb, by omega, by omega, by rw [prods_zero (by omega) (by omega), mulm_zero O.fd]⟩
    · exact ⟨_, _, la, lb, by omega, by omega, by rw [prods_zero (by omega) (by omega), zero_mulm O.fd]⟩
  · rcases L hb with ⟨rfl, lb⟩ | ⟨j, hj, ej, lb⟩
    · exact ⟨_, _, la, lb, by omega, by omega, by rw [prods_zero (by omega) (by omega), mulm_zero O.fd]⟩
    · refine ⟨_, _, la, lb, by omega, by omega, ?_⟩
      rw [prods_get hi hj, ← ei, ← ej, ← pw_add O.fd]
      by_cases z : i + j < 2 ^ m - 1
      · rw [if_pos z]
      · rw [if_neg z, pw_mod O.fd O.lr.1 (i + j)]
        have : (i + j) % (2 ^ m - 1) = i + j - (2 ^ m - 1) := by rw [Nat.mod_eq_sub_mod (by omega), Nat.mod_eq_of_lt (by omega)]
        rw [this]
def rcFMod (C : Addr) : RC := pur fun as S => ∃ m q r logs, as = [.val (FldO C m q r logs)] ∧ S (.ok (.val (.int (q : Int))))
instance : MonoR (rcFMod C) := inferInstanceAs (MonoR (pur _))
theorem ok_Field_modulus {f : Addr} {fd : FuncData} (F : Fun K "modulus" "Field.modulus" s_Field_modulus f fd) (T : FK K C) : FnOk P w K mg base CX0 1 f fd ["self"] (spF (rcFMod C)) := by
  refine okF F sc_Field_modulus (fun F as S h => by obtain ⟨m, q, r, l, rfl, _⟩ := h; rfl) (fun cdv A outer s H E hr => ⟨_, _, (pss_one (ps_ret (pe_fld (pv 0) rfl))), fun F0 => by infer_instance, fun F0 as S h => ?_⟩)
  obtain ⟨m, q, r, l, rfl, hS⟩ := h
  exact ⟨C, _, _, rfl, T.cl, T.n2, fsF_modulus m q r l, hS⟩
def rcFTimes (C : Addr) : RC := pur fun as S => ∃ m q r logs a b, as = [.val (FldO C m q r logs), .val (.int ((a : Nat) : Int)), .val (.int ((b : Nat) : Int))] ∧ FldOk m q r logs ∧ a < 2 ^ m ∧ b < 2 ^ m ∧ S (.ok (.val (.int ((mulm q a b : Nat) : Int))))
instance : MonoR (rcFTimes C) := inferInstanceAs (MonoR (pur _))
theorem ok_Field_times {f : Addr} {fd : FuncData} (F : Fun K "times" "Field.times" s_Field_times f fd) (T : FK K C) : FnOk P w K mg base CX0 1 f fd ["self", "e", "f"] (spF (rcFTimes C)) := by
  refine okF F sc_Field_times (fun F as S h => by obtain ⟨m, q, r, l, a, b, rfl, _⟩ := h; rfl) (fun cdv A outer s H E hr => ⟨_, _, (pss_one (ps_ret (pe_ix ix_list (pe_fld (pv 0) rfl) (pe_op op_add (pe_ix ix_list (pe_fld (pv 0) rfl) (pv 1) (fun _ _ => rfl)) (pe_ix ix_list (pe_fld (pv 0) rfl) (pv 2) (fun _ _ => rfl))) (fun _ _ => rfl)))), fun F0 => by infer_instance, fun F0 as S h => ?_⟩)
  obtain ⟨m, q, r, l, a, b, rfl, O, ha, hb, hS⟩ := h
  obtain ⟨i, j, la, lb, bi, bj, pr⟩ := prod_at O ha hb
  refine ⟨C, _, _, rfl, T.cl, T.n6, fsF_products m q r l, ?_⟩
  refine ⟨C, _, _, rfl, T.cl, T.n5, fsF_logs m q r l, .int (i : Int), LI_NI_at la, C, _, _, rfl, T.cl, T.n5, fsF_logs m q r l, .int (j : Int), LI_NI_at lb, ?_⟩
  exact ⟨.int ((mulm q a b : Nat) : Int), by show atI _ ((i : Int) + (j : Int)) = _; rw [← Int.natCast_add]; exact LI_NI_at pr, hS⟩
def rcFLog (C CN : Addr) : RC := pur fun as S => ∃ m q r logs a, as = [.val (FldO C m q r logs), .val (.int ((a : Nat) : Int))] ∧ FldOk m q r logs ∧ a < 2 ^ m ∧ (a = 0 → S (.er CN 0)) ∧ ∀ j, j < 2 ^ m - 1 → pw q r j = a → S (.ok (.val (.int ((j : Nat) : Int))))
instance {C CN : Addr} : MonoR (rcFLog C CN) := inferInstanceAs (MonoR (pur _))
theorem ok_Field_log {f : Addr} {fd : FuncData} (F : Fun K "log" "Field.log" s_Field_log f fd) (T : FK K C)
    (X_NoInverse : XC K mg "NoInverse" C_NoInverse f_init CH) (G_init : FnOk P w K mg base CX0 1 f_init fd_init ["self", "at"] (sp_init K)) (b_init : Binds K fd_init ["self", "at"] []) :
    FnOk P w K mg base (L2.CX P w) 3 f fd ["self", "e"] (spF (rcFLog C C_NoInverse)) := by
  refine okFX F sc_Field_log (fun F as S h => by obtain ⟨m, q, r, l, a, rfl, _⟩ := h; rfl) (fun cdv A outer s H E hr => ⟨_, _, (pss_cons (ps_if (pt_cmpR op_eq (pv 1) (pe_z 0) (nomark _)) (pss_one (ps_err rfl X_NoInverse G_init (hr.mono (by decide)) b_init pass0 (takes_of rfl rfl rfl rfl) (pa_cons (pe_z 0) pa_nil))) pss_nil)
      (pss_one (ps_ret (pe_ix ix_list (pe_fld (pv 0) rfl) (pv 1) (fun _ _ => rfl))))), fun F0 ER h => by infer_instance, fun F0 as S h => ?_⟩)
  obtain ⟨m, q, r, l, a, rfl, O, ha, h0, h1⟩ := h
  refine brD (fun c => ⟨(by decide), h0 (by omega)⟩) fun c => ?_
  obtain ⟨j, hj, ej⟩ := log_ex O.fd O.lr.1 (show a ≠ 0 by intro z; exact c (by omega)) ha
  exact ⟨C, _, _, rfl, T.cl, T.n5, fsF_logs m q r l, .int (j : Int), LI_NI_at (by rw [← ej]; exact O.lg j hj), h1 j hj ej⟩
def rcFInv (C CN : Addr) : RC := pur fun as S => ∃ m q r logs a, as = [.val (FldO C m q r logs), .val (.int ((a : Nat) : Int))] ∧ FldOk m q r logs ∧ a < 2 ^ m ∧ (a = 0 → S (.er CN 0)) ∧ ∀ b, b < 2 ^ m → mulm q a b = 1 → S (.ok (.val (.int ((b : Nat) : Int))))
instance {C CN : Addr} : MonoR (rcFInv C CN) := inferInstanceAs (MonoR (pur _))
theorem ok_Field_inverse {f f_Field_log : Addr} {fd fd_Field_log : FuncData} (F : Fun K "inverse" "Field.inverse" s_Field_inverse f fd) (T : FK K C) (K_Field : Cls K C) (M_Field_log : Meth K C "log" f_Field_log) (b_Field_log : Binds K fd_Field_log ["self", "e"] [])
    (G_Field_log : FnOk P w K mg base (L2.CX P w) 3 f_Field_log fd_Field_log ["self", "e"] (spF (rcFLog C C_NoInverse))) :
    FnOk P w K mg base (L2.CX P w) 4 f fd ["self", "e"] (spF (rcFInv C C_NoInverse)) := by
  refine okFX F sc_Field_inverse (fun F as S h => by obtain ⟨m, q, r, l, a, rfl, _⟩ := h; rfl) (fun cdv A outer s H E hr => ⟨_, _, (pss_one (ps_ret (pe_ix ix_list (pe_fld (pv 0) rfl) (pe_op op_mod (pe_un un_neg (pe_mtS (pv 0) K_Field M_Field_log G_Field_log (hr.mono (by decide)) b_Field_log (fun σ => passAt (W := fun cls d _ H => E cls d H) (takes_of rfl rfl rfl rfl) σ) (by exact (pa_cons (pv 1) pa_nil)))) (pe_fld (pv 0) rfl)) (fun _ _ => rfl)))), fun F0 ER h => by infer_instance, fun F0 as S h => ?_⟩)
  obtain ⟨m, q, r, l, a, rfl, O, ha, h0, h1⟩ := h
  obtain ⟨p4, p256⟩ := pow_mF O.fd
  refine ⟨C, _, _, rfl, T.cl, T.n4, fsF_powers m q r l, ?_⟩
  by_cases z : a = 0
  · refine ⟨_, rfl, fsF_no m q r l, fun x => x = .er C_NoInverse 0, ⟨m, q, r, l, a, rfl, O, ha, fun _ => rfl, fun j hj e => absurd (z ▸ e) (pw_ne O.fd O.lr.1.lt (r0 O.fd O.lr.1) j)⟩, ?_⟩
    rintro x rfl
    exact h0 z
  obtain ⟨j, hj, ej⟩ := log_ex O.fd O.lr.1 z ha
  refine ⟨_, rfl, fsF_no m q r l, fun x => x = .ok (.val (.int (j : Int))), ⟨m, q, r, l, a, rfl, O, ha, fun y => absurd y z, fun k hk e => by rw [pw_inj O.fd O.lr.1 hk hj (e.trans ej.symm)]⟩, ?_⟩
  rintro x rfl
  refine ⟨fun _ => rfl, C, _, _, rfl, T.cl, T.n3, fsF_turn m q r l, by omega, ?_⟩
  obtain ⟨k, hk⟩ : ∃ k : Nat, (-(j : Int)) % ((2 ^ m - 1 : Nat) : Int) = (k : Int) := ⟨((-(j : Int)) % ((2 ^ m - 1 : Nat) : Int)).toNat, by have := Int.emod_nonneg (-(j : Int)) (show ((2 ^ m - 1 : Nat) : Int) ≠ 0 by omega); omega⟩
  have kl : k < 2 ^ m - 1 := by have := Int.emod_lt_of_pos (-(j : Int)) (show (0 : Int) < ((2 ^ m - 1 : Nat) : Int) by omega); omega
  refine ⟨.int ((pw q r k : Nat) : Int), by show atI _ ((-(j : Int)) % ((2 ^ m - 1 : Nat) : Int)) = _; rw [hk]; exact LI_NI_at (pws_get kl), h1 _ (pw_lt O.fd _ _) ?_⟩
  rw [← ej, ← pw_add O.fd, pw_one_iff O.fd O.lr.1]
  have e := Int.mul_ediv_add_emod (-(j : Int)) ((2 ^ m - 1 : Nat) : Int)
  rw [hk] at e
  exact Int.natCast_dvd_natCast.mp ⟨-((-(j : Int)) / ((2 ^ m - 1 : Nat) : Int)), by rw [Int.mul_neg, Int.natCast_add]; omega⟩
def rcFScaled (C : Addr) : RC := pur fun as S => ∃ (m q r : Nat) (logs ps : List Nat) (a : Nat), as = [.val (FldO C m q r logs), .val (.list (LI (NI ps))), .val (.int ((a : Nat) : Int))] ∧ FldOk m q r logs ∧ a < 2 ^ m ∧ (∀ b ∈ ps, b < 2 ^ m) ∧ ps.length ≤ 1000 ∧ S (.ok (.own (LI (NI (ps.map fun b => mulm q b a)))))
instance : MonoR (rcFScaled C) := inferInstanceAs (MonoR (pur _))
theorem ok_Field_scaled {f : Addr} {fd : FuncData} (F : Fun K "scaled" "Field.scaled" s_Field_scaled f fd) (T : FK K C) : FnOk P w K mg base CX0 1 f fd ["self", "items", "e"] (spF (rcFScaled C)) := by
  refine okF F sc_Field_scaled (fun F as S h => by obtain ⟨m, q, r, l, a, b, rfl, _⟩ := h; rfl) (fun cdv A outer s H E hr => ⟨_, _, (pss_cons (ps_asg (pe_tup (pa_cons (pe_fld (pv 0) rfl) (pa_cons (pe_fld (pv 0) rfl) (pa_cons (pe_ix ix_list (pe_fld (pv 0) rfl) (pv 2) (fun _ _ => rfl)) pa_nil)))) (pg_tup rfl (pgs_cons (pg_name (i := 3) sc_Field_scaled.nd rfl (Or.inr rfl)) (pgs_cons (pg_name (i := 4) sc_Field_scaled.nd rfl (Or.inr rfl)) (pgs_cons (pg_name (i := 5) sc_Field_scaled.nd rfl (Or.inr rfl)) pgs_nil)))))
      (pss_one (ps_ret (pe_lc (own := [("f", 6)]) rfl sc_Field_scaled.nd (pi_list (pv 1)) (blkOk_by (own := [("f", 6)]) (N := ["self", "items", "e", "logs", "products", "shift", "f"]) (sc := defScope s_Field_scaled) (by decide +kernel)) (fun _ _ _ _ _ => (pg_name (i := 6) sc_Field_scaled.nd rfl (Or.inl rfl) (Or.inr rfl))) (fun _ _ _ _ _ => pts_nil) (fun _ _ _ _ _ => (pe_ix (ix_listK (K := K) rfl) (pv 4) (pe_op op_add (pe_ix (ix_listK (K := K) rfl) (pv 3) (pv 6) (fun _ _ => rfl)) (pv 5)) (fun _ _ => rfl))))))), fun F0 => by infer_instance, fun F0 as S h => ?_⟩)
  obtain ⟨m, q, r, l, ps, a, rfl, O, ha, hp, hl, hS⟩ := h
  have sl := sizeLine_eq
  obtain ⟨p4, p256⟩ := pow_mF O.fd
  obtain ⟨_, ja, _, la, _, bj, _⟩ := prod_at O ha ha
  refine ⟨C, _, _, rfl, T.cl, T.n5, fsF_logs m q r l, ?_⟩
  refine ⟨C, _, _, rfl, T.cl, T.n6, fsF_products m q r l, ?_⟩
  refine ⟨C, _, _, rfl, T.cl, T.n5, fsF_logs m q r l, .int (ja : Int), LI_NI_at la, ?_⟩
  refine ⟨(show 3 ≤ sizeLine by omega), rfl, ?_⟩
  have lp := LI_NI_len ps
  refine ⟨rfl, fun i acc => acc = LI (NI ((ps.map fun b => mulm q b a).take i)), rfl, ?_, ?_⟩
  · rintro i d acc hd rfl
    obtain ⟨b, hb, rfl⟩ := NI_at hd
    have hi : i < ps.length := (List.getElem?_eq_some_iff.mp hb).1
    obtain ⟨ib, ja', lb, la', _, _, pr⟩ := prod_at O (hp b (List.mem_of_getElem? hb)) ha
    have : ja' = ja := by rw [la] at la'; exact (Option.some.inj la').symm
    subst this
    refine brT ⟨.int (ib : Int), LI_NI_at lb, .int ((mulm q b a : Nat) : Int), by show atI _ ((ib : Int) + (ja' : Int)) = _; rw [← Int.natCast_add]; exact LI_NI_at pr, ?_, ?_⟩
    · rw [LI_NI_len, List.length_take]; omega
    · show LI (NI ((ps.map fun b => mulm q b a).take i)) ++ LI (NI [mulm q b a]) = _
      rw [NI_app, take_one (by rw [List.getElem?_map, hb]; rfl)]
  · rintro acc rfl
    show S (.ok (.own (LI (NI ((ps.map fun b => mulm q b a).take (LI (NI ps)).length)))))
    rw [lp, List.take_of_length_le (by rw [List.length_map]; exact Nat.le_refl _)]
    exact hS
/-- Horner's value -/
def evl (q e : Nat) (ps : List Nat) : Nat := ps.foldr (fun f t => mulm q t e ^^^ f) 0
theorem evl_lt {m q a : Nat} (F : Fd m q) : ∀ {ps : List Nat}, (∀ b ∈ ps, b < 2 ^ m) → evl q a ps < 2 ^ m
  | [], _ => Nat.two_pow_pos m
  | b :: ps, h => Nat.xor_lt_two_pow (mulm_lt F _ _) (h b (by simp))
def rcFValue (C : Addr) : RC := pur fun as S => ∃ (m q r : Nat) (logs ps : List Nat) (a : Nat), as = [.val (FldO C m q r logs), .val (.list (LI (NI ps))), .val (.int ((a : Nat) : Int))] ∧ FldOk m q r logs ∧ a < 2 ^ m ∧ (∀ b ∈ ps, b < 2 ^ m) ∧ ps.length ≤ 1000 ∧ S (.ok (.val (.int (evl q a ps : Nat))))
instance : MonoR (rcFValue C) := inferInstanceAs (MonoR (pur _))
theorem ok_Field_value {f : Addr} {fd : FuncData} (F : Fun K "value" "Field.value" s_Field_value f fd) (T : FK K C) (B : Bl mg) : FnOk P w K mg base CX0 2 f fd ["self", "items", "e"] (spF (rcFValue C)) := by
  refine okF F sc_Field_value (fun F as S h => by obtain ⟨m, q, r, l, a, b, rfl, _⟩ := h; rfl) (fun cdv A outer s H E hr => ⟨_, _, (pss_cons (ps_par3 (i := 3) (j := 4) (l := 5) (by rfl) sc_Field_value.nd rfl rfl rfl (by decide) (by decide) (by decide) rfl rfl rfl (pa_cons (pe_fld (pv 0) rfl) (pa_cons (pe_fld (pv 0) rfl) (pa_cons (pe_ix ix_list (pe_fld (pv 0) rfl) (pv 2) (fun _ _ => rfl)) pa_nil))) (by rfl))
      (pss_cons (ps_set (i := 6) sc_Field_value.nd rfl (Or.inl rfl) (pe_z 0))
      (pss_cons (ps_for PassesOwn.never rfl (pi_reversed rfl B.reversed (pa_cons (pv 1) pa_nil)) (pg_name (i := 7) sc_Field_value.nd rfl (Or.inl rfl) (Or.inr rfl))
        (pss_one (ps_set (i := 6) sc_Field_value.nd rfl (Or.inl rfl) (pe_op op_xor (pe_ix ix_list (pv 4) (pe_op op_add (pe_ix ix_list (pv 3) (pv 6) (fun _ _ => rfl)) (pv 5)) (fun _ _ => rfl)) (pv 7)))))
      (pss_one (ps_ret (pv 6)))))), fun F0 => by infer_instance, fun F0 as S h => ?_⟩)
  obtain ⟨m, q, r, l, ps, a, rfl, O, ha, hp, hl, hS⟩ := h
  have sl := sizeLine_eq
  obtain ⟨p4, p256⟩ := pow_mF O.fd
  obtain ⟨_, ja, _, la, _, bj, _⟩ := prod_at O ha ha
  refine ⟨C, _, _, rfl, T.cl, T.n5, fsF_logs m q r l, ?_⟩
  refine ⟨C, _, _, rfl, T.cl, T.n6, fsF_products m q r l, ?_⟩
  refine ⟨C, _, _, rfl, T.cl, T.n5, fsF_logs m q r l, .int (ja : Int), LI_NI_at la, ?_⟩
  refine ⟨_, _, _, rfl, ?_⟩
  refine ⟨rfl, fun i σ => ∃ ob : Option SV, σ = [some (.val (FldO C m q r l)), some (.val (.list (LI (NI ps)))), some (.val (.int (a : Int))), some (.val (.list (LI (NI l)))), some (.val (.list (LI (NI (prods m q r))))), some (.val (.int (ja : Int))), some (.val (.int (evl q a (ps.drop (ps.length - i)) : Nat))), ob], ?_, ?_, ?_⟩
  · refine ⟨none, ?_⟩
    have e : evl q a (ps.drop (ps.length - 0)) = 0 := by rw [Nat.sub_zero, List.drop_length]; rfl
    rw [e]; rfl
  · rintro i d σ hd ⟨ob, rfl⟩
    have hd' : (LI (NI ps)).reverse[i]? = some d := hd
    have hi : i < ps.length := by have := (List.getElem?_eq_some_iff.mp hd').1; rw [List.length_reverse, LI_NI_len] at this; exact this
    rw [List.getElem?_reverse (by rw [LI_NI_len]; exact hi), LI_NI_len] at hd'
    obtain ⟨b, hb, rfl⟩ := NI_at hd'
    have ev := evl_lt O.fd (ps := ps.drop (ps.length - i)) (a := a) fun b h => hp b (List.mem_of_mem_drop h)
    obtain ⟨ib, ja', lb, la', _, _, pr⟩ := prod_at O ev ha
    have : ja' = ja := by rw [la] at la'; exact (Option.some.inj la').symm
    subst this
    have hb2 := hp b (List.mem_of_getElem? hb)
    have hdr : ps.drop (ps.length - (i + 1)) = b :: ps.drop (ps.length - i) := by
      have h1 : ps.length - 1 - i < ps.length := by omega
      have e1 : ps.length - (i + 1) = ps.length - 1 - i := by omega
      have e2 : ps.length - i = ps.length - 1 - i + 1 := by omega
      rw [e1, e2, List.drop_eq_getElem_cons h1]
      congr 1
      exact (List.getElem?_eq_some_iff.mp hb).2
    refine ⟨.int (ib : Int), LI_NI_at lb, .int ((mulm q (evl q a (ps.drop (ps.length - i))) a : Nat) : Int), by show atI _ ((ib : Int) + (ja' : Int)) = _; rw [← Int.natCast_add]; exact LI_NI_at pr, some (.val (.int (b : Int))), ?_⟩
    rw [hdr]
    have e : Builtin.bitXor ((mulm q (evl q a (ps.drop (ps.length - i))) a : Nat) : Int) (b : Int) = ((evl q a (b :: ps.drop (ps.length - i)) : Nat) : Int) := xor_nn _ _
    rw [← e]; rfl
  · rintro σ ⟨ob, rfl⟩
    rw [List.length_reverse, LI_NI_len, Nat.sub_self, List.drop_zero]
    exact hS
end
abbrev s_trimmed : Stmt := top 10
theorem sc_trimmed : FnScope ["coefficients", "size"] ["coefficients"] (defScope s_trimmed) := ⟨rfl, rfl, rfl, by decide +kernel, rfl, by decide +kernel, by decide +kernel⟩
abbrev s_add : Stmt := top 11
theorem sc_add : FnScope ["field", "p", "q", "e", "f"] ["field", "p", "q"] (defScope s_add) := ⟨rfl, rfl, rfl, by decide +kernel, rfl, by decide +kernel, by decide +kernel⟩
abbrev s_times_polys : Stmt := top 12
theorem sc_times_polys : FnScope ["field", "p", "q", "total", "i", "e", "k", "f"] ["field", "p", "q"] (defScope s_times_polys) := ⟨rfl, rfl, rfl, by decide +kernel, rfl, by decide +kernel, by decide +kernel⟩
abbrev s_scaled : Stmt := top 14
theorem sc_scaled : FnScope ["field", "p", "e"] ["field", "p", "e"] (defScope s_scaled) := ⟨rfl, rfl, rfl, by decide +kernel, rfl, by decide +kernel, by decide +kernel⟩
abbrev s_value : Stmt := top 15
theorem sc_value : FnScope ["field", "p", "e"] ["field", "p", "e"] (defScope s_value) := ⟨rfl, rfl, rfl, by decide +kernel, rfl, by decide +kernel, by decide +kernel⟩
section
variable {P : Program} {w : World} {K : PySem.W.Frag} {mg : Str → Option Value} {base : Heap}
variable {C : Addr}
open FLD PLY
theorem LI_allF (m : List Int) : (LI m).all flatD = true := by unfold LI; rw [List.all_map]; exact List.all_eq_true.mpr fun _ _ => rfl
def rcTrim : RC := pur fun as S => ∃ ps : List Nat, as = [.val (.list (LI (NI ps)))] ∧ ps.length ≤ 2000 ∧ S (.ok (.own (LI (NI (trim ps)))))
instance : MonoR rcTrim := inferInstanceAs (MonoR (pur _))
theorem ok_trimmed {f : Addr} {fd : FuncData} (D : Df K mg "trimmed" ["coefficients"] s_trimmed f fd) (B : Bl mg) : FnOk P w K mg base CX0 1 f fd ["coefficients"] (spF rcTrim) := by
  refine okF D.F sc_trimmed (fun F as S h => by obtain ⟨p, rfl, _⟩ := h; rfl) (fun cdv A outer s H E hr => ⟨_, _, (pss_cons (ps_set (i := 1) sc_trimmed.nd rfl (Or.inl rfl) (pe_callB call_len_seq (by rfl) B.len PySem.boot_len (pa_cons (pv 0) pa_nil)))
      (pss_cons (ps_while PassesOwn.never (PW.pt (pw_and (pt_cmpR op_gt (pv 1) (pe_z 0) (nomark _)) (pw_and1 (pt_cmpR op_eq (pe_ix ix_list (pv 0) (pe_op op_sub (pv 1) (pe_z 1)) (fun _ _ => rfl)) (pe_z 0) (nomark _)))))
        (pss_one (ps_aug (i := 1) sc_trimmed.nd rfl (Or.inl rfl) (pe_z 1) iop_sub)))
      (pss_one (ps_ret (pe_slice sl_list (pv 0) po_none (po_some (pv 1))))))), fun F0 => by infer_instance, fun F0 as S h => ?_⟩)
  obtain ⟨ps, rfl, hl, hS⟩ := h
  have sl := sizeLine_eq
  have lp := LI_NI_len ps
  refine ⟨fun σ => ∃ s : Nat, σ = [some (.val (.list (LI (NI ps)))), some (.val (.int (s : Int)))] ∧ s ≤ ps.length ∧ ∀ i, s ≤ i → i < ps.length → ps[i]? = some 0,
    fun σ => match σ with | [_, some (.val (.int e))] => e.toNat | _ => 0, ⟨ps.length, by show [_, some (SV.val (.int ((LI (NI ps)).length : Nat)))] = _; rw [lp], Nat.le_refl _, fun i h1 h2 => by omega⟩, ?_⟩
  rintro σ ⟨s, rfl, h1, h2⟩
  have fin : (s = 0 ∨ ∃ c, ps[s - 1]? = some c ∧ c ≠ 0) → trim ps = ps.take s := fun h3 => by unfold trim; rw [← tl_only h1 h2 h3]
  have ret : (s = 0 ∨ ∃ c, ps[s - 1]? = some c ∧ c ≠ 0) → S (.ok (.own (cutD (LI (NI ps)) none (some (s : Int))))) := fun h3 => by
    have e : cutD (LI (NI ps)) none (some (s : Int)) = LI (NI (trim ps)) := by
      rw [cutD_to, fin h3]
      unfold LI NI
      rw [List.map_take, List.map_take]
    rw [e]; exact hS
  refine brD (fun c => ?_) fun c => ?_
  · have c' : 0 < s := by omega
    obtain ⟨d, hd⟩ : ∃ d, ps[s - 1]? = some d := ⟨_, List.getElem?_eq_getElem (by omega)⟩
    refine ⟨.int (d : Int), by show atI _ ((s : Int) - 1) = _; rw [show (s : Int) - 1 = ((s - 1 : Nat) : Int) by omega]; exact LI_NI_at hd, ?_⟩
    refine brD (fun z => ?_) fun z => ?_
    · have z' : d = 0 := by omega
      subst z'
      refine ⟨⟨s - 1, ?_, by omega, fun i g1 g2 => ?_⟩, ?_⟩
      · show [_, some (SV.val (.int ((s : Int) - 1)))] = _
        rw [show (s : Int) - 1 = ((s - 1 : Nat) : Int) by omega]
      · by_cases e : i = s - 1
        · rw [e]; exact hd
        · exact h2 i (by omega) g2
      · show ((s : Int) - 1).toNat < ((s : Nat) : Int).toNat
        omega
    · exact ret (.inr ⟨d, hd, fun y => z (by omega)⟩)
  · exact brF (ret (.inl (by omega)))
def rcPScaled (C : Addr) : RC := pur fun as S => ∃ (m q r : Nat) (logs ps : List Nat) (a : Nat), as = [.val (FldO C m q r logs), .val (.list (LI (NI ps))), .val (.int ((a : Nat) : Int))] ∧ FldOk m q r logs ∧ a < 2 ^ m ∧ (∀ b ∈ ps, b < 2 ^ m) ∧ ps.length ≤ 1000 ∧ S (.ok (.own (LI (NI (trim (ps.map fun b => mulm q b a))))))
instance : MonoR (rcPScaled C) := inferInstanceAs (MonoR (pur _))
theorem ok_scaled {f f_trimmed f_Field_scaled : Addr} {fd fd_trimmed fd_Field_scaled : FuncData} (D : Df K mg "scaled" ["field", "p", "e"] s_scaled f fd) (K_Field : Cls K C) (M_Field_scaled : Meth K C "scaled" f_Field_scaled) (b_Field_scaled : Binds K fd_Field_scaled ["self", "items", "e"] [])
    (G_Field_scaled : FnOk P w K mg base CX0 1 f_Field_scaled fd_Field_scaled ["self", "items", "e"] (spF (rcFScaled C)))
    (D_trimmed : Df K mg "trimmed" ["coefficients"] s_trimmed f_trimmed fd_trimmed) (G_trimmed : FnOk P w K mg base CX0 1 f_trimmed fd_trimmed ["coefficients"] (spF rcTrim)) :
    FnOk P w K mg base CX0 2 f fd ["field", "p", "e"] (spF (rcPScaled C)) := by
  refine okF D.F sc_scaled (fun F as S h => by obtain ⟨m, q, r, l, a, b, rfl, _⟩ := h; rfl) (fun cdv A outer s H E hr => ⟨_, _, (pss_one (ps_ret (pe_call G_trimmed (hr.mono (by decide)) rfl D_trimmed.g D_trimmed.F.kp D_trimmed.b .nil pass00 (pa_cons (pe_meth (pv 0) K_Field M_Field_scaled G_Field_scaled (hr.mono (by decide)) b_Field_scaled .nil pass00 (by exact (pa_cons (pv 1) (pa_cons (pv 2) pa_nil)))) pa_nil)))), fun F0 => by infer_instance, fun F0 as S h => ?_⟩)
  obtain ⟨m, q, r, l, ps, a, rfl, O, ha, hp, hl, hS⟩ := h
  refine ⟨_, rfl, fsF_no m q r l, fun x => x = .ok (.own (LI (NI (ps.map fun b => mulm q b a)))), ⟨m, q, r, l, ps, a, rfl, O, ha, hp, hl, rfl⟩, ?_⟩
  rintro x rfl
  refine ⟨fun _ => LI_allF _, fun x => x = .ok (.own (LI (NI (trim (ps.map fun b => mulm q b a))))), ⟨_, rfl, by rw [List.length_map]; omega, rfl⟩, ?_⟩
  rintro x rfl
  exact ⟨fun _ => LI_allF _, hS⟩
def rcPValue (C : Addr) : RC := pur fun as S => ∃ (m q r : Nat) (logs ps : List Nat) (a : Nat), as = [.val (FldO C m q r logs), .val (.list (LI (NI ps))), .val (.int ((a : Nat) : Int))] ∧ FldOk m q r logs ∧ a < 2 ^ m ∧ (∀ b ∈ ps, b < 2 ^ m) ∧ ps.length ≤ 1000 ∧ S (.ok (.val (.int (ev q a ps : Nat))))
instance : MonoR (rcPValue C) := inferInstanceAs (MonoR (pur _))
theorem evl_ev (q a : Nat) : ∀ ps, evl q a ps = ev q a ps
  | [] => rfl
  | b :: ps => by rw [ev_cons, ← evl_ev q a ps]; rfl
theorem ok_value {f f_Field_value : Addr} {fd fd_Field_value : FuncData} (D : Df K mg "value" ["field", "p", "e"] s_value f fd) (K_Field : Cls K C) (M_Field_value : Meth K C "value" f_Field_value) (b_Field_value : Binds K fd_Field_value ["self", "items", "e"] [])
    (G_Field_value : FnOk P w K mg base CX0 2 f_Field_value fd_Field_value ["self", "items", "e"] (spF (rcFValue C))) :
    FnOk P w K mg base CX0 3 f fd ["field", "p", "e"] (spF (rcPValue C)) := by
  refine okF D.F sc_value (fun F as S h => by obtain ⟨m, q, r, l, a, b, rfl, _⟩ := h; rfl) (fun cdv A outer s H E hr => ⟨_, _, (pss_one (ps_ret (pe_meth (pv 0) K_Field M_Field_value G_Field_value (hr.mono (by decide)) b_Field_value .nil pass00 (by exact (pa_cons (pv 1) (pa_cons (pv 2) pa_nil)))))), fun F0 => by infer_instance, fun F0 as S h => ?_⟩)
  obtain ⟨m, q, r, l, ps, a, rfl, O, ha, hp, hl, hS⟩ := h
  refine ⟨_, rfl, fsF_no m q r l, fun x => x = .ok (.val (.int (evl q a ps : Nat))), ⟨m, q, r, l, ps, a, rfl, O, ha, hp, hl, rfl⟩, ?_⟩
  rintro x rfl
  exact ⟨fun _ => rfl, by rw [evl_ev]; exact hS⟩
/-- a contract that nobody meets -/
def rcNo : RC := pur fun _ _ => False
instance : MonoR rcNo := inferInstanceAs (MonoR (pur _))
theorem no_fn {k : Nat} {f : Addr} {fd : FuncData} {ns : List Str} : FnOk P w K mg base CX0 k f fd ns (spF rcNo) := ⟨fun vs H Q E h => by obtain ⟨_, _, _, _, _, _, h, _⟩ := h; exact h.elim, fun A outer s H args us vs Q E _ _ _ _ h => by obtain ⟨_, _, _, _, _, _, h, _⟩ := h; exact h.elim⟩
/-- the sum, p not the shorter one -/
def addL (p q : List Nat) : List Nat := List.zipWith (· ^^^ ·) p q ++ p.drop q.length
def sumL (p q : List Nat) : List Nat := if p.length < q.length then addL q p else addL p q
def rcAdd : RC := pur fun as S => ∃ (x : PyData) (p q : List Nat), as = [.val x, .val (.list (LI (NI p))), .val (.list (LI (NI q)))] ∧ p.length ≤ 900 ∧ q.length ≤ 900 ∧ S (.ok (.own (LI (NI (trim (sumL p q))))))
instance : MonoR rcAdd := inferInstanceAs (MonoR (pur _))
def rcAdd1 : RC := pur fun as S => ∃ (x : PyData) (p q : List Nat), as = [.val x, .val (.list (LI (NI p))), .val (.list (LI (NI q)))] ∧ p.length ≤ 900 ∧ q.length ≤ 900 ∧ ¬ p.length < q.length ∧ S (.ok (.own (LI (NI (trim (addL p q))))))
instance : MonoR rcAdd1 := inferInstanceAs (MonoR (pur _))
theorem ok_add1 {f f_trimmed : Addr} {fd fd_trimmed : FuncData} (D_add : Df K mg "add" ["field", "p", "q"] s_add f fd) (B : Bl mg)
    (D_trimmed : Df K mg "trimmed" ["coefficients"] s_trimmed f_trimmed fd_trimmed) (G_trimmed : FnOk P w K mg base CX0 1 f_trimmed fd_trimmed ["coefficients"] (spF rcTrim)) :
    FnOk P w K mg base CX0 2 f fd ["field", "p", "q"] (spF rcAdd1) := by
  have G_add : FnOk P w K mg base CX0 1 f fd ["field", "p", "q"] (spF rcNo) := no_fn
  refine okF D_add.F sc_add (fun F as S h => by obtain ⟨x, p, q, rfl, _⟩ := h; rfl) (fun cdv A outer s H E hr => ⟨_, _, (pss_cons (ps_if (pt_cmpR op_lt (pe_callB call_len_seq (by rfl) B.len PySem.boot_len (pa_cons (pv 1) pa_nil)) (pe_callB call_len_seq (by rfl) B.len PySem.boot_len (pa_cons (pv 2) pa_nil)) (nomark _)) (pss_one (ps_ret (pe_call G_add (hr.mono (by decide)) rfl D_add.g D_add.F.kp D_add.b .nil pass00 (pa_cons (pv 0) (pa_cons (pv 2) (pa_cons (pv 1) pa_nil)))))) pss_nil)
      (pss_one (ps_ret (pe_call G_trimmed (hr.mono (by decide)) rfl D_trimmed.g D_trimmed.F.kp D_trimmed.b .nil pass00 (pa_cons (pe_op op_cat (pe_lc (g := (gTup K 2 (gCons (gName 3) (gCons (gName 4) gNil)))) (own := [("e", 3), ("f", 4)]) rfl sc_add.nd (pi_zip rfl B.zip (pa_cons (pv 1) (pa_cons (pv 2) pa_nil))) (blkOk_by (own := [("e", 3), ("f", 4)]) (N := ["field", "p", "q", "e", "f"]) (sc := defScope s_add) (by decide +kernel)) (fun _ _ _ _ _ => (pg_tup rfl (pgs_cons (pg_name (i := 3) sc_add.nd rfl (Or.inl rfl) (Or.inr rfl)) (pgs_cons (pg_name (i := 4) sc_add.nd rfl (Or.inl rfl) (Or.inr rfl)) pgs_nil)))) (fun _ _ _ _ _ => pts_nil) (fun _ _ _ _ _ => (pe_op op_xor (pv 3) (pv 4)))) (pe_slice sl_list (pv 1) (po_some (pe_callB call_len_seq (by rfl) B.len PySem.boot_len (pa_cons (pv 2) pa_nil))) po_none)) pa_nil))))), fun F0 => by infer_instance, fun F0 as S h => ?_⟩)
  obtain ⟨x, p, q, rfl, hp, hq, hl, hS⟩ := h
  have sl := sizeLine_eq
  have lp := LI_NI_len p
  have lq := LI_NI_len q
  refine brX (by show ¬ ((LI (NI p)).length : Int) < ((LI (NI q)).length : Int); omega) ?_
  refine ⟨rfl, fun i acc => acc = LI (NI ((List.zipWith (· ^^^ ·) p q).take i)), rfl, ?_, ?_⟩
  · rintro i d acc hd rfl
    obtain ⟨dx, dy, e1, e2, rfl⟩ := zipD_at hd
    obtain ⟨b, hb, rfl⟩ := NI_at e1
    obtain ⟨c, hc, rfl⟩ := NI_at e2
    have hz : (List.zipWith (· ^^^ ·) p q)[i]? = some (b ^^^ c) := by rw [List.getElem?_zipWith, hb, hc]
    refine ⟨rfl, brT ⟨?_, ?_⟩⟩
    · rw [LI_NI_len, List.length_take, List.length_zipWith]; omega
    · show LI (NI ((List.zipWith (· ^^^ ·) p q).take i)) ++ [.int (Builtin.bitXor (b : Int) (c : Int))] = _
      rw [xor_nn]
      show _ ++ LI (NI [b ^^^ c]) = _
      rw [NI_app, take_one hz]
  · rintro acc rfl
    have el : (zipD (LI (NI p)) (LI (NI q))).length = q.length := by rw [zipD_len, lp, lq]; omega
    have ez : (List.zipWith (· ^^^ ·) p q).take (zipD (LI (NI p)) (LI (NI q))).length = List.zipWith (· ^^^ ·) p q := List.take_of_length_le (by rw [el, List.length_zipWith]; exact Nat.min_le_right _ _)
    have ec : cutD (LI (NI p)) (some (((LI (NI q)).length : Nat) : Int)) none = LI (NI (p.drop q.length)) := by
      rw [lq, cutD_from]; unfold LI NI; rw [List.map_drop, List.map_drop]
    have ea : LI (NI ((List.zipWith (· ^^^ ·) p q).take (zipD (LI (NI p)) (LI (NI q))).length)) ++ cutD (LI (NI p)) (some (((LI (NI q)).length : Nat) : Int)) none = LI (NI (addL p q)) := by
      rw [ez, ec, NI_app]; rfl
    have la : (addL p q).length = p.length := by unfold addL; rw [List.length_append, List.length_zipWith, List.length_drop]; omega
    refine ⟨?_, ?_⟩
    · rw [← List.length_append, ea, LI_NI_len]; omega
    refine ⟨fun r => r = .ok (.own (LI (NI (trim (addL p q))))), ⟨addL p q, ?_, by omega, rfl⟩, ?_⟩
    · rw [← ea]; rfl
    rintro r rfl
    exact ⟨fun _ => LI_allF _, hS⟩
theorem ok_add {f f_trimmed : Addr} {fd fd_trimmed : FuncData} (D_add : Df K mg "add" ["field", "p", "q"] s_add f fd) (B : Bl mg)
    (D_trimmed : Df K mg "trimmed" ["coefficients"] s_trimmed f_trimmed fd_trimmed) (G_trimmed : FnOk P w K mg base CX0 1 f_trimmed fd_trimmed ["coefficients"] (spF rcTrim)) :
    FnOk P w K mg base CX0 3 f fd ["field", "p", "q"] (spF rcAdd) := by
  have G_add : FnOk P w K mg base CX0 2 f fd ["field", "p", "q"] (spF rcAdd1) := ok_add1 D_add B D_trimmed G_trimmed
  refine okF D_add.F sc_add (fun F as S h => by obtain ⟨x, p, q, rfl, _⟩ := h; rfl) (fun cdv A outer s H E hr => ⟨_, _, (pss_cons (ps_if (pt_cmpR op_lt (pe_callB call_len_seq (by rfl) B.len PySem.boot_len (pa_cons (pv 1) pa_nil)) (pe_callB call_len_seq (by rfl) B.len PySem.boot_len (pa_cons (pv 2) pa_nil)) (nomark _)) (pss_one (ps_ret (pe_call G_add (hr.mono (by decide)) rfl D_add.g D_add.F.kp D_add.b .nil pass00 (pa_cons (pv 0) (pa_cons (pv 2) (pa_cons (pv 1) pa_nil)))))) pss_nil)
      (pss_one (ps_ret (pe_call G_trimmed (hr.mono (by decide)) rfl D_trimmed.g D_trimmed.F.kp D_trimmed.b .nil pass00 (pa_cons (pe_op op_cat (pe_lc (g := (gTup K 2 (gCons (gName 3) (gCons (gName 4) gNil)))) (own := [("e", 3), ("f", 4)]) rfl sc_add.nd (pi_zip rfl B.zip (pa_cons (pv 1) (pa_cons (pv 2) pa_nil))) (blkOk_by (own := [("e", 3), ("f", 4)]) (N := ["field", "p", "q", "e", "f"]) (sc := defScope s_add) (by decide +kernel)) (fun _ _ _ _ _ => (pg_tup rfl (pgs_cons (pg_name (i := 3) sc_add.nd rfl (Or.inl rfl) (Or.inr rfl)) (pgs_cons (pg_name (i := 4) sc_add.nd rfl (Or.inl rfl) (Or.inr rfl)) pgs_nil)))) (fun _ _ _ _ _ => pts_nil) (fun _ _ _ _ _ => (pe_op op_xor (pv 3) (pv 4)))) (pe_slice sl_list (pv 1) (po_some (pe_callB call_len_seq (by rfl) B.len PySem.boot_len (pa_cons (pv 2) pa_nil))) po_none)) pa_nil))))), fun F0 => by infer_instance, fun F0 as S h => ?_⟩)
  obtain ⟨x, p, q, rfl, hp, hq, hS⟩ := h
  have sl := sizeLine_eq
  have lp := LI_NI_len p
  have lq := LI_NI_len q
  unfold sumL at hS
  refine brD (fun c => ?_) fun c => ?_
  · have hl : p.length < q.length := by have c' : ((LI (NI p)).length : Int) < ((LI (NI q)).length : Int) := c; omega
    rw [if_pos hl] at hS
    refine ⟨fun r => r = .ok (.own (LI (NI (trim (addL q p))))), ⟨x, q, p, rfl, hq, hp, by omega, rfl⟩, ?_⟩
    rintro r rfl
    exact ⟨fun _ => LI_allF _, hS⟩
  have hl : ¬ p.length < q.length := by have c' : ¬ ((LI (NI p)).length : Int) < ((LI (NI q)).length : Int) := c; omega
  rw [if_neg hl] at hS
  refine ⟨rfl, fun i acc => acc = LI (NI ((List.zipWith (· ^^^ ·) p q).take i)), rfl, ?_, ?_⟩
  · rintro i d acc hd rfl
    obtain ⟨dx, dy, e1, e2, rfl⟩ := zipD_at hd
    obtain ⟨b, hb, rfl⟩ := NI_at e1
    obtain ⟨c, hc, rfl⟩ := NI_at e2
    have hz : (List.zipWith (· ^^^ ·) p q)[i]? = some (b ^^^ c) := by rw [List.getElem?_zipWith, hb, hc]
    refine ⟨rfl, brT ⟨?_, ?_⟩⟩
    · rw [LI_NI_len, List.length_take, List.length_zipWith]; omega
    · show LI (NI ((List.zipWith (· ^^^ ·) p q).take i)) ++ [.int (Builtin.bitXor (b : Int) (c : Int))] = _
      rw [xor_nn]
      show _ ++ LI (NI [b ^^^ c]) = _
      rw [NI_app, take_one hz]
  · rintro acc rfl
    have el : (zipD (LI (NI p)) (LI (NI q))).length = q.length := by rw [zipD_len, lp, lq]; omega
    have ez : (List.zipWith (· ^^^ ·) p q).take (zipD (LI (NI p)) (LI (NI q))).length = List.zipWith (· ^^^ ·) p q := List.take_of_length_le (by rw [el, List.length_zipWith]; exact Nat.min_le_right _ _)
    have ec : cutD (LI (NI p)) (some (((LI (NI q)).length : Nat) : Int)) none = LI (NI (p.drop q.length)) := by
      rw [lq, cutD_from]; unfold LI NI; rw [List.map_drop, List.map_drop]
    have ea : LI (NI ((List.zipWith (· ^^^ ·) p q).take (zipD (LI (NI p)) (LI (NI q))).length)) ++ cutD (LI (NI p)) (some (((LI (NI q)).length : Nat) : Int)) none = LI (NI (addL p q)) := by
      rw [ez, ec, NI_app]; rfl
    have la : (addL p q).length = p.length := by unfold addL; rw [List.length_append, List.length_zipWith, List.length_drop]; omega
    refine ⟨?_, ?_⟩
    · rw [← List.length_append, ea, LI_NI_len]; omega
    refine ⟨fun r => r = .ok (.own (LI (NI (trim (addL p q))))), ⟨addL p q, ?_, by omega, rfl⟩, ?_⟩
    · rw [← ea]; rfl
    rintro r rfl
    exact ⟨fun _ => LI_allF _, hS⟩
end
section
variable {P : Program} {w : World} {K : PySem.W.Frag} {mg : Str → Option Value} {base : Heap}
open FLD PLY
/-- every second element behind the first one -/
def slopeL (p : List Nat) : List Nat := (List.range (p.length - 1)).map fun i => if i % 2 = 0 then p.getD (i + 1) 0 else 0
theorem slopeL_len (p : List Nat) : (slopeL p).length = p.length - 1 := by unfold slopeL; rw [List.length_map, List.length_range]
theorem slopeL_get {p : List Nat} {i e : Nat} (h : p[i + 1]? = some e) : (slopeL p)[i]? = some (if i % 2 = 0 then e else 0) := by
  have hi := (List.getElem?_eq_some_iff.mp h).1
  unfold slopeL
  rw [List.getElem?_map, List.getElem?_range (by omega)]
  show some (if i % 2 = 0 then p.getD (i + 1) 0 else 0) = _
  rw [List.getD_eq_getElem?_getD, h]
  rfl
def rcSlope : RC := pur fun as S => ∃ ps : List Nat, as = [.val (.list (LI (NI ps)))] ∧ ps.length ≤ 1000 ∧ S (.ok (.own (LI (NI (trim (slopeL ps))))))
instance : MonoR rcSlope := inferInstanceAs (MonoR (pur _))
end
abbrev s__law_trim : Stmt := top 44
theorem sc__law_trim : FnScope ["poly", "size", "k"] ["poly"] (defScope s__law_trim) := ⟨rfl, rfl, rfl, by decide +kernel, rfl, by decide +kernel, by decide +kernel⟩
section
variable {P : Program} {w : World} {K : PySem.W.Frag} {mg : Str → Option Value} {base : Heap}
open FLD PLY
theorem ok__law_trim {f : Addr} {fd : FuncData} (D : Df K mg "_law_trim" ["poly"] s__law_trim f fd) (B : Bl mg) : FnOk P w K mg base CX0 1 f fd ["poly"] (spF rcTrim) := by
  refine okF D.F sc__law_trim (fun F as S h => by obtain ⟨p, rfl, _⟩ := h; rfl) (fun cdv A outer s H E hr => ⟨_, _, (pss_cons (ps_set (i := 1) sc__law_trim.nd rfl (Or.inl rfl) (pe_z 0))
      (pss_cons (ps_for PassesOwn.never rfl (pi_range1 rfl B.range (pa_cons (pe_callB call_len_seq (by rfl) B.len PySem.boot_len (pa_cons (pv 0) pa_nil)) pa_nil)) (pg_name (i := 2) sc__law_trim.nd rfl (Or.inl rfl) (Or.inr rfl))
        (pss_one (ps_if (pt_cmpR op_ne (pe_ix ix_list (pv 0) (pv 2) (fun _ _ => rfl)) (pe_z 0) (nomark _)) (pss_one (ps_set (i := 1) sc__law_trim.nd rfl (Or.inl rfl) (pe_op op_add (pv 2) (pe_z 1)))) pss_nil)))
      (pss_one (ps_ret (pe_slice sl_list (pv 0) po_none (po_some (pv 1))))))), fun F0 => by infer_instance, fun F0 as S h => ?_⟩)
  obtain ⟨ps, rfl, hl, hS⟩ := h
  have sl := sizeLine_eq
  have lp := LI_NI_len ps
  refine ⟨⟨by omega, by omega⟩, rfl, fun i σ => ∃ (s : Nat) (v : Option SV), σ = [some (.val (.list (LI (NI ps)))), some (.val (.int (s : Int))), v] ∧ s ≤ i ∧ (∀ j, s ≤ j → j < i → ps[j]? = some 0) ∧ (s = 0 ∨ ∃ c, ps[s - 1]? = some c ∧ c ≠ 0), ⟨0, none, rfl, Nat.le_refl _, fun j _ h => by omega, .inl rfl⟩, ?_, ?_⟩
  · rintro i d σ hd ⟨s, v, rfl, h1, h2, h3⟩
    obtain ⟨hi, rfl⟩ := rangeD_at hd
    have hi' : i < ps.length := by have h := hi; rw [lp] at h; omega
    obtain ⟨e, he⟩ : ∃ e, ps[i]? = some e := ⟨_, List.getElem?_eq_getElem hi'⟩
    refine ⟨.int (e : Int), by show atI _ ((0 : Int) + (i : Int)) = _; rw [Int.zero_add]; exact LI_NI_at he, ?_⟩
    refine brN (fun z => ?_) fun z => ?_
    · refine ⟨i + 1, some (.val (.int ((0 : Int) + (i : Int)))), ?_, Nat.le_refl _, fun j g1 g2 => by omega, .inr ⟨e, he, fun y => z (by omega)⟩⟩
      show [_, some (SV.val (.int ((0 : Int) + (i : Int) + 1))), _] = _
      rw [show (0 : Int) + (i : Int) + 1 = ((i + 1 : Nat) : Int) by omega]
    · have z' : e = 0 := by omega
      subst z'
      refine ⟨s, _, rfl, by omega, fun j g1 g2 => ?_, h3⟩
      by_cases y : j = i
      · subst y; exact he
      · exact h2 j g1 (by omega)
  · rintro σ ⟨s, v, rfl, h1, h2, h3⟩
    have el : (rangeD 0 (((LI (NI ps)).length : Nat) : Int).toNat).length = ps.length := by rw [rangeD_len, lp]; omega
    rw [el] at h1 h2
    have e : cutD (LI (NI ps)) none (some (s : Int)) = LI (NI (trim ps)) := by
      rw [cutD_to]
      unfold trim LI NI
      rw [← tl_only h1 h2 h3, List.map_take, List.map_take]
    show S (.ok (.own (cutD (LI (NI ps)) none (some (s : Int)))))
    rw [e]; exact hS
def rcLSlope : RC := pur fun as S => ∃ ps : List Nat, as = [.val (.list (LI (NI ps)))] ∧ ps.length ≤ 1000 ∧ (∀ b ∈ ps, b < 65536) ∧ S (.ok (.own (LI (NI (trim (slopeL ps))))))
instance : MonoR rcLSlope := inferInstanceAs (MonoR (pur _))
end
abbrev s__law_plus : Stmt := top 45
theorem sc__law_plus : FnScope ["p", "q", "size", "k"] ["p", "q"] (defScope s__law_plus) := ⟨rfl, rfl, rfl, by decide +kernel, rfl, by decide +kernel, by decide +kernel⟩
section
variable {P : Program} {w : World} {K : PySem.W.Frag} {mg : Str → Option Value} {base : Heap}
open FLD PLY PLY
def plusL (p q : List Nat) : List Nat := (List.range (max p.length q.length)).map fun k => p.getD k 0 ^^^ q.getD k 0
theorem plusL_len (p q : List Nat) : (plusL p q).length = max p.length q.length := by unfold plusL; rw [List.length_map, List.length_range]
theorem plusL_get {p q : List Nat} {k : Nat} (h : k < max p.length q.length) : (plusL p q)[k]? = some (p.getD k 0 ^^^ q.getD k 0) := by unfold plusL; rw [List.getElem?_map, List.getElem?_range h]; rfl
theorem addL_plus {p q : List Nat} (h : ¬ p.length < q.length) : addL p q = plusL p q := by
  refine List.ext_getElem? fun k => ?_
  unfold addL
  by_cases z : k < q.length
  · rw [List.getElem?_append_left (by rw [List.length_zipWith]; omega), plusL_get (by omega), List.getElem?_zipWith, get_getD (p := p) (by omega), get_getD (p := q) z]
  · rw [List.getElem?_append_right (by rw [List.length_zipWith]; omega), List.length_zipWith, List.getElem?_drop, show q.length + (k - min p.length q.length) = k by omega]
    by_cases y : k < p.length
    · rw [plusL_get (by omega), get_getD y, getD_out (p := q) (by omega), Nat.xor_zero]
    · rw [List.getElem?_eq_none (by omega), List.getElem?_eq_none (by rw [plusL_len]; omega)]
theorem plusL_comm (p q : List Nat) : plusL p q = plusL q p := by
  unfold plusL
  rw [Nat.max_comm]
  refine List.map_congr_left fun k _ => ?_
  rw [Nat.xor_comm]
theorem sum_plus (p q : List Nat) : sumL p q = plusL p q := by
  unfold sumL
  by_cases z : p.length < q.length
  · rw [if_pos z, addL_plus (by omega), plusL_comm]
  · rw [if_neg z, addL_plus z]
/-- a value set, told by another name -/
theorem dset_go {i : Nat} {f : DX} {g : DSX} {E : DEnds} {σ : SD} {d : PyData} (hf : ∀ P : SV → Prop, P (.val d) → f σ P) (h : g E (σ.set i (some (.val d)))) : dSeq (dSet i f) g E σ := hf _ h
theorem zeros_app (ms : List Nat) (v : Nat) : LI (NI ms) ++ (List.replicate ((v : Nat) : Int).toNat [PyData.int 0]).flatten = LI (NI (ms ++ List.replicate v 0)) := by
  rw [Int.toNat_natCast]
  unfold LI NI
  rw [List.map_append, List.map_append, List.map_replicate, List.map_replicate]
  congr 1
  induction v with
  | zero => rfl
  | succ v ih => rw [List.replicate_succ, List.flatten_cons, ih, List.replicate_succ]; rfl
theorem zeros_get {l : List Nat} {v k : Nat} (h : k < v) : (l ++ List.replicate v 0)[k]? = some (l.getD k 0) := by
  by_cases z : k < l.length
  · rw [List.getElem?_append_left z, get_getD z]
  · rw [List.getElem?_append_right (by omega), List.getElem?_replicate, if_pos (by omega), getD_out (by omega)]
def rcLPlus : RC := pur fun as S => ∃ p q : List Nat, as = [.val (.list (LI (NI p))), .val (.list (LI (NI q)))] ∧ p.length ≤ 900 ∧ q.length ≤ 900 ∧ S (.ok (.own (LI (NI (trim (sumL p q))))))
instance : MonoR rcLPlus := inferInstanceAs (MonoR (pur _))
theorem ok__law_plus {f f__law_trim : Addr} {fd fd__law_trim : FuncData} (D : Df K mg "_law_plus" ["p", "q"] s__law_plus f fd) (B : Bl mg)
    (D__law_trim : Df K mg "_law_trim" ["poly"] s__law_trim f__law_trim fd__law_trim) (G__law_trim : FnOk P w K mg base CX0 1 f__law_trim fd__law_trim ["poly"] (spF rcTrim)) : FnOk P w K mg base CX0 2 f fd ["p", "q"] (spF rcLPlus) := by
  refine okF D.F sc__law_plus (fun F as S h => by obtain ⟨a, b, rfl, _⟩ := h; rfl) (fun cdv A outer s H E hr => ⟨_, _, (pss_cons (ps_set (i := 2) sc__law_plus.nd rfl (Or.inr rfl) (pe_callB (call_max2 rfl) (by rfl) B.max (by decide +kernel) (pa_cons (pe_callB call_len_seq (by rfl) B.len PySem.boot_len (pa_cons (pv 0) pa_nil)) (pa_cons (pe_callB call_len_seq (by rfl) B.len PySem.boot_len (pa_cons (pv 1) pa_nil)) pa_nil))))
      (pss_one (ps_ret (pe_call G__law_trim (hr.mono (by decide)) rfl D__law_trim.g D__law_trim.F.kp D__law_trim.b .nil pass00 (pa_cons (pe_lc (own := [("k", 3)]) rfl sc__law_plus.nd (pi_range1 rfl B.range (pa_cons (pv 2) pa_nil)) (blkOk_by (own := [("k", 3)]) (N := ["p", "q", "size", "k"]) (sc := defScope s__law_plus) (by decide +kernel)) (fun _ _ _ _ _ => (pg_name (i := 3) sc__law_plus.nd rfl (Or.inl rfl) (Or.inr rfl))) (fun _ _ _ _ _ => pts_nil) (fun _ _ _ _ _ => (pe_op op_xor (pe_ix (ix_listK (K := K) rfl) (pe_op op_cat (pv 0) (pe_op op_rep (pe_lst (pa_cons (pe_z 0) pa_nil)) (pv 2))) (pv 3) (fun _ _ => rfl)) (pe_ix (ix_listK (K := K) rfl) (pe_op op_cat (pv 1) (pe_op op_rep (pe_lst (pa_cons (pe_z 0) pa_nil)) (pv 2))) (pv 3) (fun _ _ => rfl))))) pa_nil))))), fun F0 => by infer_instance, fun F0 as S h => ?_⟩)
  obtain ⟨p, q, rfl, hp, hq, hS⟩ := h
  have sl := sizeLine_eq
  have lp := LI_NI_len p
  have lq := LI_NI_len q
  obtain ⟨M, hM⟩ : ∃ M, M = max p.length q.length := ⟨_, rfl⟩
  have eM : (if ((LI (NI q)).length : Int) > ((LI (NI p)).length : Int) then ((LI (NI q)).length : Int) else ((LI (NI p)).length : Int)) = (M : Int) := by
    split <;> omega
  refine dset_go (d := .int (M : Int)) (fun P h => ?_) ?_
  · show P (.val (.int (if ((LI (NI q)).length : Int) > ((LI (NI p)).length : Int) then ((LI (NI q)).length : Int) else ((LI (NI p)).length : Int))))
    rw [eM]; exact h
  have at1 : ∀ (l : List Nat) (k : Nat), k < M → atI (LI (NI l) ++ (List.replicate ((M : Nat) : Int).toNat [PyData.int 0]).flatten) ((0 : Int) + (k : Int)) = some (.int ((l.getD k 0 : Nat) : Int)) := fun l k hk => by
    rw [zeros_app, Int.zero_add]
    exact LI_NI_at (zeros_get hk)
  have sum1 : ∀ l : List Nat, l.length ≤ 900 → (LI (NI l)).length + ((List.replicate ((M : Nat) : Int).toNat [PyData.int 0]).flatten).length ≤ sizeLine := fun l hl => by
    rw [← List.length_append, zeros_app, LI_NI_len, List.length_append, List.length_replicate]; omega
  have one : (1 : Nat) ≤ sizeLine := by omega
  have mul : (1 : Nat) * ((M : Nat) : Int).toNat ≤ sizeLine := by omega
  refine ⟨⟨by omega, by omega⟩, rfl, fun i acc => acc = LI (NI ((plusL p q).take i)), rfl, ?_, ?_⟩
  · rintro i d acc hd rfl
    obtain ⟨hi, rfl⟩ := rangeD_at hd
    have hi' : i < M := by omega
    refine brT ⟨one, by omega, by omega, mul, sum1 p hp, _, at1 p i hi', one, by omega, by omega, mul, sum1 q hq, _, at1 q i hi', ?_, ?_⟩
    · rw [LI_NI_len, List.length_take, plusL_len]; omega
    · show _ ++ [PyData.int (Builtin.bitXor ((p.getD i 0 : Nat) : Int) ((q.getD i 0 : Nat) : Int))] = _
      rw [xor_nn]
      show _ ++ LI (NI [p.getD i 0 ^^^ q.getD i 0]) = _
      rw [NI_app, take_one (plusL_get (by omega))]
  · rintro acc rfl
    have el : (rangeD 0 ((M : Nat) : Int).toNat).length = M := by rw [rangeD_len]; omega
    have ez : (plusL p q).take (rangeD 0 ((M : Nat) : Int).toNat).length = plusL p q := List.take_of_length_le (by rw [el, plusL_len]; omega)
    refine ⟨fun r => r = .ok (.own (LI (NI (trim (sumL p q))))), ⟨sumL p q, ?_, by rw [sum_plus, plusL_len]; omega, rfl⟩, ?_⟩
    · show [SV.val (.list (LI (NI ((plusL p q).take (rangeD 0 ((M : Nat) : Int).toNat).length))))] = _
      rw [ez, sum_plus]
    rintro r rfl
    exact ⟨fun _ => LI_allF _, hS⟩
end
/-! ### the mathematics of bits -/
theorem mod_pow_succ (q i : Nat) : q % 2 ^ (i + 1) = q % 2 ^ i ^^^ (if q / 2 ^ i % 2 = 1 then 2 ^ i else 0) := by
  apply Nat.eq_of_testBit_eq
  intro j
  rw [Nat.testBit_xor, Nat.testBit_mod_two_pow, Nat.testBit_mod_two_pow]
  by_cases e : j = i
  · subst e
    by_cases h : q / 2 ^ j % 2 = 1
    · rw [if_pos h, Nat.testBit_two_pow_self]; simp [Nat.testBit_eq_decide_div_mod_eq, h]
    · rw [if_neg h]; simp [Nat.testBit_eq_decide_div_mod_eq, h]
  · have e2 : (if q / 2 ^ i % 2 = 1 then 2 ^ i else 0).testBit j = false := by
      split
      · rw [Nat.testBit_two_pow]; simp; omega
      · simp
    rw [e2]
    by_cases h : j < i
    · simp [h]; omega
    · have : ¬ j < i + 1 := by omega
      simp [h, this]
theorem times_step (p q i : Nat) : GF.mul p (q % 2 ^ (i + 1)) = GF.mul p (q % 2 ^ i) ^^^ (if q / 2 ^ i % 2 = 1 then 2 ^ i * p else 0) := by
  rw [mod_pow_succ, GF.mul_xor]
  congr 1
  split
  · exact GF.mul_pow _ _
  · exact GF.mul_zero _
theorem bits_lt (q : Nat) : q < 2 ^ NB.bits q := by
  unfold NB.bits
  split
  · rename_i h; subst h; decide
  · exact Nat.lt_log2_self
theorem bits_le {q n : Nat} : NB.bits q ≤ n ↔ q < 2 ^ n := by
  unfold NB.bits
  split
  · rename_i h; subst h; simp [Nat.two_pow_pos]
  · rename_i h2
    exact Nat.log2_lt h2
theorem bits_pos {q : Nat} (h : q ≠ 0) : NB.bits q = q.log2 + 1 := by unfold NB.bits; rw [if_neg h]
theorem bits_deg {q : Nat} (h : q ≠ 0) : GF.Deg q (NB.bits q - 1) := by rw [bits_pos h]; exact GF.deg_log h
/-- the bit is not there -/
theorem or_xor {k s : Nat} (h : k % 2 ^ (s + 1) = 0) : k ||| 2 ^ s = k ^^^ 2 ^ s := by
  have hb : k.testBit s = false := by
    have := Nat.testBit_mod_two_pow k (s + 1) s
    rw [h] at this
    simp at this
    exact this
  apply Nat.eq_of_testBit_eq
  intro j
  rw [Nat.testBit_or, Nat.testBit_xor, Nat.testBit_two_pow]
  by_cases e : s = j
  · subst e; rw [hb]; simp
  · simp [e]
theorem xor_mod_zero {k s t : Nat} (h : k % 2 ^ (s + 1) = 0) (ht : t ≤ s) : (k ^^^ 2 ^ s) % 2 ^ t = 0 := by
  rw [Nat.xor_mod_two_pow]
  have d : 2 ^ t ∣ 2 ^ (s + 1) := Nat.pow_dvd_pow 2 (by omega)
  have d2 : 2 ^ t ∣ 2 ^ s := Nat.pow_dvd_pow 2 ht
  have h1 : k % 2 ^ t = 0 := Nat.mod_eq_zero_of_dvd (Nat.dvd_trans d (Nat.dvd_of_mod_eq_zero h))
  rw [h1, Nat.mod_eq_zero_of_dvd d2]; rfl
theorem div_step {r q s : Nat} (hq : q ≠ 0) (hs : NB.bits r = NB.bits q + s) : NB.bits (r ^^^ 2 ^ s * q) < NB.bits r := by
  have hb := bits_pos hq
  have hr : r ≠ 0 := by intro z; subst z; unfold NB.bits at hs; simp at hs; rw [if_neg hq] at hs; omega
  have dr := bits_deg hr
  have dq := GF.deg_shift (bits_deg hq) s
  have e : s + (NB.bits q - 1) = NB.bits r - 1 := by omega
  rw [e] at dq
  have := bits_le.mpr (GF.deg_xor dr dq)
  omega
theorem xor_swap (a b c : Nat) : a ^^^ c ^^^ (b ^^^ c) = a ^^^ b := by rw [Nat.xor_assoc a c, Nat.xor_comm b c, ← Nat.xor_assoc c c, Nat.xor_self, Nat.zero_xor]
abbrev s__law_times : Stmt := top 36
theorem sc__law_times : FnScope ["p", "q", "total", "k"] ["p", "q"] (defScope s__law_times) := ⟨rfl, rfl, rfl, by decide +kernel, rfl, by decide +kernel, by decide +kernel⟩
section
variable {P : Program} {w : World} {K : PySem.W.Frag} {mg : Str → Option Value} {base : Heap}
def rcLTimes : RC := pur fun as S => ∃ p q : Nat, as = [.val (.int ((p : Nat) : Int)), .val (.int ((q : Nat) : Int))] ∧ p < 2 ^ 20 ∧ q < 2 ^ 36 ∧ S (.ok (.val (.int ((GF.mul p q : Nat) : Int))))
instance : MonoR rcLTimes := inferInstanceAs (MonoR (pur _))
theorem bit_at (q i : Nat) : Builtin.bitAnd ((q : Int) / 2 ^ ((0 : Int) + (i : Int)).toNat) 1 = ((q / 2 ^ i % 2 : Nat) : Int) := by
  rw [show ((0 : Int) + (i : Int)).toNat = i by omega]
  have : (q : Int) / 2 ^ i = ((q / 2 ^ i : Nat) : Int) := by rw [Int.natCast_ediv, Int.natCast_pow]; rfl
  rw [this]
  show Builtin.bitAnd ((q / 2 ^ i : Nat) : Int) ((1 : Nat) : Int) = _
  rw [and_nn, Nat.and_one_is_mod]
theorem ok__law_times {f : Addr} {fd : FuncData} (D : Df K mg "_law_times" ["p", "q"] s__law_times f fd) (B : Bl mg) : FnOk P w K mg base CX0 1 f fd ["p", "q"] (spF rcLTimes) := by
  refine okF D.F sc__law_times (fun F as S h => by obtain ⟨p, q, rfl, _⟩ := h; rfl) (fun cdv A outer s H E hr => ⟨_, _, (pss_cons (ps_set (i := 2) sc__law_times.nd rfl (Or.inl rfl) (pe_z 0))
      (pss_cons (ps_for PassesOwn.never rfl (pi_range1 rfl B.range (pa_cons (pe_z 36) pa_nil)) (pg_name (i := 3) sc__law_times.nd rfl (Or.inl rfl) (Or.inr rfl))
        (pss_one (ps_if (pt_cmpR op_eq (pe_op op_and (pe_op op_shr (pv 1) (pv 3)) (pe_z 1)) (pe_z 1) (nomark _)) (pss_one (ps_set (i := 2) sc__law_times.nd rfl (Or.inl rfl) (pe_op op_xor (pv 2) (pe_op op_shl (pv 0) (pv 3))))) pss_nil)))
      (pss_one (ps_ret (pv 2))))), fun F0 => by infer_instance, fun F0 as S h => ?_⟩)
  obtain ⟨p, q, rfl, hp, hq, hS⟩ := h
  refine ⟨⟨by decide, by decide⟩, rfl, fun i σ => ∃ v : Option SV, σ = [some (.val (.int (p : Int))), some (.val (.int (q : Int))), some (.val (.int ((GF.mul p (q % 2 ^ i) : Nat) : Int))), v], ⟨none, by rw [Nat.pow_zero, Nat.mod_one, GF.mul_zero]; rfl⟩, ?_, ?_⟩
  · rintro i d σ hd ⟨v, rfl⟩
    obtain ⟨hi, rfl⟩ := rangeD_at hd
    have hi' : i < 36 := hi
    have key := times_step p q i
    refine ⟨(show (0 : Int) ≤ 0 + (i : Int) by omega), ?_⟩
    show Br (decide (Builtin.bitAnd ((q : Int) / 2 ^ ((0 : Int) + (i : Int)).toNat) 1 = 1)) _ _
    rw [bit_at]
    refine brD (fun c => ?_) fun c => ?_
    · rw [if_pos (by omega)] at key
      refine ⟨⟨by omega, by omega, by omega⟩, some (.val (.int ((0 : Int) + (i : Int)))), ?_⟩
      have e : Builtin.bitXor ((GF.mul p (q % 2 ^ i) : Nat) : Int) ((p : Int) * 2 ^ ((0 : Int) + (i : Int)).toNat) = ((GF.mul p (q % 2 ^ (i + 1)) : Nat) : Int) := by
        rw [key, show ((0 : Int) + (i : Int)).toNat = i by omega]
        have : (p : Int) * 2 ^ i = ((2 ^ i * p : Nat) : Int) := by rw [Int.natCast_mul, Int.natCast_pow, Int.mul_comm]; rfl
        rw [this]
        exact xor_nn _ _
      rw [← e]; rfl
    · rw [if_neg (by omega), Nat.xor_zero] at key
      refine ⟨some (.val (.int ((0 : Int) + (i : Int)))), ?_⟩
      rw [key]; rfl
  · rintro σ ⟨v, rfl⟩
    have el : (rangeD 0 (36 : Int).toNat).length = 36 := by rw [rangeD_len]; rfl
    have e : q % 2 ^ (rangeD 0 (36 : Int).toNat).length = q := by rw [el]; exact Nat.mod_eq_of_lt hq
    show S (.ok (.val (.int ((GF.mul p (q % 2 ^ (rangeD 0 (36 : Int).toNat).length) : Nat) : Int))))
    rw [e]; exact hS
end
abbrev s__law_degree : Stmt := top 35
theorem sc__law_degree : FnScope ["p", "top", "k"] ["p"] (defScope s__law_degree) := ⟨rfl, rfl, rfl, by decide +kernel, rfl, by decide +kernel, by decide +kernel⟩
section
variable {P : Program} {w : World} {K : PySem.W.Frag} {mg : Str → Option Value} {base : Heap}
theorem shr_pos {p k : Nat} : 0 < p / 2 ^ k ↔ k < NB.bits p := by
  constructor
  · intro h
    apply Classical.byContradiction
    intro n
    have := bits_le.mp (show NB.bits p ≤ k by omega)
    rw [Nat.div_eq_of_lt this] at h
    omega
  · intro h
    apply Nat.div_pos _ (Nat.two_pow_pos k)
    apply Classical.byContradiction
    intro n
    have := bits_le.mpr (show p < 2 ^ k by omega)
    omega
def rcLDeg : RC := pur fun as S => ∃ p : Nat, as = [.val (.int ((p : Nat) : Int))] ∧ p < 2 ^ 70 ∧ S (.ok (.val (.int ((NB.bits p : Nat) - 1 : Int))))
instance : MonoR rcLDeg := inferInstanceAs (MonoR (pur _))
theorem ok__law_degree {f : Addr} {fd : FuncData} (D : Df K mg "_law_degree" ["p"] s__law_degree f fd) (B : Bl mg) : FnOk P w K mg base CX0 1 f fd ["p"] (spF rcLDeg) := by
  refine okF D.F sc__law_degree (fun F as S h => by obtain ⟨p, rfl, _⟩ := h; rfl) (fun cdv A outer s H E hr => ⟨_, _, (pss_cons (ps_set (i := 1) sc__law_degree.nd rfl (Or.inl rfl) (pe_un un_neg (pe_z 1)))
      (pss_cons (ps_for PassesOwn.never rfl (pi_range1 rfl B.range (pa_cons (pe_z 70) pa_nil)) (pg_name (i := 2) sc__law_degree.nd rfl (Or.inl rfl) (Or.inr rfl))
        (pss_one (ps_if (pt_cmpR op_gt (pe_op op_shr (pv 0) (pv 2)) (pe_z 0) (nomark _)) (pss_one (ps_set (i := 1) sc__law_degree.nd rfl (Or.inl rfl) (pv 2))) pss_nil)))
      (pss_one (ps_ret (pv 1))))), fun F0 => by infer_instance, fun F0 as S h => ?_⟩)
  obtain ⟨p, rfl, hp, hS⟩ := h
  have hb := bits_le.mpr hp
  refine ⟨⟨by decide, by decide⟩, rfl, fun i σ => ∃ v : Option SV, σ = [some (.val (.int (p : Int))), some (.val (.int ((Nat.min i (NB.bits p) : Nat) - 1 : Int))), v], ⟨none, by rw [show Nat.min 0 (NB.bits p) = 0 from Nat.zero_min _]; rfl⟩, ?_, ?_⟩
  · rintro i d σ hd ⟨v, rfl⟩
    obtain ⟨hi, rfl⟩ := rangeD_at hd
    have hi' : i < 70 := hi
    refine ⟨(show (0 : Int) ≤ 0 + (i : Int) by omega), ?_⟩
    have eg : (p : Int) / 2 ^ ((0 : Int) + (i : Int)).toNat = ((p / 2 ^ i : Nat) : Int) := by rw [show ((0 : Int) + (i : Int)).toNat = i by omega, Int.natCast_ediv, Int.natCast_pow]; rfl
    show Br (decide (0 < (p : Int) / 2 ^ ((0 : Int) + (i : Int)).toNat)) _ _
    rw [eg]
    refine brD (fun c => ?_) fun c => ?_
    · have c1 : i < NB.bits p := shr_pos.mp (by omega)
      refine ⟨some (.val (.int ((0 : Int) + (i : Int)))), ?_⟩
      have e : ((Nat.min (i + 1) (NB.bits p) : Nat) - 1 : Int) = (0 : Int) + (i : Int) := by
        rw [show Nat.min (i + 1) (NB.bits p) = i + 1 from Nat.min_eq_left (by omega)]; omega
      rw [e]; rfl
    · have c1 : ¬ i < NB.bits p := fun z => c (by have := shr_pos.mpr z; omega)
      refine ⟨some (.val (.int ((0 : Int) + (i : Int)))), ?_⟩
      have e : Nat.min (i + 1) (NB.bits p) = Nat.min i (NB.bits p) := by
        rw [show Nat.min (i + 1) (NB.bits p) = NB.bits p from Nat.min_eq_right (by omega), show Nat.min i (NB.bits p) = NB.bits p from Nat.min_eq_right (by omega)]
      rw [e]; rfl
  · rintro σ ⟨v, rfl⟩
    have el : (rangeD 0 (70 : Int).toNat).length = 70 := by rw [rangeD_len]; rfl
    have e : Nat.min (rangeD 0 (70 : Int).toNat).length (NB.bits p) = NB.bits p := by rw [el]; exact Nat.min_eq_right (by omega)
    show S (.ok (.val (.int ((Nat.min (rangeD 0 (70 : Int).toNat).length (NB.bits p) : Nat) - 1 : Int))))
    rw [e]; exact hS
end
abbrev s__law_divided : Stmt := top 37
theorem sc__law_divided : FnScope ["p", "q", "size", "whole", "k", "shift"] ["p", "q"] (defScope s__law_divided) := ⟨rfl, rfl, rfl, by decide +kernel, rfl, by decide +kernel, by decide +kernel⟩
abbrev s__law_product : Stmt := top 41
theorem sc__law_product : FnScope ["modulus", "e", "f"] ["modulus", "e", "f"] (defScope s__law_product) := ⟨rfl, rfl, rfl, by decide +kernel, rfl, by decide +kernel, by decide +kernel⟩
section
variable {P : Program} {w : World} {K : PySem.W.Frag} {mg : Str → Option Value} {base : Heap}
theorem or_add {k s : Nat} (h : k % 2 ^ (s + 1) = 0) : k + 2 ^ s = k ^^^ 2 ^ s := by
  rw [← or_xor h]
  have e : k = 2 ^ (s + 1) * (k / 2 ^ (s + 1)) := by
    have := Nat.div_add_mod k (2 ^ (s + 1)); omega
  rw [e]
  exact Nat.two_pow_add_eq_or_of_lt (Nat.pow_lt_pow_right (by decide) (by omega)) _
theorem bit_test {p n : Nat} (h : p < 2 ^ (n + 1)) : p / 2 ^ n % 2 = 1 ↔ GF.Deg p n := by
  rw [GF.deg_top h, Nat.testBit_eq_decide_div_mod_eq, decide_eq_true_eq]
theorem bit_at2 (r a b : Nat) : Builtin.bitAnd ((r : Int) / 2 ^ (((a : Nat) : Int) + ((b : Nat) : Int)).toNat) 1 = ((r / 2 ^ (a + b) % 2 : Nat) : Int) := by
  rw [show (((a : Nat) : Int) + ((b : Nat) : Int)).toNat = a + b by omega]
  have : (r : Int) / 2 ^ (a + b) = ((r / 2 ^ (a + b) : Nat) : Int) := by rw [Int.natCast_ediv, Int.natCast_pow]; rfl
  rw [this]
  show Builtin.bitAnd ((r / 2 ^ (a + b) : Nat) : Int) ((1 : Nat) : Int) = _
  rw [and_nn, Nat.and_one_is_mod]
def rcLDiv : RC := pur fun as S => ∃ p q : Nat, as = [.val (.int ((p : Nat) : Int)), .val (.int ((q : Nat) : Int))] ∧ p < 2 ^ 50 ∧ q < 2 ^ 20 ∧ q ≠ 0 ∧ S (.ok (.val (.tuple [.int ((GF.pdiv p q : Nat) : Int), .int ((GF.pmod p q : Nat) : Int)])))
instance : MonoR rcLDiv := inferInstanceAs (MonoR (pur _))
theorem ok__law_divided {f f__law_degree : Addr} {fd fd__law_degree : FuncData} (D : Df K mg "_law_divided" ["p", "q"] s__law_divided f fd) (B : Bl mg)
    (D__law_degree : Df K mg "_law_degree" ["p"] s__law_degree f__law_degree fd__law_degree) (G__law_degree : FnOk P w K mg base CX0 1 f__law_degree fd__law_degree ["p"] (spF rcLDeg)) : FnOk P w K mg base CX0 2 f fd ["p", "q"] (spF rcLDiv) := by
  refine okF D.F sc__law_divided (fun F as S h => by obtain ⟨p, q, rfl, _⟩ := h; rfl) (fun cdv A outer s H E hr => ⟨_, _, (pss_cons (ps_set (i := 2) sc__law_divided.nd rfl (Or.inl rfl) (pe_call G__law_degree (hr.mono (by decide)) rfl D__law_degree.g D__law_degree.F.kp D__law_degree.b .nil pass00 (pa_cons (pv 1) pa_nil)))
      (pss_cons (ps_set (i := 3) sc__law_divided.nd rfl (Or.inl rfl) (pe_z 0))
      (pss_cons (ps_for PassesOwn.never rfl (pi_range1 rfl B.range (pa_cons (pe_z 70) pa_nil)) (pg_name (i := 4) sc__law_divided.nd rfl (Or.inl rfl) (Or.inr rfl))
        (pss_cons (ps_set (i := 5) sc__law_divided.nd rfl (Or.inl rfl) (pe_op op_sub (pe_z 69) (pv 4)))
        (pss_one (ps_if (pt_cmpR op_eq (pe_op op_and (pe_op op_shr (pv 0) (pe_op op_add (pv 5) (pv 2))) (pe_z 1)) (pe_z 1) (nomark _)) (pss_cons (ps_set (i := 0) sc__law_divided.nd rfl (Or.inl rfl) (pe_op op_xor (pv 0) (pe_op op_shl (pv 1) (pv 5))))
          (pss_one (ps_set (i := 3) sc__law_divided.nd rfl (Or.inl rfl) (pe_op op_add (pv 3) (pe_op op_shl (pe_z 1) (pv 5)))))) pss_nil))))
      (pss_one (ps_ret (pe_tup (pa_cons (pv 3) (pa_cons (pv 0) pa_nil)))))))), fun F0 => by infer_instance, fun F0 as S h => ?_⟩)
  obtain ⟨p, q, rfl, hp, hq, q0, hS⟩ := h
  have hb := bits_pos q0
  have hl64 : q.log2 < 20 := (Nat.log2_lt q0).mpr hq
  refine ⟨fun x => x = .ok (.val (.int ((q.log2 : Nat) : Int))), ⟨q, rfl, by omega, by rw [show ((NB.bits q : Nat) - 1 : Int) = ((q.log2 : Nat) : Int) by omega]⟩, ?_⟩
  rintro x rfl
  refine ⟨fun _ => rfl, ?_⟩
  refine ⟨⟨by decide, by decide⟩, rfl, fun i σ => ∃ (r ww : Nat) (v5 v6 : Option SV), σ = [some (.val (.int (r : Int))), some (.val (.int (q : Int))), some (.val (.int ((q.log2 : Nat) : Int))), some (.val (.int (ww : Int))), v5, v6] ∧ p = GF.mul ww q ^^^ r ∧ r < 2 ^ (70 - i + q.log2) ∧ ww % 2 ^ (70 - i) = 0, ⟨p, 0, none, none, rfl, by rw [GF.zero_mul, Nat.zero_xor], Nat.lt_of_lt_of_le hp (Nat.pow_le_pow_right (by decide) (by omega)), rfl⟩, ?_, ?_⟩
  · rintro i d σ hd ⟨r, ww, v5, v6, rfl, hpk, hr', hw⟩
    obtain ⟨hi, rfl⟩ := rangeD_at hd
    have hi' : i < 70 := hi
    have e1 : 70 - i = (69 - i) + 1 := by omega
    have e2 : 70 - (i + 1) = 69 - i := by omega
    have e3 : 70 - i + q.log2 = (69 - i + q.log2) + 1 := by omega
    rw [e3] at hr'
    rw [e1] at hw
    have es : (69 : Int) - ((0 : Int) + (i : Int)) = ((69 - i : Nat) : Int) := by omega
    refine dset_go (d := .int ((69 - i : Nat) : Int)) (fun P h => ?_) ?_
    · show P (.val (.int ((69 : Int) - ((0 : Int) + (i : Int)))))
      rw [es]; exact h
    have ep : ((69 - i : Nat) : Int).toNat = 69 - i := by omega
    refine ⟨(show (0 : Int) ≤ ((69 - i : Nat) : Int) + ((q.log2 : Nat) : Int) by omega), ?_⟩
    show Br (decide (Builtin.bitAnd ((r : Int) / 2 ^ (((69 - i : Nat) : Int) + ((q.log2 : Nat) : Int)).toNat) 1 = 1)) _ _
    rw [bit_at2]
    refine brD (fun c => ?_) fun c => ?_
    · have dr := (bit_test hr').mp (by omega)
      have dq := GF.deg_shift (GF.deg_log q0) (69 - i)
      have eq1 : (q : Int) * 2 ^ ((69 - i : Nat) : Int).toNat = ((2 ^ (69 - i) * q : Nat) : Int) := by rw [ep, Int.natCast_mul, Int.natCast_pow, Int.mul_comm]; rfl
      have eq2 : (1 : Int) * 2 ^ ((69 - i : Nat) : Int).toNat = ((2 ^ (69 - i) : Nat) : Int) := by rw [ep, Int.one_mul, Int.natCast_pow]; rfl
      refine dset_go (d := .int ((r ^^^ 2 ^ (69 - i) * q : Nat) : Int)) (fun P h => ⟨⟨by omega, by omega, by omega⟩, ?_⟩) ?_
      · show P (.val (.int (Builtin.bitXor (r : Int) ((q : Int) * 2 ^ ((69 - i : Nat) : Int).toNat))))
        rw [eq1, xor_nn]; exact h
      refine ⟨⟨by omega, by omega, by decide⟩, r ^^^ 2 ^ (69 - i) * q, ww ^^^ 2 ^ (69 - i), some (.val (.int ((0 : Int) + (i : Int)))), some (.val (.int ((69 - i : Nat) : Int))), ?_, ?_, ?_, ?_⟩
      · have e : (ww : Int) + 1 * 2 ^ ((69 - i : Nat) : Int).toNat = ((ww ^^^ 2 ^ (69 - i) : Nat) : Int) := by rw [eq2, ← or_add hw, Int.natCast_add]
        rw [← e]; rfl
      · rw [GF.xor_mul, GF.pow_mul, hpk, xor_swap]
      · rw [e2]; exact GF.deg_xor dr dq
      · rw [e2]; exact xor_mod_zero hw (Nat.le_refl _)
    · have dr : ¬ GF.Deg r (69 - i + q.log2) := fun z => c (by have := (bit_test hr').mpr z; omega)
      refine ⟨r, ww, some (.val (.int ((0 : Int) + (i : Int)))), some (.val (.int ((69 - i : Nat) : Int))), rfl, hpk, ?_, ?_⟩
      · rw [e2]
        rcases Nat.lt_or_ge r (2 ^ (69 - i + q.log2)) with l | g
        · exact l
        · exact absurd ⟨g, hr'⟩ dr
      · rw [e2]
        exact Nat.mod_eq_zero_of_dvd (Nat.dvd_trans (Nat.pow_dvd_pow 2 (by omega)) (Nat.dvd_of_mod_eq_zero hw))
  · rintro σ ⟨r, ww, v5, v6, rfl, hpk, hr', hw⟩
    have el : (rangeD 0 (70 : Int).toNat).length = 70 := by rw [rangeD_len]; rfl
    rw [el, Nat.sub_self, Nat.zero_add] at hr'
    obtain ⟨e1, e2⟩ := GF.mod_of q0 hr' hpk
    rw [e1, e2] at hS
    exact ⟨by show 2 ≤ sizeLine; decide, hS⟩
def rcLProd : RC := pur fun as S => ∃ m e f : Nat, as = [.val (.int ((m : Nat) : Int)), .val (.int ((e : Nat) : Int)), .val (.int ((f : Nat) : Int))] ∧ m < 2 ^ 20 ∧ m ≠ 0 ∧ e < 2 ^ 16 ∧ f < 2 ^ 16 ∧ S (.ok (.val (.int ((FLD.mulm m e f : Nat) : Int))))
instance : MonoR rcLProd := inferInstanceAs (MonoR (pur _))
end
abbrev s__law_at_point : Stmt := top 47
theorem sc__law_at_point : FnScope ["modulus", "p", "e", "total", "k"] ["modulus", "p", "e"] (defScope s__law_at_point) := ⟨rfl, rfl, rfl, by decide +kernel, rfl, by decide +kernel, by decide +kernel⟩
section
variable {P : Program} {w : World} {K : PySem.W.Frag} {mg : Str → Option Value} {base : Heap}
open FLD PLY
theorem mul_lt {p q i j : Nat} (hp : p < 2 ^ i) (hq : q < 2 ^ j) : GF.mul p q < 2 ^ (i + j) := by
  by_cases p0 : p = 0
  · subst p0; rw [GF.zero_mul]; exact Nat.two_pow_pos _
  · by_cases q0 : q = 0
    · subst q0; rw [GF.mul_zero]; exact Nat.two_pow_pos _
    · have h1 := (Nat.log2_lt p0).mpr hp
      have h2 := (Nat.log2_lt q0).mpr hq
      have := (GF.mul_deg (GF.deg_log p0) (GF.deg_log q0)).2
      exact Nat.lt_of_lt_of_le this (Nat.pow_le_pow_right (by decide) (by omega))
theorem ok__law_product {f f__law_divided f__law_times : Addr} {fd fd__law_divided fd__law_times : FuncData} (D : Df K mg "_law_product" ["modulus", "e", "f"] s__law_product f fd)
    (D__law_divided : Df K mg "_law_divided" ["p", "q"] s__law_divided f__law_divided fd__law_divided) (G__law_divided : FnOk P w K mg base CX0 2 f__law_divided fd__law_divided ["p", "q"] (spF rcLDiv))
    (D__law_times : Df K mg "_law_times" ["p", "q"] s__law_times f__law_times fd__law_times) (G__law_times : FnOk P w K mg base CX0 1 f__law_times fd__law_times ["p", "q"] (spF rcLTimes)) : FnOk P w K mg base CX0 3 f fd ["modulus", "e", "f"] (spF rcLProd) := by
  refine okF D.F sc__law_product (fun F as S h => by obtain ⟨m, e, f, rfl, _⟩ := h; rfl) (fun cdv A outer s H E hr => ⟨_, _, (pss_one (ps_ret (pe_ix ix_tup (pe_call G__law_divided (hr.mono (by decide)) rfl D__law_divided.g D__law_divided.F.kp D__law_divided.b .nil pass00 (pa_cons (pe_call G__law_times (hr.mono (by decide)) rfl D__law_times.g D__law_times.F.kp D__law_times.b .nil pass00 (pa_cons (pv 1) (pa_cons (pv 2) pa_nil))) (pa_cons (pv 0) pa_nil))) (pe_z 1) (fun _ _ => rfl)))), fun F0 => by infer_instance, fun F0 as S h => ?_⟩)
  obtain ⟨m, e, f, rfl, hm, m0, he, hf, hS⟩ := h
  refine ⟨fun x => x = .ok (.val (.int ((GF.mul e f : Nat) : Int))), ⟨e, f, rfl, by omega, by omega, rfl⟩, ?_⟩
  rintro x rfl
  have hl : GF.mul e f < 2 ^ 50 := Nat.lt_of_lt_of_le (mul_lt he hf) (by decide)
  refine ⟨fun _ => rfl, fun x => x = .ok (.val (.tuple [.int ((GF.pdiv (GF.mul e f) m : Nat) : Int), .int ((GF.pmod (GF.mul e f) m : Nat) : Int)])), ⟨GF.mul e f, m, rfl, hl, hm, m0, rfl⟩, ?_⟩
  rintro x rfl
  exact ⟨fun z => Bool.noConfusion z, _, rfl, hS⟩
def rcLAt : RC := pur fun as S => ∃ (m q a : Nat) (ps : List Nat), as = [.val (.int ((q : Nat) : Int)), .val (.list (LI (NI ps))), .val (.int ((a : Nat) : Int))] ∧ Fd m q ∧ a < 2 ^ m ∧ (∀ b ∈ ps, b < 2 ^ m) ∧ ps.length ≤ 1000 ∧ S (.ok (.val (.int (ev q a ps : Nat))))
instance : MonoR rcLAt := inferInstanceAs (MonoR (pur _))
theorem ok__law_at_point {f f__law_product : Addr} {fd fd__law_product : FuncData} (D : Df K mg "_law_at_point" ["modulus", "p", "e"] s__law_at_point f fd) (B : Bl mg)
    (D__law_product : Df K mg "_law_product" ["modulus", "e", "f"] s__law_product f__law_product fd__law_product) (G__law_product : FnOk P w K mg base CX0 3 f__law_product fd__law_product ["modulus", "e", "f"] (spF rcLProd)) : FnOk P w K mg base CX0 4 f fd ["modulus", "p", "e"] (spF rcLAt) := by
  refine okF D.F sc__law_at_point (fun F as S h => by obtain ⟨m, q, a, p, rfl, _⟩ := h; rfl) (fun cdv A outer s H E hr => ⟨_, _, (pss_cons (ps_set (i := 3) sc__law_at_point.nd rfl (Or.inl rfl) (pe_z 0))
      (pss_cons (ps_for PassesOwn.never rfl (pi_range1 rfl B.range (pa_cons (pe_callB call_len_seq (by rfl) B.len PySem.boot_len (pa_cons (pv 1) pa_nil)) pa_nil)) (pg_name (i := 4) sc__law_at_point.nd rfl (Or.inl rfl) (Or.inr rfl))
        (pss_one (ps_set (i := 3) sc__law_at_point.nd rfl (Or.inl rfl) (pe_op op_xor (pe_call G__law_product (hr.mono (by decide)) rfl D__law_product.g D__law_product.F.kp D__law_product.b .nil pass00 (pa_cons (pv 0) (pa_cons (pv 3) (pa_cons (pv 2) pa_nil)))) (pe_ix ix_list (pv 1) (pe_op op_sub (pe_op op_sub (pe_callB call_len_seq (by rfl) B.len PySem.boot_len (pa_cons (pv 1) pa_nil)) (pe_z 1)) (pv 4)) (fun _ _ => rfl))))))
      (pss_one (ps_ret (pv 3))))), fun F0 => by infer_instance, fun F0 as S h => ?_⟩)
  obtain ⟨m, q, a, ps, rfl, O, ha, hp, hl, hS⟩ := h
  have sl := sizeLine_eq
  have lp := LI_NI_len ps
  obtain ⟨p4, p256⟩ := pow_mF O
  have q5 := q_512 O
  have q00 := FLD.q0 O
  refine ⟨⟨by omega, by omega⟩, rfl, fun i σ => ∃ v : Option SV, σ = [some (.val (.int (q : Int))), some (.val (.list (LI (NI ps)))), some (.val (.int (a : Int))), some (.val (.int (ev q a (ps.drop (ps.length - i)) : Nat))), v], ⟨none, ?_⟩, ?_, ?_⟩
  · rw [Nat.sub_zero, List.drop_length]; rfl
  · rintro i d σ hd ⟨v, rfl⟩
    obtain ⟨hi, rfl⟩ := rangeD_at hd
    have hi' : i < ps.length := by have h := hi; rw [lp] at h; omega
    have evb := ev_lt O (x := a) (p := ps.drop (ps.length - i)) fun b h => hp b (List.mem_of_mem_drop h)
    obtain ⟨b, hb⟩ : ∃ b, ps[ps.length - 1 - i]? = some b := ⟨_, List.getElem?_eq_getElem (by omega)⟩
    have hdr : ps.drop (ps.length - (i + 1)) = b :: ps.drop (ps.length - i) := by
      have h1 : ps.length - 1 - i < ps.length := by omega
      have e1 : ps.length - (i + 1) = ps.length - 1 - i := by omega
      have e2 : ps.length - i = ps.length - 1 - i + 1 := by omega
      rw [e1, e2, List.drop_eq_getElem_cons h1]
      congr 1
      exact (List.getElem?_eq_some_iff.mp hb).2
    refine ⟨fun x => x = .ok (.val (.int (mulm q (ev q a (ps.drop (ps.length - i))) a : Nat))), ⟨q, ev q a (ps.drop (ps.length - i)), a, rfl, by omega, q00, by omega, by omega, rfl⟩, ?_⟩
    rintro x rfl
    have ei : (((LI (NI ps)).length : Nat) : Int) - 1 - ((0 : Int) + (i : Int)) = ((ps.length - 1 - i : Nat) : Int) := by omega
    refine ⟨fun _ => rfl, .int (b : Int), by show atI _ ((((LI (NI ps)).length : Nat) : Int) - 1 - ((0 : Int) + (i : Int))) = _; rw [ei]; exact LI_NI_at hb, some (.val (.int ((0 : Int) + (i : Int)))), ?_⟩
    have e : Builtin.bitXor ((mulm q (ev q a (ps.drop (ps.length - i))) a : Nat) : Int) (b : Int) = ((ev q a (ps.drop (ps.length - (i + 1))) : Nat) : Int) := by
      rw [hdr, ev_cons]; exact xor_nn _ _
    rw [← e]; rfl
  · rintro σ ⟨v, rfl⟩
    have el : (rangeD 0 (((LI (NI ps)).length : Nat) : Int).toNat).length = ps.length := by rw [rangeD_len, lp]; omega
    have e : ps.drop (ps.length - (rangeD 0 (((LI (NI ps)).length : Nat) : Int).toNat).length) = ps := by rw [el, Nat.sub_self, List.drop_zero]
    show S (.ok (.val (.int (ev q a (ps.drop (ps.length - (rangeD 0 (((LI (NI ps)).length : Nat) : Int).toNat).length)) : Nat))))
    rw [e]; exact hS
end
abbrev s__law_inverse : Stmt := top 43
theorem sc__law_inverse : FnScope ["m", "modulus", "e", "f"] ["m", "modulus", "e"] (defScope s__law_inverse) := ⟨rfl, rfl, rfl, by decide +kernel, rfl, by decide +kernel, by decide +kernel⟩
section
variable {P : Program} {w : World} {K : PySem.W.Frag} {mg : Str → Option Value} {base : Heap}
open FLD PLY
theorem inv_ex {m q e : Nat} (F : Fd m q) (e0 : e ≠ 0) (he : e < 2 ^ m) : ∃ v, v < 2 ^ m ∧ v ≠ 0 ∧ mulm q e v = 1 := by
  obtain ⟨r, R⟩ := root_ex F
  have h := pw_all F R e0 he
  obtain ⟨h4, _⟩ := pow_mF F
  refine ⟨pw q e (2 ^ m - 2), pw_lt F _ _, pw_ne F he e0 _, ?_⟩
  rw [mulm_comm]
  show pw q e (2 ^ m - 2 + 1) = 1
  rw [show 2 ^ m - 2 + 1 = 2 ^ m - 1 by omega]
  exact h
def rcLInv : RC := pur fun as S => ∃ m q e v : Nat, as = [.val (.int ((m : Nat) : Int)), .val (.int ((q : Nat) : Int)), .val (.int ((e : Nat) : Int))] ∧ Fd m q ∧ e ≠ 0 ∧ e < 2 ^ m ∧ v < 2 ^ m ∧ mulm q e v = 1 ∧ S (.ok (.val (.int ((v : Nat) : Int))))
instance : MonoR rcLInv := inferInstanceAs (MonoR (pur _))
theorem ok__law_inverse {f f__law_product : Addr} {fd fd__law_product : FuncData} (D : Df K mg "_law_inverse" ["m", "modulus", "e"] s__law_inverse f fd) (B : Bl mg)
    (D__law_product : Df K mg "_law_product" ["modulus", "e", "f"] s__law_product f__law_product fd__law_product) (G__law_product : FnOk P w K mg base CX0 3 f__law_product fd__law_product ["modulus", "e", "f"] (spF rcLProd)) :
    FnOk P w K mg base CX0 4 f fd ["m", "modulus", "e"] (spF rcLInv) := by
  refine okF D.F sc__law_inverse (fun F as S h => by obtain ⟨m, q, e, v, rfl, _⟩ := h; rfl) (fun cdv A outer s H E hr => ⟨_, _, (pss_cons (ps_for PassesOwn.never rfl (pi_range2 rfl B.range (pa_cons (pe_z 1) (pa_cons (pe_op op_shl (pe_z 1) (pv 0)) pa_nil))) (pg_name (i := 3) sc__law_inverse.nd rfl (Or.inl rfl) (Or.inr rfl))
        (pss_one (ps_if (pt_cmpR op_eq (pe_call G__law_product (hr.mono (by decide)) rfl D__law_product.g D__law_product.F.kp D__law_product.b .nil pass00 (pa_cons (pv 1) (pa_cons (pv 2) (pa_cons (pv 3) pa_nil)))) (pe_z 1) (nomark _)) (pss_one (ps_ret (pv 3))) pss_nil)))
      (pss_one (ps_ret pe_non))), fun F0 => by infer_instance, fun F0 as S h => ?_⟩)
  obtain ⟨m, q, e, v, rfl, F, e0, he, v1, v2, hS⟩ := h
  obtain ⟨hm4, hm256⟩ := pow_mF F
  have hm8 := F.h8
  have q5 := q_512 F
  have q00 := FLD.q0 F
  have v0 : v ≠ 0 := fun z => by subst z; rw [mulm_zero F] at v2; exact absurd v2 (by decide)
  have ep : (1 : Int) * 2 ^ ((m : Nat) : Int).toNat = ((2 ^ m : Nat) : Int) := by rw [Int.toNat_natCast, Int.one_mul, Int.natCast_pow]; rfl
  refine ⟨⟨by omega, by omega, by decide⟩, ?_⟩
  have bd : -(2 ^ 62) ≤ (1 : Int) ∧ (1 : Int) < 2 ^ 62 ∧ -(2 ^ 62) ≤ (1 : Int) * 2 ^ ((m : Nat) : Int).toNat ∧ (1 : Int) * 2 ^ ((m : Nat) : Int).toNat < 2 ^ 62 := by rw [ep]; omega
  refine ⟨bd, rfl, fun i σ => ∃ o : Option SV, σ = [some (.val (.int (m : Int))), some (.val (.int (q : Int))), some (.val (.int (e : Int))), o] ∧ i + 1 ≤ v, ⟨none, rfl, by omega⟩, ?_, ?_⟩
  · rintro i d σ hd ⟨o, rfl, hv⟩
    obtain ⟨hi, rfl⟩ := rangeD_at hd
    have e1 : (1 : Int) + (i : Int) = ((i + 1 : Nat) : Int) := by omega
    refine ⟨fun x => x = .ok (.val (.int (mulm q e (i + 1) : Nat))), ⟨q, e, i + 1, by rw [← e1]; rfl, by omega, q00, by omega, by omega, rfl⟩, ?_⟩
    rintro x rfl
    refine ⟨fun _ => rfl, ?_⟩
    refine brD (fun c => ?_) fun c => ?_
    · have c1 : mulm q e (i + 1) = 1 := by omega
      have ev : i + 1 = v := mulm_cancel F (show i + 1 < 2 ^ m by omega) v1 he e0 (by rw [mulm_comm, c1, mulm_comm, v2])
      show S (.ok (.val (.int ((1 : Int) + (i : Int)))))
      rw [e1, ev]; exact hS
    · refine ⟨some (.val (.int ((1 : Int) + (i : Int)))), rfl, ?_⟩
      have : i + 1 ≠ v := fun z => by rw [z, v2] at c; exact c rfl
      omega
  · rintro σ ⟨o, rfl, hv⟩
    have el : (rangeD 1 ((1 : Int) * 2 ^ ((m : Nat) : Int).toNat - 1).toNat).length = 2 ^ m - 1 := by rw [rangeD_len, ep]; omega
    rw [el] at hv
    omega
end
abbrev s__law_mul : Stmt := top 46
theorem sc__law_mul : FnScope ["modulus", "p", "q", "total", "i", "j"] ["modulus", "p", "q"] (defScope s__law_mul) := ⟨rfl, rfl, rfl, by decide +kernel, rfl, by decide +kernel, by decide +kernel⟩
section
variable {P : Program} {w : World} {K : PySem.W.Frag} {mg : Str → Option Value} {base : Heap}
open FLD PLY
theorem NI_set (t : List Nat) (k c : Nat) : (LI (NI t)).set k (.int ((c : Nat) : Int)) = LI (NI (t.set k c)) := by unfold LI NI; rw [List.map_set, List.map_set]
theorem drop_of {l : List Nat} {i e : Nat} (h : l[i]? = some e) : l.drop i = e :: l.drop (i + 1) := by
  rw [List.drop_eq_getElem_cons (List.getElem?_eq_some_iff.mp h).1]
  congr 1
  exact (List.getElem?_eq_some_iff.mp h).2
def rcLMul : RC := pur fun as S => ∃ (m q : Nat) (p s : List Nat), as = [.val (.int ((q : Nat) : Int)), .val (.list (LI (NI p))), .val (.list (LI (NI s)))] ∧ Fd m q ∧ (∀ c ∈ p, c < 2 ^ m) ∧ (∀ c ∈ s, c < 2 ^ m) ∧ p.length ≤ 400 ∧ s.length ≤ 400 ∧ S (.ok (.own (LI (NI (trim (conv q p s))))))
instance : MonoR rcLMul := inferInstanceAs (MonoR (pur _))
theorem ok__law_mul {f f__law_trim f__law_product : Addr} {fd fd__law_trim fd__law_product : FuncData} (D : Df K mg "_law_mul" ["modulus", "p", "q"] s__law_mul f fd) (B : Bl mg)
    (D__law_trim : Df K mg "_law_trim" ["poly"] s__law_trim f__law_trim fd__law_trim) (G__law_trim : FnOk P w K mg base CX0 1 f__law_trim fd__law_trim ["poly"] (spF rcTrim))
    (D__law_product : Df K mg "_law_product" ["modulus", "e", "f"] s__law_product f__law_product fd__law_product) (G__law_product : FnOk P w K mg base CX0 3 f__law_product fd__law_product ["modulus", "e", "f"] (spF rcLProd)) :
    FnOk P w K mg base CX0 4 f fd ["modulus", "p", "q"] (spF rcLMul) := by
  refine okF D.F sc__law_mul (fun F as S h => by obtain ⟨m, q, p, s, rfl, _⟩ := h; rfl) (fun cdv A outer s0 H E hr => ⟨_, _, (pss_cons (ps_set (i := 3) sc__law_mul.nd rfl (Or.inl rfl) (pe_op op_rep (pe_lst (pa_cons (pe_z 0) pa_nil)) (pe_op op_add (pe_callB call_len_seq (by rfl) B.len PySem.boot_len (pa_cons (pv 1) pa_nil)) (pe_callB call_len_seq (by rfl) B.len PySem.boot_len (pa_cons (pv 2) pa_nil)))))
      (pss_cons (ps_for PassesOwn.never rfl (pi_range1 rfl B.range (pa_cons (pe_callB call_len_seq (by rfl) B.len PySem.boot_len (pa_cons (pv 1) pa_nil)) pa_nil)) (pg_name (i := 4) sc__law_mul.nd rfl (Or.inl rfl) (Or.inr rfl))
        (pss_one (ps_for PassesOwn.never rfl (pi_range1 rfl B.range (pa_cons (pe_callB call_len_seq (by rfl) B.len PySem.boot_len (pa_cons (pv 2) pa_nil)) pa_nil)) (pg_name (i := 5) sc__law_mul.nd rfl (Or.inl rfl) (Or.inr rfl))
          (pss_one (ps_asg (pe_op op_xor (pe_ix ix_list (pv 3) (pe_op op_add (pv 4) (pv 5)) (fun _ _ => rfl)) (pe_call G__law_product (hr.mono (by decide)) rfl D__law_product.g D__law_product.F.kp D__law_product.b .nil pass00 (pa_cons (pv 0) (pa_cons (pe_ix ix_list (pv 1) (pv 4) (fun _ _ => rfl)) (pa_cons (pe_ix ix_list (pv 2) (pv 5) (fun _ _ => rfl)) pa_nil))))) (pg_sub (pv 3) (pe_op op_add (pv 4) (pv 5)) set_list))))))
      (pss_one (ps_ret (pe_call G__law_trim (hr.mono (by decide)) rfl D__law_trim.g D__law_trim.F.kp D__law_trim.b .nil pass00 (pa_cons (pv 3) pa_nil)))))), fun F0 => by infer_instance, fun F0 as S h => ?_⟩)
  obtain ⟨m, q, p, s, rfl, F, hEp, hEs, hp, hs, hS⟩ := h
  have sl := sizeLine_eq
  have lp := LI_NI_len p
  have ls := LI_NI_len s
  obtain ⟨hm4, hm256⟩ := pow_mF F
  have q5 := q_512 F
  have q00 := FLD.q0 F
  have e0 : (List.replicate ((((LI (NI p)).length : Nat) : Int) + (((LI (NI s)).length : Nat) : Int)).toNat [PyData.int 0]).flatten = LI (NI (List.replicate (p.length + s.length) 0)) := by
    have := zeros_app [] (p.length + s.length)
    have e : (((LI (NI p)).length : Nat) : Int) + (((LI (NI s)).length : Nat) : Int) = ((p.length + s.length : Nat) : Int) := by omega
    rw [e]
    exact this
  refine ⟨(show 1 ≤ sizeLine by omega), by omega, by omega, (show (1 : Nat) * ((((LI (NI p)).length : Nat) : Int) + (((LI (NI s)).length : Nat) : Int)).toNat ≤ sizeLine by omega), .inl ?_⟩
  refine ⟨⟨by omega, by omega⟩, rfl, fun i σ => ∃ (t : List Nat) (v4 v5 : Option SV), σ = [some (.val (.int (q : Int))), some (.val (.list (LI (NI p)))), some (.val (.list (LI (NI s)))), some (.own (LI (NI t))), v4, v5] ∧ t.length = p.length + s.length ∧ (∀ c ∈ t, c < 2 ^ m) ∧ rows q s (p.drop i) i t = conv q p s,
    ⟨List.replicate (p.length + s.length) 0, none, none, ?_, List.length_replicate, fun c hc => by rw [(List.mem_replicate.mp hc).2]; exact Nat.two_pow_pos _, rfl⟩, ?_, ?_⟩
  · rw [← e0]; rfl
  · rintro i d σ hd ⟨t, v4, v5, rfl, tl1, tE, tR⟩
    obtain ⟨hi, rfl⟩ := rangeD_at hd
    have hil : i < p.length := by have h := hi; rw [lp] at h; omega
    obtain ⟨e, he⟩ : ∃ e, p[i]? = some e := ⟨_, List.getElem?_eq_getElem hil⟩
    rw [drop_of he] at tR
    have tR' : rows q s (p.drop (i + 1)) (i + 1) (row q e s i t) = conv q p s := tR
    refine ⟨⟨by omega, by omega⟩, rfl, fun j σ => ∃ (t : List Nat) (v5 : Option SV), σ = [some (.val (.int (q : Int))), some (.val (.list (LI (NI p)))), some (.val (.list (LI (NI s)))), some (.own (LI (NI t))), some (.val (.int ((0 : Int) + (i : Int)))), v5] ∧ t.length = p.length + s.length ∧ (∀ c ∈ t, c < 2 ^ m) ∧ rows q s (p.drop (i + 1)) (i + 1) (row q e (s.drop j) (i + j) t) = conv q p s,
      ⟨t, v5, rfl, tl1, tE, tR'⟩, ?_, ?_⟩
    · rintro j d σ hd ⟨t, v5, rfl, tl3, tE3, tR3⟩
      obtain ⟨hj, rfl⟩ := rangeD_at hd
      have hjl : j < s.length := by have h := hj; rw [ls] at h; omega
      obtain ⟨d, hd'⟩ : ∃ d, s[j]? = some d := ⟨_, List.getElem?_eq_getElem hjl⟩
      obtain ⟨c, hc⟩ : ∃ c, t[i + j]? = some c := ⟨_, List.getElem?_eq_getElem (by omega)⟩
      rw [drop_of hd'] at tR3
      have tR4 : rows q s (p.drop (i + 1)) (i + 1) (row q e (s.drop (j + 1)) (i + j + 1) (t.set (i + j) (t.getD (i + j) 0 ^^^ mulm q e d))) = conv q p s := tR3
      rw [List.getD_eq_getElem?_getD, hc, Option.getD_some] at tR4
      have heb := hEp _ (List.mem_of_getElem? he)
      have hdb := hEs _ (List.mem_of_getElem? hd')
      have ij : (0 : Int) + (i : Int) + ((0 : Int) + (j : Int)) = ((i + j : Nat) : Int) := by omega
      have zi : (0 : Int) + (i : Int) = (i : Int) := by omega
      have zj : (0 : Int) + (j : Int) = (j : Int) := by omega
      refine ⟨.int (c : Int), by show atI _ ((0 : Int) + (i : Int) + ((0 : Int) + (j : Int))) = _; rw [ij]; exact LI_NI_at hc, .int (e : Int), by show atI _ ((0 : Int) + (i : Int)) = _; rw [zi]; exact LI_NI_at he, .int (d : Int), by show atI _ ((0 : Int) + (j : Int)) = _; rw [zj]; exact LI_NI_at hd',
        fun x => x = .ok (.val (.int (mulm q e d : Nat))), ⟨q, e, d, rfl, by omega, q00, by omega, by omega, rfl⟩, ?_⟩
      rintro x rfl
      refine ⟨fun _ => rfl, i + j, ?_, t.set (i + j) (c ^^^ mulm q e d), some (.val (.int ((0 : Int) + (j : Int)))), ?_, ?_, ?_, tR4⟩
      · rw [LI_NI_len]
        show ixN t.length ((0 : Int) + (i : Int) + ((0 : Int) + (j : Int))) = _
        rw [ij, ixN_pos (by omega) (by omega), Int.toNat_natCast]
      · have e3 : Builtin.bitXor (c : Int) ((mulm q e d : Nat) : Int) = ((c ^^^ mulm q e d : Nat) : Int) := xor_nn _ _
        rw [← NI_set, ← e3]; rfl
      · rw [List.length_set]; exact tl3
      · intro u hu
        rcases List.mem_or_eq_of_mem_set hu with h | h
        · exact tE3 u h
        · rw [h]; exact Nat.xor_lt_two_pow (tE3 c (List.mem_of_getElem? hc)) (mulm_lt F _ _)
    · rintro σ ⟨t, v5, rfl, tl3, tE3, tR3⟩
      have el : (rangeD 0 (((LI (NI s)).length : Nat) : Int).toNat).length = s.length := by rw [rangeD_len, ls]; omega
      rw [el, List.drop_length] at tR3
      exact ⟨t, _, _, rfl, tl3, tE3, tR3⟩
  · rintro σ ⟨t, v4, v5, rfl, tl1, tE, tR⟩
    have el : (rangeD 0 (((LI (NI p)).length : Nat) : Int).toNat).length = p.length := by rw [rangeD_len, lp]; omega
    rw [el, List.drop_length] at tR
    have tR' : t = conv q p s := tR
    subst tR'
    refine ⟨fun r => r = .ok (.own (LI (NI (trim (conv q p s))))), ⟨conv q p s, rfl, by omega, rfl⟩, ?_⟩
    rintro r rfl
    exact ⟨fun _ => LI_allF _, hS⟩
end
end K04
set_option synthInstance.maxSize 100000
set_option synthInstance.maxHeartbeats 0
namespace K04
open PySem PySem.Spec L2 NB ER MKX DL
section
variable {P : Program} {w : World} {K : PySem.W.Frag} {mg : Str → Option Value} {base : Heap}
variable {C : Addr}
open FLD PLY
def rcPTimes (C : Addr) : RC := pur fun as S => ∃ (m q r : Nat) (logs ps qs : List Nat), as = [.val (FldO C m q r logs), .val (.list (LI (NI ps))), .val (.list (LI (NI qs)))] ∧ FldOk m q r logs ∧ (∀ b ∈ ps, b < 2 ^ m) ∧ (∀ b ∈ qs, b < 2 ^ m) ∧ ps.length ≤ 400 ∧ qs.length ≤ 400 ∧ S (.ok (.own (LI (NI (trim (conv q ps qs))))))
instance : MonoR (rcPTimes C) := inferInstanceAs (MonoR (pur _))
theorem ok_times_polys {f f_trimmed f_Field_scaled : Addr} {fd fd_trimmed fd_Field_scaled : FuncData} (D : Da K mg "times_polys" "times" ["field", "p", "q"] s_times_polys f fd) (B : Bl mg) (K_Field : Cls K C) (M_Field_scaled : Meth K C "scaled" f_Field_scaled) (b_Field_scaled : Binds K fd_Field_scaled ["self", "items", "e"] [])
    (G_Field_scaled : FnOk P w K mg base CX0 1 f_Field_scaled fd_Field_scaled ["self", "items", "e"] (spF (rcFScaled C)))
    (D_trimmed : Df K mg "trimmed" ["coefficients"] s_trimmed f_trimmed fd_trimmed) (G_trimmed : FnOk P w K mg base CX0 1 f_trimmed fd_trimmed ["coefficients"] (spF rcTrim)) :
    FnOk P w K mg base CX0 2 f fd ["field", "p", "q"] (spF (rcPTimes C)) := by
  refine okF D.F sc_times_polys (fun F as S h => by obtain ⟨m, q, r, l, a, b, rfl, _⟩ := h; rfl) (fun cdv A outer s H E hr => ⟨_, _, (pss_cons (ps_set (i := 3) sc_times_polys.nd rfl (Or.inl rfl) (pe_op op_rep (pe_lst (pa_cons (pe_z 0) pa_nil)) (pe_op op_add (pe_callB call_len_seq (by rfl) B.len PySem.boot_len (pa_cons (pv 1) pa_nil)) (pe_callB call_len_seq (by rfl) B.len PySem.boot_len (pa_cons (pv 2) pa_nil)))))
      (pss_cons (ps_for PassesOwn.never rfl (pi_enum rfl B.enumerate (pa_cons (pv 1) pa_nil)) (pg_tup rfl (pgs_cons (pg_name (i := 4) sc_times_polys.nd rfl (Or.inl rfl) (Or.inr rfl)) (pgs_cons (pg_name (i := 5) sc_times_polys.nd rfl (Or.inl rfl) (Or.inr rfl)) pgs_nil)))
        (pss_one (ps_for PassesOwn.never rfl (pi_enumS rfl B.enumerate (pa_cons (pe_meth (pv 0) K_Field M_Field_scaled G_Field_scaled (hr.mono (by decide)) b_Field_scaled .nil pass00 (by exact (pa_cons (pv 2) (pa_cons (pv 5) pa_nil)))) pa_nil) (pk_cons (pv 4) pk_nil)) (pg_tup rfl (pgs_cons (pg_name (i := 6) sc_times_polys.nd rfl (Or.inl rfl) (Or.inr rfl)) (pgs_cons (pg_name (i := 7) sc_times_polys.nd rfl (Or.inl rfl) (Or.inr rfl)) pgs_nil)))
          (pss_one (ps_augS (pv 3) (pv 6) get_list (pv 7) iop_xor set_list)))))
      (pss_one (ps_ret (pe_call G_trimmed (hr.mono (by decide)) rfl D_trimmed.g D_trimmed.F.kp D_trimmed.b .nil pass00 (pa_cons (pv 3) pa_nil)))))), fun F0 => by infer_instance, fun F0 as S h => ?_⟩)
  obtain ⟨m, q, r, l, p, s, rfl, O, hEp, hEs, hp, hs, hS⟩ := h
  have F := O.fd
  have sl := sizeLine_eq
  have lp := LI_NI_len p
  have ls := LI_NI_len s
  have e0 : (List.replicate ((((LI (NI p)).length : Nat) : Int) + (((LI (NI s)).length : Nat) : Int)).toNat [PyData.int 0]).flatten = LI (NI (List.replicate (p.length + s.length) 0)) := by
    have := zeros_app [] (p.length + s.length)
    have e : (((LI (NI p)).length : Nat) : Int) + (((LI (NI s)).length : Nat) : Int) = ((p.length + s.length : Nat) : Int) := by omega
    rw [e]
    exact this
  refine ⟨(show 1 ≤ sizeLine by omega), by omega, by omega, (show (1 : Nat) * ((((LI (NI p)).length : Nat) : Int) + (((LI (NI s)).length : Nat) : Int)).toNat ≤ sizeLine by omega), .inl ?_⟩
  refine ⟨rfl, fun i σ => ∃ (t : List Nat) (v4 v5 v6 v7 : Option SV), σ = [some (.val (FldO C m q r l)), some (.val (.list (LI (NI p)))), some (.val (.list (LI (NI s)))), some (.own (LI (NI t))), v4, v5, v6, v7] ∧ t.length = p.length + s.length ∧ (∀ c ∈ t, c < 2 ^ m) ∧ rows q s (p.drop i) i t = conv q p s,
    ⟨List.replicate (p.length + s.length) 0, none, none, none, none, ?_, List.length_replicate, fun c hc => by rw [(List.mem_replicate.mp hc).2]; exact Nat.two_pow_pos _, rfl⟩, ?_, ?_⟩
  · rw [← e0]; rfl
  · rintro i d σ hd ⟨t, v4, v5, v6, v7, rfl, tl1, tE, tR⟩
    obtain ⟨x, hx, rfl⟩ := enumD_at hd
    obtain ⟨e, he, rfl⟩ := NI_at hx
    have hil : i < p.length := (List.getElem?_eq_some_iff.mp he).1
    rw [drop_of he] at tR
    have tR' : rows q s (p.drop (i + 1)) (i + 1) (row q e s i t) = conv q p s := tR
    have heb := hEp _ (List.mem_of_getElem? he)
    refine ⟨rfl, ?_⟩
    refine ⟨_, rfl, fsF_no m q r l, fun x => x = .ok (.own (LI (NI (s.map fun b => mulm q b e)))), ⟨m, q, r, l, s, e, rfl, O, heb, hEs, by omega, rfl⟩, ?_⟩
    rintro x rfl
    have lm : (LI (NI (s.map fun b => mulm q b e))).length = s.length := by rw [LI_NI_len, List.length_map]
    refine ⟨fun _ => LI_allF _, by omega, by omega, rfl, fun j σ => ∃ (t : List Nat) (v6 v7 : Option SV), σ = [some (.val (FldO C m q r l)), some (.val (.list (LI (NI p)))), some (.val (.list (LI (NI s)))), some (.own (LI (NI t))), some (.val (.int (i : Int))), some (.val (.int (e : Int))), v6, v7] ∧ t.length = p.length + s.length ∧ (∀ c ∈ t, c < 2 ^ m) ∧ rows q s (p.drop (i + 1)) (i + 1) (row q e (s.drop j) (i + j) t) = conv q p s,
      ⟨t, v6, v7, rfl, tl1, tE, tR'⟩, ?_, ?_⟩
    · rintro j d σ hd ⟨t, v6, v7, rfl, tl3, tE3, tR3⟩
      obtain ⟨x, hx, rfl⟩ := enumS_at hd
      obtain ⟨f1, hf, rfl⟩ := NI_at hx
      have hjl : j < s.length := by have := (List.getElem?_eq_some_iff.mp hf).1; rw [List.length_map] at this; exact this
      obtain ⟨d, hd'⟩ : ∃ d, s[j]? = some d := ⟨_, List.getElem?_eq_getElem hjl⟩
      have hf1 : f1 = mulm q e d := by rw [List.getElem?_map, hd'] at hf; rw [mulm_comm]; exact (Option.some.inj hf).symm
      subst hf1
      obtain ⟨c, hc⟩ : ∃ c, t[i + j]? = some c := ⟨_, List.getElem?_eq_getElem (by omega)⟩
      rw [drop_of hd'] at tR3
      have tR4 : rows q s (p.drop (i + 1)) (i + 1) (row q e (s.drop (j + 1)) (i + j + 1) (t.set (i + j) (t.getD (i + j) 0 ^^^ mulm q e d))) = conv q p s := tR3
      rw [List.getD_eq_getElem?_getD, hc, Option.getD_some] at tR4
      have ij : (i : Int) + (j : Int) = ((i + j : Nat) : Int) := by omega
      refine ⟨rfl, i + j, .int (c : Int), ?_, ?_, t.set (i + j) (c ^^^ mulm q e d), some (.val (.int ((i : Int) + (j : Int)))), some (.val (.int (mulm q e d : Nat))), ?_, ?_, ?_, tR4⟩
      · rw [LI_NI_len]
        show ixN t.length ((i : Int) + (j : Int)) = _
        rw [ij, ixN_pos (by omega) (by omega), Int.toNat_natCast]
      · unfold LI NI; rw [List.getElem?_map, List.getElem?_map, hc]; rfl
      · have e3 : Builtin.bitXor (c : Int) ((mulm q e d : Nat) : Int) = ((c ^^^ mulm q e d : Nat) : Int) := xor_nn _ _
        rw [← NI_set, ← e3]; rfl
      · rw [List.length_set]; exact tl3
      · intro u hu
        rcases List.mem_or_eq_of_mem_set hu with h | h
        · exact tE3 u h
        · rw [h]; exact Nat.xor_lt_two_pow (tE3 c (List.mem_of_getElem? hc)) (mulm_lt F _ _)
    · rintro σ ⟨t, v6, v7, rfl, tl3, tE3, tR3⟩
      rw [enumS_len, lm, List.drop_length] at tR3
      exact ⟨t, _, _, _, _, rfl, tl3, tE3, tR3⟩
  · rintro σ ⟨t, v4, v5, v6, v7, rfl, tl1, tE, tR⟩
    rw [enumD_len, lp, List.drop_length] at tR
    have tR' : t = conv q p s := tR
    subst tR'
    refine ⟨fun r => r = .ok (.own (LI (NI (trim (conv q p s))))), ⟨conv q p s, rfl, by omega, rfl⟩, ?_⟩
    rintro r rfl
    exact ⟨fun _ => LI_allF _, hS⟩
end
section
variable {P : Program} {w : World} {K : PySem.W.Frag} {mg : Str → Option Value} {base : Heap}
variable {f_init : Addr} {fd_init : FuncData} {CH C C_NoInverse C_NoDivisor : Addr}
open FLD PLY
theorem lastD_app (p : List Nat) (x : Nat) : lastD (p ++ [x]) = x := by unfold lastD; rw [List.length_append, List.getD_eq_getElem?_getD, List.getElem?_append_right (by simp)]; simp
theorem at_last {p : List Nat} (h : 0 < p.length) : atI (LI (NI p)) (-1) = some (.int ((lastD p : Nat) : Int)) := by
  obtain ⟨l, x, rfl⟩ : ∃ l x, p = l ++ [x] := ⟨p.dropLast, p.getLast (List.length_pos_iff.mp h), (List.dropLast_concat_getLast _).symm⟩
  rw [lastD_app, ← NI_app]
  exact atI_last _ _
/-- the division's answer -/
def dq (q v : Nat) (s p : List Nat) : List Nat × List Nat := dv q v (trim s) p.length (trim p) (List.replicate ((trim p).length + 1 - (trim s).length) 0)
def rcPDiv (C CN : Addr) : RC := pur fun as S => ∃ (m q r : Nat) (logs p s : List Nat), as = [.val (FldO C m q r logs), .val (.list (LI (NI p))), .val (.list (LI (NI s)))] ∧ FldOk m q r logs ∧ (∀ b ∈ p, b < 2 ^ m) ∧ (∀ b ∈ s, b < 2 ^ m) ∧ p.length ≤ 400 ∧ s.length ≤ 400 ∧
  (trim s = [] → S (.er CN 0)) ∧ (trim s ≠ [] → ∀ v, v < 2 ^ m → v ≠ 0 → mulm q v (lastD (trim s)) = 1 → S (.ok (.val (.tuple [.list (LI (NI (dq q v s p).2)), .list (LI (NI (dq q v s p).1))]))))
instance {C CN : Addr} : MonoR (rcPDiv C CN) := inferInstanceAs (MonoR (pur _))
theorem LI_empty (p : List Nat) : (LI (NI p)).isEmpty = p.isEmpty := by cases p <;> rfl
theorem NI_get {t : List Nat} {k c : Nat} (h : t[k]? = some c) : (LI (NI t))[k]? = some (.int (c : Int)) := by unfold LI NI; rw [List.getElem?_map, List.getElem?_map, h]; rfl
theorem trim_El {m : Nat} {p : List Nat} (h : ∀ c ∈ p, c < 2 ^ m) : ∀ c ∈ trim p, c < 2 ^ m := fun c hc => h c (trim_mem hc)
theorem last_trim0 {p : List Nat} (h : 0 < (trim p).length) : lastD (trim p) ≠ 0 := fun z => by
  have := (tl_le_iff (trim p) ((trim p).length - 1)).mpr fun j hj => by
    by_cases e : j = (trim p).length - 1
    · rw [e]; exact z
    · exact getD_out (by omega)
  have e2 : tl (trim p) = (trim p).length := by rw [← trim_len, trim_trim]
  omega
end
abbrev s_degree : Stmt := top 22
theorem sc_degree : FnScope ["p"] ["p"] (defScope s_degree) := ⟨rfl, rfl, rfl, by decide +kernel, rfl, by decide +kernel, by decide +kernel⟩
abbrev s_times_binary : Stmt := top 23
theorem sc_times_binary : FnScope ["p", "q", "total", "i"] ["p", "q"] (defScope s_times_binary) := ⟨rfl, rfl, rfl, by decide +kernel, rfl, by decide +kernel, by decide +kernel⟩
abbrev s_divide : Stmt := top 25
theorem sc_divide : FnScope ["p", "q", "quotient", "rest", "shift"] ["p", "q"] (defScope s_divide) := ⟨rfl, rfl, rfl, by decide +kernel, rfl, by decide +kernel, by decide +kernel⟩
abbrev s_common : Stmt := top 26
theorem sc_common : FnScope ["p", "q", "last", "rest"] ["p", "q"] (defScope s_common) := ⟨rfl, rfl, rfl, by decide +kernel, rfl, by decide +kernel, by decide +kernel⟩
abbrev s_product_rest : Stmt := top 27
theorem sc_product_rest : FnScope ["p", "q", "modulus"] ["p", "q", "modulus"] (defScope s_product_rest) := ⟨rfl, rfl, rfl, by decide +kernel, rfl, by decide +kernel, by decide +kernel⟩
abbrev s_is_irreducible : Stmt := top 28
theorem sc_is_irreducible : FnScope ["p", "power", "_"] ["p"] (defScope s_is_irreducible) := ⟨rfl, rfl, rfl, by decide +kernel, rfl, by decide +kernel, by decide +kernel⟩
abbrev s__powers_of : Stmt := top 32
theorem sc__powers_of : FnScope ["e", "modulus", "powers", "power"] ["e", "modulus"] (defScope s__powers_of) := ⟨rfl, rfl, rfl, by decide +kernel, rfl, by decide +kernel, by decide +kernel⟩
abbrev s__root_powers : Stmt := top 31
theorem sc__root_powers : FnScope ["turn", "modulus", "e", "powers"] ["turn", "modulus"] (defScope s__root_powers) := ⟨rfl, rfl, rfl, by decide +kernel, rfl, by decide +kernel, by decide +kernel⟩
abbrev s__law_irreducible : Stmt := top 39
theorem sc__law_irreducible : FnScope ["p", "top", "q"] ["p"] (defScope s__law_irreducible) := ⟨rfl, rfl, rfl, by decide +kernel, rfl, by decide +kernel, by decide +kernel⟩
abbrev s__law_modulus : Stmt := top 40
theorem sc__law_modulus : FnScope ["m", "drawn", "found", "p"] ["m", "drawn"] (defScope s__law_modulus) := ⟨rfl, rfl, rfl, by decide +kernel, rfl, by decide +kernel, by decide +kernel⟩
abbrev s_Field___init__ : Stmt := inClass (top 30) 0
theorem sc_Field___init__ : FnScope ["self", "m", "modulus", "k", "e"] ["self", "m", "modulus"] (defScope s_Field___init__) := ⟨rfl, rfl, rfl, by decide +kernel, rfl, by decide +kernel, by decide +kernel⟩
abbrev s_init : Stmt := inClass (top 3) 0
theorem sc_init : FnScope ["self", "at"] ["self", "at"] (defScope s_init) := ⟨rfl, rfl, rfl, by decide +kernel, rfl, by decide +kernel, by decide +kernel⟩
section
variable {P : Program} {w : World} {K : PySem.W.Frag} {mg : Str → Option Value} {base : Heap}
theorem ok_init {f : Addr} {fd : FuncData} (F : Fun K "__init__" "HaulError.__init__" s_init f fd) (mv : mg "ValueError" = none) (vV : PySem.W.findCls K (.type "ValueError") (.type "type") "__init__" = some (.val (.builtin "ValueError.__init__"))) :
    FnOk P w K mg base CX0 1 f fd ["self", "at"] (sp_init K) := by
  refine F.ok sc_init (fun vs H Q E h => ?_) (fun cdv A outer s H vs Q E hr h => ?_)
  · obtain ⟨a, C, i, rfl, _⟩ := h; rfl
  · obtain ⟨a, C, i, rfl, ⟨mg', x, fI, CH, T⟩, ha, hi, k⟩ := h
    refine ⟨_, pss_cons (ps_expr (pe_veinit rfl mv vV (pa_cons (pv 0) (pa_cons (pe_joined (.cons pe_str (.cons (pe_fmt (pv 1)) .nil))) pa_nil))))
      (pss_one (ps_ost (pv 0) (pv 1))), ?_⟩
    refine ⟨_, rfl, _, rfl, ?_, _, rfl, .inr ⟨i, rfl, hi, _, rfl, at_len hi, a, C, _, rfl, by simp, T.oex, ha, ?_⟩⟩
    · decide +kernel
    · refine ⟨_, rfl, _, rfl, a, C, rfl, T.oex, T.no, .inl ⟨ha, fun dx nx ne => k dx nx ne⟩⟩
end
section
variable {P : Program} {w : World} {K : PySem.W.Frag} {mg : Str → Option Value} {base : Heap}
open FLD PLY
/-- what a call by data tells, for the old contracts -/
theorem spF_int {R : RC} {vs : List V} {H : Hp} {Q : VK} {E : XK} (h : spF R vs H Q E) : ∃ (F : Hp) (A : List (V × SV)) (S : Rs → Prop), vs = A.map Prod.fst ∧ (∀ p ∈ A, ∀ i, p.2 = .val (.int i) → p.1 = .int i) ∧ R F (A.map Prod.snd) S ∧ (∀ v d H', Same H H' → S (.ok (.val d)) → Dv F v d → Q v H') ∧ (∀ C i, S (.er C i) → ∀ dd H', Same H H' → H' dd = none → E (.ref C) (some dd) (upd H' dd (.xd [("at", .int i)]))) := by
  obtain ⟨F, A, S, e, r, na, hR, hS⟩ := h
  refine ⟨F, A, S, e, fun p hp i e => ?_, hR, fun v d H' sm hs hd => ?_, fun C i hs => hS _ hs⟩
  · obtain ⟨w, e1, rv⟩ := r.ok (pr p) (List.mem_map.mpr ⟨p, hp, rfl⟩) _ rfl
    cases e1
    obtain ⟨v, s⟩ := p
    subst e
    cases rv
    rfl
  · refine hS _ hs v H' ⟨F, ⟨Same.refl _, r.low.trans sm, sm, fun b h _ => h, fun p hp => ?_, List.pairwise_singleton _ _⟩⟩
    rw [List.mem_singleton] at hp
    subst hp
    exact fun sv e => ⟨v, rfl, (Option.some.inj e) ▸ hd⟩
theorem one_val {A : List (V × SV)} {i : Int} (e : A.map Prod.snd = [.val (.int i)]) (h : ∀ p ∈ A, ∀ i, p.2 = .val (.int i) → p.1 = .int i) : A.map Prod.fst = [.int i] := by
  match A, e, h with
  | [(v, s)], e, h =>
    have e1 : s = .val (.int i) := (List.cons.inj e).1
    have := h (v, s) (by simp) i e1
    show [v] = _
    rw [show v = .int i from this]
theorem two_val {A : List (V × SV)} {i j : Int} (e : A.map Prod.snd = [.val (.int i), .val (.int j)]) (h : ∀ p ∈ A, ∀ i, p.2 = .val (.int i) → p.1 = .int i) : A.map Prod.fst = [.int i, .int j] := by
  match A, e, h with
  | [(v, s), (u, t)], e, h =>
    have e1 : s = .val (.int i) := (List.cons.inj e).1
    have e2 : t = .val (.int j) := (List.cons.inj (List.cons.inj e).2).1
    have h1 := h (v, s) (by simp) i e1
    have h2 := h (u, t) (by simp) j e2
    show [v, u] = _
    rw [show v = .int i from h1, show u = .int j from h2]
def rcLMod : RC := pur fun as S => ∃ (m x : Nat), as = [.val (.int ((m : Nat) : Int)), .val (.int ((x : Nat) : Int))] ∧ 2 ≤ m ∧ m ≤ 8 ∧ ∀ q : Nat, Fd m q → S (.ok (.val (.int ((q : Nat) : Int))))
instance : MonoR rcLMod := inferInstanceAs (MonoR (pur _))
theorem ok__law_modulus {f f__law_irreducible f__law_degree f__law_divided : Addr} {fd fd__law_irreducible fd__law_degree fd__law_divided : FuncData} (D : Df K mg "_law_modulus" ["m", "drawn"] K04o.s__law_modulus f fd) (B : Bl mg)
    (D__law_irreducible : Df K mg "_law_irreducible" ["p"] K04o.s__law_irreducible f__law_irreducible fd__law_irreducible) (D__law_degree : Df K mg "_law_degree" ["p"] K04o.s__law_degree f__law_degree fd__law_degree) (D__law_divided : Df K mg "_law_divided" ["p", "q"] K04o.s__law_divided f__law_divided fd__law_divided) :
    FnOk P w K mg base CX0 4 f fd ["m", "drawn"] (spF rcLMod) := by
  have g1 : FnOk P w K mg base CX0 1 f__law_degree fd__law_degree ["p"] K04o.sp_ldegree := K04o.ok__law_degree D__law_degree B
  have g2 := K04o.ok__law_divided (P := P) (w := w) (base := base) D__law_divided B D__law_degree g1
  have g3 := K04o.ok__law_irreducible (P := P) (w := w) (base := base) D__law_irreducible B D__law_degree g1 D__law_divided g2
  refine (K04o.ok__law_modulus D B D__law_irreducible g3).imp fun vs H Q E h => ?_
  obtain ⟨F, A, S, rfl, hv, ⟨m, x, ea, h2, h8, hS⟩, hQ, _⟩ := spF_int h
  exact ⟨m, x, two_val ea hv, h2, h8, fun q H' hq sm => hQ _ _ H' sm (hS q hq) (.int _)⟩
def rcFld (C C1 C2 : Addr) : RC := pur fun as S => ∃ (m q : Int), as = [.val (.int m), .val (.int q)] ∧ m.natAbs.log2 < 1920 ∧ q.natAbs.log2 < 1920 ∧ q.natAbs < 2 ^ 64 ∧ (¬ (2 ≤ m ∧ m ≤ 8) → S (.er C1 m)) ∧ (2 ≤ m → m ≤ 8 → ¬ (0 ≤ q ∧ Fd m.toNat q.toNat) → S (.er C2 q)) ∧
  ∀ (mn qn r : Nat) (logs : List Nat), m = (mn : Int) → q = (qn : Int) → FldOk mn qn r logs → S (.ok (.val (FldO C mn qn r logs)))
instance {C C1 C2 : Addr} : MonoR (rcFld C C1 C2) := inferInstanceAs (MonoR (pur _))
theorem ffl_eq (m q : Nat) (a b c : Addr) : K04o.ffl m q a b c = ([("_bits", .int (m : Int)), ("_modulus", .int (q : Int)), ("_turn", .int ((2 ^ m - 1 : Nat) : Int)), ("_powers", .ref a), ("_logs", .ref b), ("_products", .ref c)] : List (Str × V)) := by
  obtain ⟨a1, a2, a3, a4, a5⟩ := K04o.str1
  obtain ⟨b1, b2, b3, b4, b5, b6⟩ := K04o.str2
  obtain ⟨c1, c2, c3, c4⟩ := K04o.str3
  unfold K04o.ffl K04o.ffl0
  simp only [putF, a1, a2, a3, a4, a5, b1, b2, b3, b4, b5, b6, c1, c2, c3, c4, if_false]
theorem ok_Field___init__ {f f_degree f_is_irreducible f__root_powers f__powers_of f_product_rest f_common f_times_binary f_divide f_init C C_OutOfRange C_NotIrreducible C_NoDivisor CH : Addr} {fd fd_degree fd_is_irreducible fd__root_powers fd__powers_of fd_product_rest fd_common fd_times_binary fd_divide fd_init : FuncData} {tk : Tok} (F : Fun K "__init__" "Field.__init__" K04o.s_Field___init__ f fd) (B : Bl mg) (T : FK K C) (c_X : mg "X" = some (.int 2 tk))
    (D_degree : Df K mg "degree" ["p"] K04o.s_degree f_degree fd_degree) (D_is_irreducible : Df K mg "is_irreducible" ["p"] K04o.s_is_irreducible f_is_irreducible fd_is_irreducible)
    (D__root_powers : Df K mg "_root_powers" ["turn", "modulus"] K04o.s__root_powers f__root_powers fd__root_powers) (D__powers_of : Df K mg "_powers_of" ["e", "modulus"] K04o.s__powers_of f__powers_of fd__powers_of)
    (D_product_rest : Df K mg "product_rest" ["p", "q", "modulus"] K04o.s_product_rest f_product_rest fd_product_rest) (D_common : Df K mg "common" ["p", "q"] K04o.s_common f_common fd_common)
    (D_times_binary : Da K mg "times_binary" "times" ["p", "q"] K04o.s_times_binary f_times_binary fd_times_binary) (D_divide : Df K mg "divide" ["p", "q"] K04o.s_divide f_divide fd_divide)
    (X_OutOfRange : XC K mg "OutOfRange" C_OutOfRange f_init CH) (X_NotIrreducible : XC K mg "NotIrreducible" C_NotIrreducible f_init CH) (X_NoDivisor : XC K mg "NoDivisor" C_NoDivisor f_init CH) (G_init : FnOk P w K mg base CX0 1 f_init fd_init ["self", "at"] (sp_init K)) (b_init : Binds K fd_init ["self", "at"] []) :
    FnOk P w K mg base (L2.CX P w) 8 f fd ["self", "m", "modulus"] (spI C (rcFld C C_OutOfRange C_NotIrreducible)) := by
  have g1 : FnOk P w K mg base CX0 1 f_degree fd_degree ["p"] K04o.sp_degree := K04o.ok_degree D_degree
  have g2 := K04o.ok_divide (P := P) (w := w) (base := base) D_divide D_degree X_NoDivisor G_init b_init
  have g3 := K04o.ok_times_binary (P := P) (w := w) (base := base) D_times_binary B
  have g4 := K04o.ok_common D_common D_divide g2
  have g5 := K04o.ok_product_rest D_product_rest D_divide g2 D_times_binary g3
  have g6 := K04o.ok_is_irreducible D_is_irreducible B c_X D_degree g1 D_product_rest g5 D_common g4
  have g7 := K04o.ok__powers_of D__powers_of D_product_rest g5
  have g8 := K04o.ok__root_powers D__root_powers B D__powers_of g7
  refine (K04o.ok_Field___init__ F B ⟨T.cl, T.n1, T.n2, T.n3, T.n4, T.n5, T.n6⟩ D_degree g1 D_is_irreducible g6 D__root_powers g8 X_OutOfRange X_NotIrreducible G_init b_init).imp fun vs H Q E h => ?_
  obtain ⟨x, dx, Hb, F, A, S, rfl, nx, nd, ne, rfl, r, na, ⟨m, q, ea, hm, hq, hq64, kM, kN, kQ⟩, hS⟩ := h
  have hv : ∀ p ∈ A, ∀ i, p.2 = .val (.int i) → p.1 = .int i := fun p hp i e => by
    obtain ⟨w, e1, rv⟩ := r.ok (pr p) (List.mem_map.mpr ⟨p, hp, rfl⟩) _ rfl
    cases e1
    obtain ⟨v, s⟩ := p
    subst e
    cases rv
    rfl
  have sH : Same Hb (upd (upd Hb dx (.own x)) x (.ins C dx [])) := (same_upd nd).trans (same_upd (by rw [upd_ne (Ne.symm ne)]; exact nx))
  have fx : F x = none := r.low.free nx
  refine ⟨x, dx, m, q, by rw [two_val ea hv], upd_same, hm, hq, hq64, fun hb d hd => hS _ (kM hb) d _ sH hd, fun h2 h8 hb d H' sm hd => hS _ (kN h2 h8 hb) d H' (sH.trans sm) hd, ?_⟩
  rintro mn qn r0 rfl rfl FD H' keep FA
  obtain ⟨dx', a, b, c, logs, i1, i2, i3, i4, i5, i6, na', nb', nc'⟩ := FA.ex
  have O : FldOk mn qn r0 logs := ⟨FA.fd, FA.lr, i4, i6⟩
  have sB : Same Hb H' := fun y o e => keep y o (sH _ _ e) fun z => by subst z; rw [nx] at e; cases e
  have sF : Same F H' := r.low.trans sB
  let G : Hp := fun y => if y = x ∨ y = a ∨ y = b ∨ y = c then H' y else F y
  have fa : F a = none := r.low.free (sH.free na')
  have fb : F b = none := r.low.free (sH.free nb')
  have fc : F c = none := r.low.free (sH.free nc')
  have sG : Same F G := fun y o e => by
    show (if y = x ∨ y = a ∨ y = b ∨ y = c then H' y else F y) = some o
    by_cases z : y = x ∨ y = a ∨ y = b ∨ y = c
    · rw [if_pos z]; exact sF _ _ e
    · rw [if_neg z]; exact e
  have sGH : Same G H' := fun y o e => by
    have e' : (if y = x ∨ y = a ∨ y = b ∨ y = c then H' y else F y) = some o := e
    by_cases z : y = x ∨ y = a ∨ y = b ∨ y = c
    · rw [if_pos z] at e'; exact e'
    · rw [if_neg z] at e'; exact sF _ _ e'
  have at_ : ∀ {y o}, y = x ∨ y = a ∨ y = b ∨ y = c → H' y = some o → G y = some o := fun {y o} z e => by
    show (if y = x ∨ y = a ∨ y = b ∨ y = c then H' y else F y) = some o
    rw [if_pos z]; exact e
  have lstD : ∀ {y : Addr} {ns : List Nat}, G y = some (.lst (NL ns)) → Dv G (.ref y) (.list (LI (NI ns))) := fun {y ns} e => dv_ints G (by rw [e]; unfold NL NI; rw [List.map_map]; rfl)
  refine hS _ (kQ mn qn r0 logs rfl rfl O) H' ⟨G, ⟨sG, sGH, sB, fun y h0 h1 => ?_, fun p hp => ?_, List.pairwise_singleton _ _⟩⟩
  · show (if y = x ∨ y = a ∨ y = b ∨ y = c then H' y else F y) = none
    rw [if_neg ?_]
    · exact h0
    rintro (z | z | z | z)
    · subst z; exact h1 nx
    · subst z; exact h1 (sH.free na')
    · subst z; exact h1 (sH.free nb')
    · subst z; exact h1 (sH.free nc')
  · rw [List.mem_singleton] at hp
    subst hp
    intro sv e
    cases e
    refine ⟨_, rfl, ?_⟩
    rw [ffl_eq] at i1
    refine Dv.obI (at_ (.inl rfl) i1) ⟨rfl, ?_⟩
    exact .cons (.int _) (.cons (.int _) (.cons (.int _) (.cons (lstD (at_ (.inr (.inl rfl)) i2)) (.cons (lstD (at_ (.inr (.inr (.inl rfl))) i3)) (.cons (lstD (at_ (.inr (.inr (.inr rfl))) i5)) .nil)))))
end
abbrev s__law_over : Stmt := top 48
theorem sc__law_over : FnScope ["m", "modulus", "p", "q", "rest", "whole", "factor", "turn", "shift", "lead"] ["m", "modulus", "p", "q"] (defScope s__law_over) := ⟨rfl, rfl, rfl, by decide +kernel, rfl, by decide +kernel, by decide +kernel⟩
section
variable {P : Program} {w : World} {K : PySem.W.Frag} {mg : Str → Option Value} {base : Heap}
open FLD PLY
theorem addL_getD {p q : List Nat} (h : q.length ≤ p.length) (j : Nat) : (addL p q).getD j 0 = p.getD j 0 ^^^ q.getD j 0 := by
  unfold addL
  have lz : (List.zipWith (· ^^^ ·) p q).length = q.length := by rw [List.length_zipWith]; omega
  by_cases z : j < q.length
  · rw [List.getD_eq_getElem?_getD, List.getElem?_append_left (by omega), List.getElem?_zipWith, get_getD z, get_getD (show j < p.length by omega)]; rfl
  · rw [List.getD_eq_getElem?_getD, List.getElem?_append_right (by omega), lz, List.getElem?_drop, getD_out (p := q) (by omega), Nat.xor_zero, List.getD_eq_getElem?_getD]
    congr 2; omega
theorem sumL_getD (p q : List Nat) (j : Nat) : (sumL p q).getD j 0 = p.getD j 0 ^^^ q.getD j 0 := by
  unfold sumL
  by_cases z : p.length < q.length
  · rw [if_pos z, addL_getD (by omega), Nat.xor_comm]
  · rw [if_neg z, addL_getD (by omega)]
def rcLOver : RC := pur fun as S => ∃ (m q v : Nat) (p s : List Nat), as = [.val (.int ((m : Nat) : Int)), .val (.int ((q : Nat) : Int)), .val (.list (LI (NI p))), .val (.list (LI (NI s)))] ∧ Fd m q ∧ (∀ c ∈ p, c < 2 ^ m) ∧ (∀ c ∈ s, c < 2 ^ m) ∧ p.length ≤ 400 ∧ s.length ≤ 400 ∧ trim s = s ∧ s ≠ [] ∧ v < 2 ^ m ∧ mulm q v (lastD s) = 1 ∧
  S (.ok (.val (.tuple [.list (LI (NI (trim (dv q v s p.length (trim p) (List.replicate p.length 0)).2))), .list (LI (NI (dv q v s p.length (trim p) (List.replicate p.length 0)).1))])))
instance : MonoR rcLOver := inferInstanceAs (MonoR (pur _))
theorem ok__law_over {f f__law_inverse f__law_trim f__law_product f__law_plus f__law_mul : Addr} {fd fd__law_inverse fd__law_trim fd__law_product fd__law_plus fd__law_mul : FuncData} (D : Df K mg "_law_over" ["m", "modulus", "p", "q"] s__law_over f fd) (B : Bl mg)
    (D__law_inverse : Df K mg "_law_inverse" ["m", "modulus", "e"] s__law_inverse f__law_inverse fd__law_inverse) (G__law_inverse : FnOk P w K mg base CX0 4 f__law_inverse fd__law_inverse ["m", "modulus", "e"] (spF rcLInv))
    (D__law_trim : Df K mg "_law_trim" ["poly"] s__law_trim f__law_trim fd__law_trim) (G__law_trim : FnOk P w K mg base CX0 1 f__law_trim fd__law_trim ["poly"] (spF rcTrim))
    (D__law_product : Df K mg "_law_product" ["modulus", "e", "f"] s__law_product f__law_product fd__law_product) (G__law_product : FnOk P w K mg base CX0 3 f__law_product fd__law_product ["modulus", "e", "f"] (spF rcLProd))
    (D__law_plus : Df K mg "_law_plus" ["p", "q"] s__law_plus f__law_plus fd__law_plus) (G__law_plus : FnOk P w K mg base CX0 2 f__law_plus fd__law_plus ["p", "q"] (spF rcLPlus))
    (D__law_mul : Df K mg "_law_mul" ["modulus", "p", "q"] s__law_mul f__law_mul fd__law_mul) (G__law_mul : FnOk P w K mg base CX0 4 f__law_mul fd__law_mul ["modulus", "p", "q"] (spF rcLMul)) :
    FnOk P w K mg base CX0 6 f fd ["m", "modulus", "p", "q"] (spF rcLOver) := by
  refine okF D.F sc__law_over (fun F as S h => by obtain ⟨m, q, v, p, s, rfl, _⟩ := h; rfl) (fun cdv A outer s0 H E hr => ⟨_, _, (pss_cons (ps_set (i := 4) sc__law_over.nd rfl (Or.inl rfl) (pe_callTy call_list_of (by rfl) B.list (by decide +kernel) (pa_cons (pv 2) pa_nil)))
      (pss_cons (ps_set (i := 5) sc__law_over.nd rfl (Or.inl rfl) (pe_op op_rep (pe_lst (pa_cons (pe_z 0) pa_nil)) (pe_callB call_len_seq (by rfl) B.len PySem.boot_len (pa_cons (pv 2) pa_nil))))
      (pss_cons (ps_set (i := 6) sc__law_over.nd rfl (Or.inl rfl) (pe_call G__law_inverse (hr.mono (by decide)) rfl D__law_inverse.g D__law_inverse.F.kp D__law_inverse.b .nil pass00 (pa_cons (pv 0) (pa_cons (pv 1) (pa_cons (pe_ix ix_list (pv 3) (pe_un un_neg (pe_z 1)) (fun _ _ => rfl)) pa_nil)))))
      (pss_cons (ps_for PassesOwn.never rfl (pi_range1 rfl B.range (pa_cons (pe_callB call_len_seq (by rfl) B.len PySem.boot_len (pa_cons (pv 2) pa_nil)) pa_nil)) (pg_name (i := 7) sc__law_over.nd rfl (Or.inl rfl) (Or.inr rfl))
        (pss_cons (ps_set (i := 4) sc__law_over.nd rfl (Or.inl rfl) (pe_call G__law_trim (hr.mono (by decide)) rfl D__law_trim.g D__law_trim.F.kp D__law_trim.b .nil pass00 (pa_cons (pv 4) pa_nil)))
        (pss_cons (ps_set (i := 8) sc__law_over.nd rfl (Or.inl rfl) (pe_op op_sub (pe_callB call_len_seq (by rfl) B.len PySem.boot_len (pa_cons (pv 4) pa_nil)) (pe_callB call_len_seq (by rfl) B.len PySem.boot_len (pa_cons (pv 3) pa_nil))))
        (pss_one (ps_if (PW.pt (pw_and (pt_cmpR op_ge (pv 8) (pe_z 0) (nomark _)) (pw_and1 (pt_cmpR op_gt (pe_callB call_len_seq (by rfl) B.len PySem.boot_len (pa_cons (pv 4) pa_nil)) (pe_z 0) (nomark _))))) (pss_cons (ps_set (i := 9) sc__law_over.nd rfl (Or.inl rfl) (pe_call G__law_product (hr.mono (by decide)) rfl D__law_product.g D__law_product.F.kp D__law_product.b .nil pass00 (pa_cons (pv 1) (pa_cons (pe_ix ix_list (pv 4) (pe_un un_neg (pe_z 1)) (fun _ _ => rfl)) (pa_cons (pv 6) pa_nil)))))
          (pss_cons (ps_asg (pv 9) (pg_sub (pv 5) (pv 8) set_list))
          (pss_one (ps_set (i := 4) sc__law_over.nd rfl (Or.inl rfl) (pe_call G__law_plus (hr.mono (by decide)) rfl D__law_plus.g D__law_plus.F.kp D__law_plus.b .nil pass00 (pa_cons (pv 4) (pa_cons (pe_op op_cat (pe_op op_rep (pe_lst (pa_cons (pe_z 0) pa_nil)) (pv 8)) (pe_call G__law_mul (hr.mono (by decide)) rfl D__law_mul.g D__law_mul.F.kp D__law_mul.b .nil pass00 (pa_cons (pv 1) (pa_cons (pv 3) (pa_cons (pe_lst (pa_cons (pv 9) pa_nil)) pa_nil))))) pa_nil))))))) pss_nil)))))
      (pss_one (ps_ret (pe_tup (pa_cons (pe_call G__law_trim (hr.mono (by decide)) rfl D__law_trim.g D__law_trim.F.kp D__law_trim.b .nil pass00 (pa_cons (pv 5) pa_nil)) (pa_cons (pe_call G__law_trim (hr.mono (by decide)) rfl D__law_trim.g D__law_trim.F.kp D__law_trim.b .nil pass00 (pa_cons (pv 4) pa_nil)) pa_nil))))))))), fun F0 => by infer_instance, fun F0 as S h => ?_⟩)
  obtain ⟨m, q, v, p, s, rfl, F, hEp, hEs, hp, hs, hts, hs0, v1, v3, hS⟩ := h
  have sL := sizeLine_eq
  obtain ⟨hm4, hm256⟩ := pow_mF F
  have q5 := q_512 F
  have q00 := FLD.q0 F
  have hpos : 0 < s.length := List.length_pos_iff.mpr hs0
  have last0 : lastD s ≠ 0 := by have := last_trim0 (p := s) (by rw [hts]; exact hpos); rwa [hts] at this
  have leP := trim_len p
  have leP2 := tl_le p
  have lp := LI_NI_len p
  have ls := LI_NI_len s
  refine .inr ?_
  refine ⟨(show 1 ≤ sizeLine by omega), by omega, by omega, (show (1 : Nat) * (((LI (NI p)).length : Nat) : Int).toNat ≤ sizeLine by omega), .inl ?_⟩
  have e0 : (List.replicate (((LI (NI p)).length : Nat) : Int).toNat [PyData.int 0]).flatten = LI (NI (List.replicate p.length 0)) := by
    have := zeros_app [] p.length
    rw [lp]
    exact this
  rw [e0]
  refine ⟨.int ((lastD s : Nat) : Int), at_last hpos, fun x => x = .ok (.val (.int ((v : Nat) : Int))), ⟨m, q, lastD s, v, rfl, F, last0, lastD_lt F hEs, v1, by rw [mulm_comm]; exact v3, rfl⟩, ?_⟩
  rintro x rfl
  refine ⟨fun _ => rfl, ?_⟩
  refine ⟨⟨by omega, by omega⟩, rfl, fun i σ => ∃ (R W : List Nat) (v7 v8 v9 : Option SV), σ = [some (.val (.int (m : Int))), some (.val (.int (q : Int))), some (.val (.list (LI (NI p)))), some (.val (.list (LI (NI s)))), some (.val (.list (LI (NI R)))), some (.own (LI (NI W))), some (.val (.int (v : Int))), v7, v8, v9] ∧ (∀ c ∈ R, c < 2 ^ m) ∧ R.length ≤ 400 ∧ (trim R).length ≤ p.length ∧ W.length = p.length ∧ dv q v s (p.length - i) (trim R) W = dv q v s p.length (trim p) (List.replicate p.length 0),
    ⟨p, _, none, none, none, rfl, hEp, hp, by omega, List.length_replicate, rfl⟩, ?_, ?_⟩
  · rintro i d σ hd ⟨R, W, v7, v8, v9, rfl, hE, lR, ltR, lW, hdv⟩
    obtain ⟨hi0, rfl⟩ := rangeD_at hd
    have hi : i < p.length := by have h := hi0; rw [lp] at h; omega
    obtain ⟨n, hn⟩ : ∃ n, p.length - i = n + 1 := ⟨p.length - i - 1, by omega⟩
    have hn2 : p.length - (i + 1) = n := by omega
    rw [hn] at hdv
    refine ⟨fun x => x = .ok (.own (LI (NI (trim R)))), ⟨R, rfl, by omega, rfl⟩, ?_⟩
    rintro x rfl
    refine ⟨fun _ => LI_allF _, .inr ?_⟩
    have hET := trim_El hE
    have lT := LI_NI_len (trim R)
    have lW2 := LI_NI_len W
    have lRt := trim_len R
    by_cases hge : s.length ≤ (trim R).length
    · rw [dv_step hge] at hdv
      have eN : (((LI (NI (trim R))).length : Nat) : Int) - (((LI (NI s)).length : Nat) : Int) = (((trim R).length - s.length : Nat) : Int) := by omega
      dsimp only
      refine dset_go (d := .int (((trim R).length - s.length : Nat) : Int)) (fun P h => ?_) ?_
      · show P (.val (.int ((((LI (NI (trim R))).length : Nat) : Int) - (((LI (NI s)).length : Nat) : Int))))
        rw [eN]; exact h
      refine brY (by omega) ?_
      refine brY (show (0 : Int) < (((LI (NI (trim R))).length : Nat) : Int) by omega) ?_
      have lE := lastD_lt F hET
      refine ⟨.int ((lastD (trim R) : Nat) : Int), at_last (by omega), fun x => x = .ok (.val (.int ((mulm q (lastD (trim R)) v : Nat) : Int))), ⟨q, lastD (trim R), v, rfl, by omega, q00, by omega, by omega, rfl⟩, ?_⟩
      rintro x rfl
      refine ⟨fun _ => rfl, (trim R).length - s.length, ?_, ?_⟩
      · rw [lW2]
        show ixN W.length (((trim R).length - s.length : Nat) : Int) = _
        rw [ixN_pos (by omega) (by omega), Int.toNat_natCast]
      rw [NI_set]
      have hld : mulm q (lastD (trim R)) v < 2 ^ m := mulm_lt F _ _
      refine ⟨(show 1 ≤ sizeLine by omega), by omega, by omega, (show 1 * (((trim R).length - s.length : Nat) : Int).toNat ≤ sizeLine by omega), ?_⟩
      have e1 : (List.replicate (((trim R).length - s.length : Nat) : Int).toNat [PyData.int 0]).flatten = LI (NI (List.replicate ((trim R).length - s.length) 0)) := zeros_app [] _
      rw [e1]
      refine ⟨(show 1 ≤ sizeLine by omega), fun x => x = .ok (.own (LI (NI (trim (conv q s [mulm q (lastD (trim R)) v]))))), ⟨m, q, s, [mulm q (lastD (trim R)) v], rfl, F, hEs, fun c hc => by rw [List.mem_singleton] at hc; rw [hc]; exact hld, hs, (by show 1 ≤ 400; decide), rfl⟩, ?_⟩
      rintro x rfl
      have lc := trim_len (conv q s [mulm q (lastD (trim R)) v])
      have lc2 := conv_tl q s [mulm q (lastD (trim R)) v] (by simp)
      have lc3 : ([mulm q (lastD (trim R)) v] : List Nat).length = 1 := rfl
      refine ⟨fun _ => LI_allF _, ?_, ?_⟩
      · rw [LI_NI_len, LI_NI_len, List.length_replicate]; omega
      rw [NI_app]
      refine ⟨fun x => x = .ok (.own (LI (NI (trim (sumL (trim R) (List.replicate ((trim R).length - s.length) 0 ++ trim (conv q s [mulm q (lastD (trim R)) v]))))))), ⟨trim R, _, rfl, by omega, by rw [List.length_append, List.length_replicate]; omega, rfl⟩, ?_⟩
      rintro x rfl
      have est : trim (sumL (trim R) (List.replicate ((trim R).length - s.length) 0 ++ trim (conv q s [mulm q (lastD (trim R)) v]))) = step q v s (trim R) := step_law hge fun j => sumL_getD _ _ j
      have hlt := step_lt F v3 hpos hge hET
      rw [est]
      refine ⟨fun _ => LI_allF _, .inr ⟨step q v s (trim R), W.set ((trim R).length - s.length) (lead q v (trim R)), _, _, _, rfl, step_El F hET, by omega, ?_, ?_, ?_⟩⟩
      · exact Nat.le_trans (by rw [trim_len]; exact tl_le _) (Nat.le_trans (Nat.le_of_lt hlt) ltR)
      · rw [List.length_set]; exact lW
      · rw [hn2]
        have e6 : trim (step q v s (trim R)) = step q v s (trim R) := by unfold PLY.step; rw [trim_trim]
        rw [e6]
        exact hdv
    · rw [dv_stop hge] at hdv
      refine brX (show ¬ (0 : Int) ≤ (((LI (NI (trim R))).length : Nat) : Int) - (((LI (NI s)).length : Nat) : Int) by omega) ?_
      refine brF ⟨trim R, W, _, _, _, rfl, hET, by omega, by rw [trim_trim]; exact ltR, lW, ?_⟩
      rw [trim_trim, dv_stop hge]
      exact hdv
  · rintro σ ⟨R, W, v7, v8, v9, rfl, hE, lR, ltR, lW, hdv⟩
    have el : (rangeD 0 (((LI (NI p)).length : Nat) : Int).toNat).length = p.length := by rw [rangeD_len, lp]; omega
    rw [el, Nat.sub_self] at hdv
    have hdv' : (trim R, W) = dv q v s p.length (trim p) (List.replicate p.length 0) := hdv
    refine ⟨fun x => x = .ok (.own (LI (NI (trim W)))), ⟨W, rfl, by omega, rfl⟩, ?_⟩
    rintro x rfl
    refine ⟨fun _ => LI_allF _, fun x => x = .ok (.own (LI (NI (trim R)))), ⟨R, rfl, by omega, rfl⟩, ?_⟩
    rintro x rfl
    rw [← hdv'] at hS
    exact ⟨fun _ => LI_allF _, by show 2 ≤ sizeLine; omega, hS⟩
end
section
variable {P : Program} {w : World} {K : PySem.W.Frag} {mg : Str → Option Value} {base : Heap}
open FLD PLY
def rcLPoly : RC := pur fun as S => ∃ (xs : List Nat) (at_ m : Nat), as = [.val (.list (LI (NI xs))), .val (.int ((at_ : Nat) : Int)), .val (.int ((m : Nat) : Int))] ∧ at_ + 10 < xs.length ∧ 2 ≤ m ∧ m ≤ 8 ∧ ∀ ps : List Nat, (∀ c ∈ ps, c < 2 ^ m) → ps.length ≤ 9 → S (.ok (.own (LI (NI (trim ps)))))
instance : MonoR rcLPoly := inferInstanceAs (MonoR (pur _))
end
section
variable {P : Program} {w : World} {K : PySem.W.Frag} {mg : Str → Option Value} {base : Heap}
variable {f_init : Addr} {fd_init : FuncData} {C C_HaulError C_NoDivisor : Addr}
open FLD PLY
theorem kit_self {D : Addr} : PySem.W.kitOne K (.ref D) (.ref D) = some true := by unfold PySem.W.kitOne; rw [if_pos (by simp)]
theorem dq_law {m q v : Nat} (F : Fd m q) {s p : List Nat} (ht : trim s = s) (hs : s ≠ []) (hv : mulm q v (lastD s) = 1) (v1 : v < 2 ^ m) (v2 : v ≠ 0) (hE : ∀ c ∈ p, c < 2 ^ m) :
    trim (dv q v s p.length (trim p) (List.replicate p.length 0)).2 = (dq q v s p).2 ∧ (dv q v s p.length (trim p) (List.replicate p.length 0)).1 = (dq q v s p).1 := by
  have hpos : 0 < s.length := List.length_pos_iff.mpr hs
  have leP := trim_len p
  have leP2 := tl_le p
  have hET : ∀ c ∈ trim p, c < 2 ^ m := fun c hc => hE c (trim_mem hc)
  have e : List.replicate p.length 0 = List.replicate ((trim p).length + 1 - s.length) 0 ++ List.replicate (p.length - ((trim p).length + 1 - s.length)) 0 := by
    rw [List.replicate_append_replicate]; congr 1; omega
  have h := dv_app F hv hpos (List.replicate (p.length - ((trim p).length + 1 - s.length)) 0) p.length (trim p) (List.replicate ((trim p).length + 1 - s.length) 0) hET (by rw [List.length_replicate]; omega)
  have h2 := dv_trim F hv hpos (n := p.length) hET v1 v2 (trim_trim p) (by omega)
  unfold dq
  rw [e, h, ht]
  refine ⟨?_, rfl⟩
  refine Eq.trans (trim_ext fun j => ?_) h2
  show ((dv q v s p.length (trim p) (List.replicate ((trim p).length + 1 - s.length) 0)).2 ++ List.replicate (p.length - ((trim p).length + 1 - s.length)) 0).getD j 0 = _
  by_cases g : j < (dv q v s p.length (trim p) (List.replicate ((trim p).length + 1 - s.length) 0)).2.length
  · rw [List.getD_eq_getElem?_getD, List.getElem?_append_left g, ← List.getD_eq_getElem?_getD]
  · have h9 : (dv q v s p.length (trim p) (List.replicate ((trim p).length + 1 - s.length) 0)).2.getD j 0 = 0 := getD_out (by omega)
    rw [h9, List.getD_eq_getElem?_getD, List.getElem?_append_right (by omega), ← List.getD_eq_getElem?_getD, rep_getD]
theorem inv_exF {m q a : Nat} (F : Fd m q) (a0 : a ≠ 0) (ha : a < 2 ^ m) : ∃ v, v < 2 ^ m ∧ v ≠ 0 ∧ mulm q v a = 1 := by
  obtain ⟨r, R⟩ := root_ex F
  obtain ⟨j, hj, e⟩ := log_ex F R a0 ha
  have p4 := pow_mF F
  refine ⟨pw q r (2 ^ m - 1 - j), pw_lt F _ _, pw_ne F R.lt (r0 F R) _, ?_⟩
  rw [← e, ← pw_add F, show 2 ^ m - 1 - j + j = 2 ^ m - 1 by omega]
  exact R.one
theorem pair_flat (p r : List Nat) : flatN 2 (.tuple [.list (LI (NI p)), .list (LI (NI r))]) = true := by
  show (List.all _ (flatN 1)) = true
  rw [List.all_cons, List.all_cons, LI_flatN, LI_flatN]; rfl
def rcLDivn (C : Addr) : RC := pur fun as S => ∃ (m q r : Nat) (logs p s : List Nat), as = [.val (FldO C m q r logs), .val (.int ((m : Nat) : Int)), .val (.int ((q : Nat) : Int)), .val (.list (LI (NI p))), .val (.list (LI (NI s)))] ∧ FldOk m q r logs ∧ (∀ c ∈ p, c < 2 ^ m) ∧ (∀ c ∈ s, c < 2 ^ m) ∧ p.length ≤ 400 ∧ s.length ≤ 400 ∧ trim s = s ∧ S (.ok (.val (.bool true)))
instance {C : Addr} : MonoR (rcLDivn C) := inferInstanceAs (MonoR (pur _))
end
section
open FLD PLY
theorem conv_nil (q : Nat) (p : List Nat) : trim (conv q p []) = [] := by
  have e : ∀ (P : List Nat) (k : Nat) (t : List Nat), rows q [] P k t = t := fun P => by
    induction P with
    | nil => intro k t; rfl
    | cons x P ih => intro k t; exact ih (k + 1) t
  unfold conv
  rw [e]
  have : tl (List.replicate (p.length + ([] : List Nat).length) 0) ≤ 0 := (tl_le_iff _ _).mpr fun j _ => rep_getD _ _
  exact List.length_eq_zero_iff.mp (by rw [trim_len]; omega)
theorem scaled_law {m q e : Nat} (F : Fd m q) (p : List Nat) : trim (p.map (mulm q e)) = trim (conv q p (trim [e])) := by
  have hm : ∀ j, (p.map (mulm q e)).getD j 0 = mulm q e (p.getD j 0) := fun j => by
    rw [List.getD_eq_getElem?_getD, List.getD_eq_getElem?_getD, List.getElem?_map]
    cases p[j]? with
    | none => exact (mulm_zero F e).symm
    | some c => rfl
  by_cases z : e = 0
  · subst z
    have e1 : trim [0] = [] := rfl
    rw [e1, conv_nil]
    have : tl (p.map (mulm q 0)) ≤ 0 := (tl_le_iff _ _).mpr fun j _ => by rw [hm, zero_mulm F]
    exact List.length_eq_zero_iff.mp (by rw [trim_len]; omega)
  · have e1 : trim [e] = [e] := by
      have : 1 = tl [e] := tl_only (by simp) (fun i h1 h2 => by simp at h2; omega) (.inr ⟨e, rfl, z⟩)
      unfold trim
      rw [← this]
      rfl
    rw [e1]
    refine trim_ext fun j => ?_
    rw [hm, conv1_getD]
    by_cases h : j < p.length
    · rw [if_pos h, mulm_comm]
    · rw [if_neg h, getD_out (by omega), mulm_zero F]
theorem dv_one {m q : Nat} (F : Fd m q) : ∀ (n : Nat) (R W : List Nat), (∀ c ∈ R, c < 2 ^ m) → R.length ≤ n → trim R = R → R.length ≤ W.length → (∀ j, j < R.length → W.getD j 0 = 0) → (dv q 1 [1] n R W).1 = [] ∧ (dv q 1 [1] n R W).2.length = W.length ∧ ∀ j, (dv q 1 [1] n R W).2.getD j 0 = if j < R.length then R.getD j 0 else W.getD j 0
  | 0, R, W, _, hl, _, _, _ => by
    have : R = [] := List.length_eq_zero_iff.mp (by omega)
    subst this
    exact ⟨rfl, rfl, fun j => rfl⟩
  | n + 1, R, W, hE, hl, ht, hW, h0 => by
    have one : (1 : Nat) < 2 ^ m := by have := (pow_mF F).1; omega
    have hv : mulm q 1 (lastD [1]) = 1 := one_mulm F one
    have l1 : ([1] : List Nat).length = 1 := rfl
    by_cases h : ([1] : List Nat).length ≤ R.length
    · have hlt := step_lt F hv (by decide) h hE
      have hle : lead q 1 R = lastD R := mulm_one F (lastD_lt F hE)
      have hstep : ∀ j, (PLY.step q 1 [1] R).getD j 0 = if j < R.length - 1 then R.getD j 0 else 0 := fun j => by
        unfold PLY.step
        rw [trim_getD, row_getD q _ [1] _ R j (by omega), hle]
        by_cases g : j < R.length - 1
        · rw [if_neg (by omega), if_pos g, Nat.xor_zero]
        · rw [if_neg g]
          by_cases g2 : j = R.length - 1
          · rw [if_pos (by omega), show j - (R.length - ([1] : List Nat).length) = 0 by omega]
            show R.getD j 0 ^^^ mulm q (lastD R) 1 = 0
            rw [mulm_one F (lastD_lt F hE), g2]
            exact Nat.xor_self _
          · rw [if_neg (by omega), getD_out (by omega), Nat.xor_zero]
      rw [dv_step h]
      have hset : ∀ j, (W.set (R.length - ([1] : List Nat).length) (lead q 1 R)).getD j 0 = if j = R.length - 1 then lastD R else W.getD j 0 := fun j => by rw [set_getD (by omega), hle, l1]
      obtain ⟨d1, d2, d3⟩ := dv_one F n (PLY.step q 1 [1] R) (W.set (R.length - ([1] : List Nat).length) (lead q 1 R)) (step_El F hE) (by omega) (by unfold PLY.step; rw [trim_trim]) (by rw [List.length_set]; omega) (fun j hj => by rw [hset, if_neg (by omega)]; exact h0 j (by omega))
      refine ⟨d1, by rw [d2, List.length_set], fun j => ?_⟩
      rw [d3, hset, hstep]
      by_cases g : j < (PLY.step q 1 [1] R).length
      · rw [if_pos g, if_pos (by omega), if_pos (by omega)]
      · rw [if_neg g]
        by_cases g2 : j = R.length - 1
        · rw [if_pos g2, if_pos (by omega), g2]; rfl
        · rw [if_neg g2]
          by_cases g3 : j < R.length
          · have := hstep j
            rw [getD_out (by omega), if_pos (by omega)] at this
            rw [if_pos g3, h0 j g3]
            exact this
          · rw [if_neg g3]
    · have : R = [] := List.length_eq_zero_iff.mp (by omega)
      subst this
      rw [dv_stop h]
      exact ⟨rfl, rfl, fun j => rfl⟩
theorem dq_one {m q v : Nat} (F : Fd m q) {p : List Nat} (hE : ∀ c ∈ p, c < 2 ^ m) (ht : trim p = p) (v1 : v < 2 ^ m) (hv : mulm q v (lastD (trim [1])) = 1) : dq q v [1] p = ([], p) := by
  have e1 : trim [1] = [1] := rfl
  rw [e1] at hv
  have ev : v = 1 := (mulm_one F v1).symm.trans hv
  subst ev
  unfold dq
  rw [e1, ht, show p.length + 1 - ([1] : List Nat).length = p.length by simp]
  obtain ⟨d1, d2, d3⟩ := dv_one F p.length p (List.replicate p.length 0) hE (Nat.le_refl _) ht (by rw [List.length_replicate]; exact Nat.le_refl _) (fun j _ => rep_getD _ _)
  refine Prod.ext d1 ?_
  show (dv q 1 [1] p.length p (List.replicate p.length 0)).2 = p
  rw [List.length_replicate] at d2
  apply List.ext_getElem?
  intro j
  by_cases h : j < p.length
  · rw [get_getD (by omega), get_getD h, d3, if_pos h]
  · rw [List.getElem?_eq_none (by omega), List.getElem?_eq_none (by omega)]
theorem scaled_lawD {m q e : Nat} (F : Fd m q) (p : List Nat) : trim (p.map fun b => mulm q b e) = trim (conv q p (trim [e])) := by
  rw [← scaled_law F]
  congr 1
  exact List.map_congr_left fun b _ => mulm_comm b e
theorem log_small4 {m : Int} (h : m.natAbs < 2 ^ 64) : m.natAbs.log2 < 1920 := by
  by_cases h0 : m.natAbs = 0
  · rw [h0]; decide
  · exact Nat.lt_of_lt_of_le ((Nat.log2_lt (k := 64) h0).mpr h) (by decide)
theorem trim_app0 {p : List Nat} (ht : trim p = p) (n : Nat) : trim (p ++ List.replicate n 0) = p := by
  refine Eq.trans (trim_ext fun j => ?_) ht
  by_cases g : j < p.length
  · rw [List.getD_eq_getElem?_getD, List.getElem?_append_left g, ← List.getD_eq_getElem?_getD]
  · have h9 : p.getD j 0 = 0 := getD_out (by omega)
    rw [h9, List.getD_eq_getElem?_getD, List.getElem?_append_right (by omega), ← List.getD_eq_getElem?_getD, rep_getD]
theorem pair_repr {p r : List Nat} (hp : ∀ c ∈ p, c < 256) (hr : ∀ c ∈ r, c < 256) (lp : p.length ≤ 400) (lr : r.length ≤ 400) : ReprOk (.tuple [.list (LI (NI p)), .list (LI (NI r))]) := by
  have g : ∀ {l : List Nat}, (∀ c ∈ l, c < 256) → l.length ≤ 400 → Rp (.list (LI (NI l))) 4400 2 := fun {l} h hl => by
    have := (RpA.ints (ns := NI l) fun c hc => by
      obtain ⟨n, hn, rfl⟩ := List.mem_map.mp hc
      have := h n hn
      exact ⟨by omega, by omega⟩).lst
    exact this.mono (by rw [NI_len]; omega) (by omega)
  exact ((RpA.cons (g hp lp) (RpA.cons (g hr lr) (RpA.nil (n := 0) (b := 2)) (N := 4401) (by omega)) (N := 8802) (by omega)).tup).ok rfl (by decide) (by decide)
end
end K04
set_option synthInstance.maxSize 100000
set_option synthInstance.maxHeartbeats 0
namespace K04
open PySem PySem.Spec L2 NB ER
abbrev s__law_numbers : Stmt := top 34
theorem sc__law_numbers : FnScope ["script", "many", "rest", "mixed", "numbers", "k", "at", "cell"] ["script", "many"] (defScope s__law_numbers) := ⟨rfl, rfl, rfl, by decide +kernel, rfl, by decide +kernel, by decide +kernel⟩
theorem V_take_more {α : Type} : ∀ {l : List α} {i : Nat} {x : α}, l[i]? = some x → l.take (i + 1) = l.take i ++ [x] := fun {l i x} h => by rw [List.take_add_one, h]; rfl
theorem map_get_int {ns : List Int} {i : Nat} {x : V} (h : (ns.map V.int)[i]? = some x) : ∃ z, ns[i]? = some z ∧ x = .int z := by
  rw [List.getElem?_map] at h
  cases e : ns[i]? with
  | none => rw [e] at h; cases h
  | some z => rw [e] at h; exact ⟨z, rfl, (Option.some.inj h).symm⟩
theorem NL_get_inv {ns : List Nat} {i : Nat} {x : V} (h : (NL ns)[i]? = some x) : ∃ z : Nat, ns[i]? = some z ∧ x = .int (z : Int) := by
  unfold NL at h
  rw [List.getElem?_map] at h
  cases e : ns[i]? with
  | none => rw [e] at h; cases h
  | some z => rw [e] at h; exact ⟨z, rfl, (Option.some.inj h).symm⟩
section
variable {P : Program} {w : World} {K : PySem.W.Frag} {mg : Str → Option Value} {base : Heap}
def sp_numbers (K : PySem.W.Frag) : Sp := fun vs H Q _ => ∃ (a : Addr) (ns : List Int) (many : Nat), vs = [.ref a, .int (many : Int)] ∧ SqL K H a (ns.map V.int) ∧ ns.length ≤ 63 ∧ many ≤ 1000 ∧
  ∀ (l : Addr) (xs : List Nat) H', Same H H' → H l = none → H' l = some (.lst (NL xs)) → xs.length = many → (∀ x ∈ xs, x < 65536) → Q (.ref l) H'
theorem ok__law_numbers {f : Addr} {fd : FuncData} (D : Df K mg "_law_numbers" ["script", "many"] s__law_numbers f fd) (B : Bl mg) : FnOk P w K mg base CX0 1 f fd ["script", "many"] (sp_numbers K) := by
  refine D.F.ok sc__law_numbers (fun vs H Q E h => ?_) (fun cdv A outer s H vs Q E hr h => ?_)
  · obtain ⟨a, ns, many, rfl, _⟩ := h; rfl
  · obtain ⟨a, ns, many, rfl, hS, hl, hm, kQ⟩ := h
    refine ⟨_, (pss_cons (ps_set (i := 2) sc__law_numbers.nd rfl (Or.inl rfl) (pe_op op_cat (pe_lc (own := [("cell", 7)]) rfl sc__law_numbers.nd (pi_list (pe_slice sl_list (pv 0) po_none (po_some (pe_nat 63)))) (blkOk_by (own := [("cell", 7)]) (N := ["script", "many", "rest", "mixed", "numbers", "k", "at", "cell"]) (sc := defScope s__law_numbers) (by decide +kernel)) (fun _ _ _ _ _ => (pg_name (i := 7) sc__law_numbers.nd rfl (Or.inl rfl) (Or.inr rfl))) (fun _ _ _ _ _ => pts_nil) (fun _ _ _ _ _ => (pe_callB call_absN (by rfl) B.abs (by decide +kernel) (pa_cons (pv 7) pa_nil)))) (pe_lst (pa_cons (pe_nat 0) pa_nil))))
      (C8.pss_cut (ps_if (pt_cmpR op_gt (pe_callB call_len_seq (by rfl) B.len PySem.boot_len (pa_cons (pv 0) pa_nil)) (pe_nat 0) (nomark _)) (pss_one (ps_set (i := 2) sc__law_numbers.nd rfl (Or.inl rfl) (pe_slice sl_list (pv 2) po_none (po_some (pe_un un_neg (pe_nat 1)))))) pss_nil)
      (pss_cons (ps_setLc (i := 3) (own := [("cell", 7)]) rfl sc__law_numbers.nd rfl rfl (sw_true rfl rfl rfl (by decide +kernel)) (pi_list (pv 2)) (blkOk_by (own := [("cell", 7)]) (N := ["script", "many", "rest", "mixed", "numbers", "k", "at", "cell"]) (sc := defScope s__law_numbers) (by decide +kernel)) (fun _ _ _ _ _ => (pg_name (i := 7) sc__law_numbers.nd rfl (Or.inl rfl) (Or.inr rfl))) (fun _ _ _ _ _ => pts_nil) (fun _ _ _ _ _ => (pe_op nb_mod (pe_callTy call_int1 (by rfl) B.int (by decide +kernel) (pa_cons (pe_op nb_add (pe_op nb_mul (pv 7) (pe_nat 48271)) (pe_nat 11)) pa_nil)) (pe_nat 2147483647))))
      (pss_cons (ps_set (i := 4) sc__law_numbers.nd rfl (Or.inl rfl) (pe_lst pa_nil))
      (pss_cons (ps_for PassesOwn.never rfl (pi_range1 rfl B.range (pa_cons (pv 1) pa_nil)) (pg_name (i := 5) sc__law_numbers.nd rfl (Or.inl rfl) (Or.inr rfl))
        (pss_cons (ps_set (i := 6) sc__law_numbers.nd rfl (Or.inl rfl) (pe_op nb_mod (pe_callTy call_int1 (by rfl) B.int (by decide +kernel) (pa_cons (pv 5) pa_nil)) (pe_callB call_len_seq (by rfl) B.len PySem.boot_len (pa_cons (pv 2) pa_nil))))
        (pss_one (ps_if (pt_cmpR op_ge (pe_ix ix_list (pv 2) (pv 6) (fun _ _ => rfl)) (pe_op nb_pow (pe_nat 10) (pe_nat 18)) (nomark _)) (pss_cons (ps_expr (pe_bm PySem.F.plainAttrs_list PySem.F.slot_list_append PySem.F.type_list_append mt_append (pv 4) (pa_cons (pe_op nb_mod (pe_callTy call_int1 (by rfl) B.int (by decide +kernel) (pa_cons (pe_ix ix_list (pv 2) (pv 6) (fun _ _ => rfl)) pa_nil)) (pe_nat 65536)) pa_nil)))
          (pss_one (ps_asg (pe_op nb_fdiv (pe_ix ix_list (pv 2) (pv 6) (fun _ _ => rfl)) (pe_nat 65536)) (pg_sub (pv 2) (pv 6) set_list)))) (pss_cons (ps_asg (pe_op nb_mod (pe_callTy call_int1 (by rfl) B.int (by decide +kernel) (pa_cons (pe_op nb_add (pe_op nb_add (pe_op nb_mul (pe_ix ix_list (pv 3) (pv 6) (fun _ _ => rfl)) (pe_nat 16807)) (pe_nat 12345)) (pe_op nb_mul (pe_nat 7919) (pv 5))) pa_nil)) (pe_nat 2147483647)) (pg_sub (pv 3) (pv 6) set_list))
          (pss_one (ps_expr (pe_bm PySem.F.plainAttrs_list PySem.F.slot_list_append PySem.F.type_list_append mt_append (pv 4) (pa_cons (pe_op nb_mod (pe_callTy call_int1 (by rfl) B.int (by decide +kernel) (pa_cons (pe_op nb_add (pe_ix ix_list (pv 2) (pv 6) (fun _ _ => rfl)) (pe_op nb_fdiv (pe_ix ix_list (pv 3) (pv 6) (fun _ _ => rfl)) (pe_nat 5))) pa_nil)) (pe_nat 65536)) pa_nil)))))))))
      (pss_one (ps_ret (pv 4)))))))), ?_⟩
    -- rest
    refine ⟨_, rfl, 63, rfl, a, _, rfl, hS, fun c nc => ⟨c, rfl, ⟨_, SqL.of upd_same⟩, fun D0 nD => ?_⟩⟩
    have ecut : cutV (ns.map V.int) none (some ((63 : Nat) : Int)) = ns.map V.int := by
      rw [cut_to, List.take_of_length_le (by rw [List.length_map]; exact hl)]
    have ncD : c ≠ D0 := fun z => by rw [z, upd_same] at nD; cases nD
    have nD' : H D0 = none := by rw [upd_ne (Ne.symm ncD)] at nD; exact nD
    refine lc_list (K := K) (a := c) (xs := ns.map V.int) (fun i H' => H' c = some (.lst (ns.map V.int)) ∧ H' D0 = some (.lst (NL ((ns.take i).map Int.natAbs))) ∧ Same H H') ⟨?_, ?_, ?_⟩ (fun i H' _ h => SqL.of h.1) ?_ ?_
    · rw [upd_ne ncD, upd_same]; exact congrArg (fun l => some (HO.lst l)) ecut
    · rw [upd_same]; rfl
    · exact same_new (same_upd nc) nD
    · rintro i x H' hi ⟨h1, h2, sm⟩
      obtain ⟨z, hz, rfl⟩ := map_get_int hi
      have hil : i < ns.length := (List.getElem?_eq_some_iff.mp hz).1
      refine ⟨rfl, ?_⟩
      refine ⟨_, rfl, z, rfl, _, h2, ?_, ?_, ?_, ?_⟩
      · rw [NL_len, List.length_map, List.length_take]; exact Nat.lt_of_le_of_lt (Nat.min_le_left _ _) (small1000 (by omega))
      · rw [upd_ne ncD]; exact h1
      · rw [upd_same, NL_app, V_take_more hz, List.map_append]; rfl
      · exact same_upd2 sm nD'
    · rintro H1 ⟨h1, h2, sm⟩
      rw [List.length_map, List.take_length] at h2
      refine ⟨by show 1 ≤ sizeLine; decide, fun z nz => ?_⟩
      have nDz : D0 ≠ z := ne_of_none h2 nz
      refine ⟨D0, z, _, _, rfl, rfl, (by rw [upd_ne nDz]; exact h2), upd_same, ?_, fun r nr => ?_⟩
      · rw [NL_len, List.length_map]; exact Nat.le_of_lt (small1000 (by simp; omega))
      have e0 : NL (ns.map Int.natAbs) ++ [V.int ((0 : Nat) : Int)] = NL (ns.map Int.natAbs ++ [0]) := NL_app _ _
      have sm1 : Same H (upd H1 z (.lst [V.int ((0 : Nat) : Int)])) := same_new sm nz
      have sm2 : Same H (upd (upd H1 z (.lst [V.int ((0 : Nat) : Int)])) r (.lst (NL (ns.map Int.natAbs ++ [0])))) := same_new sm1 nr
      rw [e0]
      have nr0 : H r = none := sm1.free nr
      generalize hH2 : upd (upd H1 z (.lst [V.int ((0 : Nat) : Int)])) r (.lst (NL (ns.map Int.natAbs ++ [0]))) = H2 at sm2
      have hr2 : H2 r = some (.lst (NL (ns.map Int.natAbs ++ [0]))) := by rw [← hH2, upd_same]
      -- rest without the 0
      refine ⟨fun σ H3 => ∃ (r3 : Addr) (R : List Nat) (v : Option V), σ = [some (.ref a), some (.int (many : Int)), some (.ref r3), none, none, none, none, v] ∧ Same H H3 ∧ H r3 = none ∧ H3 r3 = some (.lst (NL R)) ∧ 0 < R.length ∧ R.length ≤ 64, ?_, ?_⟩
      · refine ⟨_, rfl, a, _, rfl, .inl (sm2.seq hS), _, _, rfl, rfl, _, rfl, iteD (fun c0 => ?_) (fun c0 => ?_)⟩
        · have c1 : (0 : Int) < ((ns.map V.int).length : Int) := c0
          rw [List.length_map] at c1
          refine ⟨_, rfl, 1, rfl, -1, rfl, r, _, rfl, SqL.of hr2, fun q nq => ⟨q, ns.map Int.natAbs, none, ?_, same_new sm2 nq, sm2.free nq, ?_, by rw [List.length_map]; omega, by rw [List.length_map]; omega⟩⟩
          · rfl
          · rw [upd_same, cut_last]
            unfold NL
            rw [← List.map_dropLast, List.dropLast_concat]
        · exact ⟨r, _, none, rfl, sm2, nr0, hr2, by simp, by simp; omega⟩
      · rintro σ H3 ⟨r3, R, v, rfl, sm3, n3, h3, hR0, hR1⟩
        -- mixed
        refine ⟨_, rfl, r3, rfl, ⟨_, SqL.of h3⟩, fun M0 nM => ?_⟩
        have nrM : r3 ≠ M0 := ne_of_none h3 nM
        have nM' : H M0 = none := sm3.free nM
        refine lc_list (K := K) (a := r3) (xs := NL R) (fun i H' => ∃ M : List Nat, H' r3 = some (.lst (NL R)) ∧ H' M0 = some (.lst (NL M)) ∧ M.length = i ∧ Same H H') ⟨[], ?_, ?_, rfl, ?_⟩ (fun i H' _ h => by obtain ⟨M, h1, _⟩ := h; exact SqL.of h1) ?_ ?_
        · rw [upd_ne nrM]; exact h3
        · rw [upd_same]; rfl
        · exact same_new sm3 nM
        · rintro i x H' hi ⟨M, h1, h2, hM, sm⟩
          obtain ⟨z, hz, rfl⟩ := NL_get_inv hi
          have hil : i < R.length := (List.getElem?_eq_some_iff.mp hz).1
          refine ⟨rfl, ?_⟩
          refine ⟨_, rfl, _, _, rfl, rfl, .inr (by decide), _, _, rfl, rfl, .inl ⟨_, rfl, _, _, rfl, rfl, Nat.succ_pos _, _, h2, ?_, M ++ [(z * 48271 + 11) % 2147483647], ?_, ?_, ?_, ?_⟩⟩
          · rw [NL_len]; exact small1000 (by omega)
          · rw [upd_ne nrM]; exact h1
          · rw [upd_same, ← NL_app]
          · rw [List.length_append, hM]; rfl
          · exact same_upd2 sm nM'
        · rintro H4 ⟨M, h1, h2, hM, sm4⟩
          rw [NL_len] at hM
          -- numbers
          refine ⟨Nat.zero_le _, fun l nl => ?_⟩
          have nrl : r3 ≠ l := ne_of_none h1 nl
          have nMl : M0 ≠ l := ne_of_none h2 nl
          have nl' : H l = none := sm4.free nl
          refine ⟨_, rfl, _, rfl, by omega, by omega, ?_⟩
          refine for_rangeN (lo := 0) (n := many) (fun i σ H' => ∃ (R' M' N : List Nat) (v5 v6 v7 : Option V), σ = [some (.ref a), some (.int (many : Int)), some (.ref r3), some (.ref M0), some (.ref l), v5, v6, v7] ∧ H' r3 = some (.lst (NL R')) ∧ H' M0 = some (.lst (NL M')) ∧ H' l = some (.lst (NL N)) ∧
            R'.length = R.length ∧ M'.length = R.length ∧ N.length = i ∧ (∀ x ∈ N, x < 65536) ∧ Same H H') ⟨R, M, [], none, none, v, rfl, ?_, ?_, ?_, rfl, hM, rfl, (fun x hx => nomatch hx), ?_⟩ ?_ ?_
          · rw [upd_ne nrl]; exact h1
          · rw [upd_ne nMl]; exact h2
          · rw [upd_same]; rfl
          · exact same_new sm4 nl
          · rintro i σ H' hi ⟨R', M', N, v5, v6, v7, rfl, g1, g2, g3, e1, e2, e3, hN, sm⟩
            have hat : i % R.length < R.length := Nat.mod_lt _ hR0
            obtain ⟨x, hx⟩ : ∃ x, R'[i % R.length]? = some x := ⟨_, List.getElem?_eq_getElem (by omega)⟩
            obtain ⟨y, hy⟩ : ∃ y, M'[i % R.length]? = some y := ⟨_, List.getElem?_eq_getElem (by omega)⟩
            have hN3 : (NL N).length < sizeLine := by rw [NL_len]; exact small1000 (by omega)
            rw [Nat.zero_add]
            refine ⟨_, rfl, .inl ⟨_, rfl, _, rfl, r3, _, rfl, .inl (SqL.of g1), i, _, rfl, rfl, by rw [NL_len]; omega, ?_⟩⟩
            rw [NL_len, e1]
            refine ⟨_, rfl, _, rfl, r3, _, _, _, rfl, rfl, SqL.of g1, NL_at0 hx, _, _, rfl, rfl, ⟨by decide, by decide⟩, _, _, rfl, rfl, _, rfl, iteD (fun c => ?_) (fun c => ?_)⟩
            · refine ⟨_, rfl, .inl ⟨rfl, _, SqL.of g3⟩, _, rfl, _, rfl, r3, _, _, _, rfl, rfl, SqL.of g1, NL_at0 hx, .inl ⟨_, rfl, _, _, rfl, rfl, Nat.succ_pos _, l, _, _, rfl, rfl, g3, hN3, ?_⟩⟩
              have g1' : (upd H' l (.lst (NL N ++ [V.int ((x % 65536 : Nat) : Int)]))) r3 = some (.lst (NL R')) := by rw [upd_ne nrl]; exact g1
              refine ⟨_, rfl, _, rfl, r3, _, _, _, rfl, rfl, SqL.of g1', NL_at0 hx, _, _, rfl, rfl, ⟨by decide, by decide⟩, _, rfl, _, rfl, r3, _, _, i % R.length, rfl, rfl, g1', ixN_nat (by rw [NL_len]; omega), ?_⟩
              refine ⟨R'.set (i % R.length) (x / 65536), M', N ++ [x % 65536], _, _, v7, rfl, ?_, ?_, ?_, ?_, e2, ?_, ?_, ?_⟩
              · rw [upd_same, NL_set]
              · rw [upd_ne (Ne.symm nrM), upd_ne nMl]; exact g2
              · rw [upd_ne (Ne.symm nrl), upd_same, NL_app]
              · rw [List.length_set]; exact e1
              · rw [List.length_append, e3]; rfl
              · intro z hz
                rcases List.mem_append.mp hz with h | h
                · exact hN z h
                · rw [List.mem_singleton] at h; subst h; exact Nat.mod_lt _ (by decide)
              · exact same_upd2 (same_upd2 sm nl') n3
            · refine ⟨_, rfl, _, rfl, M0, _, _, _, rfl, rfl, SqL.of g2, NL_at0 hy, _, _, rfl, rfl, .inr (by decide), _, _, rfl, rfl, _, rfl, _, _, rfl, rfl, .inl (by decide), _, _, rfl, rfl, .inl ⟨_, rfl, _, _, rfl, rfl, Nat.succ_pos _, _, rfl, _, rfl, M0, _, _, i % R.length, rfl, rfl, g2, ixN_nat (by rw [NL_len]; omega), ?_⟩⟩
              rw [NL_set]
              generalize hy2 : (y * 16807 + 12345 + 7919 * i) % 2147483647 = y2
              have g1' : (upd H' M0 (.lst (NL (M'.set (i % R.length) y2)))) r3 = some (.lst (NL R')) := by rw [upd_ne nrM]; exact g1
              have g3' : (upd H' M0 (.lst (NL (M'.set (i % R.length) y2)))) l = some (.lst (NL N)) := by rw [upd_ne (Ne.symm nMl)]; exact g3
              have hy3 : (M'.set (i % R.length) y2)[i % R.length]? = some y2 := List.getElem?_set_self (by omega)
              refine ⟨_, rfl, .inl ⟨rfl, _, SqL.of g3'⟩, _, rfl, _, rfl, r3, _, _, _, rfl, rfl, SqL.of g1', NL_at0 hx, _, rfl, _, rfl, M0, _, _, _, rfl, rfl, SqL.of upd_same, NL_at0 hy3, _, _, rfl, rfl, ⟨by decide, by decide⟩, _, _, rfl, rfl, .inl ⟨_, rfl, _, _, rfl, rfl, Nat.succ_pos _, l, _, _, rfl, rfl, g3', hN3, ?_⟩⟩
              refine ⟨R', M'.set (i % R.length) y2, N ++ [(x + y2 / 5) % 65536], _, _, v7, rfl, ?_, ?_, ?_, e1, ?_, ?_, ?_, ?_⟩
              · rw [upd_ne nrl]; exact g1'
              · rw [upd_ne nMl, upd_same]
              · rw [upd_same, NL_app]
              · rw [List.length_set]; exact e2
              · rw [List.length_append, e3]; rfl
              · intro z hz
                rcases List.mem_append.mp hz with h | h
                · exact hN z h
                · rw [List.mem_singleton] at h; subst h; exact Nat.mod_lt _ (by decide)
              · exact same_upd2 (same_upd2 sm nM') nl'
          · rintro σ H' ⟨R', M', N, v5, v6, v7, rfl, g1, g2, g3, e1, e2, e3, hN, sm⟩
            exact ⟨_, rfl, kQ l N H' sm nl' g3 e3 hN⟩
end
section
open DL
variable {P : Program} {w : World} {K : PySem.W.Frag} {mg : Str → Option Value} {base : Heap}
def NIn (ns : List Nat) : List Int := ns.map fun (n : Nat) => (n : Int)
theorem NL_NIn (xs : List Nat) : NL xs = (NIn xs).map V.int := by unfold NL NIn; rw [List.map_map]; rfl
/-- a law that begins with numbers = _law_numbers(script, many) -/
theorem okLawN {x qual : Str} {st : Stmt} {f : Addr} {fd : FuncData} {N : List Str} {k many : Nat} (F : Fun K x qual st f fd) (S : FnScope N ["script"] (defScope st)) (hN : 2 ≤ N.length) (hm : many ≤ 1000)
    (body : ∀ (cdv : Value) (A : Around) (outer : List Env) (s : Shared) (H : Hp) (E : XK), Room k (A.deeper (PyProof.Rows.envOfC qual (defScope st) s.heap.objs.size f cdv)) →
      ∃ (t : TS) (g : Hp → DSX), PSs (cxOf CX0 P w K mg base N qual (defScope st) f cdv A outer s H E).nox (defBody st) (tSeq (tAsg (tCall (sp_numbers K) [] (fun _ _ _ => False) (tCons (tVar 0) (tCons (tC (.int (many : Int))) tNil))) (gName 1)) t) ∧ (∀ F0, DS0 F0 F0 t (g F0)) ∧
        ∀ F0 (xs : List Nat), xs.length = many → (∀ x ∈ xs, x < 65536) → g F0 lawEnds (none :: some (.val (.list (LI (NIn xs)))) :: List.replicate (N.length - 2) none)) : FnOk P w K mg base CX0 (k + 1) f fd ["script"] (DL.sp_law K) := by
  refine F.ok S (fun vs H Q E h => ?_) (fun cdv A outer s H vs Q E hr h => ?_)
  · obtain ⟨a, ns, rfl, _⟩ := h; rfl
  · obtain ⟨a, ns, rfl, hS, hl, hQ⟩ := h
    obtain ⟨t, g, h1, h2, h3⟩ := body cdv A outer s H E hr
    refine ⟨_, h1, ?_⟩
    refine ⟨.ref a, rfl, a, ns, many, rfl, hS, hl, hm, fun l xs H1 s1 nl hx hlen hb => ?_⟩
    have e : L2.start N [V.ref a] = some (.ref a) :: none :: List.replicate (N.length - 2) none := by
      unfold L2.start
      obtain ⟨m, hm⟩ : ∃ m, N.length = m + 2 := ⟨N.length - 2, by omega⟩
      rw [hm]
      show some (V.ref a) :: List.replicate (m + 2 - 1) none = some (V.ref a) :: none :: List.replicate (m + 2 - 2) none
      have : m + 2 - 1 = m + 1 := by omega
      rw [this, List.replicate_succ]; rfl
    show t _ ((L2.start N [V.ref a]).set 1 (some (.ref l))) H1
    rw [e]
    have inst := h2 H1
    rw [NL_NIn] at hx
    have := law_rest (t := t) (g := g H1) (Q := Q) (Z := (some (.ref a), none) :: (some (.ref l), some (.val (.list (LI (NIn xs))))) :: List.replicate (N.length - 2) (none, none)) (H := H1) (fun p hp sv e => ?_) hQ (by
      simp only [List.map_cons, List.map_replicate]
      exact h3 H1 xs hlen hb)
    · simpa using this
    · rcases List.mem_cons.mp hp with z | hp
      · subst z; cases e
      · rcases List.mem_cons.mp hp with z | hp
        · subst z; cases e; exact ⟨_, _, rfl, rfl, dv_ints H1 hx⟩
        · rw [List.mem_replicate] at hp
          rw [hp.2] at e; cases e
/-- a law that begins with numbers = _law_numbers(script, many) -/
theorem okLawNG {x qual : Str} {st : Stmt} {f : Addr} {fd : FuncData} {N : List Str} {k many : Nat} (F : Fun K x qual st f fd) (S : FnScope N ["script"] (defScope st)) (hN : 2 ≤ N.length) (hm : many ≤ 1000)
    (body : ∀ (cdv : Value) (A : Around) (outer : List Env) (s : Shared) (H : Hp) (E : XK), (A.deeper (PyProof.Rows.envOfC qual (defScope st) s.heap.objs.size f cdv)).guards = some [] → Room k (A.deeper (PyProof.Rows.envOfC qual (defScope st) s.heap.objs.size f cdv)) →
      ∃ (t : TS) (g : Hp → DSX), PSs (cxOf CX0 P w K mg base N qual (defScope st) f cdv A outer s H E).nox (defBody st) (tSeq (tAsg (tCall (sp_numbers K) [] (fun _ _ _ => False) (tCons (tVar 0) (tCons (tC (.int (many : Int))) tNil))) (gName 1)) t) ∧ (∀ F0, DS0 F0 F0 t (g F0)) ∧
        ∀ F0 (xs : List Nat), xs.length = many → (∀ x ∈ xs, x < 65536) → g F0 lawEnds (none :: some (.val (.list (LI (NIn xs)))) :: List.replicate (N.length - 2) none)) : GR.FnG P w K mg base CX0 (k + 1) f fd ["script"] (DL.sp_law K) := by
  refine GR.Fun.okG F S (fun vs H Q E h => ?_) (fun cdv A outer s H vs Q E gd hr h => ?_)
  · obtain ⟨a, ns, rfl, _⟩ := h; rfl
  · obtain ⟨a, ns, rfl, hS, hl, hQ⟩ := h
    obtain ⟨t, g, h1, h2, h3⟩ := body cdv A outer s H E gd hr
    refine ⟨_, h1, ?_⟩
    refine ⟨.ref a, rfl, a, ns, many, rfl, hS, hl, hm, fun l xs H1 s1 nl hx hlen hb => ?_⟩
    have e : L2.start N [V.ref a] = some (.ref a) :: none :: List.replicate (N.length - 2) none := by
      unfold L2.start
      obtain ⟨m, hm⟩ : ∃ m, N.length = m + 2 := ⟨N.length - 2, by omega⟩
      rw [hm]
      show some (V.ref a) :: List.replicate (m + 2 - 1) none = some (V.ref a) :: none :: List.replicate (m + 2 - 2) none
      have : m + 2 - 1 = m + 1 := by omega
      rw [this, List.replicate_succ]; rfl
    show t _ ((L2.start N [V.ref a]).set 1 (some (.ref l))) H1
    rw [e]
    have inst := h2 H1
    rw [NL_NIn] at hx
    have := law_rest (t := t) (g := g H1) (Q := Q) (Z := (some (.ref a), none) :: (some (.ref l), some (.val (.list (LI (NIn xs))))) :: List.replicate (N.length - 2) (none, none)) (H := H1) (fun p hp sv e => ?_) hQ (by
      simp only [List.map_cons, List.map_replicate]
      exact h3 H1 xs hlen hb)
    · simpa using this
    · rcases List.mem_cons.mp hp with z | hp
      · subst z; cases e
      · rcases List.mem_cons.mp hp with z | hp
        · subst z; cases e; exact ⟨_, _, rfl, rfl, dv_ints H1 hx⟩
        · rw [List.mem_replicate] at hp
          rw [hp.2] at e; cases e
end
end K04
set_option synthInstance.maxSize 100000
set_option synthInstance.maxHeartbeats 0
namespace K04
open PySem PySem.Spec L2 NB ER MKX DL
section
open FLD PLY
def El (m : Nat) (p : List Nat) : Prop := ∀ c ∈ p, c < 2 ^ m
/-- the product of all x + e -/
def frs (q : Nat) (rs : List Nat) : List Nat := rs.foldl (fun p e => trim (conv q p [e, 1])) [1]
theorem frs_nil (q : Nat) : frs q [] = [1] := rfl
theorem frs_more (q : Nat) (rs : List Nat) (e : Nat) : frs q (rs ++ [e]) = trim (conv q (frs q rs) [e, 1]) := by unfold frs; rw [List.foldl_append]; rfl
theorem frs_El {m q : Nat} (F : Fd m q) (rs : List Nat) : El m (frs q rs) := by
  rcases List.eq_nil_or_concat rs with h | ⟨l, e, h⟩
  · subst h
    intro c hc
    rw [frs_nil, List.mem_singleton] at hc
    have := (pow_mF F).1
    omega
  · subst h
    rw [List.concat_eq_append, frs_more]
    exact fun c hc => conv_mem F _ _ c (trim_mem hc)
theorem frs_len {q : Nat} : ∀ (n : Nat) (rs : List Nat), rs.length = n → (frs q rs).length ≤ n + 1
  | 0, rs, h => by
    have : rs = [] := List.length_eq_zero_iff.mp h
    subst this
    exact Nat.le_refl _
  | n + 1, rs, h => by
    rcases List.eq_nil_or_concat rs with g | ⟨l, e, g⟩
    · subst g; simp at h
    · subst g
      rw [List.concat_eq_append] at h ⊢
      have ih := frs_len (q := q) n l (by simpa using h)
      rw [frs_more, trim_len]
      have := conv_tl q (frs q l) [e, 1] (by simp)
      simp at this
      omega
theorem frs_trim (q : Nat) (rs : List Nat) : trim (frs q rs) = frs q rs := by
  rcases List.eq_nil_or_concat rs with h | ⟨l, e, h⟩
  · subst h; rfl
  · subst h; rw [List.concat_eq_append, frs_more, trim_trim]
theorem pair_El {m q e : Nat} (F : Fd m q) (he : e < 2 ^ m) : El m [e, 1] := by
  have := (pow_mF F).1
  intro c hc
  simp at hc
  omega
section
variable {m q : Nat} (F : FLD.Fd m q)
include F
theorem ev_pair {x e : Nat} (hx : x < 2 ^ m) : ev q x [e, 1] = x ^^^ e := by
  rw [ev_cons, ev_cons, ev_nil, zero_mulm F, Nat.zero_xor, one_mulm F hx]
theorem ev_frs_more {x e : Nat} (hx : x < 2 ^ m) (rs : List Nat) : ev q x (frs q (rs ++ [e])) = mulm q (ev q x (frs q rs)) (x ^^^ e) := by
  rw [frs_more, ev_trim F, ev_conv F, ev_pair F hx]
theorem ev_frs_zero {x : Nat} (hx : x < 2 ^ m) : ∀ (n : Nat) (rs : List Nat), rs.length = n → x ∈ rs → ev q x (frs q rs) = 0
  | 0, rs, h, hm => by
    have : rs = [] := List.length_eq_zero_iff.mp h
    subst this
    cases hm
  | n + 1, rs, h, hm => by
    rcases List.eq_nil_or_concat rs with g | ⟨l, e, g⟩
    · subst g; simp at h
    · subst g
      rw [List.concat_eq_append] at h hm ⊢
      rw [ev_frs_more F hx]
      rcases List.mem_append.mp hm with h1 | h1
      · rw [ev_frs_zero hx n l (by simpa using h) h1, zero_mulm F]
      · rw [List.mem_singleton] at h1
        rw [h1, Nat.xor_self, mulm_zero F]
theorem ev_frs_ne {x : Nat} (hx : x < 2 ^ m) : ∀ (n : Nat) (rs : List Nat), rs.length = n → El m rs → x ∉ rs → ev q x (frs q rs) ≠ 0
  | 0, rs, h, _, _ => by
    have : rs = [] := List.length_eq_zero_iff.mp h
    subst this
    rw [frs_nil, ev_cons, ev_nil, zero_mulm F]
    decide
  | n + 1, rs, h, hE, hm => by
    rcases List.eq_nil_or_concat rs with g | ⟨l, e, g⟩
    · subst g; simp at h
    · subst g
      rw [List.concat_eq_append] at h hm hE ⊢
      rw [ev_frs_more F hx]
      have he : e < 2 ^ m := hE e (by simp)
      refine mulm_ne F (ev_lt F (frs_El F l)) (Nat.xor_lt_two_pow hx he) (ev_frs_ne hx n l (by simpa using h) (fun c hc => hE c (by simp [hc])) (fun z => hm (by simp [z]))) ?_
      intro z
      have h := congrArg (fun t => x ^^^ t) z
      have h2 : e = x := by
        have h3 : x ^^^ (x ^^^ e) = x ^^^ 0 := h
        rwa [← Nat.xor_assoc, Nat.xor_self, Nat.zero_xor, Nat.xor_zero] at h3
      exact hm (by simp [h2])
end
def Rts (m q : Nat) (p : List Nat) (n : Nat) : List Nat := (List.range n).filter fun e => decide (ev q e p = 0)
theorem Rts_more (m q : Nat) (p : List Nat) (n : Nat) : Rts m q p (n + 1) = Rts m q p n ++ (if ev q n p = 0 then [n] else []) := by
  unfold Rts
  rw [List.range_succ, List.filter_append]
  congr 1
  by_cases h : ev q n p = 0
  · simp [h]
  · simp [h]
theorem Rts_len (m q : Nat) (p : List Nat) (n : Nat) : (Rts m q p n).length ≤ n := by
  have := List.length_filter_le (fun e => decide (ev q e p = 0)) (List.range n)
  rw [List.length_range] at this
  exact this
def fsts (pts : List (Nat × Nat)) : List Nat := pts.map Prod.fst
/-- no point up to the n-th has a first number of an earlier one -/
def Apart (pts : List (Nat × Nat)) (n : Nat) : Prop := ∀ (j : Nat) (x : Nat × Nat), j < n → pts[j]? = some x → x.1 ∉ fsts (pts.take j)
theorem fsts_more {pts : List (Nat × Nat)} {i : Nat} {x : Nat × Nat} (h : pts[i]? = some x) : fsts (pts.take (i + 1)) = fsts (pts.take i) ++ [x.1] := by unfold fsts; rw [V_take_more h, List.map_append]; rfl
theorem fsts_len (pts : List (Nat × Nat)) : (fsts pts).length = pts.length := by unfold fsts; rw [List.length_map]
theorem fsts_mem {pts : List (Nat × Nat)} {j i : Nat} {x : Nat × Nat} (h : pts[j]? = some x) (hj : j < i) : x.1 ∈ fsts (pts.take i) := by
  unfold fsts
  refine List.mem_map.mpr ⟨x, ?_, rfl⟩
  exact List.mem_of_getElem? (i := j) (by rw [List.getElem?_take_of_lt hj]; exact h)
end
end K04
set_option synthInstance.maxSize 100000
set_option synthInstance.maxHeartbeats 0
namespace K04
open PySem PySem.Spec L2 NB ER MKX DL
abbrev s_Field_add : Stmt := inClass (top 30) 4
theorem sc_Field_add : FnScope ["self", "e", "f"] ["self", "e", "f"] (defScope s_Field_add) := ⟨rfl, rfl, rfl, by decide +kernel, rfl, by decide +kernel, by decide +kernel⟩
abbrev s_from_roots : Stmt := top 17
theorem sc_from_roots : FnScope ["field", "roots", "p", "e"] ["field", "roots"] (defScope s_from_roots) := ⟨rfl, rfl, rfl, by decide +kernel, rfl, by decide +kernel, by decide +kernel⟩
abbrev s_roots : Stmt := top 18
theorem sc_roots : FnScope ["field", "p", "e"] ["field", "p"] (defScope s_roots) := ⟨rfl, rfl, rfl, by decide +kernel, rfl, by decide +kernel, by decide +kernel⟩
abbrev s__law_found : Stmt := top 49
theorem sc__law_found : FnScope ["modulus", "m", "p", "e"] ["modulus", "m", "p"] (defScope s__law_found) := ⟨rfl, rfl, rfl, by decide +kernel, rfl, by decide +kernel, by decide +kernel⟩
section
open FLD PLY
variable {P : Program} {w : World} {K : PySem.W.Frag} {mg : Str → Option Value} {base : Heap}
variable {f_init : Addr} {fd_init : FuncData} {CH C C_NoDivisor C_NoInverse : Addr}
def rcFSize (C : Addr) : RC := pur fun as S => ∃ m q r logs, as = [.val (FldO C m q r logs)] ∧ FldOk m q r logs ∧ S (.ok (.val (.int ((2 ^ m : Nat) : Int))))
instance : MonoR (rcFSize C) := inferInstanceAs (MonoR (pur _))
theorem ok_Field_size {f : Addr} {fd : FuncData} (F : Fun K "size" "Field.size" s_Field_size f fd) (T : FK K C) : FnOk P w K mg base CX0 1 f fd ["self"] (spF (rcFSize C)) := by
  refine okF F sc_Field_size (fun F as S h => by obtain ⟨m, q, r, l, rfl, _⟩ := h; rfl) (fun cdv A outer s H E hr => ⟨_, _, (pss_one (ps_ret (pe_op op_add (pe_fld (pv 0) rfl) (pe_z 1)))), fun F0 => by infer_instance, fun F0 as S h => ?_⟩)
  obtain ⟨m, q, r, l, rfl, O, hS⟩ := h
  have pm := pow_mF O.fd
  refine ⟨C, _, _, rfl, T.cl, T.n3, fsF_turn m q r l, ?_⟩
  show S (.ok (.val (.int (((2 ^ m - 1 : Nat) : Int) + 1))))
  rw [show ((2 ^ m - 1 : Nat) : Int) + 1 = ((2 ^ m : Nat) : Int) by omega]; exact hS
def rcFAdd (C : Addr) : RC := pur fun as S => ∃ m q r logs a b, as = [.val (FldO C m q r logs), .val (.int ((a : Nat) : Int)), .val (.int ((b : Nat) : Int))] ∧ S (.ok (.val (.int ((a ^^^ b : Nat) : Int))))
instance : MonoR (rcFAdd C) := inferInstanceAs (MonoR (pur _))
theorem ok_Field_add {f : Addr} {fd : FuncData} (F : Fun K "add" "Field.add" s_Field_add f fd) : FnOk P w K mg base CX0 1 f fd ["self", "e", "f"] (spF (rcFAdd C)) := by
  refine okF F sc_Field_add (fun F as S h => by obtain ⟨m, q, r, l, a, b, rfl, _⟩ := h; rfl) (fun cdv A outer s H E hr => ⟨_, _, (pss_one (ps_ret (pe_op op_xor (pv 1) (pv 2)))), fun F0 => by infer_instance, fun F0 as S h => ?_⟩)
  obtain ⟨m, q, r, l, a, b, rfl, hS⟩ := h
  show S (.ok (.val (.int (Builtin.bitXor (a : Int) (b : Int)))))
  rw [xor_nn]; exact hS
def rcFroots (C : Addr) : RC := pur fun as S => ∃ (m q r : Nat) (logs rs : List Nat), as = [.val (FldO C m q r logs), .val (.list (LI (NI rs)))] ∧ FldOk m q r logs ∧ El m rs ∧ rs.length ≤ 100 ∧ S (.ok (.own (LI (NI (frs q rs)))))
instance : MonoR (rcFroots C) := inferInstanceAs (MonoR (pur _))
theorem ok_from_roots {f f_times_polys : Addr} {fd fd_times_polys : FuncData} (D : Df K mg "from_roots" ["field", "roots"] s_from_roots f fd) (B : Bl mg)
    (D_times_polys : Da K mg "times_polys" "times" ["field", "p", "q"] s_times_polys f_times_polys fd_times_polys) (G_times_polys : FnOk P w K mg base CX0 2 f_times_polys fd_times_polys ["field", "p", "q"] (spF (rcPTimes C))) :
    FnOk P w K mg base CX0 3 f fd ["field", "roots"] (spF (rcFroots C)) := by
  refine okF D.F sc_from_roots (fun F as S h => by obtain ⟨m, q, r, l, a, rfl, _⟩ := h; rfl) (fun cdv A outer s H E hr => ⟨_, _, (pss_cons (ps_set (i := 2) sc_from_roots.nd rfl (Or.inl rfl) (pe_lst (pa_cons (pe_z 1) pa_nil)))
      (pss_cons (ps_for PassesOwn.never rfl (pi_list (pv 1)) (pg_name (i := 3) sc_from_roots.nd rfl (Or.inl rfl) (Or.inr rfl))
        (pss_one (ps_set (i := 2) sc_from_roots.nd rfl (Or.inl rfl) (pe_call G_times_polys (hr.mono (by decide)) rfl D_times_polys.g D_times_polys.F.kp D_times_polys.b .nil pass00 (pa_cons (pv 0) (pa_cons (pv 2) (pa_cons (pe_lst (pa_cons (pv 3) (pa_cons (pe_z 1) pa_nil))) pa_nil)))))))
      (pss_one (ps_ret (pv 2))))), fun F0 => by infer_instance, fun F0 as S h => ?_⟩)
  obtain ⟨m, q, r, logs, rs, rfl, O, hE, hl, hS⟩ := h
  have sl := sizeLine_eq
  have F := O.fd
  refine ⟨(show 1 ≤ sizeLine by omega), .inl ?_⟩
  refine ⟨rfl, fun i σ => ∃ o3 : Option SV, σ = [some (.val (FldO C m q r logs)), some (.val (.list (LI (NI rs)))), some (.own (LI (NI (frs q (rs.take i))))), o3], ⟨none, rfl⟩, ?_, ?_⟩
  · rintro i d σ hd ⟨o3, rfl⟩
    obtain ⟨e, he, rfl⟩ := NI_at hd
    have hi := (List.getElem?_eq_some_iff.mp he).1
    have e1 := hE e (List.mem_of_getElem? he)
    have lt : (rs.take i).length = i := by rw [List.length_take]; omega
    have fl := frs_len (q := q) i (rs.take i) lt
    refine ⟨(show 2 ≤ sizeLine by omega), fun x => x = .ok (.own (LI (NI (trim (conv q (frs q (rs.take i)) [e, 1]))))), ⟨m, q, r, logs, frs q (rs.take i), [e, 1], rfl, O, frs_El F _, pair_El F e1, by omega, by show 2 ≤ 400; decide, rfl⟩, ?_⟩
    rintro x rfl
    refine ⟨fun _ => LI_allF _, .inl ⟨some (.val (.int (e : Int))), ?_⟩⟩
    have : frs q (rs.take (i + 1)) = trim (conv q (frs q (rs.take i)) [e, 1]) := by rw [← frs_more, ← take_one he]
    rw [this]; rfl
  · rintro σ ⟨o3, rfl⟩
    rw [LI_NI_len, List.take_length]
    exact hS
def rcRoots (C CN : Addr) : RC := pur fun as S => ∃ (m q r : Nat) (logs p : List Nat), as = [.val (FldO C m q r logs), .val (.list (LI (NI p)))] ∧ FldOk m q r logs ∧ El m p ∧ p.length ≤ 800 ∧ (trim p = [] → S (.er CN 0)) ∧ (trim p ≠ [] → S (.ok (.own (LI (NI (Rts m q p (2 ^ m)))))))
instance {CN : Addr} : MonoR (rcRoots C CN) := inferInstanceAs (MonoR (pur _))
theorem Rts_more' {m q : Nat} {p : List Nat} {n : Nat} : Rts m q p (n + 1) = Rts m q p n ++ (if ev q n p = 0 then [n] else []) := Rts_more m q p n
theorem ok_roots {f f_trimmed f_value f_Field_size : Addr} {fd fd_trimmed fd_value fd_Field_size : FuncData} (D : Df K mg "roots" ["field", "p"] s_roots f fd) (B : Bl mg)
    (D_trimmed : Df K mg "trimmed" ["coefficients"] s_trimmed f_trimmed fd_trimmed) (G_trimmed : FnOk P w K mg base CX0 1 f_trimmed fd_trimmed ["coefficients"] (spF rcTrim))
    (D_value : Df K mg "value" ["field", "p", "e"] s_value f_value fd_value) (G_value : FnOk P w K mg base CX0 3 f_value fd_value ["field", "p", "e"] (spF (rcPValue C)))
    (K_Field : Cls K C) (M_Field_size : Meth K C "size" f_Field_size) (b_Field_size : Binds K fd_Field_size ["self"] []) (G_Field_size : FnOk P w K mg base CX0 1 f_Field_size fd_Field_size ["self"] (spF (rcFSize C)))
    (X_NoDivisor : XC K mg "NoDivisor" C_NoDivisor f_init CH) (G_init : FnOk P w K mg base CX0 1 f_init fd_init ["self", "at"] (sp_init K)) (b_init : Binds K fd_init ["self", "at"] []) :
    FnOk P w K mg base (L2.CX P w) 4 f fd ["field", "p"] (spF (rcRoots C C_NoDivisor)) := by
  refine okFX D.F sc_roots (fun F as S h => by obtain ⟨m, q, r, l, a, rfl, _⟩ := h; rfl) (fun cdv A outer s H E hr => ⟨_, _, (pss_cons (ps_if (pt_not (pt_tru (pe_call G_trimmed (hr.mono (by decide)) rfl D_trimmed.g D_trimmed.F.kp D_trimmed.b .nil pass00 (pa_cons (pv 1) pa_nil)) (by intro _; rfl))) (pss_one (ps_err rfl X_NoDivisor G_init (hr.mono (by decide)) b_init pass0 (takes_of rfl rfl rfl rfl) (pa_cons (pe_z 0) pa_nil))) pss_nil)
      (pss_one (ps_ret (pe_lc (own := [("e", 2)]) rfl sc_roots.nd (pi_range1 rfl B.range (pa_cons (pe_meth0 (pv 0) K_Field M_Field_size G_Field_size (hr.mono (by decide)) b_Field_size .nil pass00) pa_nil)) (blkOk_by (own := [("e", 2)]) (N := ["field", "p", "e"]) (sc := defScope s_roots) (by decide +kernel)) (fun _ _ _ _ _ => (pg_name (i := 2) sc_roots.nd rfl (Or.inl rfl) (Or.inr rfl))) (fun _ _ _ _ _ => (pts_one (pt_cmpR op_eq (pe_call G_value (hr.mono (by decide)) rfl D_value.g D_value.F.kp D_value.b .nil pass00 (pa_cons (pv 0) (pa_cons (pv 1) (pa_cons (pv 2) pa_nil)))) (pe_z 0) (nomark _)))) (fun _ _ _ _ _ => (pv 2)))))), fun F0 ER h => by infer_instance, fun F0 as S h => ?_⟩)
  obtain ⟨m, q, r, logs, p, rfl, O, hE, hl, h1, h2⟩ := h
  have sl := sizeLine_eq
  have F := O.fd
  have pm := pow_mF F
  refine ⟨fun x => x = .ok (.own (LI (NI (trim p)))), ⟨p, rfl, by omega, rfl⟩, ?_⟩
  rintro x rfl
  refine ⟨fun z => Bool.noConfusion z, ?_⟩
  by_cases h0 : trim p = []
  · rw [h0]
    exact brT ⟨by decide, h1 h0⟩
  · have e0 : (LI (NI (trim p))).isEmpty = false := by
      rw [LI_empty]
      cases e : trim p with
      | nil => exact absurd e h0
      | cons => rfl
    show Br (!(!(LI (NI (trim p))).isEmpty)) _ _
    rw [e0]
    refine brF ?_
    refine ⟨_, rfl, fsF_no m q r logs, fun x => x = .ok (.val (.int ((2 ^ m : Nat) : Int))), ⟨m, q, r, logs, rfl, O, rfl⟩, ?_⟩
    rintro x rfl
    refine ⟨fun z => Bool.noConfusion z, ⟨by omega, by omega⟩, rfl, fun i acc => acc = LI (NI (Rts m q p i)), rfl, ?_, ?_⟩
    · rintro i d acc hd rfl
      obtain ⟨hi, rfl⟩ := rangeD_at hd
      have hi' : i < 2 ^ m := by omega
      rw [show (0 : Int) + (i : Int) = (i : Int) from Int.zero_add _]
      have rl := Rts_len m q p i
      refine ⟨fun x => x = .ok (.val (.int (ev q i p : Nat))), ⟨m, q, r, logs, p, i, rfl, O, hi', hE, by omega, rfl⟩, ?_⟩
      rintro x rfl
      refine ⟨fun z => Bool.noConfusion z, brD (fun c => ⟨?_, ?_⟩) fun c => ?_⟩
      · rw [LI_NI_len]; omega
      · show LI (NI (Rts m q p i)) ++ LI (NI [i]) = _
        rw [NI_app, Rts_more', if_pos (by omega)]
      · show LI (NI (Rts m q p i)) = _
        rw [Rts_more', if_neg (by omega), List.append_nil]
    · rintro acc rfl
      rw [rangeD_len, Int.toNat_natCast]
      exact h2 h0
def rcLFound : RC := pur fun as S => ∃ (m q : Nat) (p : List Nat), as = [.val (.int (q : Int)), .val (.int (m : Int)), .val (.list (LI (NI p)))] ∧ Fd m q ∧ El m p ∧ p.length ≤ 800 ∧ S (.ok (.own (LI (NI (Rts m q p (2 ^ m))))))
instance : MonoR rcLFound := inferInstanceAs (MonoR (pur _))
theorem ok__law_found {f f__law_at_point : Addr} {fd fd__law_at_point : FuncData} (D : Df K mg "_law_found" ["modulus", "m", "p"] s__law_found f fd) (B : Bl mg)
    (D__law_at_point : Df K mg "_law_at_point" ["modulus", "p", "e"] s__law_at_point f__law_at_point fd__law_at_point) (G__law_at_point : FnOk P w K mg base CX0 4 f__law_at_point fd__law_at_point ["modulus", "p", "e"] (spF rcLAt)) :
    FnOk P w K mg base CX0 5 f fd ["modulus", "m", "p"] (spF rcLFound) := by
  refine okF D.F sc__law_found (fun F as S h => by obtain ⟨m, q, a, rfl, _⟩ := h; rfl) (fun cdv A outer s H E hr => ⟨_, _, (pss_one (ps_ret (pe_lc (own := [("e", 3)]) rfl sc__law_found.nd (pi_range1 rfl B.range (pa_cons (pe_op op_shl (pe_z 1) (pv 1)) pa_nil)) (blkOk_by (own := [("e", 3)]) (N := ["modulus", "m", "p", "e"]) (sc := defScope s__law_found) (by decide +kernel)) (fun _ _ _ _ _ => (pg_name (i := 3) sc__law_found.nd rfl (Or.inl rfl) (Or.inr rfl))) (fun _ _ _ _ _ => (pts_one (pt_cmpR op_eq (pe_call G__law_at_point (hr.mono (by decide)) rfl D__law_at_point.g D__law_at_point.F.kp D__law_at_point.b .nil pass00 (pa_cons (pv 0) (pa_cons (pv 2) (pa_cons (pv 3) pa_nil)))) (pe_z 0) (nomark _)))) (fun _ _ _ _ _ => (pv 3))))), fun F0 => by infer_instance, fun F0 as S h => ?_⟩)
  obtain ⟨m, q, p, rfl, F, hE, hl, hS⟩ := h
  have sl := sizeLine_eq
  have pm := pow_mF F
  have es : (1 : Int) * 2 ^ ((m : Nat) : Int).toNat = ((2 ^ m : Nat) : Int) := by rw [Int.toNat_natCast, Int.one_mul, Int.natCast_pow]; rfl
  have h8 := F.h8
  have bd : -(2 ^ 62) ≤ (1 : Int) * 2 ^ ((m : Nat) : Int).toNat ∧ (1 : Int) * 2 ^ ((m : Nat) : Int).toNat < 2 ^ 62 := by rw [es]; omega
  refine ⟨⟨by omega, by omega, by decide⟩, bd, rfl, fun i acc => acc = LI (NI (Rts m q p i)), rfl, ?_, ?_⟩
  · rintro i d acc hd rfl
    obtain ⟨hi, rfl⟩ := rangeD_at hd
    rw [es, Int.toNat_natCast] at hi
    rw [show (0 : Int) + (i : Int) = (i : Int) from Int.zero_add _]
    have rl := Rts_len m q p i
    refine ⟨fun x => x = .ok (.val (.int (ev q i p : Nat))), ⟨m, q, i, p, rfl, F, hi, hE, by omega, rfl⟩, ?_⟩
    rintro x rfl
    refine ⟨fun z => Bool.noConfusion z, brD (fun c => ⟨?_, ?_⟩) fun c => ?_⟩
    · rw [LI_NI_len]; omega
    · show LI (NI (Rts m q p i)) ++ LI (NI [i]) = _
      rw [NI_app, Rts_more', if_pos (by omega)]
    · show LI (NI (Rts m q p i)) = _
      rw [Rts_more', if_neg (by omega), List.append_nil]
  · rintro acc rfl
    rw [rangeD_len, es, Int.toNat_natCast]
    exact hS
end
end K04
set_option synthInstance.maxSize 100000
set_option synthInstance.maxHeartbeats 0
namespace K04
open PySem PySem.Spec L2 NB ER MKX DL
abbrev s_interpolate : Stmt := top 19
theorem sc_interpolate : FnScope ["field", "points", "seen", "k", "e", "_", "p", "product", "f", "gap", "factor"] ["field", "points"] (defScope s_interpolate) := ⟨rfl, rfl, rfl, by decide +kernel, rfl, by decide +kernel, by decide +kernel⟩
section
open FLD PLY
variable {P : Program} {w : World} {K : PySem.W.Frag} {mg : Str → Option Value} {base : Heap}
variable {f_init : Addr} {fd_init : FuncData} {CH C C_NoDivisor C_NoInverse C_SamePoint : Addr}
theorem eok_same {Hb H0 : Hp} {E : XK} {ER : Addr → Int → Prop} (he : EOk Hb E ER) (sm : Same Hb H0) : EOk H0 E ER := ⟨fun C i h dd H' s n => he.run C i h dd H' (sm.trans s) n⟩
def PD (pts : List (Nat × Nat)) : List PyData := pts.map fun x => PyData.tuple [.int (x.1 : Int), .int (x.2 : Int)]
theorem PD_len (pts : List (Nat × Nat)) : (PD pts).length = pts.length := List.length_map _
theorem PD_at {pts : List (Nat × Nat)} {i : Nat} {d : PyData} (h : (PD pts)[i]? = some d) : ∃ x, pts[i]? = some x ∧ d = .tuple [.int (x.1 : Int), .int (x.2 : Int)] := by
  unfold PD at h
  rw [List.getElem?_map] at h
  cases e : pts[i]? with
  | none => rw [e] at h; cases h
  | some x => rw [e] at h; exact ⟨x, rfl, (Option.some.inj h).symm⟩
theorem pad_get {p : List Nat} {n k : Nat} (h : p.length ≤ n) (hk : k < n) : (p ++ List.replicate (n - p.length) 0)[k]? = some (p.getD k 0) := by
  rw [List.getD_eq_getElem?_getD]
  by_cases z : k < p.length
  · rw [List.getElem?_append_left z, List.getElem?_eq_getElem z]; rfl
  · rw [List.getElem?_append_right (by omega), List.getElem?_replicate, if_pos (by omega), List.getElem?_eq_none (by omega)]; rfl
theorem plusL_pad (p r : List Nat) : plusL p r = List.zipWith (· ^^^ ·) (p ++ List.replicate (max p.length r.length - p.length) 0) (r ++ List.replicate (max p.length r.length - r.length) 0) := by
  apply List.ext_getElem?
  intro k
  by_cases h : k < max p.length r.length
  · rw [plusL_get h, List.getElem?_zipWith, pad_get (Nat.le_max_left _ _) h, pad_get (Nat.le_max_right _ _) h]
  · rw [List.getElem?_eq_none (by rw [plusL_len]; omega), List.getElem?_eq_none (by rw [List.length_zipWith, List.length_append, List.length_replicate, List.length_append, List.length_replicate]; omega)]
theorem ev_sumL {m q x : Nat} (F : Fd m q) (p r : List Nat) : ev q x (sumL p r) = ev q x p ^^^ ev q x r := by
  rw [sum_plus, plusL_pad, ev_zip F (by rw [List.length_append, List.length_replicate, List.length_append, List.length_replicate]; omega), ev_cat0 F, ev_cat0 F]
theorem sumL_El {m : Nat} {p r : List Nat} (hp : El m p) (hr : El m r) : El m (sumL p r) := fun c hc => by
  rw [sum_plus] at hc
  unfold plusL at hc
  obtain ⟨k, _, rfl⟩ := List.mem_map.mp hc
  have g : ∀ l : List Nat, El m l → l.getD k 0 < 2 ^ m := fun l hl => by
    rw [List.getD_eq_getElem?_getD]
    cases e : l[k]? with
    | none => exact Nat.two_pow_pos _
    | some u => exact hl u (List.mem_of_getElem? e)
  exact Nat.xor_lt_two_pow (g p hp) (g r hr)
theorem sumL_le (p r : List Nat) : (sumL p r).length = max p.length r.length := by rw [sum_plus, plusL_len]
theorem trim_le (p : List Nat) : (PLY.trim p).length ≤ p.length := by rw [PLY.trim_len]; exact PLY.tl_le p
def rcInterp (C CS : Addr) : RC := pur fun as S => ∃ (m q r : Nat) (logs : List Nat) (pts : List (Nat × Nat)), as = [.val (FldO C m q r logs), .val (.list (PD pts))] ∧ FldOk m q r logs ∧ pts.length ≤ 100 ∧ (∀ x ∈ pts, x.1 < 2 ^ m ∧ x.2 < 2 ^ m) ∧
  (∀ (k : Nat) x, pts[k]? = some x → x.1 ∈ fsts (pts.take k) → Apart pts k → S (.er CS (k : Int))) ∧
  (Apart pts pts.length → ∀ p, El m p → trim p = p → p.length ≤ pts.length → (∀ x ∈ pts, ev q x.1 p = x.2) → S (.ok (.own (LI (NI p)))))
instance {CS : Addr} : MonoR (rcInterp C CS) := inferInstanceAs (MonoR (pur _))
theorem ok_interpolate {f f_value f_add f_scaled f_times_polys f_Field_add f_Field_times f_Field_inverse : Addr} {fd fd_value fd_add fd_scaled fd_times_polys fd_Field_add fd_Field_times fd_Field_inverse : FuncData} (D : Df K mg "interpolate" ["field", "points"] s_interpolate f fd) (B : Bl mg)
    (D_value : Df K mg "value" ["field", "p", "e"] s_value f_value fd_value) (G_value : FnOk P w K mg base CX0 3 f_value fd_value ["field", "p", "e"] (spF (rcPValue C)))
    (D_add : Df K mg "add" ["field", "p", "q"] s_add f_add fd_add) (G_add : FnOk P w K mg base CX0 3 f_add fd_add ["field", "p", "q"] (spF rcAdd))
    (D_scaled : Df K mg "scaled" ["field", "p", "e"] s_scaled f_scaled fd_scaled) (G_scaled : FnOk P w K mg base CX0 2 f_scaled fd_scaled ["field", "p", "e"] (spF (rcPScaled C)))
    (D_times_polys : Da K mg "times_polys" "times" ["field", "p", "q"] s_times_polys f_times_polys fd_times_polys) (G_times_polys : FnOk P w K mg base CX0 2 f_times_polys fd_times_polys ["field", "p", "q"] (spF (rcPTimes C)))
    (K_Field : Cls K C) (M_Field_add : Meth K C "add" f_Field_add) (b_Field_add : Binds K fd_Field_add ["self", "e", "f"] []) (G_Field_add : FnOk P w K mg base CX0 1 f_Field_add fd_Field_add ["self", "e", "f"] (spF (rcFAdd C)))
    (M_Field_times : Meth K C "times" f_Field_times) (b_Field_times : Binds K fd_Field_times ["self", "e", "f"] []) (G_Field_times : FnOk P w K mg base CX0 1 f_Field_times fd_Field_times ["self", "e", "f"] (spF (rcFTimes C)))
    (M_Field_inverse : Meth K C "inverse" f_Field_inverse) (b_Field_inverse : Binds K fd_Field_inverse ["self", "e"] []) (G_Field_inverse : FnOk P w K mg base (L2.CX P w) 4 f_Field_inverse fd_Field_inverse ["self", "e"] (spF (rcFInv C C_NoInverse)))
    (X_SamePoint : XC K mg "SamePoint" C_SamePoint f_init CH) (G_init : FnOk P w K mg base CX0 1 f_init fd_init ["self", "at"] (sp_init K)) (b_init : Binds K fd_init ["self", "at"] []) :
    FnOk P w K mg base (L2.CX P w) 6 f fd ["field", "points"] (spF (rcInterp C C_SamePoint)) := by
  refine okFX D.F sc_interpolate (fun F as S h => by obtain ⟨m, q, r, l, a, rfl, _⟩ := h; rfl) (fun cdv A outer s H E hr => ⟨_, _, (pss_cons (ps_set (i := 2) sc_interpolate.nd rfl (Or.inl rfl) pe_dnewK)
      (pss_cons (ps_for (passes_of rfl) rfl (pi_enum rfl B.enumerate (pa_cons (pv 1) pa_nil)) (pg_tup rfl (pgs_cons (pg_name (i := 3) sc_interpolate.nd rfl (Or.inl rfl) (Or.inr rfl)) (pgs_cons (pg_tup rfl (pgs_cons (pg_name (i := 4) sc_interpolate.nd rfl (Or.inl rfl) (Or.inr rfl)) (pgs_cons (pg_name (i := 5) sc_interpolate.nd rfl (Or.inl rfl) (Or.inr rfl)) pgs_nil))) pgs_nil)))
        (pss_cons (ps_if (pt_cmp (pc_din (hu_of hr) (pv 4) (pv 2))) (pss_one (ps_err rfl X_SamePoint G_init (hr.mono (by decide)) b_init pass0 (takes_of rfl rfl rfl rfl) (pa_cons (pv 3) pa_nil))) pss_nil)
        (pss_one (ps_dput (hu_of hr) (pv 2) (pv 4) pe_bl rfl))))
      (pss_cons (ps_set (i := 6) sc_interpolate.nd rfl (Or.inl rfl) (pe_lst pa_nil))
      (pss_cons (ps_set (i := 7) sc_interpolate.nd rfl (Or.inl rfl) (pe_lst (pa_cons (pe_z 1) pa_nil)))
      (pss_cons (ps_for (passes_of rfl) rfl (pi_list (pv 1)) (pg_tup rfl (pgs_cons (pg_name (i := 4) sc_interpolate.nd rfl (Or.inl rfl) (Or.inr rfl)) (pgs_cons (pg_name (i := 8) sc_interpolate.nd rfl (Or.inl rfl) (Or.inr rfl)) pgs_nil)))
        (pss_cons (ps_set (i := 9) sc_interpolate.nd rfl (Or.inl rfl) (pe_meth (pv 0) K_Field M_Field_add G_Field_add (hr.mono (by decide)) b_Field_add .nil pass00 (by exact (pa_cons (pv 8) (pa_cons (pe_call G_value (hr.mono (by decide)) rfl D_value.g D_value.F.kp D_value.b .nil pass00 (pa_cons (pv 0) (pa_cons (pv 6) (pa_cons (pv 4) pa_nil)))) pa_nil)))))
        (pss_cons (ps_set (i := 10) sc_interpolate.nd rfl (Or.inl rfl) (pe_meth (pv 0) K_Field M_Field_times G_Field_times (hr.mono (by decide)) b_Field_times .nil pass00 (by exact (pa_cons (pv 9) (pa_cons (pe_mtS (pv 0) K_Field M_Field_inverse G_Field_inverse (hr.mono (by decide)) b_Field_inverse (fun σ => passAt (W := fun cls d _ H => E cls d H) (takes_of rfl rfl rfl rfl) σ) (by exact (pa_cons (pe_call G_value (hr.mono (by decide)) rfl D_value.g D_value.F.kp D_value.b .nil pass00 (pa_cons (pv 0) (pa_cons (pv 7) (pa_cons (pv 4) pa_nil)))) pa_nil))) pa_nil)))))
        (pss_cons (ps_set (i := 6) sc_interpolate.nd rfl (Or.inl rfl) (pe_call G_add (hr.mono (by decide)) rfl D_add.g D_add.F.kp D_add.b .nil pass00 (pa_cons (pv 0) (pa_cons (pv 6) (pa_cons (pe_call G_scaled (hr.mono (by decide)) rfl D_scaled.g D_scaled.F.kp D_scaled.b .nil pass00 (pa_cons (pv 0) (pa_cons (pv 7) (pa_cons (pv 10) pa_nil)))) pa_nil)))))
        (pss_one (ps_set (i := 7) sc_interpolate.nd rfl (Or.inl rfl) (pe_call G_times_polys (hr.mono (by decide)) rfl D_times_polys.g D_times_polys.F.kp D_times_polys.b .nil pass00 (pa_cons (pv 0) (pa_cons (pv 7) (pa_cons (pe_lst (pa_cons (pv 4) (pa_cons (pe_z 1) pa_nil))) pa_nil))))))))))
      (pss_one (ps_ret (pv 6)))))))), fun F0 ER he => DSR.close (R := DicR) (DSR.seq DSR.dnew
    (DSR.seq (DSR.forS (DIA.enum fun _ => by infer_instance) (fun _ => by infer_instance) (DSR.seq (DSR.ifIn (DSR.lift' fun H0 sm => by haveI := eok_same he sm; infer_instance) (DSR.lift fun _ => by infer_instance)) DSR.dput))
      (DSR.lift' fun H0 sm => by haveI := eok_same he sm; infer_instance))) none (fun _ => rfl), fun F0 as S h => ?_⟩)
  obtain ⟨m, q, r, logs, pts, rfl, O, hl, hel, kE, kQ⟩ := h
  have sl := sizeLine_eq
  have F := O.fd
  change rSeq _ _ _ none [some (.val (FldO C m q r logs)), some (.val (.list (PD pts))), none, none, none, none, none, none, none, none, none]
  refine ⟨rfl, ?_, fun a => ?_⟩
  · intro o ho es e
    subst e
    simp [FldO, Ob] at ho
  dsimp only [List.set_cons_succ, List.set_cons_zero]
  refine ⟨rfl, rfl, fun i c σ => ∃ (kvs : List (Key × V)) (o3 o4 o5 : Option SV), c = some (a, kvs) ∧ σ = [some (.val (FldO C m q r logs)), some (.val (.list (PD pts))), some (.raw (.ref a)), o3, o4, o5, none, none, none, none, none] ∧ kvs.length ≤ i ∧ (∀ n : Nat, (valV kvs (Sum.inl (n : Int))).isSome = true ↔ n ∈ fsts (pts.take i)) ∧ Apart pts i, ⟨[], none, none, none, rfl, rfl, Nat.le_refl _, fun n => ?_, fun j x hj => absurd hj (Nat.not_lt_zero _)⟩, ?_, ?_⟩
  · rw [valV_nil]; simp [fsts]
  · rintro i d c σ hd ⟨kvs, o3, o4, o5, rfl, rfl, hkl, hk, hap⟩
    obtain ⟨y, hy, rfl⟩ := enumD_at hd
    obtain ⟨x, hx, rfl⟩ := PD_at hy
    have hil := (List.getElem?_eq_some_iff.mp hx).1
    have hkx := hk x.1
    refine ⟨rfl, rfl, ?_⟩
    refine ⟨a, kvs, (x.1 : Int), rfl, rfl, rfl, brB (fun c => ?_) fun c => ?_⟩
    · exact ⟨log_small4 (by omega), kE i x hx (hkx.mp c) hap⟩
    · have c' : x.1 ∉ fsts (pts.take i) := fun z => by rw [hkx.mpr z] at c; cases c
      have hno : valV kvs (Sum.inl (x.1 : Int)) = none := by
        cases e : valV kvs (Sum.inl (x.1 : Int)) with
        | none => rfl
        | some y => rw [e] at c; cases c
      refine ⟨a, kvs, (x.1 : Int), rfl, ?_, rfl, rfl, by omega, putK kvs (Sum.inl (x.1 : Int)) (.bl true), _, _, _, rfl, rfl, ?_, fun n => ?_, fun j w hj hw => ?_⟩
      · intro o ho es e
        subst e
        simp [FldO, Ob] at ho
      · unfold putK
        rw [if_neg (by rw [valV_any, hno]; simp)]
        simp
        exact hkl
      · rw [valV_put, fsts_more hx]
        by_cases e : n = x.1
        · subst e
          rw [if_pos rfl]
          simp
        · rw [if_neg (fun z => e (by have := Sum.inl.inj z; omega)), hk n]
          simp [e]
      · by_cases e : j = i
        · subst e
          rw [hx] at hw
          cases hw
          exact c'
        · exact hap j w (by omega) hw
  · rintro c σ ⟨kvs, o3, o4, o5, rfl, rfl, hkl, hk, hap⟩
    rw [enumD_len, PD_len] at hap
    refine ⟨Nat.zero_le _, .inl ⟨(show 1 ≤ sizeLine by omega), .inl ?_⟩⟩
    dsimp only [List.set_cons_succ, List.set_cons_zero]
    refine ⟨rfl, fun i σ => ∃ (p : List Nat) (o4 o8 o9 o10 : Option SV), σ = [some (.val (FldO C m q r logs)), some (.val (.list (PD pts))), some (.raw (.ref a)), o3, o4, o5, some (.own (LI (NI p))), some (.own (LI (NI (frs q (fsts (pts.take i)))))), o8, o9, o10] ∧ El m p ∧ trim p = p ∧ p.length ≤ i ∧ ∀ (j : Nat) y, j < i → pts[j]? = some y → ev q y.1 p = y.2, ⟨[], o4, none, none, none, rfl, (fun c hc => absurd hc List.not_mem_nil), rfl, Nat.le_refl _, fun j y hj => absurd hj (Nat.not_lt_zero _)⟩, ?_, ?_⟩
    · rintro i d σ hd ⟨p, o4, o8, o9, o10, rfl, hE, ht, hpl, hev⟩
      obtain ⟨x, hx, rfl⟩ := PD_at hd
      have hil := (List.getElem?_eq_some_iff.mp hx).1
      obtain ⟨he, hf⟩ := hel x (List.mem_of_getElem? hx)
      have lx : ev q x.1 p < 2 ^ m := ev_lt F hE
      have hB := frs_El F (fsts (pts.take i))
      have lb : ev q x.1 (frs q (fsts (pts.take i))) < 2 ^ m := ev_lt F hB
      have fE : El m (fsts (pts.take i)) := fun c hc => by
        obtain ⟨y, hy, rfl⟩ := List.mem_map.mp hc
        exact (hel y (List.mem_of_mem_take hy)).1
      have bne : ev q x.1 (frs q (fsts (pts.take i))) ≠ 0 := ev_frs_ne F he _ _ rfl fE (hap i x hil hx)
      have hgap : x.2 ^^^ ev q x.1 p < 2 ^ m := Nat.xor_lt_two_pow hf lx
      have lfr : (frs q (fsts (pts.take i))).length ≤ i + 1 := by
        have h1 := frs_len (q := q) _ (fsts (pts.take i)) rfl
        rw [fsts_len, List.length_take] at h1
        omega
      refine ⟨rfl, ?_⟩
      refine ⟨_, rfl, fsF_no m q r logs, ?_⟩
      refine ⟨fun z => z = .ok (.val (.int (ev q x.1 p : Nat))), ⟨m, q, r, logs, p, x.1, rfl, O, he, hE, by omega, rfl⟩, ?_⟩
      rintro z rfl
      refine ⟨fun _ => rfl, ?_⟩
      refine ⟨fun z => z = .ok (.val (.int ((x.2 ^^^ ev q x.1 p : Nat) : Int))), ⟨m, q, r, logs, x.2, ev q x.1 p, rfl, rfl⟩, ?_⟩
      rintro z rfl
      refine ⟨fun _ => rfl, ?_⟩
      dsimp only [List.set_cons_succ, List.set_cons_zero]
      refine ⟨_, rfl, fsF_no m q r logs, _, rfl, fsF_no m q r logs, ?_⟩
      refine ⟨fun z => z = .ok (.val (.int (ev q x.1 (frs q (fsts (pts.take i))) : Nat))), ⟨m, q, r, logs, _, x.1, rfl, O, he, hB, by omega, rfl⟩, ?_⟩
      rintro z rfl
      refine ⟨fun _ => rfl, ?_⟩
      refine ⟨fun z => ∃ b, b < 2 ^ m ∧ mulm q (ev q x.1 (frs q (fsts (pts.take i)))) b = 1 ∧ z = .ok (.val (.int ((b : Nat) : Int))), ⟨m, q, r, logs, _, rfl, O, lb, fun z => absurd z bne, fun b b1 b2 => ⟨b, b1, b2, rfl⟩⟩, ?_⟩
      rintro z ⟨b, b1, b2, rfl⟩
      refine ⟨fun _ => rfl, ?_⟩
      refine ⟨fun z => z = .ok (.val (.int ((mulm q (x.2 ^^^ ev q x.1 p) b : Nat) : Int))), ⟨m, q, r, logs, _, b, rfl, O, hgap, b1, rfl⟩, ?_⟩
      rintro z rfl
      refine ⟨fun _ => rfl, ?_⟩
      dsimp only [List.set_cons_succ, List.set_cons_zero]
      have hc : mulm q (x.2 ^^^ ev q x.1 p) b < 2 ^ m := mulm_lt F _ _
      generalize hfac : mulm q (x.2 ^^^ ev q x.1 p) b = fac at hc ⊢
      refine ⟨fun z => z = .ok (.own (LI (NI (trim ((frs q (fsts (pts.take i))).map fun c => mulm q c fac))))), ⟨m, q, r, logs, _, fac, rfl, O, hc, hB, by omega, rfl⟩, ?_⟩
      rintro z rfl
      refine ⟨fun _ => LI_allF _, ?_⟩
      have emap : ((frs q (fsts (pts.take i))).map fun c => mulm q c fac) = (frs q (fsts (pts.take i))).map (mulm q fac) := List.map_congr_left fun c _ => mulm_comm c fac
      rw [emap]
      have sc1 := trim_le ((frs q (fsts (pts.take i))).map (mulm q fac))
      rw [List.length_map] at sc1
      refine ⟨fun z => z = .ok (.own (LI (NI (trim (sumL p (trim ((frs q (fsts (pts.take i))).map (mulm q fac)))))))), ⟨_, p, _, rfl, by omega, by omega, rfl⟩, ?_⟩
      rintro z rfl
      refine ⟨fun _ => LI_allF _, .inl ?_⟩
      dsimp only [List.set_cons_succ, List.set_cons_zero]
      refine ⟨(show 2 ≤ sizeLine by omega), ?_⟩
      refine ⟨fun z => z = .ok (.own (LI (NI (trim (conv q (frs q (fsts (pts.take i))) [x.1, 1]))))), ⟨m, q, r, logs, _, [x.1, 1], rfl, O, hB, pair_El F he, by omega, (show 2 ≤ 400 by decide), rfl⟩, ?_⟩
      rintro z rfl
      refine ⟨fun _ => LI_allF _, .inl ?_⟩
      have evs : ∀ y : Nat, ev q y (trim (sumL p (trim ((frs q (fsts (pts.take i))).map (mulm q fac))))) = ev q y p ^^^ mulm q fac (ev q y (frs q (fsts (pts.take i)))) := fun y => by
        rw [ev_trim F, ev_sumL F, ev_trim F, ev_map F]
      have mapE : El m ((frs q (fsts (pts.take i))).map (mulm q fac)) := fun u hu => by
        obtain ⟨d, _, rfl⟩ := List.mem_map.mp hu
        exact mulm_lt F _ _
      refine ⟨trim (sumL p (trim ((frs q (fsts (pts.take i))).map (mulm q fac)))), some (.val (.int (x.1 : Int))), some (.val (.int (x.2 : Int))), some (.val (.int ((x.2 ^^^ ev q x.1 p : Nat) : Int))), some (.val (.int (fac : Int))), ?_, trim_El (sumL_El hE (trim_El mapE)), trim_trim _, ?_, fun j y hj hy => ?_⟩
      · rw [fsts_more hx, frs_more]; rfl
      · refine Nat.le_trans (trim_le _) ?_
        rw [sumL_le]
        exact Nat.max_le.mpr ⟨by omega, by omega⟩
      · rw [evs]
        by_cases e : j = i
        · subst e
          rw [hx] at hy
          cases hy
          rw [← hfac, mulm_assoc F, mulm_comm b, b2, mulm_one F hgap, Nat.xor_comm x.2, ← Nat.xor_assoc, Nat.xor_self, Nat.zero_xor]
        · have hy1 := (hel y (List.mem_of_getElem? hy)).1
          rw [ev_frs_zero F hy1 _ _ rfl (fsts_mem hy (by omega)), mulm_zero F, Nat.xor_zero]
          exact hev j y (by omega) hy
    · rintro σ ⟨p, o4, o8, o9, o10, rfl, hE, ht, hpl, hev⟩
      rw [PD_len] at hpl hev
      exact ⟨kQ hap p hE ht hpl fun x hx => by
        obtain ⟨j, hj⟩ := List.mem_iff_getElem?.mp hx
        exact hev j x (List.getElem?_eq_some_iff.mp hj).1 hj, fun es e => nomatch e⟩
end
end K04
set_option synthInstance.maxSize 100000
set_option synthInstance.maxHeartbeats 0
namespace K04
open PySem PySem.Spec L2 NB ER MKX DL
abbrev s__law_roots : Stmt := top 50
theorem sc__law_roots : FnScope ["field", "m", "modulus", "p", "error"] ["field", "m", "modulus", "p"] (defScope s__law_roots) := ⟨rfl, rfl, rfl, by decide +kernel, rfl, by decide +kernel, by decide +kernel⟩
abbrev s__law_points : Stmt := top 51
theorem sc__law_points : FnScope ["field", "modulus", "points", "same", "k", "kept", "told", "error", "point", "e", "f"] ["field", "modulus", "points"] (defScope s__law_points) := ⟨rfl, rfl, rfl, by decide +kernel, rfl, by decide +kernel, by decide +kernel⟩
section
open FLD PLY
variable {P : Program} {w : World} {K : PySem.W.Frag} {mg : Str → Option Value} {base : Heap}
variable {f_init : Addr} {fd_init : FuncData} {CH C C_NoDivisor C_NoInverse C_SamePoint C_HaulError : Addr}
def rcLRoots (C : Addr) : RC := pur fun as S => ∃ (m q r : Nat) (logs p : List Nat), as = [.val (FldO C m q r logs), .val (.int (m : Int)), .val (.int (q : Int)), .val (.list (LI (NI p)))] ∧ FldOk m q r logs ∧ El m p ∧ p.length ≤ 800 ∧ trim p = p ∧ S (.ok (.val (.bool true)))
instance : MonoR (rcLRoots C) := inferInstanceAs (MonoR (pur _))
theorem ok__law_roots {f f_roots f__law_found : Addr} {fd fd_roots fd__law_found : FuncData} (D : Df K mg "_law_roots" ["field", "m", "modulus", "p"] s__law_roots f fd) (B : Bl mg)
    (D_roots : Df K mg "roots" ["field", "p"] s_roots f_roots fd_roots) (G_roots : FnOk P w K mg base (L2.CX P w) 4 f_roots fd_roots ["field", "p"] (spF (rcRoots C C_NoDivisor)))
    (D__law_found : Df K mg "_law_found" ["modulus", "m", "p"] s__law_found f__law_found fd__law_found) (G__law_found : FnOk P w K mg base CX0 5 f__law_found fd__law_found ["modulus", "m", "p"] (spF rcLFound))
    (X_HaulError : XC K mg "HaulError" C_HaulError f_init C_HaulError) (X_NoDivisor : XC K mg "NoDivisor" C_NoDivisor f_init C_HaulError) :
    FnOk P w K mg base CX0 7 f fd ["field", "m", "modulus", "p"] (spF (rcLRoots C)) := by
  refine okF D.F sc__law_roots (fun F as S h => by obtain ⟨m, q, r, l, a, rfl, _⟩ := h; rfl) (fun cdv A outer s H E hr => ⟨_, _, (pss_cons (ps_if (pt_cmpR op_gt (pe_callB call_len_seq (by rfl) B.len PySem.boot_len (pa_cons (pv 3) pa_nil)) (pe_z 0) (nomark _)) (pss_one (ps_ret (pe_cmpR (op_eqD hr.units) (pe_call G_roots (hr.mono (by decide)) rfl D_roots.g D_roots.F.kp D_roots.b .nil passL (pa_cons (pv 0) (pa_cons (pv 3) pa_nil))) (pe_call G__law_found (hr.mono (by decide)) rfl D__law_found.g D__law_found.F.kp D__law_found.b .nil pass00 (pa_cons (pv 2) (pa_cons (pv 1) (pa_cons (pv 3) pa_nil)))) (nomark _)))) pss_nil)
      (C8.pss_cut (ps_tryE (i := 4) rfl rfl sc__law_roots.nd rfl rfl ⟨rfl, by decide, Or.inl X_HaulError.g⟩ takes0 (fun W pn xe tk po => (pss_one (ps_expr (pe_callS G_roots (hr.mono (by decide)) rfl D_roots.g D_roots.F.kp D_roots.b (fun σ => passAt tk σ) (by exact (pa_cons (pv 0) (pa_cons (pv 3) pa_nil))))))) (fun a oe cls d pn hz hf => (pss_one (ps_ret (pe_and (pe_callB (call_isE hz hf) (by rfl) B.isinstance (by decide +kernel) (pa_cons (pv 4) (pa_cons (pe_glob (v := .ref C_NoDivisor) rfl X_NoDivisor.g rfl) pa_nil))) (pe_one (pe_cmpR op_eq (pe_at hz hf (pv 4)) (pe_z 0) (nomark _))))))))
      (pss_one (ps_ret pe_bl)))), fun F0 => DS0.seq (by infer_instance) (DS0.cut (DS0.tryI (fun W ER _ => by infer_instance) (fun F0 a cls d C n _ => by infer_instance)) (by infer_instance)), fun F0 as S h => ?_⟩)
  obtain ⟨m, q, r, logs, p, rfl, O, hE, hl, ht, hS⟩ := h
  have sl := sizeLine_eq
  have F := O.fd
  have lp := LI_NI_len p
  refine brD (fun c => ?_) fun c => ?_
  · have hp : trim p ≠ [] := fun z => by rw [ht] at z; rw [z] at c; exact absurd c (by decide)
    refine ⟨fun x => x = .ok (.own (LI (NI (Rts m q p (2 ^ m))))), ⟨m, q, r, logs, p, rfl, O, hE, hl, fun z => absurd z hp, fun _ => rfl⟩, ?_⟩
    rintro x rfl
    refine ⟨fun z => Bool.noConfusion z, ?_⟩
    refine ⟨fun x => x = .ok (.own (LI (NI (Rts m q p (2 ^ m))))), ⟨m, q, p, rfl, F, hE, hl, rfl⟩, ?_⟩
    rintro x rfl
    refine ⟨fun z => Bool.noConfusion z, ?_⟩
    exact eqD1 (d := .list (LI (NI (Rts m q p (2 ^ m))))) rfl rfl (LI_flatN _) hS
  · have hp : trim p = [] := by
      rw [ht]
      cases p with
      | nil => rfl
      | cons => exact absurd (show (0 : Int) < ((LI (NI (_ :: _))).length : Int) by rw [LI_NI_len, List.length_cons]; omega) c
    refine ⟨fun _ => False, ?_, fun _ z => z.elim⟩
    refine ⟨fun x => x = .er C_NoDivisor 0, ⟨m, q, r, logs, p, rfl, O, hE, hl, fun _ => rfl, fun z => absurd hp z⟩, ?_⟩
    rintro x rfl
    exact ⟨⟨_, _, _, _, X_NoDivisor⟩, X_NoDivisor.te, fun F0' a => ⟨rfl, C_NoDivisor, true, rfl, kit_self, brT ⟨rfl, hS⟩⟩⟩
def rcLPoints (C : Addr) : RC := pur fun as S => ∃ (m q r : Nat) (logs : List Nat) (pts : List (Nat × Nat)), as = [.val (FldO C m q r logs), .val (.int (q : Int)), .val (.list (PD pts))] ∧ FldOk m q r logs ∧ pts.length ≤ 100 ∧ (∀ x ∈ pts, x.1 < 2 ^ m ∧ x.2 < 2 ^ m) ∧ S (.ok (.val (.bool true)))
instance : MonoR (rcLPoints C) := inferInstanceAs (MonoR (pur _))
/-- what same says -/
def SameP (pts : List (Nat × Nat)) (n : Nat) (d : PyData) : Prop := (d = .none ∧ Apart pts n) ∨ ∃ (k : Nat) (x : Nat × Nat), d = .int (k : Int) ∧ k < n ∧ pts[k]? = some x ∧ x.1 ∈ fsts (pts.take k) ∧ Apart pts k
theorem PD_flat (pts : List (Nat × Nat)) : flatN 2 (.list (PD pts)) = true := by
  show (PD pts).all (flatN 1) = true
  unfold PD
  rw [List.all_map]
  exact List.all_eq_true.mpr fun _ _ => rfl
theorem ok__law_points {f f_interpolate f__law_trim f__law_at_point : Addr} {fd fd_interpolate fd__law_trim fd__law_at_point : FuncData} (D : Df K mg "_law_points" ["field", "modulus", "points"] s__law_points f fd) (B : Bl mg)
    (D_interpolate : Df K mg "interpolate" ["field", "points"] s_interpolate f_interpolate fd_interpolate) (G_interpolate : FnOk P w K mg base (L2.CX P w) 6 f_interpolate fd_interpolate ["field", "points"] (spF (rcInterp C C_SamePoint)))
    (D__law_trim : Df K mg "_law_trim" ["poly"] s__law_trim f__law_trim fd__law_trim) (G__law_trim : FnOk P w K mg base CX0 1 f__law_trim fd__law_trim ["poly"] (spF rcTrim))
    (D__law_at_point : Df K mg "_law_at_point" ["modulus", "p", "e"] s__law_at_point f__law_at_point fd__law_at_point) (G__law_at_point : FnOk P w K mg base CX0 4 f__law_at_point fd__law_at_point ["modulus", "p", "e"] (spF rcLAt))
    (X_HaulError : XC K mg "HaulError" C_HaulError f_init C_HaulError) (X_SamePoint : XC K mg "SamePoint" C_SamePoint f_init C_HaulError) :
    FnOk P w K mg base CX0 8 f fd ["field", "modulus", "points"] (spF (rcLPoints C)) := by
  refine okF D.F sc__law_points (fun F as S h => by obtain ⟨m, q, r, l, a, rfl, _⟩ := h; rfl) (fun cdv A outer s H E hr => ⟨_, _, (pss_cons (ps_set (i := 3) sc__law_points.nd rfl (Or.inl rfl) pe_non)
      (pss_cons (ps_for PassesOwn.never rfl (pi_range1 rfl B.range (pa_cons (pe_callB call_len_seq (by rfl) B.len PySem.boot_len (pa_cons (pv 2) pa_nil)) pa_nil)) (pg_name (i := 4) sc__law_points.nd rfl (Or.inl rfl) (Or.inr rfl))
        (pss_one (ps_if (PW.pt (pw_and (pt_cmpR op_isN (pv 3) pe_non (nomark _)) (pw_and1 (pt_cmpR op_in_seq (pe_ix ix_tup (pe_ix ix_list (pv 2) (pv 4) (fun _ _ => rfl)) (pe_z 0) (fun _ _ => rfl)) (pe_lc (own := [("point", 8)]) rfl sc__law_points.nd (pi_list (pe_slice sl_list (pv 2) po_none (po_some (pv 4)))) (blkOk_by (own := [("point", 8)]) (N := ["field", "modulus", "points", "same", "k", "kept", "told", "error", "point", "e", "f"]) (sc := defScope s__law_points) (by decide +kernel)) (fun _ _ _ _ _ => (pg_name (i := 8) sc__law_points.nd rfl (Or.inl rfl) (Or.inr rfl))) (fun _ _ _ _ _ => pts_nil) (fun _ _ _ _ _ => (pe_ix (ix_tupK (K := K) rfl) (pv 8) (pe_z 0) (fun _ _ => rfl)))) (by rfl))))) (pss_one (ps_set (i := 3) sc__law_points.nd rfl (Or.inl rfl) (pv 4))) pss_nil)))
      (pss_cons (ps_set (i := 5) sc__law_points.nd rfl (Or.inl rfl) (pe_callTy call_list_of (by rfl) B.list (by decide +kernel) (pa_cons (pv 2) pa_nil)))
      (C8.pss_cut (ps_tryE (i := 7) rfl rfl sc__law_points.nd rfl rfl ⟨rfl, by decide, Or.inl X_HaulError.g⟩ takes0 (fun W pn xe tk po => (pss_one (ps_set (i := 6) sc__law_points.nd rfl (Or.inr rfl) (pe_callS G_interpolate (hr.mono (by decide)) rfl D_interpolate.g D_interpolate.F.kp D_interpolate.b (fun σ => passAt tk σ) (by exact (pa_cons (pv 0) (pa_cons (pv 2) pa_nil))))))) (fun a oe cls d pn hz hf => (pss_one (ps_ret (pe_and (pe_cmpR op_notN (pv 3) pe_non (nomark _)) (pe_and (pe_callB (call_isE hz hf) (by rfl) B.isinstance (by decide +kernel) (pa_cons (pv 7) (pa_cons (pe_glob (v := .ref C_SamePoint) rfl X_SamePoint.g rfl) pa_nil))) (pe_and (pe_cmpR (op_eqDK (K := K) rfl hr.units) (pe_at hz hf (pv 7)) (pv 3) (nomark _)) (pe_one (pe_cmpR (op_eqDK (K := K) rfl hr.units) (pv 2) (pv 5) (nomark _))))))))))
      (pss_cons (ps_if (PW.pt (pw_or (pt_cmpR op_notN (pv 3) pe_non (nomark _)) (pw_or (pt_cmpR (op_neD hr.units) (pv 2) (pv 5) (nomark _)) (pw_or (pt_cmpR op_gt (pe_callB call_len_seq (by rfl) B.len PySem.boot_len (pa_cons (pv 6) pa_nil)) (pe_callB call_len_seq (by rfl) B.len PySem.boot_len (pa_cons (pv 2) pa_nil)) (nomark _)) (pw_or1 (pt_cmpR (op_neD hr.units) (pv 6) (pe_call G__law_trim (hr.mono (by decide)) rfl D__law_trim.g D__law_trim.F.kp D__law_trim.b .nil pass00 (pa_cons (pv 6) pa_nil)) (nomark _))))))) (pss_one (ps_ret pe_bl)) pss_nil)
      (pss_one (ps_ret (pe_callB (cr_all rfl) (by rfl) B.all (by decide +kernel) (pa_cons (pe_lc (g := (gTup K 2 (gCons (gName 9) (gCons (gName 10) gNil)))) (own := [("e", 9), ("f", 10)]) rfl sc__law_points.nd (pi_list (pv 2)) (blkOk_by (own := [("e", 9), ("f", 10)]) (N := ["field", "modulus", "points", "same", "k", "kept", "told", "error", "point", "e", "f"]) (sc := defScope s__law_points) (by decide +kernel)) (fun _ _ _ _ _ => (pg_tup rfl (pgs_cons (pg_name (i := 9) sc__law_points.nd rfl (Or.inl rfl) (Or.inr rfl)) (pgs_cons (pg_name (i := 10) sc__law_points.nd rfl (Or.inl rfl) (Or.inr rfl)) pgs_nil)))) (fun _ _ _ _ _ => pts_nil) (fun _ _ _ _ _ => (pe_cmpR op_eq (pe_call G__law_at_point (hr.mono (by decide)) rfl D__law_at_point.g D__law_at_point.F.kp D__law_at_point.b .nil pass00 (pa_cons (pv 1) (pa_cons (pv 6) (pa_cons (pv 9) pa_nil)))) (pv 10) (nomark _)))) pa_nil))))))))), fun F0 => DS0.seq (by infer_instance) (DS0.seq (by infer_instance) (DS0.seq (by infer_instance) (DS0.cut (DS0.tryI (fun W ER _ => by infer_instance) (fun F0 a cls d C n _ => by infer_instance)) (by infer_instance)))), fun F0 as S h => ?_⟩)
  obtain ⟨m, q, r, logs, pts, rfl, O, hl, hel, hS⟩ := h
  have sl := sizeLine_eq
  have F := O.fd
  have lp := PD_len pts
  change dSeq _ _ _ [some (.val (FldO C m q r logs)), some (.val (.int (q : Int))), some (.val (.list (PD pts))), none, none, none, none, none, none, none, none]
  refine ⟨⟨by omega, by omega⟩, rfl, fun k σ => ∃ (sm : PyData) (o4 o8 : Option SV), σ = [some (.val (FldO C m q r logs)), some (.val (.int (q : Int))), some (.val (.list (PD pts))), some (.val sm), o4, none, none, none, o8, none, none] ∧ SameP pts k sm, ⟨.none, none, none, rfl, .inl ⟨rfl, fun j x hj => absurd hj (Nat.not_lt_zero _)⟩⟩, ?_, ?_⟩
  · rintro k d σ hd ⟨sm, o4, o8, rfl, hsm⟩
    obtain ⟨hk, rfl⟩ := rangeD_at hd
    have hk' : k < pts.length := by
      have h : k < ((PD pts).length : Int).toNat := hk
      omega
    rw [show (0 : Int) + (k : Int) = (k : Int) from Int.zero_add _]
    obtain ⟨x, hx⟩ : ∃ x, pts[k]? = some x := ⟨_, List.getElem?_eq_getElem hk'⟩
    rcases hsm with ⟨rfl, hap⟩ | ⟨j, y, rfl, hj, hy, hm, hap⟩
    · refine brT ?_
      have atx : atI (PD pts) (k : Int) = some (.tuple [.int (x.1 : Int), .int (x.2 : Int)]) := D_atN (by unfold PD; rw [List.getElem?_map, hx]; rfl)
      refine ⟨_, atx, .int (x.1 : Int), D_atN (i := 0) rfl, ?_⟩
      have ecut : cutD (PD pts) none (some (k : Int)) = PD (pts.take k) := by rw [cutD_to]; unfold PD; rw [List.map_take]
      refine ⟨rfl, fun j acc => acc = LI (NI (fsts ((pts.take k).take j))), rfl, ?_, ?_⟩
      · rintro j d acc hd rfl
        have hd' : (cutD (PD pts) none (some (k : Int)))[j]? = some d := hd
        rw [ecut] at hd'
        obtain ⟨y, hy, rfl⟩ := PD_at hd'
        have hjl := (List.getElem?_eq_some_iff.mp hy).1
        rw [List.length_take] at hjl
        refine brT ⟨.int (y.1 : Int), D_atN (i := 0) rfl, ?_, ?_⟩
        · rw [LI_NI_len, fsts_len, List.length_take, List.length_take]; omega
        · show LI (NI (fsts ((pts.take k).take j))) ++ LI (NI [y.1]) = _
          rw [NI_app, fsts_more hy]
      · rintro acc hacc
        have ecl : (cutD (PD pts) none (some (k : Int))).length = k := by rw [ecut, PD_len, List.length_take]; omega
        have hacc : acc = LI (NI (fsts ((pts.take k).take (cutD (PD pts) none (some (k : Int))).length))) := hacc
        rw [ecl, List.take_take, Nat.min_self] at hacc
        subst hacc
        have mem : (x.1 : Int) ∈ NI (fsts (pts.take k)) ↔ x.1 ∈ fsts (pts.take k) := by
          unfold NI
          rw [List.mem_map]
          constructor
          · rintro ⟨u, hu, e⟩
            have : u = x.1 := by omega
            exact this ▸ hu
          · exact fun h => ⟨_, h, rfl⟩
        refine ⟨(x.1 : Int), NI (fsts (pts.take k)), rfl, rfl, (brD (fun c => ?_) fun c => ?_ : Br (decide ((x.1 : Int) ∈ NI (fsts (pts.take k)))) _ _)⟩
        · exact ⟨.int (k : Int), some (.val (.int (k : Int))), _, rfl, .inr ⟨k, x, rfl, Nat.lt_succ_self _, hx, mem.mp c, hap⟩⟩
        · refine ⟨.none, some (.val (.int (k : Int))), _, rfl, .inl ⟨rfl, fun j y hj hy => ?_⟩⟩
          by_cases e : j = k
          · subst e
            rw [hx] at hy
            cases hy
            exact fun z => c (mem.mpr z)
          · exact hap j y (by omega) hy
    · refine brF (brF ?_)
      exact ⟨.int (j : Int), some (.val (.int (k : Int))), _, rfl, .inr ⟨j, y, rfl, by omega, hy, hm, hap⟩⟩
  · rintro σ ⟨sm, o4, o8, rfl, hsm⟩
    have el : (rangeD 0 ((PD pts).length : Int).toNat).length = pts.length := by rw [rangeD_len]; omega
    rw [el] at hsm
    refine .inr ?_
    dsimp only [List.set_cons_succ, List.set_cons_zero]
    rcases hsm with ⟨rfl, hap⟩ | ⟨j, y, rfl, hj, hy, hm, hap⟩
    · refine ⟨fun σ => ∃ (p : List Nat), σ = [some (.val (FldO C m q r logs)), some (.val (.int (q : Int))), some (.val (.list (PD pts))), some (.val .none), o4, some (.val (.list (PD pts))), some (.val (.list (LI (NI p)))), none, o8, none, none] ∧ El m p ∧ trim p = p ∧ p.length ≤ pts.length ∧ ∀ x ∈ pts, ev q x.1 p = x.2, ?_, ?_⟩
      · refine ⟨fun x => ∃ p, El m p ∧ trim p = p ∧ p.length ≤ pts.length ∧ (∀ x ∈ pts, ev q x.1 p = x.2) ∧ x = .ok (.own (LI (NI p))), ⟨m, q, r, logs, pts, rfl, O, hl, hel, fun k x hx hm hap2 => absurd hm (hap k x (List.getElem?_eq_some_iff.mp hx).1 hx), fun _ p h1 h2 h3 h4 => ⟨p, h1, h2, h3, h4, rfl⟩⟩, ?_⟩
        rintro x ⟨p, h1, h2, h3, h4, rfl⟩
        exact ⟨fun z => Bool.noConfusion z, .inr ⟨p, rfl, h1, h2, h3, h4⟩⟩
      · rintro σ ⟨p, rfl, h1, h2, h3, h4⟩
        have lpp := LI_NI_len p
        refine brF (neD2 (d := .list (PD pts)) rfl rfl (PD_flat pts) (brF (brX (by omega) ?_)))
        refine ⟨fun x => x = .ok (.own (LI (NI p))), ⟨p, rfl, by omega, by rw [h2]⟩, ?_⟩
        rintro x rfl
        refine ⟨fun z => Bool.noConfusion z, neD1 (d := .list (LI (NI p))) rfl rfl (LI_flatN _) (brF ?_)⟩
        refine ⟨rfl, fun i acc => acc = (List.replicate i true).map PyData.bool, rfl, ?_, ?_⟩
        · rintro i d acc hd rfl
          obtain ⟨x, hx, rfl⟩ := PD_at hd
          have hil := (List.getElem?_eq_some_iff.mp hx).1
          obtain ⟨he, hf⟩ := hel x (List.mem_of_getElem? hx)
          refine ⟨rfl, brT ?_⟩
          refine ⟨fun z => z = .ok (.val (.int (ev q x.1 p : Nat))), ⟨m, q, x.1, p, rfl, F, he, h1, by omega, rfl⟩, ?_⟩
          rintro z rfl
          refine ⟨fun z => Bool.noConfusion z, ?_, ?_⟩
          · rw [List.length_map, List.length_replicate]; omega
          · have e : decide (((ev q x.1 p : Nat) : Int) = ((x.2 : Nat) : Int)) = true := decide_eq_true (by rw [h4 x (List.mem_of_getElem? hx)])
            show List.map PyData.bool (List.replicate i true) ++ [PyData.bool (decide (((ev q x.1 p : Nat) : Int) = ((x.2 : Nat) : Int)))] = _
            rw [e, List.replicate_succ', List.map_append]; rfl
        · rintro acc rfl
          refine ⟨_, rfl, ?_⟩
          have e : ∀ n, (List.replicate n true).all id = true := fun n => by simp
          rw [e]; exact hS
    · refine ⟨fun _ => False, ?_, fun _ z => z.elim⟩
      refine ⟨fun x => x = .er C_SamePoint (j : Int), ⟨m, q, r, logs, pts, rfl, O, hl, hel, fun k x hx hm2 hap2 => ?_, fun z => absurd hm (z j y hj hy)⟩, ?_⟩
      · have hjk : k = j := by
          rcases Nat.lt_trichotomy k j with z | z | z
          · exact absurd hm2 (hap k x z hx)
          · exact z
          · exact absurd hm (hap2 j y z hy)
        rw [hjk]
      · rintro x rfl
        refine ⟨⟨_, _, _, _, X_SamePoint⟩, X_SamePoint.te, fun F0' a => brT ⟨rfl, C_SamePoint, true, rfl, kit_self, brT ⟨rfl, ?_⟩⟩⟩
        exact eqD1 (d := .int (j : Int)) rfl rfl rfl (brT (eqD2 (d := .list (PD pts)) rfl rfl (PD_flat pts) hS))
end
end K04
set_option synthInstance.maxSize 100000
set_option synthInstance.maxHeartbeats 0
namespace K04
open PySem PySem.Spec L2 NB ER MKX DL
abbrev s_law : Stmt := top 52
theorem sc_law : FnScope ["script", "numbers", "m", "modulus", "field", "found", "due", "e", "kept", "other", "p", "points", "apart", "point", "k", "one"] ["script"] (defScope s_law) := ⟨rfl, rfl, rfl, by decide +kernel, rfl, by decide +kernel, by decide +kernel⟩
section
open FLD PLY
variable {P : Program} {w : World} {K : PySem.W.Frag} {mg : Str → Option Value} {base : Heap}
variable {f_init : Addr} {fd_init : FuncData} {CH C C_Field C_OutOfRange C_NotIrreducible C_NoDivisor C_NoInverse C_SamePoint C_HaulError : Addr}
theorem ok_law {f f__law_numbers f__law_modulus f__law_mul f__law_trim f__law_roots f__law_points f_from_roots f_Field___init__ : Addr} {fd fd__law_numbers fd__law_modulus fd__law_mul fd__law_trim fd__law_roots fd__law_points fd_from_roots fd_Field___init__ : FuncData} (D : Df K mg "law" ["script"] s_law f fd) (B : Bl mg)
    (D__law_numbers : Df K mg "_law_numbers" ["script", "many"] s__law_numbers f__law_numbers fd__law_numbers) (G__law_numbers : FnOk P w K mg base CX0 1 f__law_numbers fd__law_numbers ["script", "many"] (sp_numbers K))
    (D__law_modulus : Df K mg "_law_modulus" ["m", "drawn"] K04o.s__law_modulus f__law_modulus fd__law_modulus) (G__law_modulus : FnOk P w K mg base CX0 4 f__law_modulus fd__law_modulus ["m", "drawn"] (spF rcLMod))
    (D__law_mul : Df K mg "_law_mul" ["modulus", "p", "q"] s__law_mul f__law_mul fd__law_mul) (G__law_mul : FnOk P w K mg base CX0 4 f__law_mul fd__law_mul ["modulus", "p", "q"] (spF rcLMul))
    (D__law_trim : Df K mg "_law_trim" ["poly"] s__law_trim f__law_trim fd__law_trim) (G__law_trim : FnOk P w K mg base CX0 1 f__law_trim fd__law_trim ["poly"] (spF rcTrim))
    (D__law_roots : Df K mg "_law_roots" ["field", "m", "modulus", "p"] s__law_roots f__law_roots fd__law_roots) (G__law_roots : FnOk P w K mg base CX0 7 f__law_roots fd__law_roots ["field", "m", "modulus", "p"] (spF (rcLRoots C_Field)))
    (D__law_points : Df K mg "_law_points" ["field", "modulus", "points"] s__law_points f__law_points fd__law_points) (G__law_points : FnOk P w K mg base CX0 8 f__law_points fd__law_points ["field", "modulus", "points"] (spF (rcLPoints C_Field)))
    (D_from_roots : Df K mg "from_roots" ["field", "roots"] s_from_roots f_from_roots fd_from_roots) (G_from_roots : FnOk P w K mg base CX0 3 f_from_roots fd_from_roots ["field", "roots"] (spF (rcFroots C_Field)))
    (M_Field : Mk K C_Field f_Field___init__) (g_Field : mg "Field" = some (.ref C_Field)) (b_Field___init__ : Binds K fd_Field___init__ ["self", "m", "modulus"] []) (G_Field___init__ : FnOk P w K mg base (L2.CX P w) 8 f_Field___init__ fd_Field___init__ ["self", "m", "modulus"] (spI C_Field (rcFld C_Field C_OutOfRange C_NotIrreducible))) :
    FnOk P w K mg base CX0 11 f fd ["script"] (DL.sp_law K) := by
  refine okLawN (many := 80) D.F sc_law (by decide) (by decide) (fun cdv A outer s H E hr => ⟨_, _, (pss_cons (ps_set (i := 1) sc_law.nd rfl (Or.inr rfl) (pe_call G__law_numbers (hr.mono (by decide)) rfl D__law_numbers.g D__law_numbers.F.kp D__law_numbers.b .nil pass00 (pa_cons (pv 0) (pa_cons (pe_z 80) pa_nil))))
      (pss_cons (ps_set (i := 2) sc_law.nd rfl (Or.inr rfl) (pe_op op_add (pe_z 2) (pe_op op_mod (pe_callTy call_int1 (by rfl) B.int (by decide +kernel) (pa_cons (pe_ix ix_list (pv 1) (pe_z 0) (fun _ _ => rfl)) pa_nil)) (pe_z 7))))
      (pss_cons (ps_set (i := 3) sc_law.nd rfl (Or.inl rfl) (pe_call G__law_modulus (hr.mono (by decide)) rfl D__law_modulus.g D__law_modulus.F.kp D__law_modulus.b .nil pass00 (pa_cons (pv 2) (pa_cons (pe_ix ix_list (pv 1) (pe_z 1) (fun _ _ => rfl)) pa_nil))))
      (pss_cons (ps_set (i := 4) sc_law.nd rfl (Or.inl rfl) (pe_make M_Field G_Field___init__ (hr.mono (by decide)) rfl g_Field b_Field___init__ .nil passL (by exact (pa_cons (pv 2) (pa_cons (pv 3) pa_nil)))))
      (pss_cons (ps_setLc (i := 5) (own := [("k", 14)]) rfl sc_law.nd rfl rfl (sw_true rfl rfl rfl (by decide +kernel)) (pi_range1 rfl B.range (pa_cons (pe_op op_mod (pe_callTy call_int1 (by rfl) B.int (by decide +kernel) (pa_cons (pe_ix ix_list (pv 1) (pe_z 2) (fun _ _ => rfl)) pa_nil)) (pe_z 7)) pa_nil)) (blkOk_by (own := [("k", 14)]) (N := ["script", "numbers", "m", "modulus", "field", "found", "due", "e", "kept", "other", "p", "points", "apart", "point", "k", "one"]) (sc := defScope s_law) (by decide +kernel)) (fun _ _ _ _ _ => (pg_name (i := 14) sc_law.nd rfl (Or.inl rfl) (Or.inr rfl))) (fun _ _ _ _ _ => pts_nil) (fun _ _ _ _ _ => (pe_op op_mod (pe_callTy call_int1 (by rfl) B.int (by decide +kernel) (pa_cons (pe_ix (ix_listK (K := K) rfl) (pv 1) (pe_op op_add (pe_z 10) (pv 14)) (fun _ _ => rfl)) pa_nil)) (pe_op op_shl (pe_z 1) (pv 2)))))
      (pss_cons (ps_set (i := 6) sc_law.nd rfl (Or.inl rfl) (pe_lst (pa_cons (pe_z 1) pa_nil)))
      (pss_cons (ps_for PassesOwn.never rfl (pi_list (pv 5)) (pg_name (i := 7) sc_law.nd rfl (Or.inl rfl) (Or.inr rfl))
        (pss_one (ps_set (i := 6) sc_law.nd rfl (Or.inl rfl) (pe_call G__law_mul (hr.mono (by decide)) rfl D__law_mul.g D__law_mul.F.kp D__law_mul.b .nil pass00 (pa_cons (pv 3) (pa_cons (pv 6) (pa_cons (pe_lst (pa_cons (pv 7) (pa_cons (pe_z 1) pa_nil))) pa_nil)))))))
      (pss_cons (ps_set (i := 8) sc_law.nd rfl (Or.inl rfl) (pe_callTy call_list_of (by rfl) B.list (by decide +kernel) (pa_cons (pv 5) pa_nil)))
      (pss_cons (ps_if (PW.pt (pw_or (pt_cmpR (op_neD hr.units) (pe_call G_from_roots (hr.mono (by decide)) rfl D_from_roots.g D_from_roots.F.kp D_from_roots.b .nil pass00 (pa_cons (pv 4) (pa_cons (pv 5) pa_nil))) (pv 6) (nomark _)) (pw_or1 (pt_cmpR (op_neD hr.units) (pv 5) (pv 8) (nomark _))))) (pss_one (ps_ret pe_bl)) pss_nil)
      (pss_cons (ps_set (i := 9) sc_law.nd rfl (Or.inl rfl) (pe_call G__law_trim (hr.mono (by decide)) rfl D__law_trim.g D__law_trim.F.kp D__law_trim.b .nil pass00 (pa_cons (pe_lc (own := [("k", 14)]) rfl sc_law.nd (pi_range1 rfl B.range (pa_cons (pe_op op_mod (pe_callTy call_int1 (by rfl) B.int (by decide +kernel) (pa_cons (pe_ix ix_list (pv 1) (pe_z 3) (fun _ _ => rfl)) pa_nil)) (pe_z 9)) pa_nil)) (blkOk_by (own := [("k", 14)]) (N := ["script", "numbers", "m", "modulus", "field", "found", "due", "e", "kept", "other", "p", "points", "apart", "point", "k", "one"]) (sc := defScope s_law) (by decide +kernel)) (fun _ _ _ _ _ => (pg_name (i := 14) sc_law.nd rfl (Or.inl rfl) (Or.inr rfl))) (fun _ _ _ _ _ => pts_nil) (fun _ _ _ _ _ => (pe_op op_mod (pe_callTy call_int1 (by rfl) B.int (by decide +kernel) (pa_cons (pe_ix (ix_listK (K := K) rfl) (pv 1) (pe_op op_add (pe_z 20) (pv 14)) (fun _ _ => rfl)) pa_nil)) (pe_op op_shl (pe_z 1) (pv 2))))) pa_nil)))
      (pss_cons (ps_for PassesOwn.never rfl (pi_list (pe_lst (pa_cons (pv 6) (pa_cons (pv 9) (pa_cons (pe_call G__law_mul (hr.mono (by decide)) rfl D__law_mul.g D__law_mul.F.kp D__law_mul.b .nil pass00 (pa_cons (pv 3) (pa_cons (pv 6) (pa_cons (pv 9) pa_nil)))) (pa_cons (pe_lst pa_nil) pa_nil)))))) (pg_name (i := 10) sc_law.nd rfl (Or.inl rfl) (Or.inr rfl))
        (pss_one (ps_if (pt_not (pt_val (pe_call G__law_roots (hr.mono (by decide)) rfl D__law_roots.g D__law_roots.F.kp D__law_roots.b .nil pass00 (pa_cons (pv 4) (pa_cons (pv 2) (pa_cons (pv 3) (pa_cons (pv 10) pa_nil))))))) (pss_one (ps_ret pe_bl)) pss_nil)))
      (pss_cons (ps_setLc (i := 11) (own := [("k", 14)]) rfl sc_law.nd rfl rfl (sw_true rfl rfl rfl (by decide +kernel)) (pi_range1 rfl B.range (pa_cons (pe_op op_mod (pe_callTy call_int1 (by rfl) B.int (by decide +kernel) (pa_cons (pe_ix ix_list (pv 1) (pe_z 4) (fun _ _ => rfl)) pa_nil)) (pe_z 8)) pa_nil)) (blkOk_by (own := [("k", 14)]) (N := ["script", "numbers", "m", "modulus", "field", "found", "due", "e", "kept", "other", "p", "points", "apart", "point", "k", "one"]) (sc := defScope s_law) (by decide +kernel)) (fun _ _ _ _ _ => (pg_name (i := 14) sc_law.nd rfl (Or.inl rfl) (Or.inr rfl))) (fun _ _ _ _ _ => pts_nil) (fun _ _ _ _ _ => (pe_tup (pa_cons (pe_op op_mod (pe_callTy call_int1 (by rfl) B.int (by decide +kernel) (pa_cons (pe_ix (ix_listK (K := K) rfl) (pv 1) (pe_op op_add (pe_z 30) (pe_op op_mul (pe_z 2) (pv 14))) (fun _ _ => rfl)) pa_nil)) (pe_op op_shl (pe_z 1) (pv 2))) (pa_cons (pe_op op_mod (pe_callTy call_int1 (by rfl) B.int (by decide +kernel) (pa_cons (pe_ix (ix_listK (K := K) rfl) (pv 1) (pe_op op_add (pe_z 31) (pe_op op_mul (pe_z 2) (pv 14))) (fun _ _ => rfl)) pa_nil)) (pe_op op_shl (pe_z 1) (pv 2))) pa_nil)))))
      (pss_cons (ps_if (pt_not (pt_val (pe_call G__law_points (hr.mono (by decide)) rfl D__law_points.g D__law_points.F.kp D__law_points.b .nil pass00 (pa_cons (pv 4) (pa_cons (pv 3) (pa_cons (pv 11) pa_nil)))))) (pss_one (ps_ret pe_bl)) pss_nil)
      (pss_cons (ps_set (i := 12) sc_law.nd rfl (Or.inl rfl) (pe_lst pa_nil))
      (pss_cons (ps_for PassesOwn.never rfl (pi_list (pv 11)) (pg_name (i := 13) sc_law.nd rfl (Or.inl rfl) (Or.inr rfl))
        (pss_one (ps_if (pt_not (pt_cmpR op_in_seq (pe_ix ix_tup (pv 13) (pe_z 0) (fun _ _ => rfl)) (pe_lc (own := [("one", 15)]) rfl sc_law.nd (pi_list (pv 12)) (blkOk_by (own := [("one", 15)]) (N := ["script", "numbers", "m", "modulus", "field", "found", "due", "e", "kept", "other", "p", "points", "apart", "point", "k", "one"]) (sc := defScope s_law) (by decide +kernel)) (fun _ _ _ _ _ => (pg_name (i := 15) sc_law.nd rfl (Or.inl rfl) (Or.inr rfl))) (fun _ _ _ _ _ => pts_nil) (fun _ _ _ _ _ => (pe_ix (ix_tupK (K := K) rfl) (pv 15) (pe_z 0) (fun _ _ => rfl)))) (by rfl))) (pss_one (ps_expr (pe_bm PySem.F.plainAttrs_list PySem.F.slot_list_append PySem.F.type_list_append mt_append (pv 12) (pa_cons (pv 13) pa_nil)))) pss_nil)))
      (pss_one (ps_ret (pe_call G__law_points (hr.mono (by decide)) rfl D__law_points.g D__law_points.F.kp D__law_points.b .nil pass00 (pa_cons (pv 4) (pa_cons (pv 3) (pa_cons (pv 12) pa_nil))))))))))))))))))))), fun F0 => by infer_instance, fun F0 xs hxs hb => ?_⟩)
  have sL := sizeLine_eq
  change dSeq _ _ _ (none :: some _ :: [none, none, none, none, none, none, none, none, none, none, none, none, none, none])
  have hg : ∀ i : Nat, i < 80 → ∃ x, atI (LI (NIn xs)) (i : Int) = some (.int ((x : Nat) : Int)) := fun i hi => by
    obtain ⟨x, hx⟩ : ∃ x : Nat, (xs : List Nat)[(i : Nat)]? = some x := ⟨_, List.getElem?_eq_getElem (show i < xs.length by omega)⟩
    exact ⟨x, LI_NI_at hx⟩
  obtain ⟨x0, h0⟩ := hg 0 (by decide)
  obtain ⟨x1, h1⟩ := hg 1 (by decide)
  obtain ⟨x2, h2⟩ := hg 2 (by decide)
  obtain ⟨x3, h3⟩ := hg 3 (by decide)
  obtain ⟨x4, h4⟩ := hg 4 (by decide)
  obtain ⟨m, em⟩ : ∃ m : Nat, m = 2 + x0 % 7 := ⟨_, rfl⟩
  have hm2 : 2 ≤ m := by omega
  have hm8 : m ≤ 8 := by omega
  have nf : ∀ {x : Bool}, false = true → x = true := fun z => Bool.noConfusion z
  refine dset_go (d := .int (m : Int)) (fun P h => ⟨.int (x0 : Int), h0, (show (0 : Int) < 7 by decide), ?_⟩) ?_
  · show P (.val (.int (2 + (x0 : Int) % 7)))
    rw [show 2 + (x0 : Int) % 7 = (m : Int) by omega]; exact h
  refine ⟨.int (x1 : Int), h1, fun x => ∃ q : Nat, Fd m q ∧ x = .ok (.val (.int (q : Int))), ⟨m, x1, rfl, hm2, hm8, fun q F => ⟨q, F, rfl⟩⟩, ?_⟩
  rintro x ⟨q, F, rfl⟩
  obtain ⟨hm4, hm256⟩ := pow_mF F
  have hq5 := q_512 F
  refine ⟨nf, fun x => ∃ r logs, FldOk m q r logs ∧ x = .ok (.val (FldO C_Field m q r logs)), ⟨(m : Int), (q : Int), rfl, log_small4 (by omega), log_small4 (by omega), by omega, fun hb => absurd (show 2 ≤ (m : Int) ∧ (m : Int) ≤ 8 by omega) hb, fun _ _ hb => absurd (show 0 ≤ (q : Int) ∧ Fd m q from ⟨by omega, F⟩) hb, fun mn qn r logs e1 e2 O => ?_⟩, ?_⟩
  · have e1 : m = mn := by omega
    have e2 : q = qn := by omega
    subst e1 e2
    exact ⟨r, logs, O, rfl⟩
  rintro x ⟨r, logs, O, rfl⟩
  refine ⟨⟨_, rfl⟩, ?_⟩
  dsimp only [List.set_cons_succ, List.set_cons_zero]
  have es : (1 : Int) * 2 ^ ((m : Nat) : Int).toNat = ((2 ^ m : Nat) : Int) := by rw [Int.toNat_natCast, Int.one_mul, Int.natCast_pow]; rfl
  refine ⟨.int (x2 : Int), h2, (show (0 : Int) < 7 by decide), ⟨by omega, by omega⟩, rfl, fun k acc => ∃ fs : List Nat, acc = LI (NI fs) ∧ fs.length = k ∧ El m fs, ⟨[], rfl, rfl, fun c hc => absurd hc List.not_mem_nil⟩, ?_, ?_⟩
  · rintro k d acc hd ⟨fs, rfl, l1, l2⟩
    obtain ⟨hk, rfl⟩ := rangeD_at hd
    have hk6 : k < 7 := by
      have h : k < ((x2 : Int) % 7).toNat := hk
      omega
    obtain ⟨y, hy⟩ := hg (10 + k) (by omega)
    refine brT ⟨.int (y : Int), by rw [show (10 : Int) + ((0 : Int) + (k : Int)) = ((10 + k : Nat) : Int) by omega]; exact hy, ⟨by omega, by omega, by decide⟩, (by show (0 : Int) < (1 : Int) * 2 ^ ((m : Nat) : Int).toNat; rw [es]; omega), by rw [LI_NI_len]; omega, fs ++ [y % 2 ^ m], ?_, by simp [l1], fun c hc => ?_⟩
    · show LI (NI fs) ++ [PyData.int ((y : Int) % ((1 : Int) * 2 ^ ((m : Nat) : Int).toNat))] = _
      rw [es, ← Int.natCast_emod]; exact NI_app fs [y % 2 ^ m]
    · rcases List.mem_append.mp hc with z | z
      · exact l2 c z
      · rw [List.mem_singleton] at z; rw [z]; exact Nat.mod_lt _ (by omega)
  rintro acc ⟨fs, rfl, l1, l2⟩
  rw [rangeD_len] at l1
  have lf6 : fs.length ≤ 6 := by omega
  refine .inr ⟨(show 1 ≤ sizeLine by omega), .inr ?_⟩
  dsimp only [List.set_cons_succ, List.set_cons_zero]
  refine ⟨rfl, fun i σ => ∃ o7 : Option SV, σ = [none, some (.val (.list (LI (NI xs)))), some (.val (.int (m : Int))), some (.val (.int (q : Int))), some (.val (FldO C_Field m q r logs)), some (.val (.list (LI (NI fs)))), some (.val (.list (LI (NI (frs q (fs.take i)))))), o7, none, none, none, none, none, none, none, none], ⟨none, rfl⟩, ?_, ?_⟩
  · rintro i d σ hd ⟨o7, rfl⟩
    obtain ⟨e, he, rfl⟩ := NI_at hd
    have hi := (List.getElem?_eq_some_iff.mp he).1
    have e1 := l2 e (List.mem_of_getElem? he)
    have lt : (fs.take i).length = i := by rw [List.length_take]; omega
    have fl := frs_len (q := q) i (fs.take i) lt
    refine ⟨(show 2 ≤ sizeLine by omega), fun x => x = .ok (.own (LI (NI (trim (conv q (frs q (fs.take i)) [e, 1]))))), ⟨m, q, frs q (fs.take i), [e, 1], rfl, F, frs_El F _, pair_El F e1, by omega, (show 2 ≤ 400 by decide), rfl⟩, ?_⟩
    rintro x rfl
    refine ⟨fun _ => LI_allF _, .inr ⟨some (.val (.int (e : Int))), ?_⟩⟩
    have : frs q (fs.take (i + 1)) = trim (conv q (frs q (fs.take i)) [e, 1]) := by rw [← frs_more, ← take_one he]
    rw [this]; rfl
  rintro σ ⟨o7, rfl⟩
  rw [LI_NI_len, List.take_length]
  have fl := frs_len (q := q) _ fs rfl
  refine .inr ?_
  dsimp only [List.set_cons_succ, List.set_cons_zero]
  refine ⟨fun x => x = .ok (.own (LI (NI (frs q fs)))), ⟨m, q, r, logs, fs, rfl, O, l2, by omega, rfl⟩, ?_⟩
  rintro x rfl
  refine ⟨fun _ => LI_allF _, neD1 (d := .list (LI (NI (frs q fs)))) rfl rfl (LI_flatN _) (brF (neD1 (d := .list (LI (NI fs))) rfl rfl (LI_flatN _) (brF ?_)))⟩
  refine ⟨.int (x3 : Int), h3, (show (0 : Int) < 9 by decide), ⟨by omega, by omega⟩, rfl, fun k acc => ∃ fs : List Nat, acc = LI (NI fs) ∧ fs.length = k ∧ El m fs, ⟨[], rfl, rfl, fun c hc => absurd hc List.not_mem_nil⟩, ?_, ?_⟩
  · rintro k d acc hd ⟨gs, rfl, g1, g2⟩
    obtain ⟨hk, rfl⟩ := rangeD_at hd
    have hk6 : k < 9 := by
      have h : k < ((x3 : Int) % 9).toNat := hk
      omega
    obtain ⟨y, hy⟩ := hg (20 + k) (by omega)
    refine brT ⟨.int (y : Int), by rw [show (20 : Int) + ((0 : Int) + (k : Int)) = ((20 + k : Nat) : Int) by omega]; exact hy, ⟨by omega, by omega, by decide⟩, (by show (0 : Int) < (1 : Int) * 2 ^ ((m : Nat) : Int).toNat; rw [es]; omega), by rw [LI_NI_len]; omega, gs ++ [y % 2 ^ m], ?_, by simp [g1], fun c hc => ?_⟩
    · show LI (NI gs) ++ [PyData.int ((y : Int) % ((1 : Int) * 2 ^ ((m : Nat) : Int).toNat))] = _
      rw [es, ← Int.natCast_emod]; exact NI_app gs [y % 2 ^ m]
    · rcases List.mem_append.mp hc with z | z
      · exact g2 c z
      · rw [List.mem_singleton] at z; rw [z]; exact Nat.mod_lt _ (by omega)
  rintro acc ⟨gs, rfl, g1, g2⟩
  rw [rangeD_len] at g1
  have lg8 : gs.length ≤ 8 := by omega
  refine ⟨fun x => x = .ok (.own (LI (NI (trim gs)))), ⟨gs, rfl, by omega, rfl⟩, ?_⟩
  rintro x rfl
  have tg := trim_le gs
  have gE := trim_El g2
  refine ⟨fun _ => LI_allF _, .inr ?_⟩
  dsimp only [List.set_cons_succ, List.set_cons_zero]
  refine ⟨fun x => x = .ok (.own (LI (NI (trim (conv q (frs q fs) (trim gs)))))), ⟨m, q, frs q fs, trim gs, rfl, F, frs_El F _, gE, by omega, by omega, rfl⟩, ?_⟩
  rintro x rfl
  have hcl := trim_le (conv q (frs q fs) (trim gs))
  rw [conv_len] at hcl
  refine ⟨fun _ => LI_allF _, Nat.zero_le _, (show 4 ≤ sizeLine by omega), rfl, ?_⟩
  have hall : ∀ p ∈ [frs q fs, trim gs, trim (conv q (frs q fs) (trim gs)), ([] : List Nat)], El m p ∧ trim p = p ∧ p.length ≤ 800 := fun p hp => by
    rcases List.mem_cons.mp hp with z | z
    · subst z; exact ⟨frs_El F _, frs_trim q fs, by omega⟩
    rcases List.mem_cons.mp z with z | z
    · subst z; exact ⟨gE, trim_trim _, by omega⟩
    rcases List.mem_cons.mp z with z | z
    · subst z; exact ⟨trim_El (conv_mem F _ _), trim_trim _, by omega⟩
    · rw [List.mem_singleton] at z; subst z; exact ⟨fun c hc => absurd hc List.not_mem_nil, rfl, Nat.zero_le _⟩
  refine ⟨fun i σ => ∃ o10 : Option SV, σ = [none, some (.val (.list (LI (NI xs)))), some (.val (.int (m : Int))), some (.val (.int (q : Int))), some (.val (FldO C_Field m q r logs)), some (.val (.list (LI (NI fs)))), some (.val (.list (LI (NI (frs q fs))))), o7, some (.val (.list (LI (NI fs)))), some (.val (.list (LI (NI (trim gs))))), o10, none, none, none, none, none], ⟨none, rfl⟩, ?_, ?_⟩
  · rintro i d σ hd ⟨o10, rfl⟩
    have hd' : ([frs q fs, trim gs, trim (conv q (frs q fs) (trim gs)), ([] : List Nat)].map fun p => PyData.list (LI (NI p)))[i]? = some d := hd
    rw [List.getElem?_map] at hd'
    obtain ⟨p, hp, rfl⟩ : ∃ p, [frs q fs, trim gs, trim (conv q (frs q fs) (trim gs)), ([] : List Nat)][i]? = some p ∧ d = .list (LI (NI p)) := by
      cases e : [frs q fs, trim gs, trim (conv q (frs q fs) (trim gs)), ([] : List Nat)][i]? with
      | none => rw [e] at hd'; cases hd'
      | some p => rw [e] at hd'; exact ⟨p, rfl, (Option.some.inj hd').symm⟩
    obtain ⟨p1, p2, p3⟩ := hall p (List.mem_of_getElem? hp)
    refine ⟨fun x => x = .ok (.val (.bool true)), ⟨m, q, r, logs, p, rfl, O, p1, p3, p2, rfl⟩, ?_⟩
    rintro x rfl
    exact ⟨fun _ => rfl, brF ⟨some (.val (.list (LI (NI p)))), rfl⟩⟩
  rintro σ ⟨o10, rfl⟩
  refine ⟨.int (x4 : Int), h4, (show (0 : Int) < 8 by decide), ⟨by omega, by omega⟩, rfl, fun k acc => ∃ pts : List (Nat × Nat), acc = PD pts ∧ pts.length = k ∧ ∀ x ∈ pts, x.1 < 2 ^ m ∧ x.2 < 2 ^ m, ⟨[], rfl, rfl, by simp⟩, ?_, ?_⟩
  · rintro k d acc hd ⟨pts, rfl, g1, g2⟩
    obtain ⟨hk, rfl⟩ := rangeD_at hd
    have hk6 : k < 8 := by
      have h : k < ((x4 : Int) % 8).toNat := hk
      omega
    obtain ⟨y, hy⟩ := hg (30 + 2 * k) (by omega)
    obtain ⟨u, hu⟩ := hg (31 + 2 * k) (by omega)
    refine brT ⟨.inl ⟨by decide, by omega⟩, .int (y : Int), by rw [show (30 : Int) + 2 * ((0 : Int) + (k : Int)) = ((30 + 2 * k : Nat) : Int) by omega]; exact hy, ⟨by omega, by omega, by decide⟩, (by show (0 : Int) < (1 : Int) * 2 ^ ((m : Nat) : Int).toNat; rw [es]; omega), .inl ⟨by decide, by omega⟩, .int (u : Int), by rw [show (31 : Int) + 2 * ((0 : Int) + (k : Int)) = ((31 + 2 * k : Nat) : Int) by omega]; exact hu, ⟨by omega, by omega, by decide⟩, (by show (0 : Int) < (1 : Int) * 2 ^ ((m : Nat) : Int).toNat; rw [es]; omega), (show 2 ≤ sizeLine by omega), by rw [PD_len]; omega, pts ++ [(y % 2 ^ m, u % 2 ^ m)], ?_, by simp [g1], fun c hc => ?_⟩
    · show PD pts ++ [PyData.tuple [PyData.int ((y : Int) % ((1 : Int) * 2 ^ ((m : Nat) : Int).toNat)), PyData.int ((u : Int) % ((1 : Int) * 2 ^ ((m : Nat) : Int).toNat))]] = _
      rw [es, ← Int.natCast_emod, ← Int.natCast_emod]
      unfold PD
      rw [List.map_append]; rfl
    · rcases List.mem_append.mp hc with z | z
      · exact g2 c z
      · rw [List.mem_singleton] at z; rw [z]; exact ⟨Nat.mod_lt _ (by omega), Nat.mod_lt _ (by omega)⟩
  rintro acc ⟨pts, rfl, g1', g2'⟩
  rw [rangeD_len] at g1'
  have lp8 : pts.length ≤ 7 := by omega
  refine .inr ?_
  dsimp only [List.set_cons_succ, List.set_cons_zero]
  refine ⟨fun x => x = .ok (.val (.bool true)), ⟨m, q, r, logs, pts, rfl, O, by omega, g2', rfl⟩, ?_⟩
  rintro x rfl
  refine ⟨fun _ => rfl, brF ⟨Nat.zero_le _, .inl ?_⟩⟩
  dsimp only [List.set_cons_succ, List.set_cons_zero]
  refine ⟨rfl, fun i σ => ∃ (ap : List (Nat × Nat)) (o13 : Option SV), σ = [none, some (.val (.list (LI (NI xs)))), some (.val (.int (m : Int))), some (.val (.int (q : Int))), some (.val (FldO C_Field m q r logs)), some (.val (.list (LI (NI fs)))), some (.val (.list (LI (NI (frs q fs))))), o7, some (.val (.list (LI (NI fs)))), some (.val (.list (LI (NI (trim gs))))), o10, some (.val (.list (PD pts))), some (.own (PD ap)), o13, none, none] ∧ ap.length ≤ i ∧ ∀ x ∈ ap, x.1 < 2 ^ m ∧ x.2 < 2 ^ m, ⟨[], none, rfl, Nat.le_refl _, by simp⟩, ?_, ?_⟩
  · rintro i d σ hd ⟨ap, o13, rfl, a1, a2⟩
    obtain ⟨x, hx, rfl⟩ := PD_at hd
    have hil := (List.getElem?_eq_some_iff.mp hx).1
    have hx2 := g2' x (List.mem_of_getElem? hx)
    refine ⟨.int (x.1 : Int), D_atN (i := 0) rfl, rfl, fun j acc => acc = LI (NI (fsts (ap.take j))), rfl, ?_, ?_⟩
    · rintro j d acc hd rfl
      obtain ⟨y, hy, rfl⟩ := PD_at hd
      have hjl := (List.getElem?_eq_some_iff.mp hy).1
      refine brT ⟨.int (y.1 : Int), D_atN (i := 0) rfl, ?_, ?_⟩
      · rw [LI_NI_len, fsts_len, List.length_take]; omega
      · show LI (NI (fsts (ap.take j))) ++ LI (NI [y.1]) = _
        rw [NI_app, fsts_more hy]
    · rintro acc rfl
      refine ⟨(x.1 : Int), NI (fsts (ap.take (PD ap).length)), rfl, rfl, (brN (fun c => ?_) fun c => ?_ : Br (!decide ((x.1 : Int) ∈ NI (fsts (ap.take (PD ap).length)))) _ _)⟩
      · refine ⟨by rw [PD_len]; omega, ap ++ [x], some (.val (.tuple [.int (x.1 : Int), .int (x.2 : Int)])), ?_, by simp; omega, fun z hz => ?_⟩
        · have : PD (ap ++ [x]) = PD ap ++ [PyData.tuple [.int (x.1 : Int), .int (x.2 : Int)]] := by unfold PD; rw [List.map_append]; rfl
          rw [this]; rfl
        · rcases List.mem_append.mp hz with w | w
          · exact a2 z w
          · rw [List.mem_singleton] at w; rw [w]; exact hx2
      · exact ⟨ap, some (.val (.tuple [.int (x.1 : Int), .int (x.2 : Int)])), rfl, by omega, a2⟩
  rintro σ ⟨ap, o13, rfl, a1, a2⟩
  rw [PD_len] at a1
  refine ⟨fun x => x = .ok (.val (.bool true)), ⟨m, q, r, logs, ap, rfl, O, by omega, a2, rfl⟩, ?_⟩
  rintro x rfl
  exact ⟨fun _ => rfl, rfl⟩
end
end K04
set_option synthInstance.maxSize 100000
set_option synthInstance.maxHeartbeats 0
namespace K04
open PySem PySem.Spec L2 NB ER MKX DL
theorem all_mk {l : PySem.W.OpenLaw} {w : World} {K : PySem.W.Frag} {h : Heap} {mg : Str → Option Value} {fa : Addr} (X : K.In h) (G : h.Ns mainGlobals mg) (hfa : mg "law" = some (.ref fa))
    {C_Field : Addr}
    {f_Field___init__ : Addr} {od_Field___init__ an_Field___init__ : Option Addr} {sl_Field___init__ : Array (Option Value)} {oc_Field___init__ kV_Field___init__ dc_Field___init__ pm_Field___init__ cd_Field___init__ ct_Field___init__ : Value}
    {f_Field_size : Addr} {od_Field_size an_Field_size : Option Addr} {sl_Field_size : Array (Option Value)} {oc_Field_size kV_Field_size dc_Field_size pm_Field_size cd_Field_size ct_Field_size : Value}
    {f_Field_add : Addr} {od_Field_add an_Field_add : Option Addr} {sl_Field_add : Array (Option Value)} {oc_Field_add kV_Field_add dc_Field_add pm_Field_add cd_Field_add ct_Field_add : Value}
    {f_Field_times : Addr} {od_Field_times an_Field_times : Option Addr} {sl_Field_times : Array (Option Value)} {oc_Field_times kV_Field_times dc_Field_times pm_Field_times cd_Field_times ct_Field_times : Value}
    {f_Field_inverse : Addr} {od_Field_inverse an_Field_inverse : Option Addr} {sl_Field_inverse : Array (Option Value)} {oc_Field_inverse kV_Field_inverse dc_Field_inverse pm_Field_inverse cd_Field_inverse ct_Field_inverse : Value}
    {f_Field_log : Addr} {od_Field_log an_Field_log : Option Addr} {sl_Field_log : Array (Option Value)} {oc_Field_log kV_Field_log dc_Field_log pm_Field_log cd_Field_log ct_Field_log : Value}
    {f_Field_scaled : Addr} {od_Field_scaled an_Field_scaled : Option Addr} {sl_Field_scaled : Array (Option Value)} {oc_Field_scaled kV_Field_scaled dc_Field_scaled pm_Field_scaled cd_Field_scaled ct_Field_scaled : Value}
    {f_Field_value : Addr} {od_Field_value an_Field_value : Option Addr} {sl_Field_value : Array (Option Value)} {oc_Field_value kV_Field_value dc_Field_value pm_Field_value cd_Field_value ct_Field_value : Value}
    {f_degree : Addr} {od_degree an_degree : Option Addr} {sl_degree : Array (Option Value)} {oc_degree kV_degree dc_degree pm_degree cd_degree ct_degree : Value}
    {f_times_binary : Addr} {od_times_binary an_times_binary : Option Addr} {sl_times_binary : Array (Option Value)} {oc_times_binary kV_times_binary dc_times_binary pm_times_binary cd_times_binary ct_times_binary : Value}
    {f_divide : Addr} {od_divide an_divide : Option Addr} {sl_divide : Array (Option Value)} {oc_divide kV_divide dc_divide pm_divide cd_divide ct_divide : Value}
    {f_common : Addr} {od_common an_common : Option Addr} {sl_common : Array (Option Value)} {oc_common kV_common dc_common pm_common cd_common ct_common : Value}
    {f_product_rest : Addr} {od_product_rest an_product_rest : Option Addr} {sl_product_rest : Array (Option Value)} {oc_product_rest kV_product_rest dc_product_rest pm_product_rest cd_product_rest ct_product_rest : Value}
    {f_is_irreducible : Addr} {od_is_irreducible an_is_irreducible : Option Addr} {sl_is_irreducible : Array (Option Value)} {oc_is_irreducible kV_is_irreducible dc_is_irreducible pm_is_irreducible cd_is_irreducible ct_is_irreducible : Value}
    {f__powers_of : Addr} {od__powers_of an__powers_of : Option Addr} {sl__powers_of : Array (Option Value)} {oc__powers_of kV__powers_of dc__powers_of pm__powers_of cd__powers_of ct__powers_of : Value}
    {f__root_powers : Addr} {od__root_powers an__root_powers : Option Addr} {sl__root_powers : Array (Option Value)} {oc__root_powers kV__root_powers dc__root_powers pm__root_powers cd__root_powers ct__root_powers : Value}
    {f_trimmed : Addr} {od_trimmed an_trimmed : Option Addr} {sl_trimmed : Array (Option Value)} {oc_trimmed kV_trimmed dc_trimmed pm_trimmed cd_trimmed ct_trimmed : Value}
    {f_add : Addr} {od_add an_add : Option Addr} {sl_add : Array (Option Value)} {oc_add kV_add dc_add pm_add cd_add ct_add : Value}
    {f_times_polys : Addr} {od_times_polys an_times_polys : Option Addr} {sl_times_polys : Array (Option Value)} {oc_times_polys kV_times_polys dc_times_polys pm_times_polys cd_times_polys ct_times_polys : Value}
    {f_scaled : Addr} {od_scaled an_scaled : Option Addr} {sl_scaled : Array (Option Value)} {oc_scaled kV_scaled dc_scaled pm_scaled cd_scaled ct_scaled : Value}
    {f_value : Addr} {od_value an_value : Option Addr} {sl_value : Array (Option Value)} {oc_value kV_value dc_value pm_value cd_value ct_value : Value}
    {f_from_roots : Addr} {od_from_roots an_from_roots : Option Addr} {sl_from_roots : Array (Option Value)} {oc_from_roots kV_from_roots dc_from_roots pm_from_roots cd_from_roots ct_from_roots : Value}
    {f_roots : Addr} {od_roots an_roots : Option Addr} {sl_roots : Array (Option Value)} {oc_roots kV_roots dc_roots pm_roots cd_roots ct_roots : Value}
    {f_interpolate : Addr} {od_interpolate an_interpolate : Option Addr} {sl_interpolate : Array (Option Value)} {oc_interpolate kV_interpolate dc_interpolate pm_interpolate cd_interpolate ct_interpolate : Value}
    {f__law_numbers : Addr} {od__law_numbers an__law_numbers : Option Addr} {sl__law_numbers : Array (Option Value)} {oc__law_numbers kV__law_numbers dc__law_numbers pm__law_numbers cd__law_numbers ct__law_numbers : Value}
    {f__law_degree : Addr} {od__law_degree an__law_degree : Option Addr} {sl__law_degree : Array (Option Value)} {oc__law_degree kV__law_degree dc__law_degree pm__law_degree cd__law_degree ct__law_degree : Value}
    {f__law_times : Addr} {od__law_times an__law_times : Option Addr} {sl__law_times : Array (Option Value)} {oc__law_times kV__law_times dc__law_times pm__law_times cd__law_times ct__law_times : Value}
    {f__law_divided : Addr} {od__law_divided an__law_divided : Option Addr} {sl__law_divided : Array (Option Value)} {oc__law_divided kV__law_divided dc__law_divided pm__law_divided cd__law_divided ct__law_divided : Value}
    {f__law_irreducible : Addr} {od__law_irreducible an__law_irreducible : Option Addr} {sl__law_irreducible : Array (Option Value)} {oc__law_irreducible kV__law_irreducible dc__law_irreducible pm__law_irreducible cd__law_irreducible ct__law_irreducible : Value}
    {f__law_modulus : Addr} {od__law_modulus an__law_modulus : Option Addr} {sl__law_modulus : Array (Option Value)} {oc__law_modulus kV__law_modulus dc__law_modulus pm__law_modulus cd__law_modulus ct__law_modulus : Value}
    {f__law_product : Addr} {od__law_product an__law_product : Option Addr} {sl__law_product : Array (Option Value)} {oc__law_product kV__law_product dc__law_product pm__law_product cd__law_product ct__law_product : Value}
    {f__law_trim : Addr} {od__law_trim an__law_trim : Option Addr} {sl__law_trim : Array (Option Value)} {oc__law_trim kV__law_trim dc__law_trim pm__law_trim cd__law_trim ct__law_trim : Value}
    {f__law_mul : Addr} {od__law_mul an__law_mul : Option Addr} {sl__law_mul : Array (Option Value)} {oc__law_mul kV__law_mul dc__law_mul pm__law_mul cd__law_mul ct__law_mul : Value}
    {f__law_at_point : Addr} {od__law_at_point an__law_at_point : Option Addr} {sl__law_at_point : Array (Option Value)} {oc__law_at_point kV__law_at_point dc__law_at_point pm__law_at_point cd__law_at_point ct__law_at_point : Value}
    {f__law_found : Addr} {od__law_found an__law_found : Option Addr} {sl__law_found : Array (Option Value)} {oc__law_found kV__law_found dc__law_found pm__law_found cd__law_found ct__law_found : Value}
    {f__law_roots : Addr} {od__law_roots an__law_roots : Option Addr} {sl__law_roots : Array (Option Value)} {oc__law_roots kV__law_roots dc__law_roots pm__law_roots cd__law_roots ct__law_roots : Value}
    {f__law_points : Addr} {od__law_points an__law_points : Option Addr} {sl__law_points : Array (Option Value)} {oc__law_points kV__law_points dc__law_points pm__law_points cd__law_points ct__law_points : Value}
    {f_law : Addr} {od_law an_law : Option Addr} {sl_law : Array (Option Value)} {oc_law kV_law dc_law pm_law cd_law ct_law : Value}
    {f_init : Addr} {od_init an_init : Option Addr} {sl_init : Array (Option Value)} {oc_init kV_init dc_init pm_init cd_init ct_init : Value}
    {C_HaulError C_OutOfRange C_NotIrreducible C_NoInverse C_NoDivisor C_SamePoint : Addr}
    {nm_HaulError q_HaulError : Str} {N_HaulError : Addr} {bs_HaulError bm_HaulError : List Value} {sn_HaulError : List Str} {sub_HaulError : List Value} {ab_HaulError : Bool} {col_HaulError : Option Bool} {dd_HaulError : Option Addr} {k0_HaulError k1_HaulError k2_HaulError k3_HaulError k5_HaulError : Option Value}
    {nm_OutOfRange q_OutOfRange : Str} {N_OutOfRange : Addr} {bs_OutOfRange bm_OutOfRange : List Value} {sn_OutOfRange : List Str} {sub_OutOfRange : List Value} {ab_OutOfRange : Bool} {col_OutOfRange : Option Bool} {dd_OutOfRange : Option Addr} {k0_OutOfRange k1_OutOfRange k2_OutOfRange k3_OutOfRange k5_OutOfRange : Option Value}
    {nm_NotIrreducible q_NotIrreducible : Str} {N_NotIrreducible : Addr} {bs_NotIrreducible bm_NotIrreducible : List Value} {sn_NotIrreducible : List Str} {sub_NotIrreducible : List Value} {ab_NotIrreducible : Bool} {col_NotIrreducible : Option Bool} {dd_NotIrreducible : Option Addr} {k0_NotIrreducible k1_NotIrreducible k2_NotIrreducible k3_NotIrreducible k5_NotIrreducible : Option Value}
    {nm_NoInverse q_NoInverse : Str} {N_NoInverse : Addr} {bs_NoInverse bm_NoInverse : List Value} {sn_NoInverse : List Str} {sub_NoInverse : List Value} {ab_NoInverse : Bool} {col_NoInverse : Option Bool} {dd_NoInverse : Option Addr} {k0_NoInverse k1_NoInverse k2_NoInverse k3_NoInverse k5_NoInverse : Option Value}
    {nm_NoDivisor q_NoDivisor : Str} {N_NoDivisor : Addr} {bs_NoDivisor bm_NoDivisor : List Value} {sn_NoDivisor : List Str} {sub_NoDivisor : List Value} {ab_NoDivisor : Bool} {col_NoDivisor : Option Bool} {dd_NoDivisor : Option Addr} {k0_NoDivisor k1_NoDivisor k2_NoDivisor k3_NoDivisor k5_NoDivisor : Option Value}
    {nm_SamePoint q_SamePoint : Str} {N_SamePoint : Addr} {bs_SamePoint bm_SamePoint : List Value} {sn_SamePoint : List Str} {sub_SamePoint : List Value} {ab_SamePoint : Bool} {col_SamePoint : Option Bool} {dd_SamePoint : Option Addr} {k0_SamePoint k1_SamePoint k2_SamePoint k3_SamePoint k5_SamePoint : Option Value}
    {t_X : Tok}
    (a_HaulError : PySem.W.nsIn K mainGlobals "HaulError" = some (some (.ref C_HaulError)))
    (a_OutOfRange : PySem.W.nsIn K mainGlobals "OutOfRange" = some (some (.ref C_OutOfRange)))
    (a_NotIrreducible : PySem.W.nsIn K mainGlobals "NotIrreducible" = some (some (.ref C_NotIrreducible)))
    (a_NoInverse : PySem.W.nsIn K mainGlobals "NoInverse" = some (some (.ref C_NoInverse)))
    (a_NoDivisor : PySem.W.nsIn K mainGlobals "NoDivisor" = some (some (.ref C_NoDivisor)))
    (a_SamePoint : PySem.W.nsIn K mainGlobals "SamePoint" = some (some (.ref C_SamePoint)))
    (i_init : PySem.W.findIn K (.ref C_HaulError) "__init__" = some (some (.ref f_init)))
    (ti_init : PySem.W.typeIn K (.ref f_init) = some (.type "function"))
    (l_init : K.lookup f_init = some ⟨oc_init, od_init, .func (PySem.W.fnOf "__init__" "HaulError.__init__" (defArgs s_init) (defBody s_init) (defScope s_init) .none kV_init dc_init pm_init an_init cd_init ct_init), sl_init⟩)
    (c_init : PySem.W.codeIn K cd_init "HaulError.__init__" = true)
    (k_init : PySem.W.keepIn K (.ref f_init) = true)
    (v_init : PySem.W.findCls K (.type "ValueError") (.type "type") "__init__" = some (.val (.builtin "ValueError.__init__")))
    (sp_cls : PySem.W.specialIn K (.builtin "object.__class__") "__get__" = some (some (.builtin "getset_descriptor.__get__")))
    (tk_cls : PySem.W.takesIn K (.builtin "object.__class__") = some true)
    (x_HaulError : K.lookup C_HaulError = some (excClassObj nm_HaulError q_HaulError C_HaulError N_HaulError bs_HaulError bm_HaulError true sn_HaulError sub_HaulError ab_HaulError col_HaulError dd_HaulError k0_HaulError k1_HaulError k2_HaulError k3_HaulError k5_HaulError "ValueError.__new__"))
    (r_HaulError : PySem.HandSPX.refsVE bm_HaulError = true)
    (sa_HaulError : PySem.W.findIn K (.ref C_HaulError) "__setattr__" = some (some (.builtin "object.__setattr__")))
    (ga_HaulError : PySem.W.findIn K (.ref C_HaulError) "__getattribute__" = some (some (.builtin "BaseException.__getattribute__")))
    (gg_HaulError : PySem.W.findIn K (.ref C_HaulError) "__getattr__" = some none)
    (cl_HaulError : PySem.W.findIn K (.ref C_HaulError) "__class__" = some (some (.builtin "object.__class__")))
    (no_HaulError : PySem.W.findIn K (.ref C_HaulError) "at" = some none)
    (e_HaulError : PySem.W.subIn K (.ref C_HaulError) (.type "BaseException") = some true)
    (ty_HaulError : PySem.W.typeIn K (.ref C_HaulError) = some (.type "type"))
    (kc_HaulError : PySem.W.keepIn K (.ref C_HaulError) = true)
    (hd_HaulError : PySem.W.hasDictIn K C_HaulError = true)
    (mo_HaulError : PySem.W.mroIn K C_HaulError (.type "object") = some true)
    (su_HaulError : PySem.W.subIn K (.ref C_HaulError) (.ref C_HaulError) = some true)
    (x_OutOfRange : K.lookup C_OutOfRange = some (excClassObj nm_OutOfRange q_OutOfRange C_OutOfRange N_OutOfRange bs_OutOfRange bm_OutOfRange true sn_OutOfRange sub_OutOfRange ab_OutOfRange col_OutOfRange dd_OutOfRange k0_OutOfRange k1_OutOfRange k2_OutOfRange k3_OutOfRange k5_OutOfRange "ValueError.__new__"))
    (r_OutOfRange : PySem.HandSPX.refsVE bm_OutOfRange = true)
    (sa_OutOfRange : PySem.W.findIn K (.ref C_OutOfRange) "__setattr__" = some (some (.builtin "object.__setattr__")))
    (ga_OutOfRange : PySem.W.findIn K (.ref C_OutOfRange) "__getattribute__" = some (some (.builtin "BaseException.__getattribute__")))
    (gg_OutOfRange : PySem.W.findIn K (.ref C_OutOfRange) "__getattr__" = some none)
    (cl_OutOfRange : PySem.W.findIn K (.ref C_OutOfRange) "__class__" = some (some (.builtin "object.__class__")))
    (no_OutOfRange : PySem.W.findIn K (.ref C_OutOfRange) "at" = some none)
    (ii_OutOfRange : PySem.W.findIn K (.ref C_OutOfRange) "__init__" = some (some (.ref f_init)))
    (e_OutOfRange : PySem.W.subIn K (.ref C_OutOfRange) (.type "BaseException") = some true)
    (ty_OutOfRange : PySem.W.typeIn K (.ref C_OutOfRange) = some (.type "type"))
    (kc_OutOfRange : PySem.W.keepIn K (.ref C_OutOfRange) = true)
    (hd_OutOfRange : PySem.W.hasDictIn K C_OutOfRange = true)
    (mo_OutOfRange : PySem.W.mroIn K C_OutOfRange (.type "object") = some true)
    (su_OutOfRange : PySem.W.subIn K (.ref C_OutOfRange) (.ref C_HaulError) = some true)
    (x_NotIrreducible : K.lookup C_NotIrreducible = some (excClassObj nm_NotIrreducible q_NotIrreducible C_NotIrreducible N_NotIrreducible bs_NotIrreducible bm_NotIrreducible true sn_NotIrreducible sub_NotIrreducible ab_NotIrreducible col_NotIrreducible dd_NotIrreducible k0_NotIrreducible k1_NotIrreducible k2_NotIrreducible k3_NotIrreducible k5_NotIrreducible "ValueError.__new__"))
    (r_NotIrreducible : PySem.HandSPX.refsVE bm_NotIrreducible = true)
    (sa_NotIrreducible : PySem.W.findIn K (.ref C_NotIrreducible) "__setattr__" = some (some (.builtin "object.__setattr__")))
    (ga_NotIrreducible : PySem.W.findIn K (.ref C_NotIrreducible) "__getattribute__" = some (some (.builtin "BaseException.__getattribute__")))
    (gg_NotIrreducible : PySem.W.findIn K (.ref C_NotIrreducible) "__getattr__" = some none)
    (cl_NotIrreducible : PySem.W.findIn K (.ref C_NotIrreducible) "__class__" = some (some (.builtin "object.__class__")))
    (no_NotIrreducible : PySem.W.findIn K (.ref C_NotIrreducible) "at" = some none)
    (ii_NotIrreducible : PySem.W.findIn K (.ref C_NotIrreducible) "__init__" = some (some (.ref f_init)))
    (e_NotIrreducible : PySem.W.subIn K (.ref C_NotIrreducible) (.type "BaseException") = some true)
    (ty_NotIrreducible : PySem.W.typeIn K (.ref C_NotIrreducible) = some (.type "type"))
    (kc_NotIrreducible : PySem.W.keepIn K (.ref C_NotIrreducible) = true)
    (hd_NotIrreducible : PySem.W.hasDictIn K C_NotIrreducible = true)
    (mo_NotIrreducible : PySem.W.mroIn K C_NotIrreducible (.type "object") = some true)
    (su_NotIrreducible : PySem.W.subIn K (.ref C_NotIrreducible) (.ref C_HaulError) = some true)
    (x_NoInverse : K.lookup C_NoInverse = some (excClassObj nm_NoInverse q_NoInverse C_NoInverse N_NoInverse bs_NoInverse bm_NoInverse true sn_NoInverse sub_NoInverse ab_NoInverse col_NoInverse dd_NoInverse k0_NoInverse k1_NoInverse k2_NoInverse k3_NoInverse k5_NoInverse "ValueError.__new__"))
    (r_NoInverse : PySem.HandSPX.refsVE bm_NoInverse = true)
    (sa_NoInverse : PySem.W.findIn K (.ref C_NoInverse) "__setattr__" = some (some (.builtin "object.__setattr__")))
    (ga_NoInverse : PySem.W.findIn K (.ref C_NoInverse) "__getattribute__" = some (some (.builtin "BaseException.__getattribute__")))
    (gg_NoInverse : PySem.W.findIn K (.ref C_NoInverse) "__getattr__" = some none)
    (cl_NoInverse : PySem.W.findIn K (.ref C_NoInverse) "__class__" = some (some (.builtin "object.__class__")))
    (no_NoInverse : PySem.W.findIn K (.ref C_NoInverse) "at" = some none)
    (ii_NoInverse : PySem.W.findIn K (.ref C_NoInverse) "__init__" = some (some (.ref f_init)))
    (e_NoInverse : PySem.W.subIn K (.ref C_NoInverse) (.type "BaseException") = some true)
    (ty_NoInverse : PySem.W.typeIn K (.ref C_NoInverse) = some (.type "type"))
    (kc_NoInverse : PySem.W.keepIn K (.ref C_NoInverse) = true)
    (hd_NoInverse : PySem.W.hasDictIn K C_NoInverse = true)
    (mo_NoInverse : PySem.W.mroIn K C_NoInverse (.type "object") = some true)
    (su_NoInverse : PySem.W.subIn K (.ref C_NoInverse) (.ref C_HaulError) = some true)
    (x_NoDivisor : K.lookup C_NoDivisor = some (excClassObj nm_NoDivisor q_NoDivisor C_NoDivisor N_NoDivisor bs_NoDivisor bm_NoDivisor true sn_NoDivisor sub_NoDivisor ab_NoDivisor col_NoDivisor dd_NoDivisor k0_NoDivisor k1_NoDivisor k2_NoDivisor k3_NoDivisor k5_NoDivisor "ValueError.__new__"))
    (r_NoDivisor : PySem.HandSPX.refsVE bm_NoDivisor = true)
    (sa_NoDivisor : PySem.W.findIn K (.ref C_NoDivisor) "__setattr__" = some (some (.builtin "object.__setattr__")))
    (ga_NoDivisor : PySem.W.findIn K (.ref C_NoDivisor) "__getattribute__" = some (some (.builtin "BaseException.__getattribute__")))
    (gg_NoDivisor : PySem.W.findIn K (.ref C_NoDivisor) "__getattr__" = some none)
    (cl_NoDivisor : PySem.W.findIn K (.ref C_NoDivisor) "__class__" = some (some (.builtin "object.__class__")))
    (no_NoDivisor : PySem.W.findIn K (.ref C_NoDivisor) "at" = some none)
    (ii_NoDivisor : PySem.W.findIn K (.ref C_NoDivisor) "__init__" = some (some (.ref f_init)))
    (e_NoDivisor : PySem.W.subIn K (.ref C_NoDivisor) (.type "BaseException") = some true)
    (ty_NoDivisor : PySem.W.typeIn K (.ref C_NoDivisor) = some (.type "type"))
    (kc_NoDivisor : PySem.W.keepIn K (.ref C_NoDivisor) = true)
    (hd_NoDivisor : PySem.W.hasDictIn K C_NoDivisor = true)
    (mo_NoDivisor : PySem.W.mroIn K C_NoDivisor (.type "object") = some true)
    (su_NoDivisor : PySem.W.subIn K (.ref C_NoDivisor) (.ref C_HaulError) = some true)
    (x_SamePoint : K.lookup C_SamePoint = some (excClassObj nm_SamePoint q_SamePoint C_SamePoint N_SamePoint bs_SamePoint bm_SamePoint true sn_SamePoint sub_SamePoint ab_SamePoint col_SamePoint dd_SamePoint k0_SamePoint k1_SamePoint k2_SamePoint k3_SamePoint k5_SamePoint "ValueError.__new__"))
    (r_SamePoint : PySem.HandSPX.refsVE bm_SamePoint = true)
    (sa_SamePoint : PySem.W.findIn K (.ref C_SamePoint) "__setattr__" = some (some (.builtin "object.__setattr__")))
    (ga_SamePoint : PySem.W.findIn K (.ref C_SamePoint) "__getattribute__" = some (some (.builtin "BaseException.__getattribute__")))
    (gg_SamePoint : PySem.W.findIn K (.ref C_SamePoint) "__getattr__" = some none)
    (cl_SamePoint : PySem.W.findIn K (.ref C_SamePoint) "__class__" = some (some (.builtin "object.__class__")))
    (no_SamePoint : PySem.W.findIn K (.ref C_SamePoint) "at" = some none)
    (ii_SamePoint : PySem.W.findIn K (.ref C_SamePoint) "__init__" = some (some (.ref f_init)))
    (e_SamePoint : PySem.W.subIn K (.ref C_SamePoint) (.type "BaseException") = some true)
    (ty_SamePoint : PySem.W.typeIn K (.ref C_SamePoint) = some (.type "type"))
    (kc_SamePoint : PySem.W.keepIn K (.ref C_SamePoint) = true)
    (hd_SamePoint : PySem.W.hasDictIn K C_SamePoint = true)
    (mo_SamePoint : PySem.W.mroIn K C_SamePoint (.type "object") = some true)
    (su_SamePoint : PySem.W.subIn K (.ref C_SamePoint) (.ref C_HaulError) = some true)
    (a_degree : PySem.W.nsIn K mainGlobals "degree" = some (some (.ref f_degree)))
    (l_degree : K.lookup f_degree = some ⟨oc_degree, od_degree, .func (PySem.W.fnOf "degree" "degree" (defArgs s_degree) (defBody s_degree) (defScope s_degree) .none kV_degree dc_degree pm_degree an_degree cd_degree ct_degree), sl_degree⟩)
    (c_degree : PySem.W.codeIn K cd_degree "degree" = true)
    (k_degree : PySem.W.keepIn K (.ref f_degree) = true)
    (a_times_binary : PySem.W.nsIn K mainGlobals "times_binary" = some (some (.ref f_times_binary)))
    (l_times_binary : K.lookup f_times_binary = some ⟨oc_times_binary, od_times_binary, .func (PySem.W.fnOf "times" "times" (defArgs s_times_binary) (defBody s_times_binary) (defScope s_times_binary) .none kV_times_binary dc_times_binary pm_times_binary an_times_binary cd_times_binary ct_times_binary), sl_times_binary⟩)
    (c_times_binary : PySem.W.codeIn K cd_times_binary "times" = true)
    (k_times_binary : PySem.W.keepIn K (.ref f_times_binary) = true)
    (a_divide : PySem.W.nsIn K mainGlobals "divide" = some (some (.ref f_divide)))
    (l_divide : K.lookup f_divide = some ⟨oc_divide, od_divide, .func (PySem.W.fnOf "divide" "divide" (defArgs s_divide) (defBody s_divide) (defScope s_divide) .none kV_divide dc_divide pm_divide an_divide cd_divide ct_divide), sl_divide⟩)
    (c_divide : PySem.W.codeIn K cd_divide "divide" = true)
    (k_divide : PySem.W.keepIn K (.ref f_divide) = true)
    (a_common : PySem.W.nsIn K mainGlobals "common" = some (some (.ref f_common)))
    (l_common : K.lookup f_common = some ⟨oc_common, od_common, .func (PySem.W.fnOf "common" "common" (defArgs s_common) (defBody s_common) (defScope s_common) .none kV_common dc_common pm_common an_common cd_common ct_common), sl_common⟩)
    (c_common : PySem.W.codeIn K cd_common "common" = true)
    (k_common : PySem.W.keepIn K (.ref f_common) = true)
    (a_product_rest : PySem.W.nsIn K mainGlobals "product_rest" = some (some (.ref f_product_rest)))
    (l_product_rest : K.lookup f_product_rest = some ⟨oc_product_rest, od_product_rest, .func (PySem.W.fnOf "product_rest" "product_rest" (defArgs s_product_rest) (defBody s_product_rest) (defScope s_product_rest) .none kV_product_rest dc_product_rest pm_product_rest an_product_rest cd_product_rest ct_product_rest), sl_product_rest⟩)
    (c_product_rest : PySem.W.codeIn K cd_product_rest "product_rest" = true)
    (k_product_rest : PySem.W.keepIn K (.ref f_product_rest) = true)
    (a_is_irreducible : PySem.W.nsIn K mainGlobals "is_irreducible" = some (some (.ref f_is_irreducible)))
    (l_is_irreducible : K.lookup f_is_irreducible = some ⟨oc_is_irreducible, od_is_irreducible, .func (PySem.W.fnOf "is_irreducible" "is_irreducible" (defArgs s_is_irreducible) (defBody s_is_irreducible) (defScope s_is_irreducible) .none kV_is_irreducible dc_is_irreducible pm_is_irreducible an_is_irreducible cd_is_irreducible ct_is_irreducible), sl_is_irreducible⟩)
    (c_is_irreducible : PySem.W.codeIn K cd_is_irreducible "is_irreducible" = true)
    (k_is_irreducible : PySem.W.keepIn K (.ref f_is_irreducible) = true)
    (a__powers_of : PySem.W.nsIn K mainGlobals "_powers_of" = some (some (.ref f__powers_of)))
    (l__powers_of : K.lookup f__powers_of = some ⟨oc__powers_of, od__powers_of, .func (PySem.W.fnOf "_powers_of" "_powers_of" (defArgs s__powers_of) (defBody s__powers_of) (defScope s__powers_of) .none kV__powers_of dc__powers_of pm__powers_of an__powers_of cd__powers_of ct__powers_of), sl__powers_of⟩)
    (c__powers_of : PySem.W.codeIn K cd__powers_of "_powers_of" = true)
    (k__powers_of : PySem.W.keepIn K (.ref f__powers_of) = true)
    (a__root_powers : PySem.W.nsIn K mainGlobals "_root_powers" = some (some (.ref f__root_powers)))
    (l__root_powers : K.lookup f__root_powers = some ⟨oc__root_powers, od__root_powers, .func (PySem.W.fnOf "_root_powers" "_root_powers" (defArgs s__root_powers) (defBody s__root_powers) (defScope s__root_powers) .none kV__root_powers dc__root_powers pm__root_powers an__root_powers cd__root_powers ct__root_powers), sl__root_powers⟩)
    (c__root_powers : PySem.W.codeIn K cd__root_powers "_root_powers" = true)
    (k__root_powers : PySem.W.keepIn K (.ref f__root_powers) = true)
    (a_trimmed : PySem.W.nsIn K mainGlobals "trimmed" = some (some (.ref f_trimmed)))
    (l_trimmed : K.lookup f_trimmed = some ⟨oc_trimmed, od_trimmed, .func (PySem.W.fnOf "trimmed" "trimmed" (defArgs s_trimmed) (defBody s_trimmed) (defScope s_trimmed) .none kV_trimmed dc_trimmed pm_trimmed an_trimmed cd_trimmed ct_trimmed), sl_trimmed⟩)
    (c_trimmed : PySem.W.codeIn K cd_trimmed "trimmed" = true)
    (k_trimmed : PySem.W.keepIn K (.ref f_trimmed) = true)
    (a_add : PySem.W.nsIn K mainGlobals "add" = some (some (.ref f_add)))
    (l_add : K.lookup f_add = some ⟨oc_add, od_add, .func (PySem.W.fnOf "add" "add" (defArgs s_add) (defBody s_add) (defScope s_add) .none kV_add dc_add pm_add an_add cd_add ct_add), sl_add⟩)
    (c_add : PySem.W.codeIn K cd_add "add" = true)
    (k_add : PySem.W.keepIn K (.ref f_add) = true)
    (a_times_polys : PySem.W.nsIn K mainGlobals "times_polys" = some (some (.ref f_times_polys)))
    (l_times_polys : K.lookup f_times_polys = some ⟨oc_times_polys, od_times_polys, .func (PySem.W.fnOf "times" "times" (defArgs s_times_polys) (defBody s_times_polys) (defScope s_times_polys) .none kV_times_polys dc_times_polys pm_times_polys an_times_polys cd_times_polys ct_times_polys), sl_times_polys⟩)
    (c_times_polys : PySem.W.codeIn K cd_times_polys "times" = true)
    (k_times_polys : PySem.W.keepIn K (.ref f_times_polys) = true)
    (a_scaled : PySem.W.nsIn K mainGlobals "scaled" = some (some (.ref f_scaled)))
    (l_scaled : K.lookup f_scaled = some ⟨oc_scaled, od_scaled, .func (PySem.W.fnOf "scaled" "scaled" (defArgs s_scaled) (defBody s_scaled) (defScope s_scaled) .none kV_scaled dc_scaled pm_scaled an_scaled cd_scaled ct_scaled), sl_scaled⟩)
    (c_scaled : PySem.W.codeIn K cd_scaled "scaled" = true)
    (k_scaled : PySem.W.keepIn K (.ref f_scaled) = true)
    (a_value : PySem.W.nsIn K mainGlobals "value" = some (some (.ref f_value)))
    (l_value : K.lookup f_value = some ⟨oc_value, od_value, .func (PySem.W.fnOf "value" "value" (defArgs s_value) (defBody s_value) (defScope s_value) .none kV_value dc_value pm_value an_value cd_value ct_value), sl_value⟩)
    (c_value : PySem.W.codeIn K cd_value "value" = true)
    (k_value : PySem.W.keepIn K (.ref f_value) = true)
    (a_from_roots : PySem.W.nsIn K mainGlobals "from_roots" = some (some (.ref f_from_roots)))
    (l_from_roots : K.lookup f_from_roots = some ⟨oc_from_roots, od_from_roots, .func (PySem.W.fnOf "from_roots" "from_roots" (defArgs s_from_roots) (defBody s_from_roots) (defScope s_from_roots) .none kV_from_roots dc_from_roots pm_from_roots an_from_roots cd_from_roots ct_from_roots), sl_from_roots⟩)
    (c_from_roots : PySem.W.codeIn K cd_from_roots "from_roots" = true)
    (k_from_roots : PySem.W.keepIn K (.ref f_from_roots) = true)
    (a_roots : PySem.W.nsIn K mainGlobals "roots" = some (some (.ref f_roots)))
    (l_roots : K.lookup f_roots = some ⟨oc_roots, od_roots, .func (PySem.W.fnOf "roots" "roots" (defArgs s_roots) (defBody s_roots) (defScope s_roots) .none kV_roots dc_roots pm_roots an_roots cd_roots ct_roots), sl_roots⟩)
    (c_roots : PySem.W.codeIn K cd_roots "roots" = true)
    (k_roots : PySem.W.keepIn K (.ref f_roots) = true)
    (a_interpolate : PySem.W.nsIn K mainGlobals "interpolate" = some (some (.ref f_interpolate)))
    (l_interpolate : K.lookup f_interpolate = some ⟨oc_interpolate, od_interpolate, .func (PySem.W.fnOf "interpolate" "interpolate" (defArgs s_interpolate) (defBody s_interpolate) (defScope s_interpolate) .none kV_interpolate dc_interpolate pm_interpolate an_interpolate cd_interpolate ct_interpolate), sl_interpolate⟩)
    (c_interpolate : PySem.W.codeIn K cd_interpolate "interpolate" = true)
    (k_interpolate : PySem.W.keepIn K (.ref f_interpolate) = true)
    (a__law_numbers : PySem.W.nsIn K mainGlobals "_law_numbers" = some (some (.ref f__law_numbers)))
    (l__law_numbers : K.lookup f__law_numbers = some ⟨oc__law_numbers, od__law_numbers, .func (PySem.W.fnOf "_law_numbers" "_law_numbers" (defArgs s__law_numbers) (defBody s__law_numbers) (defScope s__law_numbers) .none kV__law_numbers dc__law_numbers pm__law_numbers an__law_numbers cd__law_numbers ct__law_numbers), sl__law_numbers⟩)
    (c__law_numbers : PySem.W.codeIn K cd__law_numbers "_law_numbers" = true)
    (k__law_numbers : PySem.W.keepIn K (.ref f__law_numbers) = true)
    (a__law_degree : PySem.W.nsIn K mainGlobals "_law_degree" = some (some (.ref f__law_degree)))
    (l__law_degree : K.lookup f__law_degree = some ⟨oc__law_degree, od__law_degree, .func (PySem.W.fnOf "_law_degree" "_law_degree" (defArgs s__law_degree) (defBody s__law_degree) (defScope s__law_degree) .none kV__law_degree dc__law_degree pm__law_degree an__law_degree cd__law_degree ct__law_degree), sl__law_degree⟩)
    (c__law_degree : PySem.W.codeIn K cd__law_degree "_law_degree" = true)
    (k__law_degree : PySem.W.keepIn K (.ref f__law_degree) = true)
    (a__law_times : PySem.W.nsIn K mainGlobals "_law_times" = some (some (.ref f__law_times)))
    (l__law_times : K.lookup f__law_times = some ⟨oc__law_times, od__law_times, .func (PySem.W.fnOf "_law_times" "_law_times" (defArgs s__law_times) (defBody s__law_times) (defScope s__law_times) .none kV__law_times dc__law_times pm__law_times an__law_times cd__law_times ct__law_times), sl__law_times⟩)
    (c__law_times : PySem.W.codeIn K cd__law_times "_law_times" = true)
    (k__law_times : PySem.W.keepIn K (.ref f__law_times) = true)
    (a__law_divided : PySem.W.nsIn K mainGlobals "_law_divided" = some (some (.ref f__law_divided)))
    (l__law_divided : K.lookup f__law_divided = some ⟨oc__law_divided, od__law_divided, .func (PySem.W.fnOf "_law_divided" "_law_divided" (defArgs s__law_divided) (defBody s__law_divided) (defScope s__law_divided) .none kV__law_divided dc__law_divided pm__law_divided an__law_divided cd__law_divided ct__law_divided), sl__law_divided⟩)
    (c__law_divided : PySem.W.codeIn K cd__law_divided "_law_divided" = true)
    (k__law_divided : PySem.W.keepIn K (.ref f__law_divided) = true)
    (a__law_irreducible : PySem.W.nsIn K mainGlobals "_law_irreducible" = some (some (.ref f__law_irreducible)))
    (l__law_irreducible : K.lookup f__law_irreducible = some ⟨oc__law_irreducible, od__law_irreducible, .func (PySem.W.fnOf "_law_irreducible" "_law_irreducible" (defArgs s__law_irreducible) (defBody s__law_irreducible) (defScope s__law_irreducible) .none kV__law_irreducible dc__law_irreducible pm__law_irreducible an__law_irreducible cd__law_irreducible ct__law_irreducible), sl__law_irreducible⟩)
    (c__law_irreducible : PySem.W.codeIn K cd__law_irreducible "_law_irreducible" = true)
    (k__law_irreducible : PySem.W.keepIn K (.ref f__law_irreducible) = true)
    (a__law_modulus : PySem.W.nsIn K mainGlobals "_law_modulus" = some (some (.ref f__law_modulus)))
    (l__law_modulus : K.lookup f__law_modulus = some ⟨oc__law_modulus, od__law_modulus, .func (PySem.W.fnOf "_law_modulus" "_law_modulus" (defArgs s__law_modulus) (defBody s__law_modulus) (defScope s__law_modulus) .none kV__law_modulus dc__law_modulus pm__law_modulus an__law_modulus cd__law_modulus ct__law_modulus), sl__law_modulus⟩)
    (c__law_modulus : PySem.W.codeIn K cd__law_modulus "_law_modulus" = true)
    (k__law_modulus : PySem.W.keepIn K (.ref f__law_modulus) = true)
    (a__law_product : PySem.W.nsIn K mainGlobals "_law_product" = some (some (.ref f__law_product)))
    (l__law_product : K.lookup f__law_product = some ⟨oc__law_product, od__law_product, .func (PySem.W.fnOf "_law_product" "_law_product" (defArgs s__law_product) (defBody s__law_product) (defScope s__law_product) .none kV__law_product dc__law_product pm__law_product an__law_product cd__law_product ct__law_product), sl__law_product⟩)
    (c__law_product : PySem.W.codeIn K cd__law_product "_law_product" = true)
    (k__law_product : PySem.W.keepIn K (.ref f__law_product) = true)
    (a__law_trim : PySem.W.nsIn K mainGlobals "_law_trim" = some (some (.ref f__law_trim)))
    (l__law_trim : K.lookup f__law_trim = some ⟨oc__law_trim, od__law_trim, .func (PySem.W.fnOf "_law_trim" "_law_trim" (defArgs s__law_trim) (defBody s__law_trim) (defScope s__law_trim) .none kV__law_trim dc__law_trim pm__law_trim an__law_trim cd__law_trim ct__law_trim), sl__law_trim⟩)
    (c__law_trim : PySem.W.codeIn K cd__law_trim "_law_trim" = true)
    (k__law_trim : PySem.W.keepIn K (.ref f__law_trim) = true)
    (a__law_mul : PySem.W.nsIn K mainGlobals "_law_mul" = some (some (.ref f__law_mul)))
    (l__law_mul : K.lookup f__law_mul = some ⟨oc__law_mul, od__law_mul, .func (PySem.W.fnOf "_law_mul" "_law_mul" (defArgs s__law_mul) (defBody s__law_mul) (defScope s__law_mul) .none kV__law_mul dc__law_mul pm__law_mul an__law_mul cd__law_mul ct__law_mul), sl__law_mul⟩)
    (c__law_mul : PySem.W.codeIn K cd__law_mul "_law_mul" = true)
    (k__law_mul : PySem.W.keepIn K (.ref f__law_mul) = true)
    (a__law_at_point : PySem.W.nsIn K mainGlobals "_law_at_point" = some (some (.ref f__law_at_point)))
    (l__law_at_point : K.lookup f__law_at_point = some ⟨oc__law_at_point, od__law_at_point, .func (PySem.W.fnOf "_law_at_point" "_law_at_point" (defArgs s__law_at_point) (defBody s__law_at_point) (defScope s__law_at_point) .none kV__law_at_point dc__law_at_point pm__law_at_point an__law_at_point cd__law_at_point ct__law_at_point), sl__law_at_point⟩)
    (c__law_at_point : PySem.W.codeIn K cd__law_at_point "_law_at_point" = true)
    (k__law_at_point : PySem.W.keepIn K (.ref f__law_at_point) = true)
    (a__law_found : PySem.W.nsIn K mainGlobals "_law_found" = some (some (.ref f__law_found)))
    (l__law_found : K.lookup f__law_found = some ⟨oc__law_found, od__law_found, .func (PySem.W.fnOf "_law_found" "_law_found" (defArgs s__law_found) (defBody s__law_found) (defScope s__law_found) .none kV__law_found dc__law_found pm__law_found an__law_found cd__law_found ct__law_found), sl__law_found⟩)
    (c__law_found : PySem.W.codeIn K cd__law_found "_law_found" = true)
    (k__law_found : PySem.W.keepIn K (.ref f__law_found) = true)
    (a__law_roots : PySem.W.nsIn K mainGlobals "_law_roots" = some (some (.ref f__law_roots)))
    (l__law_roots : K.lookup f__law_roots = some ⟨oc__law_roots, od__law_roots, .func (PySem.W.fnOf "_law_roots" "_law_roots" (defArgs s__law_roots) (defBody s__law_roots) (defScope s__law_roots) .none kV__law_roots dc__law_roots pm__law_roots an__law_roots cd__law_roots ct__law_roots), sl__law_roots⟩)
    (c__law_roots : PySem.W.codeIn K cd__law_roots "_law_roots" = true)
    (k__law_roots : PySem.W.keepIn K (.ref f__law_roots) = true)
    (a__law_points : PySem.W.nsIn K mainGlobals "_law_points" = some (some (.ref f__law_points)))
    (l__law_points : K.lookup f__law_points = some ⟨oc__law_points, od__law_points, .func (PySem.W.fnOf "_law_points" "_law_points" (defArgs s__law_points) (defBody s__law_points) (defScope s__law_points) .none kV__law_points dc__law_points pm__law_points an__law_points cd__law_points ct__law_points), sl__law_points⟩)
    (c__law_points : PySem.W.codeIn K cd__law_points "_law_points" = true)
    (k__law_points : PySem.W.keepIn K (.ref f__law_points) = true)
    (a_law : PySem.W.nsIn K mainGlobals "law" = some (some (.ref f_law)))
    (l_law : K.lookup f_law = some ⟨oc_law, od_law, .func (PySem.W.fnOf "law" "law" (defArgs s_law) (defBody s_law) (defScope s_law) .none kV_law dc_law pm_law an_law cd_law ct_law), sl_law⟩)
    (c_law : PySem.W.codeIn K cd_law "law" = true)
    (k_law : PySem.W.keepIn K (.ref f_law) = true)
    (a_X : PySem.W.nsIn K mainGlobals "X" = some (some (.int 2 t_X)))
    (a_Field : PySem.W.nsIn K mainGlobals "Field" = some (some (.ref C_Field)))
    (pg_Field : PySem.W.plainGet K C_Field Str.empty = true)
    (hd_Field : PySem.W.hasDictIn K C_Field = true)
    (po_Field : PySem.W.plainOver K C_Field = true)
    (sa_Field : PySem.W.findIn K (.ref C_Field) "__setattr__" = some (some (.builtin "object.__setattr__")))
    (mk_Field : PySem.W.makesIn K C_Field = true)
    (kc_Field : PySem.W.keepIn K (.ref C_Field) = true)
    (n_Field__bits : PySem.W.findIn K (.ref C_Field) "_bits" = some none)
    (n_Field__modulus : PySem.W.findIn K (.ref C_Field) "_modulus" = some none)
    (n_Field__turn : PySem.W.findIn K (.ref C_Field) "_turn" = some none)
    (n_Field__powers : PySem.W.findIn K (.ref C_Field) "_powers" = some none)
    (n_Field__logs : PySem.W.findIn K (.ref C_Field) "_logs" = some none)
    (n_Field__products : PySem.W.findIn K (.ref C_Field) "_products" = some none)
    (a_Field___init__ : PySem.W.findIn K (.ref C_Field) "__init__" = some (some (.ref f_Field___init__)))
    (i_Field___init__ : PySem.W.isFn K (.ref f_Field___init__) = true)
    (l_Field___init__ : K.lookup f_Field___init__ = some ⟨oc_Field___init__, od_Field___init__, .func (PySem.W.fnOf "__init__" "Field.__init__" (defArgs s_Field___init__) (defBody s_Field___init__) (defScope s_Field___init__) .none kV_Field___init__ dc_Field___init__ pm_Field___init__ an_Field___init__ cd_Field___init__ ct_Field___init__), sl_Field___init__⟩)
    (c_Field___init__ : PySem.W.codeIn K cd_Field___init__ "Field.__init__" = true)
    (k_Field___init__ : PySem.W.keepIn K (.ref f_Field___init__) = true)
    (a_Field_size : PySem.W.findIn K (.ref C_Field) "size" = some (some (.ref f_Field_size)))
    (i_Field_size : PySem.W.isFn K (.ref f_Field_size) = true)
    (l_Field_size : K.lookup f_Field_size = some ⟨oc_Field_size, od_Field_size, .func (PySem.W.fnOf "size" "Field.size" (defArgs s_Field_size) (defBody s_Field_size) (defScope s_Field_size) .none kV_Field_size dc_Field_size pm_Field_size an_Field_size cd_Field_size ct_Field_size), sl_Field_size⟩)
    (c_Field_size : PySem.W.codeIn K cd_Field_size "Field.size" = true)
    (k_Field_size : PySem.W.keepIn K (.ref f_Field_size) = true)
    (a_Field_add : PySem.W.findIn K (.ref C_Field) "add" = some (some (.ref f_Field_add)))
    (i_Field_add : PySem.W.isFn K (.ref f_Field_add) = true)
    (l_Field_add : K.lookup f_Field_add = some ⟨oc_Field_add, od_Field_add, .func (PySem.W.fnOf "add" "Field.add" (defArgs s_Field_add) (defBody s_Field_add) (defScope s_Field_add) .none kV_Field_add dc_Field_add pm_Field_add an_Field_add cd_Field_add ct_Field_add), sl_Field_add⟩)
    (c_Field_add : PySem.W.codeIn K cd_Field_add "Field.add" = true)
    (k_Field_add : PySem.W.keepIn K (.ref f_Field_add) = true)
    (a_Field_times : PySem.W.findIn K (.ref C_Field) "times" = some (some (.ref f_Field_times)))
    (i_Field_times : PySem.W.isFn K (.ref f_Field_times) = true)
    (l_Field_times : K.lookup f_Field_times = some ⟨oc_Field_times, od_Field_times, .func (PySem.W.fnOf "times" "Field.times" (defArgs s_Field_times) (defBody s_Field_times) (defScope s_Field_times) .none kV_Field_times dc_Field_times pm_Field_times an_Field_times cd_Field_times ct_Field_times), sl_Field_times⟩)
    (c_Field_times : PySem.W.codeIn K cd_Field_times "Field.times" = true)
    (k_Field_times : PySem.W.keepIn K (.ref f_Field_times) = true)
    (a_Field_inverse : PySem.W.findIn K (.ref C_Field) "inverse" = some (some (.ref f_Field_inverse)))
    (i_Field_inverse : PySem.W.isFn K (.ref f_Field_inverse) = true)
    (l_Field_inverse : K.lookup f_Field_inverse = some ⟨oc_Field_inverse, od_Field_inverse, .func (PySem.W.fnOf "inverse" "Field.inverse" (defArgs s_Field_inverse) (defBody s_Field_inverse) (defScope s_Field_inverse) .none kV_Field_inverse dc_Field_inverse pm_Field_inverse an_Field_inverse cd_Field_inverse ct_Field_inverse), sl_Field_inverse⟩)
    (c_Field_inverse : PySem.W.codeIn K cd_Field_inverse "Field.inverse" = true)
    (k_Field_inverse : PySem.W.keepIn K (.ref f_Field_inverse) = true)
    (a_Field_log : PySem.W.findIn K (.ref C_Field) "log" = some (some (.ref f_Field_log)))
    (i_Field_log : PySem.W.isFn K (.ref f_Field_log) = true)
    (l_Field_log : K.lookup f_Field_log = some ⟨oc_Field_log, od_Field_log, .func (PySem.W.fnOf "log" "Field.log" (defArgs s_Field_log) (defBody s_Field_log) (defScope s_Field_log) .none kV_Field_log dc_Field_log pm_Field_log an_Field_log cd_Field_log ct_Field_log), sl_Field_log⟩)
    (c_Field_log : PySem.W.codeIn K cd_Field_log "Field.log" = true)
    (k_Field_log : PySem.W.keepIn K (.ref f_Field_log) = true)
    (a_Field_scaled : PySem.W.findIn K (.ref C_Field) "scaled" = some (some (.ref f_Field_scaled)))
    (i_Field_scaled : PySem.W.isFn K (.ref f_Field_scaled) = true)
    (l_Field_scaled : K.lookup f_Field_scaled = some ⟨oc_Field_scaled, od_Field_scaled, .func (PySem.W.fnOf "scaled" "Field.scaled" (defArgs s_Field_scaled) (defBody s_Field_scaled) (defScope s_Field_scaled) .none kV_Field_scaled dc_Field_scaled pm_Field_scaled an_Field_scaled cd_Field_scaled ct_Field_scaled), sl_Field_scaled⟩)
    (c_Field_scaled : PySem.W.codeIn K cd_Field_scaled "Field.scaled" = true)
    (k_Field_scaled : PySem.W.keepIn K (.ref f_Field_scaled) = true)
    (a_Field_value : PySem.W.findIn K (.ref C_Field) "value" = some (some (.ref f_Field_value)))
    (i_Field_value : PySem.W.isFn K (.ref f_Field_value) = true)
    (l_Field_value : K.lookup f_Field_value = some ⟨oc_Field_value, od_Field_value, .func (PySem.W.fnOf "value" "Field.value" (defArgs s_Field_value) (defBody s_Field_value) (defScope s_Field_value) .none kV_Field_value dc_Field_value pm_Field_value an_Field_value cd_Field_value ct_Field_value), sl_Field_value⟩)
    (c_Field_value : PySem.W.codeIn K cd_Field_value "Field.value" = true)
    (k_Field_value : PySem.W.keepIn K (.ref f_Field_value) = true)
    (z_range : PySem.W.nsIn K mainGlobals "range" = some none)
    (z_len : PySem.W.nsIn K mainGlobals "len" = some none)
    (z_abs : PySem.W.nsIn K mainGlobals "abs" = some none)
    (z_int : PySem.W.nsIn K mainGlobals "int" = some none)
    (z_max : PySem.W.nsIn K mainGlobals "max" = some none)
    (z_min : PySem.W.nsIn K mainGlobals "min" = some none)
    (z_sum : PySem.W.nsIn K mainGlobals "sum" = some none)
    (z_list : PySem.W.nsIn K mainGlobals "list" = some none)
    (z_isinstance : PySem.W.nsIn K mainGlobals "isinstance" = some none)
    (z_enumerate : PySem.W.nsIn K mainGlobals "enumerate" = some none)
    (z_zip : PySem.W.nsIn K mainGlobals "zip" = some none)
    (z_reversed : PySem.W.nsIn K mainGlobals "reversed" = some none)
    (z_any : PySem.W.nsIn K mainGlobals "any" = some none)
    (z_all : PySem.W.nsIn K mainGlobals "all" = some none)
    (z_ValueError : PySem.W.nsIn K mainGlobals "ValueError" = some none)
    : ∃ fd : FuncData, (∀ (s : Shared) (v : Value), BindsTo s fd ⟨[v], []⟩ [("script", v)]) ∧ ∀ base : Heap, K.In base → base.Ns mainGlobals mg → FnOk l.prog w K mg base CX0 11 fa fd ["script"] (sp_law K) := by
  have e := hfa.symm.trans (PySem.W.mg_of X G a_law)
  cases e
  have B : Bl mg := ⟨PySem.W.mg_none_of X G z_range, PySem.W.mg_none_of X G z_len, PySem.W.mg_none_of X G z_abs, PySem.W.mg_none_of X G z_int, PySem.W.mg_none_of X G z_max, PySem.W.mg_none_of X G z_min, PySem.W.mg_none_of X G z_sum, PySem.W.mg_none_of X G z_list, PySem.W.mg_none_of X G z_isinstance, PySem.W.mg_none_of X G z_enumerate, PySem.W.mg_none_of X G z_zip, PySem.W.mg_none_of X G z_reversed, PySem.W.mg_none_of X G z_any, PySem.W.mg_none_of X G z_all, PySem.W.mg_none_of X G z_ValueError⟩
  have F_degree := fun_mk (st := s_degree) l_degree c_degree k_degree
  have D_degree : Df K mg "degree" ["p"] s_degree _ _ := ⟨F_degree, PySem.W.mg_of X G a_degree, F_degree.binds (ps := ["p"]) fun _ _ _ _ _ _ us hl => match us, hl with | [_], _ => rfl⟩
  have F_times_binary := fun_mk (st := s_times_binary) l_times_binary c_times_binary k_times_binary
  have D_times_binary : Da K mg "times_binary" "times" ["p", "q"] s_times_binary _ _ := ⟨F_times_binary, PySem.W.mg_of X G a_times_binary, F_times_binary.binds (ps := ["p", "q"]) fun _ _ _ _ _ _ us hl => match us, hl with | [_, _], _ => rfl⟩
  have F_divide := fun_mk (st := s_divide) l_divide c_divide k_divide
  have D_divide : Df K mg "divide" ["p", "q"] s_divide _ _ := ⟨F_divide, PySem.W.mg_of X G a_divide, F_divide.binds (ps := ["p", "q"]) fun _ _ _ _ _ _ us hl => match us, hl with | [_, _], _ => rfl⟩
  have F_common := fun_mk (st := s_common) l_common c_common k_common
  have D_common : Df K mg "common" ["p", "q"] s_common _ _ := ⟨F_common, PySem.W.mg_of X G a_common, F_common.binds (ps := ["p", "q"]) fun _ _ _ _ _ _ us hl => match us, hl with | [_, _], _ => rfl⟩
  have F_product_rest := fun_mk (st := s_product_rest) l_product_rest c_product_rest k_product_rest
  have D_product_rest : Df K mg "product_rest" ["p", "q", "modulus"] s_product_rest _ _ := ⟨F_product_rest, PySem.W.mg_of X G a_product_rest, F_product_rest.binds (ps := ["p", "q", "modulus"]) fun _ _ _ _ _ _ us hl => match us, hl with | [_, _, _], _ => rfl⟩
  have F_is_irreducible := fun_mk (st := s_is_irreducible) l_is_irreducible c_is_irreducible k_is_irreducible
  have D_is_irreducible : Df K mg "is_irreducible" ["p"] s_is_irreducible _ _ := ⟨F_is_irreducible, PySem.W.mg_of X G a_is_irreducible, F_is_irreducible.binds (ps := ["p"]) fun _ _ _ _ _ _ us hl => match us, hl with | [_], _ => rfl⟩
  have F__powers_of := fun_mk (st := s__powers_of) l__powers_of c__powers_of k__powers_of
  have D__powers_of : Df K mg "_powers_of" ["e", "modulus"] s__powers_of _ _ := ⟨F__powers_of, PySem.W.mg_of X G a__powers_of, F__powers_of.binds (ps := ["e", "modulus"]) fun _ _ _ _ _ _ us hl => match us, hl with | [_, _], _ => rfl⟩
  have F__root_powers := fun_mk (st := s__root_powers) l__root_powers c__root_powers k__root_powers
  have D__root_powers : Df K mg "_root_powers" ["turn", "modulus"] s__root_powers _ _ := ⟨F__root_powers, PySem.W.mg_of X G a__root_powers, F__root_powers.binds (ps := ["turn", "modulus"]) fun _ _ _ _ _ _ us hl => match us, hl with | [_, _], _ => rfl⟩
  have F_trimmed := fun_mk (st := s_trimmed) l_trimmed c_trimmed k_trimmed
  have D_trimmed : Df K mg "trimmed" ["coefficients"] s_trimmed _ _ := ⟨F_trimmed, PySem.W.mg_of X G a_trimmed, F_trimmed.binds (ps := ["coefficients"]) fun _ _ _ _ _ _ us hl => match us, hl with | [_], _ => rfl⟩
  have F_add := fun_mk (st := s_add) l_add c_add k_add
  have D_add : Df K mg "add" ["field", "p", "q"] s_add _ _ := ⟨F_add, PySem.W.mg_of X G a_add, F_add.binds (ps := ["field", "p", "q"]) fun _ _ _ _ _ _ us hl => match us, hl with | [_, _, _], _ => rfl⟩
  have F_times_polys := fun_mk (st := s_times_polys) l_times_polys c_times_polys k_times_polys
  have D_times_polys : Da K mg "times_polys" "times" ["field", "p", "q"] s_times_polys _ _ := ⟨F_times_polys, PySem.W.mg_of X G a_times_polys, F_times_polys.binds (ps := ["field", "p", "q"]) fun _ _ _ _ _ _ us hl => match us, hl with | [_, _, _], _ => rfl⟩
  have F_scaled := fun_mk (st := s_scaled) l_scaled c_scaled k_scaled
  have D_scaled : Df K mg "scaled" ["field", "p", "e"] s_scaled _ _ := ⟨F_scaled, PySem.W.mg_of X G a_scaled, F_scaled.binds (ps := ["field", "p", "e"]) fun _ _ _ _ _ _ us hl => match us, hl with | [_, _, _], _ => rfl⟩
  have F_value := fun_mk (st := s_value) l_value c_value k_value
  have D_value : Df K mg "value" ["field", "p", "e"] s_value _ _ := ⟨F_value, PySem.W.mg_of X G a_value, F_value.binds (ps := ["field", "p", "e"]) fun _ _ _ _ _ _ us hl => match us, hl with | [_, _, _], _ => rfl⟩
  have F_from_roots := fun_mk (st := s_from_roots) l_from_roots c_from_roots k_from_roots
  have D_from_roots : Df K mg "from_roots" ["field", "roots"] s_from_roots _ _ := ⟨F_from_roots, PySem.W.mg_of X G a_from_roots, F_from_roots.binds (ps := ["field", "roots"]) fun _ _ _ _ _ _ us hl => match us, hl with | [_, _], _ => rfl⟩
  have F_roots := fun_mk (st := s_roots) l_roots c_roots k_roots
  have D_roots : Df K mg "roots" ["field", "p"] s_roots _ _ := ⟨F_roots, PySem.W.mg_of X G a_roots, F_roots.binds (ps := ["field", "p"]) fun _ _ _ _ _ _ us hl => match us, hl with | [_, _], _ => rfl⟩
  have F_interpolate := fun_mk (st := s_interpolate) l_interpolate c_interpolate k_interpolate
  have D_interpolate : Df K mg "interpolate" ["field", "points"] s_interpolate _ _ := ⟨F_interpolate, PySem.W.mg_of X G a_interpolate, F_interpolate.binds (ps := ["field", "points"]) fun _ _ _ _ _ _ us hl => match us, hl with | [_, _], _ => rfl⟩
  have F__law_numbers := fun_mk (st := s__law_numbers) l__law_numbers c__law_numbers k__law_numbers
  have D__law_numbers : Df K mg "_law_numbers" ["script", "many"] s__law_numbers _ _ := ⟨F__law_numbers, PySem.W.mg_of X G a__law_numbers, F__law_numbers.binds (ps := ["script", "many"]) fun _ _ _ _ _ _ us hl => match us, hl with | [_, _], _ => rfl⟩
  have F__law_degree := fun_mk (st := s__law_degree) l__law_degree c__law_degree k__law_degree
  have D__law_degree : Df K mg "_law_degree" ["p"] s__law_degree _ _ := ⟨F__law_degree, PySem.W.mg_of X G a__law_degree, F__law_degree.binds (ps := ["p"]) fun _ _ _ _ _ _ us hl => match us, hl with | [_], _ => rfl⟩
  have F__law_times := fun_mk (st := s__law_times) l__law_times c__law_times k__law_times
  have D__law_times : Df K mg "_law_times" ["p", "q"] s__law_times _ _ := ⟨F__law_times, PySem.W.mg_of X G a__law_times, F__law_times.binds (ps := ["p", "q"]) fun _ _ _ _ _ _ us hl => match us, hl with | [_, _], _ => rfl⟩
  have F__law_divided := fun_mk (st := s__law_divided) l__law_divided c__law_divided k__law_divided
  have D__law_divided : Df K mg "_law_divided" ["p", "q"] s__law_divided _ _ := ⟨F__law_divided, PySem.W.mg_of X G a__law_divided, F__law_divided.binds (ps := ["p", "q"]) fun _ _ _ _ _ _ us hl => match us, hl with | [_, _], _ => rfl⟩
  have F__law_irreducible := fun_mk (st := s__law_irreducible) l__law_irreducible c__law_irreducible k__law_irreducible
  have D__law_irreducible : Df K mg "_law_irreducible" ["p"] s__law_irreducible _ _ := ⟨F__law_irreducible, PySem.W.mg_of X G a__law_irreducible, F__law_irreducible.binds (ps := ["p"]) fun _ _ _ _ _ _ us hl => match us, hl with | [_], _ => rfl⟩
  have F__law_modulus := fun_mk (st := s__law_modulus) l__law_modulus c__law_modulus k__law_modulus
  have D__law_modulus : Df K mg "_law_modulus" ["m", "drawn"] s__law_modulus _ _ := ⟨F__law_modulus, PySem.W.mg_of X G a__law_modulus, F__law_modulus.binds (ps := ["m", "drawn"]) fun _ _ _ _ _ _ us hl => match us, hl with | [_, _], _ => rfl⟩
  have F__law_product := fun_mk (st := s__law_product) l__law_product c__law_product k__law_product
  have D__law_product : Df K mg "_law_product" ["modulus", "e", "f"] s__law_product _ _ := ⟨F__law_product, PySem.W.mg_of X G a__law_product, F__law_product.binds (ps := ["modulus", "e", "f"]) fun _ _ _ _ _ _ us hl => match us, hl with | [_, _, _], _ => rfl⟩
  have F__law_trim := fun_mk (st := s__law_trim) l__law_trim c__law_trim k__law_trim
  have D__law_trim : Df K mg "_law_trim" ["poly"] s__law_trim _ _ := ⟨F__law_trim, PySem.W.mg_of X G a__law_trim, F__law_trim.binds (ps := ["poly"]) fun _ _ _ _ _ _ us hl => match us, hl with | [_], _ => rfl⟩
  have F__law_mul := fun_mk (st := s__law_mul) l__law_mul c__law_mul k__law_mul
  have D__law_mul : Df K mg "_law_mul" ["modulus", "p", "q"] s__law_mul _ _ := ⟨F__law_mul, PySem.W.mg_of X G a__law_mul, F__law_mul.binds (ps := ["modulus", "p", "q"]) fun _ _ _ _ _ _ us hl => match us, hl with | [_, _, _], _ => rfl⟩
  have F__law_at_point := fun_mk (st := s__law_at_point) l__law_at_point c__law_at_point k__law_at_point
  have D__law_at_point : Df K mg "_law_at_point" ["modulus", "p", "e"] s__law_at_point _ _ := ⟨F__law_at_point, PySem.W.mg_of X G a__law_at_point, F__law_at_point.binds (ps := ["modulus", "p", "e"]) fun _ _ _ _ _ _ us hl => match us, hl with | [_, _, _], _ => rfl⟩
  have F__law_found := fun_mk (st := s__law_found) l__law_found c__law_found k__law_found
  have D__law_found : Df K mg "_law_found" ["modulus", "m", "p"] s__law_found _ _ := ⟨F__law_found, PySem.W.mg_of X G a__law_found, F__law_found.binds (ps := ["modulus", "m", "p"]) fun _ _ _ _ _ _ us hl => match us, hl with | [_, _, _], _ => rfl⟩
  have F__law_roots := fun_mk (st := s__law_roots) l__law_roots c__law_roots k__law_roots
  have D__law_roots : Df K mg "_law_roots" ["field", "m", "modulus", "p"] s__law_roots _ _ := ⟨F__law_roots, PySem.W.mg_of X G a__law_roots, F__law_roots.binds (ps := ["field", "m", "modulus", "p"]) fun _ _ _ _ _ _ us hl => match us, hl with | [_, _, _, _], _ => rfl⟩
  have F__law_points := fun_mk (st := s__law_points) l__law_points c__law_points k__law_points
  have D__law_points : Df K mg "_law_points" ["field", "modulus", "points"] s__law_points _ _ := ⟨F__law_points, PySem.W.mg_of X G a__law_points, F__law_points.binds (ps := ["field", "modulus", "points"]) fun _ _ _ _ _ _ us hl => match us, hl with | [_, _, _], _ => rfl⟩
  have F_law := fun_mk (st := s_law) l_law c_law k_law
  have D_law : Df K mg "law" ["script"] s_law _ _ := ⟨F_law, PySem.W.mg_of X G a_law, F_law.binds (ps := ["script"]) fun _ _ _ _ _ _ us hl => match us, hl with | [_], _ => rfl⟩
  have F_init := fun_mk (st := s_init) l_init c_init k_init
  have b_init := F_init.binds (ps := ["self", "at"]) fun _ _ _ _ _ _ us hl => match us, hl with | [_, _], _ => rfl
  have X_HaulError : XC K mg "HaulError" C_HaulError f_init C_HaulError := ⟨⟨⟨nm_HaulError, q_HaulError, N_HaulError, bs_HaulError, bm_HaulError, sn_HaulError, sub_HaulError, ab_HaulError, col_HaulError, dd_HaulError, k0_HaulError, k1_HaulError, k2_HaulError, k3_HaulError, k5_HaulError, x_HaulError, r_HaulError⟩, sa_HaulError, e_HaulError, ty_HaulError, kc_HaulError⟩, ga_HaulError, gg_HaulError, hd_HaulError, cl_HaulError, sp_cls, tk_cls, mo_HaulError, no_HaulError, PySem.W.mg_of X G a_HaulError, i_init, ti_init, PySem.W.exm_ref e_HaulError hd_HaulError ty_HaulError su_HaulError⟩
  have X_OutOfRange : XC K mg "OutOfRange" C_OutOfRange f_init C_HaulError := ⟨⟨⟨nm_OutOfRange, q_OutOfRange, N_OutOfRange, bs_OutOfRange, bm_OutOfRange, sn_OutOfRange, sub_OutOfRange, ab_OutOfRange, col_OutOfRange, dd_OutOfRange, k0_OutOfRange, k1_OutOfRange, k2_OutOfRange, k3_OutOfRange, k5_OutOfRange, x_OutOfRange, r_OutOfRange⟩, sa_OutOfRange, e_OutOfRange, ty_OutOfRange, kc_OutOfRange⟩, ga_OutOfRange, gg_OutOfRange, hd_OutOfRange, cl_OutOfRange, sp_cls, tk_cls, mo_OutOfRange, no_OutOfRange, PySem.W.mg_of X G a_OutOfRange, ii_OutOfRange, ti_init, PySem.W.exm_ref e_HaulError hd_HaulError ty_HaulError su_OutOfRange⟩
  have X_NotIrreducible : XC K mg "NotIrreducible" C_NotIrreducible f_init C_HaulError := ⟨⟨⟨nm_NotIrreducible, q_NotIrreducible, N_NotIrreducible, bs_NotIrreducible, bm_NotIrreducible, sn_NotIrreducible, sub_NotIrreducible, ab_NotIrreducible, col_NotIrreducible, dd_NotIrreducible, k0_NotIrreducible, k1_NotIrreducible, k2_NotIrreducible, k3_NotIrreducible, k5_NotIrreducible, x_NotIrreducible, r_NotIrreducible⟩, sa_NotIrreducible, e_NotIrreducible, ty_NotIrreducible, kc_NotIrreducible⟩, ga_NotIrreducible, gg_NotIrreducible, hd_NotIrreducible, cl_NotIrreducible, sp_cls, tk_cls, mo_NotIrreducible, no_NotIrreducible, PySem.W.mg_of X G a_NotIrreducible, ii_NotIrreducible, ti_init, PySem.W.exm_ref e_HaulError hd_HaulError ty_HaulError su_NotIrreducible⟩
  have X_NoInverse : XC K mg "NoInverse" C_NoInverse f_init C_HaulError := ⟨⟨⟨nm_NoInverse, q_NoInverse, N_NoInverse, bs_NoInverse, bm_NoInverse, sn_NoInverse, sub_NoInverse, ab_NoInverse, col_NoInverse, dd_NoInverse, k0_NoInverse, k1_NoInverse, k2_NoInverse, k3_NoInverse, k5_NoInverse, x_NoInverse, r_NoInverse⟩, sa_NoInverse, e_NoInverse, ty_NoInverse, kc_NoInverse⟩, ga_NoInverse, gg_NoInverse, hd_NoInverse, cl_NoInverse, sp_cls, tk_cls, mo_NoInverse, no_NoInverse, PySem.W.mg_of X G a_NoInverse, ii_NoInverse, ti_init, PySem.W.exm_ref e_HaulError hd_HaulError ty_HaulError su_NoInverse⟩
  have X_NoDivisor : XC K mg "NoDivisor" C_NoDivisor f_init C_HaulError := ⟨⟨⟨nm_NoDivisor, q_NoDivisor, N_NoDivisor, bs_NoDivisor, bm_NoDivisor, sn_NoDivisor, sub_NoDivisor, ab_NoDivisor, col_NoDivisor, dd_NoDivisor, k0_NoDivisor, k1_NoDivisor, k2_NoDivisor, k3_NoDivisor, k5_NoDivisor, x_NoDivisor, r_NoDivisor⟩, sa_NoDivisor, e_NoDivisor, ty_NoDivisor, kc_NoDivisor⟩, ga_NoDivisor, gg_NoDivisor, hd_NoDivisor, cl_NoDivisor, sp_cls, tk_cls, mo_NoDivisor, no_NoDivisor, PySem.W.mg_of X G a_NoDivisor, ii_NoDivisor, ti_init, PySem.W.exm_ref e_HaulError hd_HaulError ty_HaulError su_NoDivisor⟩
  have X_SamePoint : XC K mg "SamePoint" C_SamePoint f_init C_HaulError := ⟨⟨⟨nm_SamePoint, q_SamePoint, N_SamePoint, bs_SamePoint, bm_SamePoint, sn_SamePoint, sub_SamePoint, ab_SamePoint, col_SamePoint, dd_SamePoint, k0_SamePoint, k1_SamePoint, k2_SamePoint, k3_SamePoint, k5_SamePoint, x_SamePoint, r_SamePoint⟩, sa_SamePoint, e_SamePoint, ty_SamePoint, kc_SamePoint⟩, ga_SamePoint, gg_SamePoint, hd_SamePoint, cl_SamePoint, sp_cls, tk_cls, mo_SamePoint, no_SamePoint, PySem.W.mg_of X G a_SamePoint, ii_SamePoint, ti_init, PySem.W.exm_ref e_HaulError hd_HaulError ty_HaulError su_SamePoint⟩
  have K_Field : Cls K C_Field := ⟨pg_Field, hd_Field, po_Field, sa_Field⟩
  have g_Field := PySem.W.mg_of X G a_Field
  have F_Field___init__ := fun_mk (st := s_Field___init__) l_Field___init__ c_Field___init__ k_Field___init__
  have b_Field___init__ := F_Field___init__.binds (ps := ["self", "m", "modulus"]) fun _ _ _ _ _ _ us hl => match us, hl with | [_, _, _], _ => rfl
  have M_Field : Mk K C_Field f_Field___init__ := ⟨mk_Field, a_Field___init__, i_Field___init__, kc_Field⟩
  have F_Field_size := fun_mk (st := s_Field_size) l_Field_size c_Field_size k_Field_size
  have b_Field_size := F_Field_size.binds (ps := ["self"]) fun _ _ _ _ _ _ us hl => match us, hl with | [_], _ => rfl
  have M_Field_size : Meth K C_Field "size" f_Field_size := ⟨a_Field_size, i_Field_size, k_Field_size⟩
  have F_Field_add := fun_mk (st := s_Field_add) l_Field_add c_Field_add k_Field_add
  have b_Field_add := F_Field_add.binds (ps := ["self", "e", "f"]) fun _ _ _ _ _ _ us hl => match us, hl with | [_, _, _], _ => rfl
  have M_Field_add : Meth K C_Field "add" f_Field_add := ⟨a_Field_add, i_Field_add, k_Field_add⟩
  have F_Field_times := fun_mk (st := s_Field_times) l_Field_times c_Field_times k_Field_times
  have b_Field_times := F_Field_times.binds (ps := ["self", "e", "f"]) fun _ _ _ _ _ _ us hl => match us, hl with | [_, _, _], _ => rfl
  have M_Field_times : Meth K C_Field "times" f_Field_times := ⟨a_Field_times, i_Field_times, k_Field_times⟩
  have F_Field_inverse := fun_mk (st := s_Field_inverse) l_Field_inverse c_Field_inverse k_Field_inverse
  have b_Field_inverse := F_Field_inverse.binds (ps := ["self", "e"]) fun _ _ _ _ _ _ us hl => match us, hl with | [_, _], _ => rfl
  have M_Field_inverse : Meth K C_Field "inverse" f_Field_inverse := ⟨a_Field_inverse, i_Field_inverse, k_Field_inverse⟩
  have F_Field_log := fun_mk (st := s_Field_log) l_Field_log c_Field_log k_Field_log
  have b_Field_log := F_Field_log.binds (ps := ["self", "e"]) fun _ _ _ _ _ _ us hl => match us, hl with | [_, _], _ => rfl
  have M_Field_log : Meth K C_Field "log" f_Field_log := ⟨a_Field_log, i_Field_log, k_Field_log⟩
  have F_Field_scaled := fun_mk (st := s_Field_scaled) l_Field_scaled c_Field_scaled k_Field_scaled
  have b_Field_scaled := F_Field_scaled.binds (ps := ["self", "items", "e"]) fun _ _ _ _ _ _ us hl => match us, hl with | [_, _, _], _ => rfl
  have M_Field_scaled : Meth K C_Field "scaled" f_Field_scaled := ⟨a_Field_scaled, i_Field_scaled, k_Field_scaled⟩
  have F_Field_value := fun_mk (st := s_Field_value) l_Field_value c_Field_value k_Field_value
  have b_Field_value := F_Field_value.binds (ps := ["self", "items", "e"]) fun _ _ _ _ _ _ us hl => match us, hl with | [_, _, _], _ => rfl
  have M_Field_value : Meth K C_Field "value" f_Field_value := ⟨a_Field_value, i_Field_value, k_Field_value⟩
  have c_X := PySem.W.mg_of X G a_X
  refine ⟨PySem.W.fnOf "law" "law" (defArgs s_law) (defBody s_law) (defScope s_law) .none kV_law dc_law pm_law an_law cd_law ct_law, fun s v => .of_eq rfl, fun base _ _ => ?_⟩
  have T : FK K C_Field := ⟨K_Field, n_Field__bits, n_Field__modulus, n_Field__turn, n_Field__powers, n_Field__logs, n_Field__products⟩
  have G_init := ok_init (P := l.prog) (w := w) (base := base) F_init B.ValueError v_init
  have G_Field___init__ := ok_Field___init__ (P := l.prog) (w := w) (base := base) (mg := mg) F_Field___init__ B T c_X D_degree D_is_irreducible D__root_powers D__powers_of D_product_rest D_common D_times_binary D_divide X_OutOfRange X_NotIrreducible X_NoDivisor G_init b_init
  have G_Field_log := ok_Field_log (P := l.prog) (w := w) (base := base) (mg := mg) F_Field_log T X_NoInverse G_init b_init
  have G_Field_times := ok_Field_times (P := l.prog) (w := w) (base := base) (mg := mg) F_Field_times T
  have G_Field_inverse := ok_Field_inverse (P := l.prog) (w := w) (base := base) (mg := mg) F_Field_inverse T K_Field M_Field_log b_Field_log G_Field_log
  have G_Field_scaled := ok_Field_scaled (P := l.prog) (w := w) (base := base) (mg := mg) F_Field_scaled T
  have G_Field_value := ok_Field_value (P := l.prog) (w := w) (base := base) (mg := mg) F_Field_value T B
  have G_trimmed := ok_trimmed (P := l.prog) (w := w) (base := base) (mg := mg) D_trimmed B
  have G_add := ok_add (P := l.prog) (w := w) (base := base) (mg := mg) D_add B D_trimmed G_trimmed
  have G_scaled := ok_scaled (P := l.prog) (w := w) (base := base) (mg := mg) D_scaled K_Field M_Field_scaled b_Field_scaled G_Field_scaled D_trimmed G_trimmed
  have G_value := ok_value (P := l.prog) (w := w) (base := base) (mg := mg) D_value K_Field M_Field_value b_Field_value G_Field_value
  have G_times_polys := ok_times_polys (P := l.prog) (w := w) (base := base) (mg := mg) D_times_polys B K_Field M_Field_scaled b_Field_scaled G_Field_scaled D_trimmed G_trimmed
  have G__law_numbers := ok__law_numbers (P := l.prog) (w := w) (base := base) (mg := mg) D__law_numbers B
  have G__law_degree := ok__law_degree (P := l.prog) (w := w) (base := base) (mg := mg) D__law_degree B
  have G__law_times := ok__law_times (P := l.prog) (w := w) (base := base) (mg := mg) D__law_times B
  have G__law_divided := ok__law_divided (P := l.prog) (w := w) (base := base) (mg := mg) D__law_divided B D__law_degree G__law_degree
  have G__law_modulus := ok__law_modulus (P := l.prog) (w := w) (base := base) (mg := mg) D__law_modulus B D__law_irreducible D__law_degree D__law_divided
  have G__law_product := ok__law_product (P := l.prog) (w := w) (base := base) (mg := mg) D__law_product D__law_divided G__law_divided D__law_times G__law_times
  have G__law_trim := ok__law_trim (P := l.prog) (w := w) (base := base) (mg := mg) D__law_trim B
  have G__law_mul := ok__law_mul (P := l.prog) (w := w) (base := base) (mg := mg) D__law_mul B D__law_trim G__law_trim D__law_product G__law_product
  have G__law_at_point := ok__law_at_point (P := l.prog) (w := w) (base := base) (mg := mg) D__law_at_point B D__law_product G__law_product
  have G_Field_size := ok_Field_size (P := l.prog) (w := w) (base := base) (mg := mg) F_Field_size T
  have G_Field_add := ok_Field_add (C := C_Field) (P := l.prog) (w := w) (base := base) (mg := mg) F_Field_add
  have G_from_roots := ok_from_roots (P := l.prog) (w := w) (base := base) (mg := mg) D_from_roots B D_times_polys G_times_polys
  have G_roots := ok_roots (P := l.prog) (w := w) (base := base) (mg := mg) D_roots B D_trimmed G_trimmed D_value G_value K_Field M_Field_size b_Field_size G_Field_size X_NoDivisor G_init b_init
  have G__law_found := ok__law_found (P := l.prog) (w := w) (base := base) (mg := mg) D__law_found B D__law_at_point G__law_at_point
  have G_interpolate := ok_interpolate (P := l.prog) (w := w) (base := base) (mg := mg) D_interpolate B D_value G_value D_add G_add D_scaled G_scaled D_times_polys G_times_polys K_Field M_Field_add b_Field_add G_Field_add M_Field_times b_Field_times G_Field_times M_Field_inverse b_Field_inverse G_Field_inverse X_SamePoint G_init b_init
  have G__law_roots := ok__law_roots (P := l.prog) (w := w) (base := base) (mg := mg) D__law_roots B D_roots G_roots D__law_found G__law_found X_HaulError X_NoDivisor
  have G__law_points := ok__law_points (P := l.prog) (w := w) (base := base) (mg := mg) D__law_points B D_interpolate G_interpolate D__law_trim G__law_trim D__law_at_point G__law_at_point X_HaulError X_SamePoint
  exact ok_law (P := l.prog) (w := w) (base := base) (mg := mg) D_law B D__law_numbers G__law_numbers D__law_modulus G__law_modulus D__law_mul G__law_mul D__law_trim G__law_trim D__law_roots G__law_roots D__law_points G__law_points D_from_roots G_from_roots M_Field g_Field b_Field___init__ G_Field___init__
end K04
open PySem PySem.W PyProof.Rows
set_option maxRecDepth 100000 in
set_option maxHeartbeats 0 in
theorem PySem.Challenge.cw_farhaul_k04_roots_and_points_holds : PySem.Challenge.rw_farhaul_k04_roots_and_points.Holds := by
  w_on; o_law; k_head; (case hw => w_witness2)
  k_fill
  refine L2.walk_of (l := PySem.Challenge.rw_farhaul_k04_roots_and_points) (n := 63) (k := 11) (x := "script") (CX := fun _ => L2.CX0) (sp := fun w => DL.sp_law _) rfl (by decide) rfl ⟨rfl, by decide, by decide⟩ (fun w h Y => PySem.W.kIn_of Y) ?F (fun _ _ a ns hl _ hS => ⟨a, ns, rfl, hS, hl, fun _ => rfl⟩) (fun _ _ _ _ _ h => h)
  case F =>
    intro w mg fa h KX G hmg
    refine' K04.all_mk KX G hmg ?a_HaulError ?a_OutOfRange ?a_NotIrreducible ?a_NoInverse ?a_NoDivisor ?a_SamePoint ?i_init ?ti_init ?l_init ?c_init ?k_init ?v_init ?sp_cls ?tk_cls ?x_HaulError ?r_HaulError ?sa_HaulError ?ga_HaulError ?gg_HaulError ?cl_HaulError ?no_HaulError ?e_HaulError ?ty_HaulError ?kc_HaulError ?hd_HaulError ?mo_HaulError ?su_HaulError ?x_OutOfRange ?r_OutOfRange ?sa_OutOfRange ?ga_OutOfRange ?gg_OutOfRange ?cl_OutOfRange ?no_OutOfRange ?ii_OutOfRange ?e_OutOfRange ?ty_OutOfRange ?kc_OutOfRange ?hd_OutOfRange ?mo_OutOfRange ?su_OutOfRange ?x_NotIrreducible ?r_NotIrreducible ?sa_NotIrreducible ?ga_NotIrreducible ?gg_NotIrreducible ?cl_NotIrreducible ?no_NotIrreducible ?ii_NotIrreducible ?e_NotIrreducible ?ty_NotIrreducible ?kc_NotIrreducible ?hd_NotIrreducible ?mo_NotIrreducible ?su_NotIrreducible ?x_NoInverse ?r_NoInverse ?sa_NoInverse ?ga_NoInverse ?gg_NoInverse ?cl_NoInverse ?no_NoInverse ?ii_NoInverse ?e_NoInverse ?ty_NoInverse ?kc_NoInverse ?hd_NoInverse ?mo_NoInverse ?su_NoInverse ?x_NoDivisor ?r_NoDivisor ?sa_NoDivisor ?ga_NoDivisor ?gg_NoDivisor ?cl_NoDivisor ?no_NoDivisor ?ii_NoDivisor ?e_NoDivisor ?ty_NoDivisor ?kc_NoDivisor ?hd_NoDivisor ?mo_NoDivisor ?su_NoDivisor ?x_SamePoint ?r_SamePoint ?sa_SamePoint ?ga_SamePoint ?gg_SamePoint ?cl_SamePoint ?no_SamePoint ?ii_SamePoint ?e_SamePoint ?ty_SamePoint ?kc_SamePoint ?hd_SamePoint ?mo_SamePoint ?su_SamePoint ?a_degree ?l_degree ?c_degree ?k_degree ?a_times_binary ?l_times_binary ?c_times_binary ?k_times_binary ?a_divide ?l_divide ?c_divide ?k_divide ?a_common ?l_common ?c_common ?k_common ?a_product_rest ?l_product_rest ?c_product_rest ?k_product_rest ?a_is_irreducible ?l_is_irreducible ?c_is_irreducible ?k_is_irreducible ?a__powers_of ?l__powers_of ?c__powers_of ?k__powers_of ?a__root_powers ?l__root_powers ?c__root_powers ?k__root_powers ?a_trimmed ?l_trimmed ?c_trimmed ?k_trimmed ?a_add ?l_add ?c_add ?k_add ?a_times_polys ?l_times_polys ?c_times_polys ?k_times_polys ?a_scaled ?l_scaled ?c_scaled ?k_scaled ?a_value ?l_value ?c_value ?k_value ?a_from_roots ?l_from_roots ?c_from_roots ?k_from_roots ?a_roots ?l_roots ?c_roots ?k_roots ?a_interpolate ?l_interpolate ?c_interpolate ?k_interpolate ?a__law_numbers ?l__law_numbers ?c__law_numbers ?k__law_numbers ?a__law_degree ?l__law_degree ?c__law_degree ?k__law_degree ?a__law_times ?l__law_times ?c__law_times ?k__law_times ?a__law_divided ?l__law_divided ?c__law_divided ?k__law_divided ?a__law_irreducible ?l__law_irreducible ?c__law_irreducible ?k__law_irreducible ?a__law_modulus ?l__law_modulus ?c__law_modulus ?k__law_modulus ?a__law_product ?l__law_product ?c__law_product ?k__law_product ?a__law_trim ?l__law_trim ?c__law_trim ?k__law_trim ?a__law_mul ?l__law_mul ?c__law_mul ?k__law_mul ?a__law_at_point ?l__law_at_point ?c__law_at_point ?k__law_at_point ?a__law_found ?l__law_found ?c__law_found ?k__law_found ?a__law_roots ?l__law_roots ?c__law_roots ?k__law_roots ?a__law_points ?l__law_points ?c__law_points ?k__law_points ?a_law ?l_law ?c_law ?k_law ?a_X ?a_Field ?pg_Field ?hd_Field ?po_Field ?sa_Field ?mk_Field ?kc_Field ?n_Field__bits ?n_Field__modulus ?n_Field__turn ?n_Field__powers ?n_Field__logs ?n_Field__products ?a_Field___init__ ?i_Field___init__ ?l_Field___init__ ?c_Field___init__ ?k_Field___init__ ?a_Field_size ?i_Field_size ?l_Field_size ?c_Field_size ?k_Field_size ?a_Field_add ?i_Field_add ?l_Field_add ?c_Field_add ?k_Field_add ?a_Field_times ?i_Field_times ?l_Field_times ?c_Field_times ?k_Field_times ?a_Field_inverse ?i_Field_inverse ?l_Field_inverse ?c_Field_inverse ?k_Field_inverse ?a_Field_log ?i_Field_log ?l_Field_log ?c_Field_log ?k_Field_log ?a_Field_scaled ?i_Field_scaled ?l_Field_scaled ?c_Field_scaled ?k_Field_scaled ?a_Field_value ?i_Field_value ?l_Field_value ?c_Field_value ?k_Field_value ?z_range ?z_len ?z_abs ?z_int ?z_max ?z_min ?z_sum ?z_list ?z_isinstance ?z_enumerate ?z_zip ?z_reversed ?z_any ?z_all ?z_ValueError
    (case a_HaulError => k_is)
    (case a_OutOfRange => k_is)
    (case a_NotIrreducible => k_is)
    (case a_NoInverse => k_is)
    (case a_NoDivisor => k_is)
    (case a_SamePoint => k_is)
    (case i_init => k_is)
    (case ti_init => k_is)
    (case l_init => k_is)
    (case c_init => k_is)
    (case k_init => k_is)
    (case v_init => first | k_is | decide +kernel | rfl)
    (case sp_cls => first | k_is | decide +kernel | rfl)
    (case tk_cls => first | k_is | decide +kernel | rfl)
    (case x_HaulError => k_is)
    (case r_HaulError => first | rfl | decide +kernel)
    (case sa_HaulError => k_is)
    (case ga_HaulError => k_is)
    (case gg_HaulError => k_is)
    (case cl_HaulError => k_is)
    (case no_HaulError => k_is)
    (case e_HaulError => k_is)
    (case ty_HaulError => k_is)
    (case kc_HaulError => k_is)
    (case hd_HaulError => k_is)
    (case mo_HaulError => k_is)
    (case su_HaulError => first | rfl | k_is)
    (case x_OutOfRange => k_is)
    (case r_OutOfRange => first | rfl | decide +kernel)
    (case sa_OutOfRange => k_is)
    (case ga_OutOfRange => k_is)
    (case gg_OutOfRange => k_is)
    (case cl_OutOfRange => k_is)
    (case no_OutOfRange => k_is)
    (case ii_OutOfRange => k_is)
    (case e_OutOfRange => k_is)
    (case ty_OutOfRange => k_is)
    (case kc_OutOfRange => k_is)
    (case hd_OutOfRange => k_is)
    (case mo_OutOfRange => k_is)
    (case su_OutOfRange => first | rfl | k_is)
    (case x_NotIrreducible => k_is)
    (case r_NotIrreducible => first | rfl | decide +kernel)
    (case sa_NotIrreducible => k_is)
    (case ga_NotIrreducible => k_is)
    (case gg_NotIrreducible => k_is)
    (case cl_NotIrreducible => k_is)
    (case no_NotIrreducible => k_is)
    (case ii_NotIrreducible => k_is)
    (case e_NotIrreducible => k_is)
    (case ty_NotIrreducible => k_is)
    (case kc_NotIrreducible => k_is)
    (case hd_NotIrreducible => k_is)
    (case mo_NotIrreducible => k_is)
    (case su_NotIrreducible => first | rfl | k_is)
    (case x_NoInverse => k_is)
    (case r_NoInverse => first | rfl | decide +kernel)
    (case sa_NoInverse => k_is)
    (case ga_NoInverse => k_is)
    (case gg_NoInverse => k_is)
    (case cl_NoInverse => k_is)
    (case no_NoInverse => k_is)
    (case ii_NoInverse => k_is)
    (case e_NoInverse => k_is)
    (case ty_NoInverse => k_is)
    (case kc_NoInverse => k_is)
    (case hd_NoInverse => k_is)
    (case mo_NoInverse => k_is)
    (case su_NoInverse => first | rfl | k_is)
    (case x_NoDivisor => k_is)
    (case r_NoDivisor => first | rfl | decide +kernel)
    (case sa_NoDivisor => k_is)
    (case ga_NoDivisor => k_is)
    (case gg_NoDivisor => k_is)
    (case cl_NoDivisor => k_is)
    (case no_NoDivisor => k_is)
    (case ii_NoDivisor => k_is)
    (case e_NoDivisor => k_is)
    (case ty_NoDivisor => k_is)
    (case kc_NoDivisor => k_is)
    (case hd_NoDivisor => k_is)
    (case mo_NoDivisor => k_is)
    (case su_NoDivisor => first | rfl | k_is)
    (case x_SamePoint => k_is)
    (case r_SamePoint => first | rfl | decide +kernel)
    (case sa_SamePoint => k_is)
    (case ga_SamePoint => k_is)
    (case gg_SamePoint => k_is)
    (case cl_SamePoint => k_is)
    (case no_SamePoint => k_is)
    (case ii_SamePoint => k_is)
    (case e_SamePoint => k_is)
    (case ty_SamePoint => k_is)
    (case kc_SamePoint => k_is)
    (case hd_SamePoint => k_is)
    (case mo_SamePoint => k_is)
    (case su_SamePoint => first | rfl | k_is)
    (case a_degree => k_is)
    (case l_degree => k_is)
    (case c_degree => k_is)
    (case k_degree => k_is)
    (case a_times_binary => k_is)
    (case l_times_binary => k_is)
    (case c_times_binary => k_is)
    (case k_times_binary => k_is)
    (case a_divide => k_is)
    (case l_divide => k_is)
    (case c_divide => k_is)
    (case k_divide => k_is)
    (case a_common => k_is)
    (case l_common => k_is)
    (case c_common => k_is)
    (case k_common => k_is)
    (case a_product_rest => k_is)
    (case l_product_rest => k_is)
    (case c_product_rest => k_is)
    (case k_product_rest => k_is)
    (case a_is_irreducible => k_is)
    (case l_is_irreducible => k_is)
    (case c_is_irreducible => k_is)
    (case k_is_irreducible => k_is)
    (case a__powers_of => k_is)
    (case l__powers_of => k_is)
    (case c__powers_of => k_is)
    (case k__powers_of => k_is)
    (case a__root_powers => k_is)
    (case l__root_powers => k_is)
    (case c__root_powers => k_is)
    (case k__root_powers => k_is)
    (case a_trimmed => k_is)
    (case l_trimmed => k_is)
    (case c_trimmed => k_is)
    (case k_trimmed => k_is)
    (case a_add => k_is)
    (case l_add => k_is)
    (case c_add => k_is)
    (case k_add => k_is)
    (case a_times_polys => k_is)
    (case l_times_polys => k_is)
    (case c_times_polys => k_is)
    (case k_times_polys => k_is)
    (case a_scaled => k_is)
    (case l_scaled => k_is)
    (case c_scaled => k_is)
    (case k_scaled => k_is)
    (case a_value => k_is)
    (case l_value => k_is)
    (case c_value => k_is)
    (case k_value => k_is)
    (case a_from_roots => k_is)
    (case l_from_roots => k_is)
    (case c_from_roots => k_is)
    (case k_from_roots => k_is)
    (case a_roots => k_is)
    (case l_roots => k_is)
    (case c_roots => k_is)
    (case k_roots => k_is)
    (case a_interpolate => k_is)
    (case l_interpolate => k_is)
    (case c_interpolate => k_is)
    (case k_interpolate => k_is)
    (case a__law_numbers => k_is)
    (case l__law_numbers => k_is)
    (case c__law_numbers => k_is)
    (case k__law_numbers => k_is)
    (case a__law_degree => k_is)
    (case l__law_degree => k_is)
    (case c__law_degree => k_is)
    (case k__law_degree => k_is)
    (case a__law_times => k_is)
    (case l__law_times => k_is)
    (case c__law_times => k_is)
    (case k__law_times => k_is)
    (case a__law_divided => k_is)
    (case l__law_divided => k_is)
    (case c__law_divided => k_is)
    (case k__law_divided => k_is)
    (case a__law_irreducible => k_is)
    (case l__law_irreducible => k_is)
    (case c__law_irreducible => k_is)
    (case k__law_irreducible => k_is)
    (case a__law_modulus => k_is)
    (case l__law_modulus => k_is)
    (case c__law_modulus => k_is)
    (case k__law_modulus => k_is)
    (case a__law_product => k_is)
    (case l__law_product => k_is)
    (case c__law_product => k_is)
    (case k__law_product => k_is)
    (case a__law_trim => k_is)
    (case l__law_trim => k_is)
    (case c__law_trim => k_is)
    (case k__law_trim => k_is)
    (case a__law_mul => k_is)
    (case l__law_mul => k_is)
    (case c__law_mul => k_is)
    (case k__law_mul => k_is)
    (case a__law_at_point => k_is)
    (case l__law_at_point => k_is)
    (case c__law_at_point => k_is)
    (case k__law_at_point => k_is)
    (case a__law_found => k_is)
    (case l__law_found => k_is)
    (case c__law_found => k_is)
    (case k__law_found => k_is)
    (case a__law_roots => k_is)
    (case l__law_roots => k_is)
    (case c__law_roots => k_is)
    (case k__law_roots => k_is)
    (case a__law_points => k_is)
    (case l__law_points => k_is)
    (case c__law_points => k_is)
    (case k__law_points => k_is)
    (case a_law => k_is)
    (case l_law => k_is)
    (case c_law => k_is)
    (case k_law => k_is)
    (case a_X => k_is)
    (case a_Field => k_is)
    (case pg_Field => k_is)
    (case hd_Field => k_is)
    (case po_Field => k_is)
    (case sa_Field => k_is)
    (case mk_Field => k_is)
    (case kc_Field => k_is)
    (case n_Field__bits => k_is)
    (case n_Field__modulus => k_is)
    (case n_Field__turn => k_is)
    (case n_Field__powers => k_is)
    (case n_Field__logs => k_is)
    (case n_Field__products => k_is)
    (case a_Field___init__ => k_is)
    (case i_Field___init__ => k_is)
    (case l_Field___init__ => k_is)
    (case c_Field___init__ => k_is)
    (case k_Field___init__ => k_is)
    (case a_Field_size => k_is)
    (case i_Field_size => k_is)
    (case l_Field_size => k_is)
    (case c_Field_size => k_is)
    (case k_Field_size => k_is)
    (case a_Field_add => k_is)
    (case i_Field_add => k_is)
    (case l_Field_add => k_is)
    (case c_Field_add => k_is)
    (case k_Field_add => k_is)
    (case a_Field_times => k_is)
    (case i_Field_times => k_is)
    (case l_Field_times => k_is)
    (case c_Field_times => k_is)
    (case k_Field_times => k_is)
    (case a_Field_inverse => k_is)
    (case i_Field_inverse => k_is)
    (case l_Field_inverse => k_is)
    (case c_Field_inverse => k_is)
    (case k_Field_inverse => k_is)
    (case a_Field_log => k_is)
    (case i_Field_log => k_is)
    (case l_Field_log => k_is)
    (case c_Field_log => k_is)
    (case k_Field_log => k_is)
    (case a_Field_scaled => k_is)
    (case i_Field_scaled => k_is)
    (case l_Field_scaled => k_is)
    (case c_Field_scaled => k_is)
    (case k_Field_scaled => k_is)
    (case a_Field_value => k_is)
    (case i_Field_value => k_is)
    (case l_Field_value => k_is)
    (case c_Field_value => k_is)
    (case k_Field_value => k_is)
    (case z_range => k_is)
    (case z_len => k_is)
    (case z_abs => k_is)
    (case z_int => k_is)
    (case z_max => k_is)
    (case z_min => k_is)
    (case z_sum => k_is)
    (case z_list => k_is)
    (case z_isinstance => k_is)
    (case z_enumerate => k_is)
    (case z_zip => k_is)
    (case z_reversed => k_is)
    (case z_any => k_is)
    (case z_all => k_is)
    (case z_ValueError => k_is)
