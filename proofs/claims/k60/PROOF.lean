import PyProof.Rows.All
import Wide.All
import OpenK.AllK
import Wide.FinOn
import HandS.ForMost
import HandS.WideBits
import HandS.Exc
import HandS.ExcInit
import HandS.ExcOwn
import HandS.ExcField
import HandS.ExcIs
import HandS.IsInst
import HandS.Flow
import HandS.Codes
import HandS.Style
import HandS.TryOnly
import HandS.WordsExc
import KE.KExcIs
import HandS.FStr
import HandS.CallSlots
import HandS.Walk
import HandS.MapSum
import PyProof.SumAnyB
import HandS.Conv
import HandS.RevRange
import HandS.List
import KE.GoesEnumKw
import HandS.Base
import HandS.Call
import HandS.Comp
import HandS.AnyAll
import HandS.EndTab
import PySem.Challenge.RW_farhaul_k60_packets_written_and_read
set_option Elab.async false
set_option linter.all false
set_option maxRecDepth 100000
set_option maxHeartbeats 4000000
/-! Operators on numbers that are not negative. -/
namespace NB
open PySem PySem.Spec PyProof.Rows L2
def rNN (g : Nat → Nat → V) : R2 := fun x y H Q => ∃ m n : Nat, x = .int m ∧ y = .int n ∧ Q (g m n) H
def rNNC (C : Nat → Nat → Prop) (g : Nat → Nat → V) : R2 := fun x y H Q => ∃ m n : Nat, x = .int m ∧ y = .int n ∧ C m n ∧ Q (g m n) H
theorem op_of {X : Cx} {f : Value → Value → Sem Value} {r r' : R2} (h : OpR X f r) (k : ∀ x y H Q, r' x y H Q → r x y H Q) : OpR X f r' := by
  intro pins s σ H x y u v Q I rx ry q
  exact h pins s σ H x y u v Q I rx ry (k _ _ _ _ q)
theorem xor_nn (m n : Nat) : Builtin.bitXor (m : Int) (n : Int) = ((m ^^^ n : Nat) : Int) := by
  rw [Bits.bitXor_pp (Int.natCast_nonneg _) (Int.natCast_nonneg _)]; simp
theorem or_nn (m n : Nat) : Builtin.bitOr (m : Int) (n : Int) = ((m ||| n : Nat) : Int) := by
  rw [Bits.bitOr_pp (Int.natCast_nonneg _) (Int.natCast_nonneg _)]; simp
theorem and_nn (m n : Nat) : Builtin.bitAnd (m : Int) (n : Int) = ((m &&& n : Nat) : Int) := by
  rw [bitAnd_pp (Int.natCast_nonneg _) (Int.natCast_nonneg _)]; simp
theorem shl_nn (m n : Nat) : (m : Int) * 2 ^ (n : Int).toNat = ((2 ^ n * m : Nat) : Int) := by
  rw [Int.toNat_natCast, L2.cast_parts]
theorem shr_nn (m n : Nat) : (m : Int) / 2 ^ (n : Int).toNat = ((m / 2 ^ n : Nat) : Int) := by
  rw [Int.toNat_natCast, Int.natCast_ediv, Int.natCast_pow]; rfl
abbrev rXorN : R2 := rNN fun m n => .int ((m ^^^ n : Nat) : Int)
abbrev rOrN : R2 := rNN fun m n => .int ((m ||| n : Nat) : Int)
abbrev rAndN : R2 := rNN fun m n => .int ((m &&& n : Nat) : Int)
abbrev rShlN : R2 := rNNC (fun m n => m < 2 ^ 64 ∧ n ≤ 1000000) fun m n => .int ((2 ^ n * m : Nat) : Int)
abbrev rShrN : R2 := rNN fun m n => .int ((m / 2 ^ n : Nat) : Int)
section
variable {X : Cx}
theorem of_xor {r : R2} (e : ∀ x y H Q, r x y H Q → (rI0 fun i j => .int (Builtin.bitXor i j)) x y H Q) : True := trivial
theorem k_xor : ∀ x y H Q, rXorN x y H Q → (rI0 fun i j => .int (Builtin.bitXor i j)) x y H Q := fun _ _ _ _ ⟨m, n, a, b, q⟩ => ⟨m, n, a, b, by show _; dsimp only; rw [xor_nn]; exact q⟩
theorem k_or : ∀ x y H Q, rOrN x y H Q → (rI0 fun i j => .int (Builtin.bitOr i j)) x y H Q := fun _ _ _ _ ⟨m, n, a, b, q⟩ => ⟨m, n, a, b, by dsimp only; rw [or_nn]; exact q⟩
theorem k_and : ∀ x y H Q, rAndN x y H Q → (rI0 fun i j => .int (Builtin.bitAnd i j)) x y H Q := fun _ _ _ _ ⟨m, n, a, b, q⟩ => ⟨m, n, a, b, by dsimp only; rw [and_nn]; exact q⟩
theorem k_shl : ∀ x y H Q, rShlN x y H Q → (rI CPow fun i j => .int (i * 2 ^ j.toNat)) x y H Q := fun _ _ _ _ ⟨m, n, a, b, ⟨c1, c2⟩, q⟩ =>
  ⟨m, n, a, b, ⟨by omega, by omega, by simpa using c1⟩, by dsimp only; rw [shl_nn]; exact q⟩
theorem k_shr : ∀ x y H Q, rShrN x y H Q → (rI (fun _ j => 0 ≤ j) fun i j => .int (i / 2 ^ j.toNat)) x y H Q := fun _ _ _ _ ⟨m, n, a, b, q⟩ =>
  ⟨m, n, a, b, by omega, by dsimp only; rw [shr_nn]; exact q⟩
theorem nb_xor : OpR X (binaryOp .BitXor) rXorN := op_of op_xor k_xor
theorem nb_or : OpR X (binaryOp .BitOr) rOrN := op_of op_or k_or
theorem nb_and : OpR X (binaryOp .BitAnd) rAndN := op_of op_and k_and
theorem nb_shl : OpR X (binaryOp .LShift) rShlN := op_of op_shl k_shl
theorem nb_shr : OpR X (binaryOp .RShift) rShrN := op_of op_shr k_shr
theorem nbi_xor : PIp X .BitXor rXorN := op_of iop_xor k_xor
theorem nbi_or : PIp X .BitOr rOrN := op_of iop_or k_or
theorem nbi_shr : PIp X .RShift rShrN := op_of iop_shr k_shr
/-- bit_length -/
def tBitsN (to : TE) : TE := fun σ H Q => to σ H fun x H1 => ∃ m : Nat, x = .int m ∧ Q (.int ((if m = 0 then 0 else m.log2 + 1 : Nat) : Int)) H1
theorem pe_of {e : Expr} {t t' : TE} (h : PE X e t) (k : ∀ σ H Q, t' σ H Q → t σ H Q) : PE X e t' := ⟨fun pins s σ H Q I q => h.run pins s σ H Q I (k σ H Q q)⟩
end


end NB
namespace NB
open PySem PySem.Spec PyProof.Rows L2
/-- the number of bits -/
def bits (m : Nat) : Nat := if m = 0 then 0 else m.log2 + 1
theorem intBits_nat (m : Nat) : Builtin.Int.intBits (m : Int) = bits m := by
  unfold Builtin.Int.intBits bits
  by_cases h : m = 0
  · subst h; rfl
  · have : ¬ ((m : Int) == 0) = true := by simp; omega
    rw [if_neg this, if_neg h]; simp
section
variable {X : Cx}
def tBitsM (to : TE) : TE := fun σ H Q => to σ H fun x H1 => ∃ m : Nat, x = .int m ∧ Q (.int ((bits m : Nat) : Int)) H1
theorem TE.mono_id {t : TE} {σ : L2.St} {H : Hp} {Q Q' : VK} (e : Q = Q') (h : t σ H Q) : t σ H Q' := e ▸ h
end
/-! numbers written in the text -/
theorem pe_nat {X : Cx} (n : Nat) {j pos} {i : Int} (h : i = (n : Int) := by rfl) : PE X (.Constant (.int i) j pos) (tC (.int (n : Int))) := by subst h; exact pe_int
def rLtN : R2 := rNN fun m n => .bl (decide (m < n))
/-- a for over range(n), n a number that is not negative -/
theorem for_rangeN {lo n : Nat} {g : TG} {tb : TS} {D : Ends} {σ : L2.St} {H : Hp} (Pv : Nat → L2.St → Hp → Prop) (h0 : Pv 0 σ H)
    (hs : ∀ i σ H, i < n → Pv i σ H → g (.int ((lo + i : Nat) : Int)) σ H fun σ2 H2 => tb { D with nx := Pv (i + 1), ct := Pv (i + 1), bk := D.nx } σ2 H2) (hd : ∀ σ H, Pv n σ H → D.nx σ H) :
    ∃ W : Nat → Nat → L2.St → Hp → Prop, (∃ m, W 0 m σ H) ∧ ∀ i m σ H, W i m σ H →
      ((Itr (lo : Int) n).stop i H ∧ D.nx σ H) ∨ ((Itr (lo : Int) n).go i H ∧ ∃ N : L2.St → Hp → Prop, (∀ σ' H', N σ' H' → ∃ m', m' < m ∧ W (i + 1) m' σ' H') ∧ ∀ x H', (Itr (lo : Int) n).yld i H x H' → g x σ H' fun σ2 H2 => tb { D with nx := N, ct := N, bk := D.nx } σ2 H2) :=
  for_range (lo := (lo : Int)) (n := n) Pv h0 (fun i σ H hi p => by
    have e : ((lo : Int) + (i : Int)) = ((lo + i : Nat) : Int) := by omega
    rw [e]
    exact hs i σ H hi p) hd
end NB
namespace NB
open PySem PySem.Spec PyProof.Rows L2
section
variable {X : Cx}
theorem nb_add : OpR X (binaryOp .Add) (rNN fun m n => .int ((m + n : Nat) : Int)) := op_of op_add fun _ _ _ _ ⟨m, n, a, b, q⟩ => ⟨m, n, a, b, by dsimp only; rw [← Int.natCast_add]; exact q⟩
theorem nbi_add : PIp X .Add (rNN fun m n => .int ((m + n : Nat) : Int)) := op_of iop_add fun _ _ _ _ ⟨m, n, a, b, q⟩ => ⟨m, n, a, b, by dsimp only; rw [← Int.natCast_add]; exact q⟩
theorem nb_sub : OpR X (binaryOp .Sub) (rNNC (fun m n => n ≤ m) fun m n => .int ((m - n : Nat) : Int)) := op_of op_sub fun _ _ _ _ ⟨m, n, a, b, c, q⟩ => ⟨m, n, a, b, by dsimp only; rw [← Int.natCast_sub c]; exact q⟩
theorem nb_mul : OpR X (binaryOp .Mult) (rNNC (fun m n => m < 2 ^ 64 ∨ n < 2 ^ 64) fun m n => .int ((m * n : Nat) : Int)) := op_of op_mul fun _ _ _ _ ⟨m, n, a, b, c, q⟩ => ⟨m, n, a, b, by
  rcases c with c | c
  · exact .inl ⟨by omega, by omega⟩
  · exact .inr ⟨by omega, by omega⟩, by dsimp only; rw [← Int.natCast_mul]; exact q⟩
theorem nb_mod : OpR X (binaryOp .Mod) (rNNC (fun _ n => 0 < n) fun m n => .int ((m % n : Nat) : Int)) := op_of op_mod fun _ _ _ _ ⟨m, n, a, b, c, q⟩ => ⟨m, n, a, b, by omega, by dsimp only; rw [← Int.natCast_emod]; exact q⟩
theorem nb_fdiv : OpR X (binaryOp .FloorDiv) (rNNC (fun _ n => 0 < n ∧ n < 1073741824) fun m n => .int ((m / n : Nat) : Int)) := op_of op_fdiv fun _ _ _ _ ⟨m, n, a, b, c, q⟩ => ⟨m, n, a, b, ⟨by omega, by omega⟩, by dsimp only; rw [← Int.natCast_ediv]; exact q⟩
theorem nb_pow : OpR X (binaryOp .Pow) (rNNC (fun m n => n ≤ 1000000 ∧ m < 2 ^ 64) fun m n => .int ((m ^ n : Nat) : Int)) := op_of op_pow fun _ _ _ _ ⟨m, n, a, b, c, q⟩ => ⟨m, n, a, b, ⟨by omega, by omega, by simpa using c.2⟩, by dsimp only; rw [Int.toNat_natCast, ← Int.natCast_pow]; exact q⟩
/-- an int's rest by a number -/
def rModI : R2 := fun x y H Q => ∃ (i : Int) (n : Nat), x = .int i ∧ y = .int n ∧ 0 < n ∧ Q (.int (((i % (n : Int)).toNat : Nat) : Int)) H
theorem nb_modI : OpR X (binaryOp .Mod) rModI := op_of op_mod fun _ _ _ _ ⟨m, n, a, b, c, q⟩ => ⟨m, n, a, b, by omega, by dsimp only; rw [Int.toNat_of_nonneg (Int.emod_nonneg _ (by omega))] at q; exact q⟩
theorem call_absN : CallR X (.builtin "abs") (fun xs H Q => ∃ i : Int, xs = [.int i] ∧ Q (.int ((i.natAbs : Nat) : Int)) H) := by
  intro pins s σ H xs us Q I r ⟨i, e, q⟩
  refine call_abs pins s σ H xs us Q I r ⟨i, e, ?_⟩
  have : (if i < 0 then -i else i) = ((i.natAbs : Nat) : Int) := by split <;> omega
  rw [this]; exact q
end
/-! ### lists of numbers -/
def NL (ns : List Nat) : List V := ns.map fun (n : Nat) => V.int ((n : Nat) : Int)
theorem NL_len (ns : List Nat) : (NL ns).length = ns.length := List.length_map _
theorem NL_get {ns : List Nat} {i n : Nat} (h : ns[i]? = some n) : (NL ns)[i]? = some (.int (n : Int)) := by unfold NL; rw [List.getElem?_map, h]; rfl
theorem NL_set (ns : List Nat) (i n : Nat) : (NL ns).set i (.int (n : Int)) = NL (ns.set i n) := by unfold NL; rw [List.map_set]
theorem NL_app (ns : List Nat) (n : Nat) : NL ns ++ [.int (n : Int)] = NL (ns ++ [n]) := by unfold NL; simp
theorem NL_app2 (ns ms : List Nat) : NL ns ++ NL ms = NL (ns ++ ms) := by unfold NL; simp
theorem NL_nil : NL [] = [] := rfl
theorem NL_cons (n : Nat) (ns : List Nat) : NL (n :: ns) = .int (n : Int) :: NL ns := rfl
theorem NL_at {ns : List Nat} {i : Nat} (h : i < ns.length) : atI (NL ns) (i : Int) = some (.int ((ns[i] : Nat) : Int)) := atI_nat (NL_get (List.getElem?_eq_getElem h))
theorem NL_at0 {ns : List Nat} {i n : Nat} (h : ns[i]? = some n) : atI (NL ns) (i : Int) = some (.int (n : Int)) := atI_nat (NL_get h)
theorem ixN_nat {n j : Nat} (h : j < n) : ixN n (j : Int) = some j := by
  unfold ixN
  rw [if_pos (by omega), if_pos (by omega)]; simp
theorem cut_to (xs : List V) (k : Nat) : cutV xs none (some (k : Int)) = xs.take k := by
  unfold cutV
  have e : HT.sIx xs.length 0 none = 0 := by rfl
  rw [e, HT.sIx_nat, List.drop_zero, Nat.sub_zero]
  by_cases h : k ≤ xs.length
  · rw [Nat.min_eq_left h]
  · rw [Nat.min_eq_right (by omega), List.take_of_length_le (by omega), List.take_of_length_le (by omega)]
theorem cut_last (xs : List V) : cutV xs none (some (-1)) = xs.dropLast := by
  unfold cutV
  have e : HT.sIx xs.length 0 none = 0 := by rfl
  have e2 : HT.sIx xs.length xs.length (some (-1)) = xs.length - 1 := by
    show (if (-1 : Int) < 0 then ((-1 : Int) + (xs.length : Int)).toNat else min (-1 : Int).toNat xs.length) = _
    rw [if_pos (by decide)]; omega
  rw [e, e2, List.drop_zero, List.dropLast_eq_take]
  rfl
end NB

namespace NB
open PySem PySem.Spec L2
/-- a def of the text: where it stands, how its arguments bind -/
structure Df (K : PySem.W.Frag) (mg : Str → Option Value) (x : Str) (ps : List Str) (st : Stmt) (f : Addr) (fd : FuncData) : Prop where
  F : Fun K x x st f fd
  g : mg x = some (.ref f)
  b : Binds K fd ps []
/-- built-in names that the top leaves alone -/
structure Bl (mg : Str → Option Value) : Prop where
  range : mg "range" = none
  len : mg "len" = none
  abs : mg "abs" = none
  int : mg "int" = none
  max : mg "max" = none
  min : mg "min" = none
  sum : mg "sum" = none
  list : mg "list" = none
  isinstance : mg "isinstance" = none
  enumerate : mg "enumerate" = none
  zip : mg "zip" = none
  reversed : mg "reversed" = none
  any : mg "any" = none
  all : mg "all" = none
  ValueError : mg "ValueError" = none
theorem iteD {c A B : Prop} [Decidable c] (h1 : c → A) (h2 : ¬ c → B) : if decide c = true then A else B := by
  by_cases h : c
  · rw [if_pos (decide_eq_true h)]; exact h1 h
  · rw [if_neg (by rw [decide_eq_false h]; exact Bool.false_ne_true)]; exact h2 h
theorem iteN {c A B : Prop} [Decidable c] (h1 : ¬ c → A) (h2 : c → B) : if (!decide c) = true then A else B := by
  by_cases h : c
  · rw [decide_eq_true h]; exact iteF (h2 h)
  · rw [decide_eq_false h]; exact iteT (h1 h)
theorem iteY {c A B : Prop} [Decidable c] (hc : c) (h : A) : if decide c = true then A else B := by rw [if_pos (decide_eq_true hc)]; exact h
theorem iteX {c A B : Prop} [Decidable c] (hc : ¬ c) (h : B) : if decide c = true then A else B := by rw [decide_eq_false hc]; exact iteF h
theorem iteB {b : Bool} {A B : Prop} (h1 : b = true → A) (h2 : b = false → B) : if b = true then A else B := by
  cases b with
  | true => exact iteT (h1 rfl)
  | false => exact iteF (h2 rfl)
/-- the truth of a number -/
theorem iteZ {n : Nat} {A B : Prop} (h1 : n ≠ 0 → A) (h2 : n = 0 → B) : if (((n : Nat) : Int) != 0) = true then A else B := by
  by_cases h : n = 0
  · subst h; exact iteF (h2 rfl)
  · have : (((n : Nat) : Int) != 0) = true := by simp; omega
    rw [if_pos this]; exact h1 h
theorem same_upd {H : Hp} {p : Addr} {o : HO} (h : H p = none) : Same H (upd H p o) := fun b u e => by rw [upd_ne (ne_of_none e h)]; exact e
theorem same_upd2 {H H' : Hp} {p : Addr} {o : HO} (e : Same H H') (h : H p = none) : Same H (upd H' p o) := fun b u ha => by rw [upd_ne (ne_of_none ha h)]; exact e b u ha
theorem same_new {H H' : Hp} {p : Addr} {o : HO} (e : Same H H') (h : H' p = none) : Same H (upd H' p o) := same_upd2 e (e.free h)
end NB
namespace NB
open PySem PySem.Spec L2
/-- a comprehension over range(lo, ..) of numbers -/
theorem lc_rangeN {lo n : Nat} {g : TG} {tt : TT} {te : TE} {vs : List Nat} {σ : L2.St} {H1 : Hp} {D : Addr} {Qd : Hp → Prop} (Pv : Nat → Hp → Prop) (h0 : Pv 0 (upd H1 D (.lst [])))
    (hs : ∀ i H, i < n → Pv i H → g (.int ((lo + i : Nat) : Int)) (wipe σ vs) H fun σ2 H2 => wipe σ2 vs = wipe σ vs ∧ tt σ2 H2 fun b H3 =>
      if b = true then te σ2 H3 fun y H4 => ∃ acc, H4 D = some (.lst acc) ∧ acc.length < sizeLine ∧ Pv (i + 1) (upd H4 D (.lst (acc ++ [y]))) else Pv (i + 1) H3) (hd : ∀ H, Pv n H → Qd H) :
    ∃ W : Nat → Nat → Hp → Prop, (∃ m, W 0 m (upd H1 D (.lst []))) ∧ ∀ i m H, W i m H →
      ((Itr (lo : Int) n).stop i H ∧ Qd H) ∨ ((Itr (lo : Int) n).go i H ∧ ∃ Nx : Hp → Prop, (∀ H', Nx H' → ∃ m', m' < m ∧ W (i + 1) m' H') ∧ ∀ x H', (Itr (lo : Int) n).yld i H x H' → g x (wipe σ vs) H' fun σ2 H2 => wipe σ2 vs = wipe σ vs ∧ tt σ2 H2 fun b H3 =>
        if b = true then te σ2 H3 fun y H4 => ∃ acc, H4 D = some (.lst acc) ∧ acc.length < sizeLine ∧ Nx (upd H4 D (.lst (acc ++ [y]))) else Nx H3) :=
  lc_range (lo := (lo : Int)) (n := n) Pv h0 (fun i H hi p => by
    have e : ((lo : Int) + (i : Int)) = ((lo + i : Nat) : Int) := by omega
    rw [e]
    exact hs i H hi p) hd
end NB
/-! Errors of the program: one class with an __init__, the others below it. -/
namespace ER
open PySem PySem.Spec PyProof.Rows L2 NB
/-- what the top says of an error class, named x, at C; its __init__ is the function at fI -/
structure XC (K : PySem.W.Frag) (mg : Str → Option Value) (x : Str) (C fI CH : Addr) : Prop where
  oex : OexC K C
  ga : PySem.W.findIn K (.ref C) "__getattribute__" = some (some (.builtin "BaseException.__getattribute__"))
  gg : PySem.W.findIn K (.ref C) "__getattr__" = some none
  hd : PySem.W.hasDictIn K C = true
  cl : PySem.W.findIn K (.ref C) "__class__" = some (some (.builtin "object.__class__"))
  sp : PySem.W.specialIn K (.builtin "object.__class__") "__get__" = some (some (.builtin "getset_descriptor.__get__"))
  tk : PySem.W.takesIn K (.builtin "object.__class__") = some true
  mo : PySem.W.mroIn K C (.type "object") = some true
  no : PySem.W.findIn K (.ref C) "at" = some none
  g : mg x = some (.ref C)
  iC : PySem.W.findIn K (.ref C) "__init__" = some (some (.ref fI))
  tI : PySem.W.typeIn K (.ref fI) = some (.type "function")
  te : PySem.W.exmOne K (.ref C) (.ref CH) = some true
def sp_init (K : PySem.W.Frag) : Sp := fun vs H Q _ => ∃ (a C : Addr) (i : Int), vs = [.ref a, .int i] ∧ (∃ mg x fI CH, XC K mg x C fI CH) ∧ H a = some (exo a C none) ∧ i.natAbs.log2 < 1920 ∧
  ∀ dx, H dx = none → dx ≠ a → Q .non (upd (upd H dx (exd dx [("at", .int i)])) a (exo a C (some dx)))
theorem len_app (a b : Str) : (a ++ b).length = a.length + b.length := by
  show (⟨a.cps ++ b.cps⟩ : Str).cps.size = _
  simp [Array.size_append]; rfl
theorem upd_raise {H : Hp} {a d C : Addr} {fs : List (Str × V)} {o : HO} (ha : H a = none) (hd : H d = none) (n : d ≠ a) :
    upd (L2.del (upd (upd (upd H a (exo a C none)) d (exd d fs)) a (exo a C (some d))) a) d o = upd H d o := by
  funext b
  by_cases h1 : b = d
  · subst h1; rw [upd_same, upd_same]
  · rw [upd_ne h1, upd_ne h1]
    by_cases h2 : b = a
    · subst h2; rw [del_same, ha]
    · rw [del_ne h2, upd_ne h2, upd_ne h1, upd_ne h2]
/-- raise x(e) -/
def tRaise (C : Addr) (W : WX) (ta : TA) : TS := fun _ σ H => ta σ H fun vs H1 => ∃ i : Int, vs = [.int i] ∧ i.natAbs.log2 < 1920 ∧ ∀ d, H1 d = none → W (.ref C) (some d) σ (upd H1 d (.xd [("at", .int i)]))
theorem ps_of {X : Cx} {st : Stmt} {t t' : TS} (h : PS X st t) (k : ∀ D σ H, t' D σ H → t D σ H) : PS X st t' := ⟨fun pins s σ H D I q => h.run pins s σ H D I (k D σ H q)⟩
def tMono (ta : TA) : TA := fun σ H Q => ∃ R : List V → Hp → Prop, ta σ H R ∧ ∀ vs H1, R vs H1 → Q vs H1
theorem pa_mono {X : Cx} {es : List Expr} {ta : TA} (h : PA X es ta) : PA X es (tMono ta) := ⟨fun pos pins s σ H Q I ⟨R, q, k⟩ =>
  thn (h.run pos pins s σ H R I q) fun us s1 ⟨vs, H1, I1, r, q1⟩ => ⟨vs, H1, I1, r, k _ _ q1⟩⟩
theorem ps_err {X : Cx} {CX : CXT} {x : Str} {C fI CH : Addr} {k : Nat} {fd : FuncData} {e : Expr} {ta : TA} {W : WX} {p pos pos2 : Pos} (hc : X.calm = true) (T : XC X.K X.mg x C fI CH)
    (G : FnOk X.prog X.w X.K X.mg X.base CX k fI fd ["self", "at"] (sp_init X.K)) (hr : Room (k + 1) X.A) (hb : Binds X.K fd ["self", "at"] []) (hx : Passes CX X (fun _ _ _ => False)) (tk : Takes X W) (ha : PA X [e] ta) (hg : Gl X x := by rfl)
    (hdb : (x == ("__debug__" : Str)) = false := by decide) (he : starEach (e :: []) X.env = (false, eval e X.env) :: starEach [] X.env := by rfl) (hpl : (backTo pos (starEach [] X.env)).any (·.1) = false := by rfl) :
    PS X (.Raise (some (.Call (.Name x p) [e] [] pos)) none pos2) (tRaise C W ta) := by
  refine ps_of (ps_raise hc tk (pmk_oex (dvs := []) T.oex T.iC T.tI G hr hb .nil hx hg T.g (pa_mono ha) hdb he hpl)) fun D σ H q => ?_
  refine ⟨_, q, fun vs H1 ⟨i, ev, hi, k⟩ => ?_⟩
  subst ev
  refine ⟨by simp, fun a na => ?_⟩
  refine ⟨a, C, i, rfl, ⟨_, _, _, _, T⟩, upd_same, hi, fun dx nx ne => ?_⟩
  rw [upd_ne ne] at nx
  refine ⟨rfl, dx, [("at", .int i)], upd_same, ?_, nx, ?_⟩
  · rw [upd_ne ne, upd_same]
  · rw [upd_raise na nx ne]
    exact k dx nx
/-! ### the caught error -/
/-- isinstance(e, c), e the error that the suite holds at a, of the class at D, its dict d -/
def rIsE (K : PySem.W.Frag) (a : Addr) (cls : Value) (d : Option Addr) : List V → Hp → VK → Prop := fun xs H Q => ∃ (D : Addr) (c : V) (cv : Value) (b : Bool) (dd : Addr) (fs : List (Str × V)), xs = [.ref a, c] ∧ cls = .ref D ∧ (∃ mg x fI CH, XC K mg x D fI CH) ∧ d = some dd ∧ H dd = some (.xd fs) ∧
  (∀ u, RelV c u → u = cv) ∧ PySem.W.kitOne K (.ref D) cv = some b ∧ Q (.bl b) H
theorem call_isE {X : Cx} {a : Addr} {oe : Obj} {cls : Value} {d : Option Addr} {pn : List (Addr × Obj)} (hz : Zc cls d oe) (hf : ∃ vs, oe.data = .fields vs) : CallR (X.suite a ((a, oe) :: pn)) (.builtin "isinstance") (rIsE X.K a cls d) := by
  intro pins s σ H xs us Q I r h
  obtain ⟨D, c, cv, b, dd, fs, rfl, rfl, ⟨mg, x, fI, CH, T⟩, rfl, hd, hcv, e, q⟩ := h
  cases r with
  | cons rx rr =>
    cases rr with
    | cons rt rr =>
      cases rr
      cases rx
      have ec := hcv _ rt
      subst ec
      obtain ⟨hget, _⟩ := I.pin (a, oe) (List.mem_append.mpr (.inl List.mem_cons_self))
      obtain ⟨vs, hv⟩ := hf
      have hx : ObjOk X.prog X.w H s.heap dd (.xd fs) := I.hok dd _ hd
      obtain ⟨mA, hns, hrel⟩ := hx
      obtain ⟨od, ho, hl⟩ := lookIn_ns hns
      have J : PySem.W.InstAt s.heap a oe D (some od) := ⟨hget, hz.1, by unfold PySem.W.notCls; rw [hv] <;> rfl, by rw [hz.2]; exact ho⟩
      have hcl : (PySem.W.clsIn X.K D).isSome = true := by
        obtain ⟨nm, q, N, bs, bm, sn, sub, ab, col, dd', k0, k1, k2, k3, k5, hC, hbm⟩ := T.oex.cls
        unfold PySem.W.clsIn; rw [hC] <;> rfl
      exact PySem.W.kia_one (PySem.W.kitx_exc hcl T.ga T.gg T.oex.exC T.cl T.sp T.tk T.mo) I.kIn J e (fun z => nomatch z) fun tk => ⟨.bl b, H, I.kept (t' := tk) fun _ _ z => z, rfl, q⟩
/-- e.at -/
def tAt (K : PySem.W.Frag) (a : Addr) (cls : Value) (d : Option Addr) (te : TE) : TE := fun σ H Q => te σ H fun x H1 => ∃ (C dd : Addr) (i : Int), x = .ref a ∧ cls = .ref C ∧ (∃ mg x fI CH, XC K mg x C fI CH) ∧ d = some dd ∧ H1 dd = some (.xd [("at", .int i)]) ∧ Q (.int i) H1
theorem pe_at {X : Cx} {a : Addr} {oe : Obj} {cls : Value} {d : Option Addr} {pn : List (Addr × Obj)} {e : Expr} {te : TE} {pos : Pos} (hz : Zc cls d oe) (hf : ∃ vs, oe.data = .fields vs) (he : PE (X.suite a ((a, oe) :: pn)) e te)
    (hb : attributeBase e "at" X.env (eval e X.env) = eval e X.env := by rfl) :
    PE (X.suite a ((a, oe) :: pn)) (.Attribute e "at" pos) (tAt X.K a cls d te) := by
  refine ⟨fun pins s σ H Q I h => ?_⟩
  refine attr_of hb (thn (he.run pins s σ H _ I h) fun u s1 hh => ?_)
  obtain ⟨x, H1, I1, rx, C, dd, i, ex, ec, ⟨mg, x', fI, CH, T⟩, ed, ea, q⟩ := hh
  subst ex
  obtain rfl : u = Value.ref a := rx
  subst ec
  subst ed
  obtain ⟨ha, _⟩ := I1.pin (a, oe) (List.mem_append_left _ List.mem_cons_self)
  obtain ⟨vs, hd⟩ := hf
  have hx : ObjOk X.prog X.w H1 s1.heap dd (.xd [("at", .int i)]) := I1.hok dd _ ea
  obtain ⟨mA, hns, hr⟩ := hx
  obtain ⟨od, ho, hl⟩ := lookIn_ns hns
  have l : List.lookup ("at" : Str) [(("at" : Str), V.int i)] = some (V.int i) := by simp [List.lookup]
  obtain ⟨u, hu, ru⟩ := RelO.some_of (v := V.int i) (o := mA "at") (by rw [← l]; exact hr "at")
  have J : PySem.W.InstAt s1.heap a oe C (some od) := ⟨ha, hz.1, by unfold PySem.W.notCls; rw [hd] <;> rfl, by rw [hz.2]; exact ho⟩
  exact HandSPX.exc_get I1.kIn J T.ga T.gg T.oex.exC (PySem.W.findObj_own T.hd T.no rfl (by rw [hl, hu])) (handed_of ru) ⟨V.int i, H1, I1.tok _, ru, q⟩
theorem at_len {i : Int} (hi : i.natAbs.log2 < 1920) : (Str.empty ++ Str.ofString "at " ++ Str.ofString (toString i)).length ≤ sizeLine := by
  have e := int_text_length_le (k := 1920) (by decide) hi
  rw [ER.len_app, ER.len_app, PySem.ofString_length (toString i), sizeLine_eq]
  have h1 : (Str.empty).length = 0 := by rfl
  have h2 : (Str.ofString "at ").length = 3 := by decide +kernel
  omega
/-- try: .. except x as n: .. -/
def tTry (K : PySem.W.Frag) (c : Value) (i : Nat) (tb : WX → TS) (ts : Addr → Value → Option Addr → TS) (Wout : WX) : TS := fun D σ H => tb (wAs K c i ts Wout D) D σ H
theorem ps_tryE {X : Cx} {x n : Str} {c : Value} {i : Nat} {body suite : List Stmt} {b0 : Stmt} {np pos pos' : Pos} {tb : WX → TS} {ts : Addr → Value → Option Addr → TS} {Wout : WX}
    (hs : X.stack = X.env :: X.outer) (hf : X.env.frame = some X.env.locals) (hN : X.N.Nodup) (hi : X.N[i]? = some n) (hln : X.env.kindOf n = some .local) (hc : Names X x c) (tk : Takes X Wout)
    (hb : ∀ (W : WX) (pn : List (Addr × Obj)) (xe : Value → Shared → Prop), Takes (X.tr pn xe) W → PassesOwn (model X.prog X.w) X.A X.env xe → PSs (X.tr pn xe) body (tb W))
    (hsu : ∀ (a : Addr) (oe : Obj) (cls : Value) (d : Option Addr) (pn : List (Addr × Obj)), Zc cls d oe → (∃ vs, oe.data = .fields vs) → PSs (X.suite a ((a, oe) :: pn)) (b0 :: suite) (ts a cls d)) :
    PS X (.Try body [.ExceptHandler (some (.Name x np)) (some n) (b0 :: suite) pos'] [] [] pos) (tTry X.K c i tb ts Wout) := ps_try_as hs hf hN hi hln hc tk hb hsu
end ER
/-! Objects that are made, and methods that are called, where an error is looked out for. -/
namespace MKX
open PySem PySem.Spec PyProof.Rows L2
def tMkS (C : Addr) (sp : Sp) (E : L2.St → XK) (t : TA) : TE := fun σ H Q => t σ H fun vs H1 => ∀ x dx, H1 x = none → H1 dx = none → dx ≠ x →
  sp (.ref x :: vs) (upd (upd H1 dx (.own x)) x (.ins C dx [])) (fun v H2 => v = .non ∧ Q (.ref x) H2) (E σ)
section
variable {X : Cx} {CX : CXT} {k : Nat} {f C : Addr} {fd : FuncData} {ps : List Str} {sp : Sp} {E : L2.St → XK} {x m : Str} {p pos apos : Pos} {e o : Expr} {es : List Expr} {ta : TE} {t : TA}
theorem go_mkS {pins : List (Addr × Obj)} {σ : L2.St} {H : Hp} {s : Shared} {Q : VK} {us : List Value} {vs : List V} (Z : Mk X.K C f) (G : FnOk X.prog X.w X.K X.mg X.base CX k f fd ps sp) (room : Room (k + 1) X.A) (bd : L2.Binds X.K fd ps [])
    (out : PassesAt CX X σ (E σ)) (J : Inv X pins σ H s) (rv : Vals vs us)
    (q : ∀ x dx, H x = none → H dx = none → dx ≠ x → sp (.ref x :: vs) (upd (upd H dx (.own x)) x (.ins C dx [])) (fun v H2 => v = .non ∧ Q (.ref x) H2) (E σ)) :
    wpAny (model X.prog X.w) X.A (call (.ref C) us) (EP X pins σ Q) X.xe s := by
  generalize hn : s.heap.objs.size = n
  have q0 := q (n + 1) n (J.hok.fresh (by rw [hn]; exact Nat.le_succ n)) (J.hok.fresh (Nat.le_of_eq hn)) (Nat.ne_of_lt (Nat.lt_succ_self n))
  have J2 := Inv.made (C := C) J
  rw [hn] at J2
  have rv2 : Vals (V.ref (n + 1) :: vs) (Value.ref (n + 1) :: us) := .cons rfl rv
  have len1 : (Value.ref (n + 1) :: us).length = ps.length := rv2.length.symm.trans (G.len _ _ _ _ q0)
  have bd1 := bd _ (Value.ref (n + 1) :: us) J2.kIn (by rw [List.append_nil]; exact len1)
  rw [List.append_nil] at bd1
  have body := G.run _ X.stack _ _ ⟨Value.ref (n + 1) :: us, []⟩ _ _ _ (E σ) (room.make C us []) (J2.env0.make C us []) bd1 rv2 q0
  refine wpAny_call (make_map (f := f) J.kIn Z.makes Z.init (beq_iff_eq.mp Z.fn) ?_)
  rw [hn]
  refine codeAny_mono body fun r s2 back => ?_
  match r, back with
  | .error e, back => exact out pins _ _ e s2 J2 back
  | .ok (.ret u), back =>
    obtain ⟨v, H2, J3, rv3, ev, q3⟩ := J2.after back
    subst ev
    exact ⟨rv3, V.ref (n + 1), H2, J3, rfl, q3⟩
  | .ok .next, back => exact back.elim
  | .ok .brk, back => exact back.elim
  | .ok .cont, back => exact back.elim
theorem pe_mkS (Z : Mk X.K C f) (G : FnOk X.prog X.w X.K X.mg X.base CX k f fd ps sp) (room : Room (k + 1) X.A) (hg : Gl X x) (hm : X.mg x = some (.ref C)) (bd : L2.Binds X.K fd ps []) (out : ∀ σ, PassesAt CX X σ (E σ))
    (ha : PA X (e :: es) t) (hdb : (x == ("__debug__" : Str)) = false := by decide) (he : starEach (e :: es) X.env = (false, eval e X.env) :: starEach es X.env := by rfl) (hpl : (backTo pos (starEach es X.env)).any (·.1) = false := by rfl) :
    PE X (.Call (.Name x p) (e :: es) [] pos) (tMkS C sp E t) := by
  constructor
  intro pins s σ H Q J q
  refine wpAny_Call_Name_kw (ld_glob J hg hm ?_ hdb)
  exact PySem.W.callWith_K (h₀ := X.base) J.ok.mod.kin Z.kp (thn (ha.run pos pins s σ H _ J q) fun us s1 ⟨vs, H1, J1, r, q1⟩ => ⟨J1.kIn, go_mkS Z G room bd (out σ) J1 r q1⟩) he hpl
def tMtS (C : Addr) (m : Str) (sp : Sp) (E : L2.St → XK) (ta : TE) (t : TA) : TE := fun σ H Q => ta σ H fun x H1 => ∃ a dx fs, x = .ref a ∧ H1 a = some (.ins C dx fs) ∧ fs.lookup m = none ∧ t σ H1 fun vs H2 => sp (x :: vs) H2 Q (E σ)
theorem pe_mtS {pl : Sem Bool} (ho : PE X o ta) (c : Cls X.K C) (hm : Meth X.K C m f) (G : FnOk X.prog X.w X.K X.mg X.base CX k f fd ps sp) (room : Room k X.A) (bd : L2.Binds X.K fd ps []) (out : ∀ σ, PassesAt CX X σ (E σ)) (ha : PA X (e :: es) t)
    (hst : starEach (e :: es) X.env = (false, eval e X.env) :: starEach es X.env := by rfl) (hpl : (backTo pos (starEach es X.env)).any (·.1) = false := by rfl)
    (ht : eval (.Call (.Attribute o m apos) (e :: es) [] pos) X.env = (do
      let ov ← eval o X.env; standAt apos.atName; let (f, first) ← holding [ov] (getMethod ov m pl); callWith pos f first (backTo pos (starEach (e :: es) X.env)) (backToKw pos (keywordEach [] X.env))) := by rfl) :
    PE X (.Call (.Attribute o m apos) (e :: es) [] pos) (tMtS C m sp E ta t) := by
  constructor
  intro pins s σ H Q J q
  refine PySem.W.methodCall_KW (pl := pl) (thn (ho.run pins s σ H _ J q) fun u s1 hu => ?_) ht
  obtain ⟨x, H1, J1, rx, a, dx, fs, ex, ea, nl, q1⟩ := hu
  subst ex
  cases rx
  refine getmeth_ok J1 ea c hm nl (PySem.W.callWith_K (first := [.ref a]) (h₀ := X.base) J.ok.mod.kin hm.kp (thn (ha.run pos pins s1 σ H1 _ J1 q1) fun us s2 ⟨vs, H2, J2, r, q2⟩ => ⟨J2.kIn, ?_⟩) hst hpl)
  exact run_fnS (us := .ref a :: us) (vs := .ref a :: vs) G room bd (out σ) J2 (.cons rfl r) q2
end
/-- for i, x in enumerate(xs) -/
theorem for_enumL {K : PySem.W.Frag} {a : Addr} {xs : List V} {g : TG} {tb : TS} {D : Ends} {σ : L2.St} {H : Hp} (Pv : Nat → L2.St → Hp → Prop) (h0 : Pv 0 σ H) (hl : ∀ i σ H, i ≤ xs.length → Pv i σ H → SqL K H a xs)
    (hs : ∀ (i : Nat) (x : V) (T : Addr) (σ : L2.St) (H : Hp), xs[i]? = some x → Pv i σ H → H T = none → g (.ref T) σ (upd H T (.tup [.int (i : Nat), x])) fun σ2 H2 => tb { D with nx := Pv (i + 1), ct := Pv (i + 1), bk := D.nx } σ2 H2) (hd : ∀ σ H, Pv xs.length σ H → D.nx σ H) :
    ∃ W : Nat → Nat → L2.St → Hp → Prop, (∃ m, W 0 m σ H) ∧ ∀ i m σ H, W i m σ H →
      ((Ite K a).stop i H ∧ D.nx σ H) ∨ ((Ite K a).go i H ∧ ∃ N : L2.St → Hp → Prop, (∀ σ' H', N σ' H' → ∃ m', m' < m ∧ W (i + 1) m' σ' H') ∧ ∀ x H', (Ite K a).yld i H x H' → g x σ H' fun σ2 H2 => tb { D with nx := N, ct := N, bk := D.nx } σ2 H2) :=
  for_it walk_enum Pv h0 hl (fun i x σ H H' _ p y => by
    obtain ⟨T, x1, x2, rfl, nT, rfl, e1, e2⟩ := y
    cases (Option.some.inj e1)
    exact hs i x2 T σ H e2 p nT) hd
end MKX
/-! A def that the text calls by another name than its own. -/
namespace NB
open PySem PySem.Spec L2
structure Da (K : PySem.W.Frag) (mg : Str → Option Value) (x nm : Str) (ps : List Str) (st : Stmt) (f : Addr) (fd : FuncData) : Prop where
  F : Fun K nm nm st f fd
  g : mg x = some (.ref f)
  b : L2.Binds K fd ps []
end NB
namespace NB
open PySem PySem.Spec L2
/-- within a comprehension: the written part named from outside -/
theorem ix_listK {X : Cx} {K : PySem.W.Frag} (h : X.K = K) : IxR X (rIxL K) := h ▸ ix_list
theorem ix_tupK {X : Cx} {K : PySem.W.Frag} (h : X.K = K) : IxR X (rIxT K) := h ▸ ix_tup
end NB
namespace NB
open PySem PySem.Spec L2
theorem op_eqDK {X : Cx} {K : PySem.W.Frag} (h : X.K = K) (hu : X.A.units + 64 < cLine) : OpR X (compareOp .Eq) (rEqD K) := h ▸ op_eqD hu
theorem op_neDK {X : Cx} {K : PySem.W.Frag} (h : X.K = K) (hu : X.A.units + 64 < cLine) : OpR X (compareOp .NotEq) (rNeD K) := h ▸ op_neD hu
end NB
/-! A def that is called where nothing is being printed: repr of lists. -/
namespace GR
open PySem PySem.Spec PyProof.Rows L2 NB
/-- repr of a list or tuple of plain things, where nothing is being printed -/
def rRepr (K : PySem.W.Frag) : List V → Hp → VK → Prop := fun xs H Q => ∃ (a : Addr) (d : PyData), xs = [.ref a] ∧ Dp K H (.ref a) d ∧ d.showable = true ∧ d.hasDict = false ∧ d.depth ≤ 60 ∧ d.shown.length ≤ sizeLine ∧ Q (.str d.shown) H
theorem call_reprD {X : Cx} (hg : X.A.guards = some []) (hu : X.A.units + 64 < cLine) : CallR X (.builtin "repr") (rRepr X.K) := by
  intro pins s σ H xs us Q I r h
  obtain ⟨a, d, rfl, hd, hs, hn, hp, hz, q⟩ := h
  obtain ⟨u, rfl, ru⟩ := vals1 r
  obtain rfl : u = Value.ref a := ru
  obtain ⟨as, rd⟩ := Dp.reads I d (.ref a) (.ref a) hd rfl
  refine repr_of_reads' rd hs (fun e => by rw [hn] at e; cases e) hg (by omega) (fun _ _ e => e) (fun h' u tk keep => ?_) hz
  exact ⟨.str d.shown, H, I.kept (t' := tk) (h' := h') keep, ⟨u, rfl⟩, q⟩
/-- the promise of a def where nothing is being printed -/
def FnG (P : Program) (w : World) (K : PySem.W.Frag) (mg : Str → Option Value) (base : Heap) (CX : CXT) (k : Nat) (f : Addr) (fd : FuncData) (ps : List Str) (sp : Sp) : Prop :=
  ∀ (A : Around) (outer : List Env) (s : Shared) (H : Hp) (args : Args) (us : List Value) (vs : List V) (Q : VK) (E : XK), A.guards = some [] → Room k A → Env0 P w K mg base A outer s H → BindsTo s fd args (ps.zip us) → Vals vs us → sp vs H Q E →
    codeAny (model P w) A (.call (.ref f) args) (CR CX outer P w H s Q E) s
section
variable {P : Program} {w : World} {K : PySem.W.Frag} {mg : Str → Option Value} {base : Heap}
theorem Fun.okG {x qual : Str} {st : Stmt} {f : Addr} {fd : FuncData} {N ps : List Str} {k : Nat} {sp : Sp} (F : Fun K x qual st f fd) (S : FnScope N ps (defScope st)) (len : ∀ vs H Q E, sp vs H Q E → vs.length = ps.length)
    (body : ∀ (cdv : Value) (A : Around) (outer : List Env) (s : Shared) (H : Hp) (vs : List V) (Q : VK) (E : XK), (A.deeper (envOfC qual (defScope st) s.heap.objs.size f cdv)).guards = some [] → Room k (A.deeper (envOfC qual (defScope st) s.heap.objs.size f cdv)) → sp vs H Q E →
      ∃ t, PSs (cxOf CX0 P w K mg base N qual (defScope st) f cdv A outer s H E).nox (defBody st) t ∧ t { nx := fun _ H' => Q .non H', rt := Q } (start N vs) H) : FnG P w K mg base CX0 (k + 1) f fd ps sp := by
  obtain ⟨oc, od, kV, doc, pm, an, cdv, ct, osl, rfl, lk, hcd⟩ := F.ex
  intro A outer s H args us vs Q E gd room env bind vals pre
  have n := len _ _ _ _ pre
  have kin : K.In s.heap := env.mod.kin.keeps fun b o z => (env.bs b o z).1
  have nolim : s.heap.NoLimit := env.mod.nolimit.keeps fun b o z => (env.bs b o z).1
  refine codeAny_call_function room.depth (kin _ _ lk) rfl S.co S.gen rfl (PySem.W.codeRec_of kin hcd) (bind _ _ _ _ ?_)
  refine wpAny_newFunctionEnv_cells S.kind (fun y hy => ?_) fun env' ee s1 lay => ?_
  · rcases S.par y.1 (List.of_mem_zip hy).1 with z | z
    · exact Or.inl z
    · exact Or.inr ⟨z, PySem.W.cellsFrom_some _ _ _ (Or.inl z)⟩
  subst ee
  refine ⟨nolim.keeps lay.toInCall.keep, codeAny_func ?_⟩
  obtain ⟨t, ht, wish⟩ := body cdv A outer s H vs Q E gd (room.deeper _) pre
  have J := inv_start (CX := CX0) (E := E) S room.hd env n vals lay
  refine wpAny_mono (ht.nox.run [] s1 (start N vs) H _ J wish) (fun fl s' done => ?_) fun e s' z => z
  match fl, done with
  | .ret u, ⟨v, σ', H', L, rv, z⟩ => exact ⟨v, H', L.os, L.bare, L.base, L.hok, rv, z⟩
  | .next, ⟨σ', H', L, z⟩ => exact ⟨V.non, H', L.os, L.bare, L.base, L.hok, rfl, z⟩
  | .brk, ⟨_, _, _, z⟩ => exact z.elim
  | .cont, ⟨_, _, _, z⟩ => exact z.elim
end
section
variable {P : Program} {w : World} {K : PySem.W.Frag} {mg mb : Str → Option Value} {CX : CXT} {k : Nat} {fa a : Addr} {fd : FuncData} {x : Str} {sp : Sp} {s0 : Shared} {vs : List Value} {ns : List Int}
/-- the world as the law is entered: only the script may be followed -/
theorem entry (KX : K.In s0.heap) (hm : s0.heap.Ns mainGlobals mg) (hb : s0.heap.Ns builtinsNs mb) (hbb : ∀ x : Str, x ≠ "__name__" → mb x = bootBuiltins x) (hl : s0.heap.NoLimit) (hg : s0.gens = #[])
    (ha : s0.heap.get? a = some { cls := .type "list", data := .seq vs.toArray }) {H : Hp} (hok : HOk P w H s0.heap) (one : ∀ b u, H b = some u → b = a) (out : ∀ u, H a = some u → K.lookup a = none) :
    K.In (hidT s0.heap H) ∧ (hidT s0.heap H).Ns mainGlobals mg ∧ Env0 P w K mg (hidT s0.heap H) callerA [] s0 H := by
  have kept : ∀ {b : Addr} {o : Obj} {es : Array DictEntry} {ep : Nat}, s0.heap.get? b = some o → o.data = .dict es ep → (hidT s0.heap H).get? b = some o := fun {b o es ep} e d => by
    refine hidT_get e ?_
    cases z : H b with
    | none => rfl
    | some u =>
      have := one b u z
      rw [this, ha] at e
      have e2 := congrArg Obj.data (Option.some.inj e)
      rw [d] at e2
      cases e2
  have names : ∀ {b : Addr} {m : Str → Option Value}, s0.heap.Ns b m → (hidT s0.heap H).Ns b m := fun {b m} n => by
    obtain ⟨o, es, ep, e, d, r⟩ := n
    exact ⟨o, es, ep, kept e d, d, r⟩
  have kin : K.In (hidT s0.heap H) := fun b o e => by
    refine hidT_get (KX b o e) ?_
    cases z : H b with
    | none => rfl
    | some u =>
      have eb := one b u z
      subst eb
      rw [out u z] at e
      cases e
  obtain ⟨mc, c1, c2⟩ := hl
  refine ⟨kin, names hm, ⟨rfl, ⟨kin, names hm, ⟨mb, names hb, hbb⟩, mc, names c1, c2⟩, fun b o e => of_hidT e, Nat.le_of_eq (hidT_size _ _), trivial, fun b hb => ?_, hok, .of_eq hg⟩⟩
  exact absurd (show b ∈ ([] : List Addr) from hb) List.not_mem_nil
theorem law_callG (KX : K.In s0.heap) (hm : s0.heap.Ns mainGlobals mg) (hb : s0.heap.Ns builtinsNs mb) (hbb : ∀ x : Str, x ≠ "__name__" → mb x = bootBuiltins x) (hl : s0.heap.NoLimit) (hg : s0.gens = #[])
    (ha : s0.heap.get? a = some { cls := .type "list", data := .seq vs.toArray }) (hi : IntsAre vs ns) (hz : ns.length ≤ sizeLine) (room : Room k callerA)
    (F : ∀ base : Heap, K.In base → base.Ns mainGlobals mg → FnG P w K mg base CX k fa fd [x] sp) (bind : ∀ (s : Shared) (u : Value), BindsTo s fd ⟨[u], []⟩ [(x, u)])
    (wish : ∀ H : Hp, Only H → SqL K H a (ns.map V.int) → sp [.ref a] H (fun v _ => v = .bl true) fun _ _ _ => False) (no : ∀ H e s', CX [] H s0 (fun _ _ _ => False) e s' → False) :
    codeAny (model P w) callerA (.call (.ref fa) ⟨[.ref a], []⟩) (fun r s' => r = .ok (.ret (.bool true)) ∧ OldK s0.heap s'.heap ∧ s'.os = s0.os ∧ AllBare s'.gens) s0 := by
  have rv := vals_ints hi
  have nv := hi.length
  have go : ∀ H : Hp, Only H → SqL K H a (ns.map V.int) → HOk P w H s0.heap → (∀ b u, H b = some u → b = a) → (∀ u, H a = some u → K.lookup a = none) →
      codeAny (model P w) callerA (.call (.ref fa) ⟨[.ref a], []⟩) (fun r s' => r = .ok (.ret (.bool true)) ∧ OldK s0.heap s'.heap ∧ s'.os = s0.os ∧ AllBare s'.gens) s0 := fun H hO hS hok one out => by
    obtain ⟨kin, nsb, env⟩ := entry KX hm hb hbb hl hg ha hok one out
    refine codeAny_mono (F _ kin nsb callerA [] s0 H ⟨[.ref a], []⟩ [.ref a] [.ref a] _ _ rfl room env (bind s0 (.ref a)) (.cons rfl .nil) (wish H hO hS)) fun r s' done => ?_
    match r, done with
    | .error e, done => exact (no H e s' done).elim
    | .ok .next, done => exact done.elim
    | .ok .brk, done => exact done.elim
    | .ok .cont, done => exact done.elim
    | .ok (.ret u), ⟨v, H', os, bare, un, hok2, rv2, ev⟩ =>
      have ev2 : v = .bl true := ev
      subst ev2
      have eu : u = Value.bool true := rv2
      subst eu
      refine ⟨rfl, OldK.of_keep fun b o e => ?_, os, bare⟩
      rcases hO b with z | ⟨ob, xs, z⟩
      · exact un.keep b o e z (fun z2 => absurd (show b ∈ ([] : List Addr) from z2) List.not_mem_nil) List.not_mem_nil
      · obtain ⟨e1, _⟩ := hok b _ z
        obtain ⟨e2, _⟩ := hok2 b _ (un.frzs b ob _ z)
        rw [e] at e1
        cases e1
        exact e2
  cases q : K.lookup a with
  | none =>
    have only : ∀ b u, (if b = a then some (HO.frz { cls := .type "list", data := .seq vs.toArray } (.lst (ns.map V.int))) else none) = some u → b = a ∧ u = .frz { cls := .type "list", data := .seq vs.toArray } (.lst (ns.map V.int)) := fun b u z => by
      by_cases e : b = a
      · rw [if_pos e] at z; exact ⟨e, (Option.some.inj z).symm⟩
      · rw [if_neg e] at z; cases z
    refine go (fun b => if b = a then some (.frz { cls := .type "list", data := .seq vs.toArray } (.lst (ns.map V.int))) else none) (fun b => ?_) (.inl (.inr ⟨{ cls := .type "list", data := .seq vs.toArray }, if_pos rfl⟩)) (fun b u z => ?_) (fun b u z => (only b u z).1) fun _ _ => q
    · by_cases e : b = a
      · exact .inr ⟨_, _, if_pos e⟩
      · exact .inl (if_neg e)
    · obtain ⟨rfl, rfl⟩ := only b u z
      exact ⟨ha, by rw [List.length_map]; exact hz, vs, _, rv, ha⟩
  | some o =>
    have e := KX a o q
    rw [ha] at e
    cases e
    exact go (fun _ => none) (fun _ => .inl rfl) (.inr ⟨_, vs.toArray, _, q, rfl, rfl, rfl, by rw [List.size_toArray, nv]; exact hz, by simpa using rv⟩) (fun b u z => nomatch z) (fun b u z => nomatch z) fun u z => nomatch z
end
theorem walkG {l : PySem.W.OpenLaw} {n k : Nat} {q : Program} {loose : List Str} {XP : (Str → Option Value) → Heap → Prop} {YP : World → Heap → Prop} {d : DefRec} {K : Params → PySem.W.Frag} {CX : World → CXT} {sp : World → Sp} {x : Str}
    (most : l.most = some n) (small : n ≤ sizeLine) (plain : d.params.defaults = []) (room : Room k callerA) (known : ∀ (w : World) (h : Heap), YP w h → (K w.params).In h)
    (F : ∀ (w : World) (mg : Str → Option Value) (fa : Addr) (h : Heap), (K w.params).In h → h.Ns mainGlobals mg → mg d.name = some (.ref fa) →
      ∃ fd : FuncData, (∀ (s : Shared) (u : Value), BindsTo s fd ⟨[u], []⟩ [(x, u)]) ∧ ∀ base : Heap, (K w.params).In base → base.Ns mainGlobals mg → FnG l.prog w (K w.params) mg base (CX w) k fa fd [x] (sp w))
    (wish : ∀ (w : World) (H : Hp) (a : Addr) (ns : List Int), ns.length ≤ n → Only H → SqL (K w.params) H a (ns.map V.int) → sp w [.ref a] H (fun v _ => v = .bl true) fun _ _ _ => False)
    (no : ∀ (w : World) (H : Hp) (s : Shared) (e : Value) (s' : Shared), CX w [] H s (fun _ _ _ => False) e s' → False) : PySem.W.WalkO q loose XP YP l.row.toRowW d [] (fun f vs => PySem.call f vs) := by
  refine Att.attach_call most plain fun w t0 t1 mg mb fa o pm cd doc a vs ns G Y ho hd hcd hmg hobj hints hlen hg => ?_
  have kin := known w _ Y
  obtain ⟨fd, bind, run⟩ := F w mg fa _ kin G.T.g hmg
  exact law_callG kin G.T.g G.T.b G.T.builtins G.T.nolimit hg hobj hints (Nat.le_trans hlen small) room run bind (fun H hO hS => wish w H a ns hlen hO hS) fun H e s' => no w H t1 e s'
end GR
/-! Reading by data: what stands in the slots is told as data, the heap is carried along. -/
namespace DL
open PySem PySem.Spec PyProof.Rows L2 NB
/-- two ways -/
def Br (b : Bool) (A B : Prop) : Prop := (b = true → A) ∧ (b = false → B)
theorem Br.t {A B : Prop} (h : Br true A B) : A := h.1 rfl
theorem Br.f {A B : Prop} (h : Br false A B) : B := h.2 rfl
theorem brT {A B : Prop} (h : A) : Br true A B := ⟨fun _ => h, fun e => Bool.noConfusion e⟩
theorem brF {A B : Prop} (h : B) : Br false A B := ⟨fun e => Bool.noConfusion e, fun _ => h⟩
theorem brD {p A B : Prop} [Decidable p] (h : p → A) (k : ¬ p → B) : Br (decide p) A B := ⟨fun e => h (of_decide_eq_true e), fun e => k (of_decide_eq_false e)⟩
theorem brN {p A B : Prop} [Decidable p] (h : ¬ p → A) (k : p → B) : Br (!decide p) A B := ⟨fun e => h (fun z => by rw [decide_eq_true z] at e; cases e), fun e => k (Decidable.of_not_not fun z => by rw [decide_eq_false z] at e; cases e)⟩
theorem brY {p A B : Prop} [Decidable p] (c : p) (h : A) : Br (decide p) A B := brD (fun _ => h) fun z => absurd c z
theorem brX {p A B : Prop} [Decidable p] (c : ¬ p) (h : B) : Br (decide p) A B := brD (fun z => absurd z c) fun _ => h
theorem brB {b : Bool} {A B : Prop} (h : b = true → A) (k : b = false → B) : Br b A B := ⟨h, k⟩
theorem brNT {p A B : Prop} [Decidable p] (c : ¬ p) (h : A) : Br (!decide p) A B := brN (fun _ => h) fun z => absurd z c
theorem brNF {p A B : Prop} [Decidable p] (c : p) (h : B) : Br (!decide p) A B := brN (fun z => absurd c z) fun _ => h
mutual
/-- v is the data d, of objects that never change (they stand in F) -/
inductive Dv (F : Hp) : V → PyData → Prop
  | non : Dv F .non .none
  | bl (b : Bool) : Dv F (.bl b) (.bool b)
  | int (i : Int) : Dv F (.int i) (.int i)
  | str (x : Str) : Dv F (.str x) (.str x)
  | lst {a : Addr} {xs : List V} {ds : List PyData} : F a = some (.lst xs) → DvAll F xs ds → Dv F (.ref a) (.list ds)
  | tup {a : Addr} {xs : List V} {ds : List PyData} : F a = some (.tup xs) → DvAll F xs ds → Dv F (.ref a) (.tuple ds)
  | ob {a C dx : Addr} {fs : List (Str × V)} {ns ds : List PyData} : F a = some (.ins C dx fs) → ns = fs.map (fun p => PyData.str p.1) → DvAll F (fs.map Prod.snd) ds → Dv F (.ref a) (.dict [(.int (.ofNat C), .tuple ns), (.none, .list ds)])
inductive DvAll (F : Hp) : List V → List PyData → Prop
  | nil : DvAll F [] []
  | cons {v : V} {vs : List V} {d : PyData} {ds : List PyData} : Dv F v d → DvAll F vs ds → DvAll F (v :: vs) (d :: ds)
end
mutual
theorem Dv.mono {F F' : Hp} (s : Same F F') : ∀ {v : V} {d : PyData}, Dv F v d → Dv F' v d
  | _, _, .non => .non
  | _, _, .bl b => .bl b
  | _, _, .int i => .int i
  | _, _, .str x => .str x
  | _, _, .lst h hs => .lst (s _ _ h) (DvAll.mono s hs)
  | _, _, .tup h hs => .tup (s _ _ h) (DvAll.mono s hs)
  | _, _, .ob h e hs => .ob (s _ _ h) e (DvAll.mono s hs)
theorem DvAll.mono {F F' : Hp} (s : Same F F') : ∀ {vs : List V} {ds : List PyData}, DvAll F vs ds → DvAll F' vs ds
  | _, _, .nil => .nil
  | _, _, .cons h hs => .cons (Dv.mono s h) (DvAll.mono s hs)
end
mutual
theorem Dv.dp {K : PySem.W.Frag} {F : Hp} : ∀ {v : V} {d : PyData}, d.canLay0 = true → Dv F v d → Dp K F v d
  | _, _, _, .non => .non
  | _, _, _, .bl b => .bl b
  | _, _, _, .int i => .int i
  | _, _, _, .str x => .str x
  | _, _, c, .lst h hs => .lst (SqL.of h) (DvAll.dp (by rw [PyData.canLay0] at c; exact c) hs)
  | _, _, c, .tup h hs => .tup (SqT.of h) (DvAll.dp (by rw [PyData.canLay0] at c; exact c) hs)
  | _, _, c, .ob _ _ _ => by rw [PyData.canLay0] at c; cases c
theorem DvAll.dp {K : PySem.W.Frag} {F : Hp} : ∀ {vs : List V} {ds : List PyData}, PyData.canLayAll0 ds = true → DvAll F vs ds → DpAll K F vs ds
  | _, _, _, .nil => .nil
  | _, _, c, .cons h hs => .cons (Dv.dp (by rw [PyData.canLayAll0, Bool.and_eq_true] at c; exact c.1) h) (DvAll.dp (by rw [PyData.canLayAll0, Bool.and_eq_true] at c; exact c.2) hs)
end
theorem DvAll.length {F : Hp} : ∀ {vs : List V} {ds : List PyData}, DvAll F vs ds → vs.length = ds.length
  | _, _, .nil => rfl
  | _, _, .cons _ hs => congrArg (· + 1) (DvAll.length hs)
theorem DvAll.app {F : Hp} : ∀ {vs ws : List V} {ds es : List PyData}, DvAll F vs ds → DvAll F ws es → DvAll F (vs ++ ws) (ds ++ es)
  | _, _, _, _, .nil, h => h
  | _, _, _, _, .cons h hs, k => .cons h (DvAll.app hs k)
theorem DvAll.get {F : Hp} : ∀ {vs : List V} {ds : List PyData} {i : Nat} {d : PyData}, DvAll F vs ds → ds[i]? = some d → ∃ v, vs[i]? = some v ∧ Dv F v d
  | _, _, 0, _, .cons h _, e => by simp at e; subst e; exact ⟨_, rfl, h⟩
  | _, _, i + 1, d, .cons _ hs, e => by
    obtain ⟨v, h1, h2⟩ := DvAll.get (i := i) (d := d) hs (by simpa using e)
    exact ⟨v, by simpa using h1, h2⟩
theorem DvAll.get' {F : Hp} : ∀ {vs : List V} {ds : List PyData} {i : Nat} {v : V}, DvAll F vs ds → vs[i]? = some v → ∃ d, ds[i]? = some d ∧ Dv F v d
  | _, _, 0, _, .cons h _, e => by simp at e; subst e; exact ⟨_, rfl, h⟩
  | _, _, i + 1, d, .cons _ hs, e => by
    obtain ⟨v, h1, h2⟩ := DvAll.get' (i := i) (v := d) hs (by simpa using e)
    exact ⟨v, by simpa using h1, h2⟩
theorem DvAll.set {F : Hp} {v : V} {d : PyData} (h : Dv F v d) : ∀ {vs : List V} {ds : List PyData} (i : Nat), DvAll F vs ds → DvAll F (vs.set i v) (ds.set i d)
  | _, _, _, .nil => .nil
  | _, _, 0, .cons _ hs => .cons h hs
  | _, _, i + 1, .cons k hs => .cons k (DvAll.set h i hs)
theorem DvAll.take {F : Hp} : ∀ {vs : List V} {ds : List PyData} (n : Nat), DvAll F vs ds → DvAll F (vs.take n) (ds.take n)
  | _, _, 0, _ => .nil
  | _, _, _ + 1, .nil => .nil
  | _, _, n + 1, .cons h hs => .cons h (DvAll.take n hs)
theorem DvAll.drop {F : Hp} : ∀ {vs : List V} {ds : List PyData} (n : Nat), DvAll F vs ds → DvAll F (vs.drop n) (ds.drop n)
  | _, _, 0, h => h
  | _, _, _ + 1, .nil => .nil
  | _, _, n + 1, .cons _ hs => DvAll.drop n hs
theorem DvAll.rep {F : Hp} {vs : List V} {ds : List PyData} (h : DvAll F vs ds) : ∀ n : Nat, DvAll F (List.replicate n vs).flatten (List.replicate n ds).flatten
  | 0 => .nil
  | n + 1 => by rw [List.replicate_succ, List.replicate_succ, List.flatten_cons, List.flatten_cons]; exact h.app (DvAll.rep h n)
theorem DvAll.rev {F : Hp} : ∀ {vs : List V} {ds : List PyData}, DvAll F vs ds → DvAll F vs.reverse ds.reverse
  | _, _, .nil => .nil
  | _, _, .cons h hs => by rw [List.reverse_cons, List.reverse_cons]; exact (DvAll.rev hs).app (.cons h .nil)
/-- data that need no object -/
def flatD : PyData → Bool
  | .none => true
  | .bool _ => true
  | .int _ => true
  | .str _ => true
  | _ => false
theorem Dv.flat {F F' : Hp} {v : V} {d : PyData} (h : Dv F v d) (f : flatD d = true) : Dv F' v d := by
  cases h with
  | non => exact .non
  | bl b => exact .bl b
  | int i => exact .int i
  | str x => exact .str x
  | lst _ _ => cases f
  | tup _ _ => cases f
  | ob _ _ _ => cases f
theorem DvAll.flat {F F' : Hp} : ∀ {vs : List V} {ds : List PyData}, DvAll F vs ds → ds.all flatD = true → DvAll F' vs ds
  | _, _, .nil, _ => .nil
  | _, _, .cons h hs, f => by
    rw [List.all_cons, Bool.and_eq_true] at f
    exact .cons (h.flat f.1) (DvAll.flat hs f.2)
/-- what a slot is told to hold -/
inductive SV where
  | val (d : PyData)
  | own (ds : List PyData)
  | ali (ds : List PyData)
  | raw (v : V)
  | ent (ds : List PyData)
abbrev SD := List (Option SV)
abbrev Zt := List (Option V × Option SV)
def RV (H0 F H : Hp) (v : V) : SV → Prop
  | .val d => Dv F v d
  | .own ds => ∃ a vs, v = .ref a ∧ F a = none ∧ H0 a = none ∧ H a = some (.lst vs) ∧ DvAll F vs ds
  | .ali ds => ∃ a vs, v = .ref a ∧ H0 a = none ∧ H a = some (.lst vs) ∧ DvAll F vs ds
  | .raw u => v = u
  | .ent ds => ∃ a vs, v = .ref a ∧ H0 a = some (.lst vs) ∧ H a = some (.lst vs) ∧ DvAll F vs ds
def PairOk (H0 F H : Hp) (p : Option V × Option SV) : Prop := ∀ sv, p.2 = some sv → ∃ v, p.1 = some v ∧ RV H0 F H v sv
def Apart (p q : Option V × Option SV) : Prop := ∀ a es fs, p.1 = some (.ref a) → p.2 = some (.own es) → q.1 = some (.ref a) → q.2 = some (.own fs) → False
structure Rep (F0 H0 F H : Hp) (Z : Zt) : Prop where
  base : Same F0 F
  low : Same F H
  ent : Same H0 H
  apart : ∀ b, F0 b = none → H0 b ≠ none → F b = none
  ok : ∀ p ∈ Z, PairOk H0 F H p
  dist : Z.Pairwise Apart
variable {F0 H0 F H : Hp} {Z W : Zt}
theorem Rep.sub (r : Rep F0 H0 F H Z) (s : W.Sublist Z) : Rep F0 H0 F H W := ⟨r.base, r.low, r.ent, r.apart, fun p hp => r.ok p (s.subset hp), r.dist.sublist s⟩
theorem Rep.left {A B : Zt} (r : Rep F0 H0 F H (A ++ B)) : Rep F0 H0 F H A := r.sub (List.sublist_append_left A B)
/-- a new object -/
theorem PairOk.grow {p : Option V × Option SV} {a : Addr} {o : HO} (h : PairOk H0 F H p) (n : H a = none) : PairOk H0 F (upd H a o) p := fun sv e => by
  obtain ⟨v, e1, r⟩ := h sv e
  refine ⟨v, e1, ?_⟩
  cases sv with
  | val d => exact r
  | own ds =>
    obtain ⟨b, vs, q1, q2, q3, q4, q5⟩ := r
    exact ⟨b, vs, q1, q2, q3, by rw [upd_ne (ne_of_none q4 n)]; exact q4, q5⟩
  | ali ds =>
    obtain ⟨b, vs, q1, q3, q4, q5⟩ := r
    exact ⟨b, vs, q1, q3, by rw [upd_ne (ne_of_none q4 n)]; exact q4, q5⟩
  | raw u => exact r
  | ent ds =>
    obtain ⟨b, vs, q1, q3, q4, q5⟩ := r
    exact ⟨b, vs, q1, q3, by rw [upd_ne (ne_of_none q4 n)]; exact q4, q5⟩
theorem Rep.grow {a : Addr} {o : HO} (r : Rep F0 H0 F H Z) (n : H a = none) : Rep F0 H0 F (upd H a o) Z :=
  ⟨r.base, same_new r.low n, same_new r.ent n, r.apart, fun p hp => (r.ok p hp).grow n, r.dist⟩
/-- F grows by what is new -/
theorem PairOk.more {F' : Hp} {p : Option V × Option SV} (h : PairOk H0 F H p) (s : Same F F') (k : ∀ b, F b = none → H b ≠ none → F' b = none) : PairOk H0 F' H p := fun sv e => by
  obtain ⟨v, e1, r⟩ := h sv e
  refine ⟨v, e1, ?_⟩
  cases sv with
  | val d => exact r.mono s
  | own ds =>
    obtain ⟨b, vs, q1, q2, q3, q4, q5⟩ := r
    exact ⟨b, vs, q1, k b q2 (by rw [q4]; simp), q3, q4, q5.mono s⟩
  | ali ds =>
    obtain ⟨b, vs, q1, q3, q4, q5⟩ := r
    exact ⟨b, vs, q1, q3, q4, q5.mono s⟩
  | raw u => exact r
  | ent ds =>
    obtain ⟨b, vs, q1, q3, q4, q5⟩ := r
    exact ⟨b, vs, q1, q3, q4, q5.mono s⟩
/-- both grow -/
theorem PairOk.both {F' H' : Hp} {p : Option V × Option SV} (h : PairOk H0 F H p) (s : Same F F') (t : Same H H') (k : ∀ b, F b = none → H b ≠ none → F' b = none) : PairOk H0 F' H' p := fun sv e => by
  obtain ⟨v, e1, r⟩ := h sv e
  refine ⟨v, e1, ?_⟩
  cases sv with
  | val d => exact r.mono s
  | own ds =>
    obtain ⟨b, vs, q1, q2, q3, q4, q5⟩ := r
    exact ⟨b, vs, q1, k b q2 (by rw [q4]; simp), q3, t _ _ q4, q5.mono s⟩
  | ali ds =>
    obtain ⟨b, vs, q1, q3, q4, q5⟩ := r
    exact ⟨b, vs, q1, q3, t _ _ q4, q5.mono s⟩
  | raw u => exact r
  | ent ds =>
    obtain ⟨b, vs, q1, q3, q4, q5⟩ := r
    exact ⟨b, vs, q1, q3, t _ _ q4, q5.mono s⟩
theorem Rep.both {F' H' : Hp} (r : Rep F0 H0 F H Z) (s : Same F F') (l : Same F' H') (t : Same H H') (k : ∀ b, F b = none → H b ≠ none → F' b = none) : Rep F0 H0 F' H' Z :=
  ⟨r.base.trans s, l, r.ent.trans t, fun b h0 h1 => k b (r.apart b h0 h1) (by
    cases e : H0 b with
    | none => exact absurd e h1
    | some o => rw [r.ent _ _ e]; simp), fun p hp => (r.ok p hp).both s t k, r.dist⟩
theorem Rep.push {v : V} {sv : SV} (r : Rep F0 H0 F H Z) (h : RV H0 F H v sv) (d : ∀ a es, v = .ref a → sv = .own es → ∀ p ∈ Z, ∀ fs, p.1 = some (.ref a) → p.2 = some (.own fs) → False) : Rep F0 H0 F H (Z ++ [(some v, some sv)]) := by
  refine ⟨r.base, r.low, r.ent, r.apart, fun p hp => ?_, ?_⟩
  · rcases List.mem_append.mp hp with h1 | h1
    · exact r.ok p h1
    · rw [List.mem_singleton] at h1
      subst h1
      exact fun sv' e => ⟨v, rfl, (Option.some.inj e) ▸ h⟩
  · rw [List.pairwise_append]
    refine ⟨r.dist, List.pairwise_singleton _ _, fun p hp q hq => ?_⟩
    rw [List.mem_singleton] at hq
    subst hq
    exact fun a es fs e1 e2 e3 e4 => d a fs (Option.some.inj e3) (Option.some.inj e4) p hp es e1 e2
/-- a value that is no list of one's own -/
theorem Rep.pushV {v : V} {d : PyData} (r : Rep F0 H0 F H Z) (h : Dv F v d) : Rep F0 H0 F H (Z ++ [(some v, some (.val d))]) := r.push h fun _ _ _ e => nomatch e
theorem Rep.pushR {v : V} (r : Rep F0 H0 F H Z) : Rep F0 H0 F H (Z ++ [(some v, some (.raw v))]) := r.push rfl fun _ _ _ e => nomatch e
/-- a new list -/
theorem Rep.pushL {p : Addr} {vs : List V} {ds : List PyData} (r : Rep F0 H0 F H Z) (n : H p = none) (h : DvAll F vs ds) : Rep F0 H0 F (upd H p (.lst vs)) (Z ++ [(some (.ref p), some (.own ds))]) := by
  refine (r.grow n).push ⟨p, vs, rfl, r.low.free n, r.ent.free n, upd_same, h⟩ fun a es e1 _ q hq fs e3 e4 => ?_
  cases e1
  obtain ⟨v, e5, b, ws, e6, _, _, e7, _⟩ := r.ok q hq _ e4
  rw [e3] at e5
  cases e5
  cases e6
  rw [n] at e7
  cases e7
theorem same_two {F H : Hp} {p : Addr} {o : HO} (s : Same F H) (n : H p = none) : Same (upd F p o) (upd H p o) := fun b u e => by
  by_cases h : b = p
  · subst h; rw [upd_same] at e ⊢; exact e
  · rw [upd_ne h] at e ⊢; exact s _ _ e
/-- a new tuple (or a list that never changes) -/
theorem Rep.newF {p : Addr} {o : HO} (r : Rep F0 H0 F H Z) (n : H p = none) : Rep F0 H0 (upd F p o) (upd H p o) Z :=
  r.both (same_upd (r.low.free n)) (same_two r.low n) (same_upd n) fun b h1 h2 => by
    rw [upd_ne (fun e => by subst e; exact h2 n)]; exact h1
theorem Rep.pushT {p : Addr} {vs : List V} {ds : List PyData} (r : Rep F0 H0 F H Z) (n : H p = none) (h : DvAll F vs ds) : Rep F0 H0 (upd F p (.tup vs)) (upd H p (.tup vs)) (Z ++ [(some (.ref p), some (.val (.tuple ds)))]) :=
  (r.newF n).pushV (.tup upd_same (h.mono (same_upd (r.low.free n))))
/-- an own list is let go: it never changes again -/
theorem Rep.freeze {A B : Zt} {x : Option V} {ds : List PyData} (r : Rep F0 H0 F H (A ++ (x, some (.own ds)) :: B)) : ∃ F', Rep F0 H0 F' H (A ++ (x, some (.val (.list ds))) :: B) := by
  have hp := r.ok (x, some (.own ds)) (by simp)
  obtain ⟨v, e1, a, vs, e2, f1, f0, h1, hd⟩ := hp _ rfl
  subst e2
  have e1' : x = some (.ref a) := e1
  subst e1'
  have sF : Same F (upd F a (.lst vs)) := same_upd f1
  have part := r.dist
  rw [List.pairwise_append] at part
  obtain ⟨pA, pB, pAB⟩ := part
  rw [List.pairwise_cons] at pB
  have other : ∀ p, p ∈ A ∨ p ∈ B → PairOk H0 (upd F a (.lst vs)) H p := fun p hm sv e => by
    obtain ⟨w, e3, rr⟩ := r.ok p (by rcases hm with h | h <;> simp [h]) sv e
    refine ⟨w, e3, ?_⟩
    cases sv with
    | val d => exact rr.mono sF
    | own es =>
      obtain ⟨b, ws, q1, q2, q3, q4, q5⟩ := rr
      subst q1
      have ne : b ≠ a := fun z => by
        subst z
        rcases hm with h | h
        · exact pAB p h _ List.mem_cons_self b es ds e3 e rfl rfl
        · exact pB.1 p h b ds es rfl rfl e3 e
      exact ⟨b, ws, rfl, by rw [upd_ne ne]; exact q2, q3, q4, q5.mono sF⟩
    | ali es =>
      obtain ⟨b, ws, q1, q3, q4, q5⟩ := rr
      exact ⟨b, ws, q1, q3, q4, q5.mono sF⟩
    | raw u => exact rr
    | ent es =>
      obtain ⟨b, ws, q1, q3, q4, q5⟩ := rr
      exact ⟨b, ws, q1, q3, q4, q5.mono sF⟩
  refine ⟨upd F a (.lst vs), r.base.trans sF, fun b o e => ?_, r.ent, fun b h0 h1' => ?_, fun p hm => ?_, ?_⟩
  · by_cases h : b = a
    · subst h; rw [upd_same] at e; cases e; exact h1
    · rw [upd_ne h] at e; exact r.low _ _ e
  · rw [upd_ne (fun z => by subst z; exact h1' f0)]; exact r.apart b h0 h1'
  · rcases List.mem_append.mp hm with h | h
    · exact other p (.inl h)
    · rcases List.mem_cons.mp h with h | h
      · subst h
        exact fun sv e => by cases e; exact ⟨.ref a, rfl, .lst upd_same (hd.mono sF)⟩
      · exact other p (.inr h)
  · rw [List.pairwise_append]
    refine ⟨pA, List.pairwise_cons.mpr ⟨fun q hq a' es fs _ e2 _ _ => (by cases e2), pB.2⟩, fun p hp q hq => ?_⟩
    rcases List.mem_cons.mp hq with h | h
    · subst h
      exact fun a' es fs _ _ _ e4 => by cases e4
    · exact pAB p hp q (List.mem_cons_of_mem _ h)
/-- an own list changes -/
theorem Rep.put {A B : Zt} {a : Addr} {ds es : List PyData} {vs : List V} (r : Rep F0 H0 F H (A ++ (some (.ref a), some (.own ds)) :: B)) (na : ∀ p, p ∈ A ∨ p ∈ B → ∀ es, p.2 = some (.ali es) → p.1 ≠ some (.ref a)) (h : DvAll F vs es) :
    Rep F0 H0 F (upd H a (.lst vs)) (A ++ (some (.ref a), some (.own es)) :: B) := by
  obtain ⟨v, e1, a', ws, e2, f1, f0, h1, hd⟩ := r.ok (some (.ref a), some (.own ds)) (by simp) _ rfl
  cases e1
  cases e2
  have part := r.dist
  rw [List.pairwise_append] at part
  obtain ⟨pA, pB, pAB⟩ := part
  rw [List.pairwise_cons] at pB
  have other : ∀ p, p ∈ A ∨ p ∈ B → PairOk H0 F (upd H a (.lst vs)) p := fun p hm sv e => by
    obtain ⟨w, e3, rr⟩ := r.ok p (by rcases hm with h | h <;> simp [h]) sv e
    refine ⟨w, e3, ?_⟩
    cases sv with
    | val d => exact rr
    | own es =>
      obtain ⟨b, ws, q1, q2, q3, q4, q5⟩ := rr
      subst q1
      have ne : b ≠ a := fun z => by
        subst z
        rcases hm with h | h
        · exact pAB p h _ List.mem_cons_self b es ds e3 e rfl rfl
        · exact pB.1 p h b ds es rfl rfl e3 e
      exact ⟨b, ws, rfl, q2, q3, by rw [upd_ne ne]; exact q4, q5⟩
    | ali es =>
      obtain ⟨b, ws, q1, q3, q4, q5⟩ := rr
      subst q1
      exact ⟨b, ws, rfl, q3, by rw [upd_ne (fun z => by subst z; exact na p hm es e e3)]; exact q4, q5⟩
    | raw u => exact rr
    | ent es =>
      obtain ⟨b, ws, q1, q3, q4, q5⟩ := rr
      subst q1
      exact ⟨b, ws, rfl, q3, by rw [upd_ne (fun z => by subst z; rw [f0] at q3; cases q3)]; exact q4, q5⟩
  refine ⟨r.base, fun b o e => ?_, fun b o e => ?_, r.apart, fun p hm => ?_, ?_⟩
  · rw [upd_ne (fun z => by subst z; rw [f1] at e; cases e)]; exact r.low _ _ e
  · rw [upd_ne (fun z => by subst z; rw [f0] at e; cases e)]; exact r.ent _ _ e
  · rcases List.mem_append.mp hm with h' | h'
    · exact other p (.inl h')
    · rcases List.mem_cons.mp h' with h' | h'
      · subst h'
        exact fun sv e => by cases e; exact ⟨.ref a, rfl, a, vs, rfl, f1, f0, upd_same, h⟩
      · exact other p (.inr h')
  · rw [List.pairwise_append]
    refine ⟨pA, List.pairwise_cons.mpr ⟨fun q hq a' es' fs e1 _ e3 e4 => pB.1 q hq a' ds fs e1 rfl e3 e4, pB.2⟩, fun p hp q hq => ?_⟩
    rcases List.mem_cons.mp hq with h' | h'
    · subst h'
      exact fun a' es' fs e1 e2 e3 _ => pAB p hp _ List.mem_cons_self a' es' ds e1 e2 e3 rfl
    · exact pAB p hp q (List.mem_cons_of_mem _ h')
end DL
/-! Reading by data: expressions and tests. -/
namespace DL
open PySem PySem.Spec PyProof.Rows L2 NB
abbrev DX := SD → (SV → Prop) → Prop
abbrev DTX := SD → (Bool → Prop) → Prop
abbrev DAX := SD → (List SV → Prop) → Prop
def SV.al : SV → SV
  | .own ds => .ali ds
  | x => x
def SV.frz : SV → SV
  | .own ds => .val (.list ds)
  | .ali ds => .val (.list ds)
  | x => x
def SV.int? : SV → Option Int
  | .val (.int i) => some i
  | _ => none
def SV.bool? : SV → Option Bool
  | .val (.bool b) => some b
  | _ => none
def SV.dat? : SV → Option PyData
  | .val d => some d
  | .own ds => some (.list ds)
  | .ali ds => some (.list ds)
  | .raw _ => none
  | .ent ds => some (.list ds)
def SV.items? : SV → Option (List PyData)
  | .val (.list ds) => some ds
  | .own ds => some ds
  | .ali ds => some ds
  | .ent ds => some ds
  | _ => none
def SV.tup? : SV → Option (List PyData)
  | .val (.tuple ds) => some ds
  | _ => none
/-- data that stay: an own list is let go -/
def SV.fix? : SV → Option PyData
  | .val d => some d
  | .own ds => some (.list ds)
  | _ => none
def SV.flat : SV → Bool
  | .val d => flatD d
  | .own ds => ds.all flatD
  | .ali _ => false
  | .raw _ => true
  | .ent _ => false
def SV.isEnt : SV → Bool
  | .ent _ => true
  | _ => false
def SV.isAli : SV → Bool
  | .ali _ => true
  | _ => false
section
variable {F0 H0 F H : Hp} {v : V} {sv : SV}
theorem RV.int {i : Int} (r : RV H0 F H v sv) (e : sv.int? = some i) : v = .int i := by
  match sv, r, e with
  | .val (.int j), r, e => cases e; cases r; rfl
theorem RV.bool {b : Bool} (r : RV H0 F H v sv) (e : sv.bool? = some b) : v = .bl b := by
  match sv, r, e with
  | .val (.bool j), r, e => cases e; cases r; rfl
theorem RV.items {ds : List PyData} (r : RV H0 F H v sv) (l : Same F H) (e : sv.items? = some ds) : ∃ a vs, v = .ref a ∧ H a = some (.lst vs) ∧ DvAll F vs ds := by
  match sv, r, e with
  | .val (.list es), r, e =>
    cases e
    cases r with
    | lst h hs => exact ⟨_, _, rfl, l _ _ h, hs⟩
  | .own es, r, e =>
    cases e
    obtain ⟨a, vs, h1, _, _, h2, h3⟩ := r
    exact ⟨a, vs, h1, h2, h3⟩
  | .ali es, r, e =>
    cases e
    obtain ⟨a, vs, h1, _, h2, h3⟩ := r
    exact ⟨a, vs, h1, h2, h3⟩
  | .ent es, r, e =>
    cases e
    obtain ⟨a, vs, h1, _, h2, h3⟩ := r
    exact ⟨a, vs, h1, h2, h3⟩
theorem RV.tup {ds : List PyData} (r : RV H0 F H v sv) (l : Same F H) (e : sv.tup? = some ds) : ∃ a vs, v = .ref a ∧ H a = some (.tup vs) ∧ DvAll F vs ds := by
  match sv, r, e with
  | .val (.tuple es), r, e =>
    cases e
    cases r with
    | tup h hs => exact ⟨_, _, rfl, l _ _ h, hs⟩
theorem RV.dat {d : PyData} {K : PySem.W.Frag} (r : RV H0 F H v sv) (l : Same F H) (e : sv.dat? = some d) (c : d.canLay0 = true) : Dp K H v d := by
  match sv, r, e with
  | .val d', r, e => cases e; exact (r.mono l).dp c
  | .own es, r, e =>
    cases e
    obtain ⟨a, vs, rfl, _, _, h2, h3⟩ := r
    exact .lst (SqL.of h2) ((h3.mono l).dp (by rw [PyData.canLay0] at c; exact c))
  | .ali es, r, e =>
    cases e
    obtain ⟨a, vs, rfl, _, h2, h3⟩ := r
    exact .lst (SqL.of h2) ((h3.mono l).dp (by rw [PyData.canLay0] at c; exact c))
  | .ent es, r, e =>
    cases e
    obtain ⟨a, vs, rfl, _, h2, h3⟩ := r
    exact .lst (SqL.of h2) ((h3.mono l).dp (by rw [PyData.canLay0] at c; exact c))
theorem Rep.last {W : Zt} (r : Rep F0 H0 F H (W ++ [(some v, some sv)])) : RV H0 F H v sv := by
  obtain ⟨w, e, h⟩ := r.ok (some v, some sv) (by simp) _ rfl
  cases e
  exact h
/-- a temp that is an own list is let go -/
theorem Rep.fixLast {W : Zt} {d : PyData} (r : Rep F0 H0 F H (W ++ [(some v, some sv)])) (e : sv.fix? = some d) : ∃ F', Rep F0 H0 F' H (W ++ [(some v, some (.val d))]) := by
  match sv, r, e with
  | .val d', r, e => cases e; exact ⟨F, r⟩
  | .own es, r, e => cases e; exact r.freeze
theorem apart_symm {p q : Option V × Option SV} (h : Apart p q) : Apart q p := fun a es fs e1 e2 e3 e4 => h a fs es e3 e4 e1 e2
theorem Rep.perm {Z W : Zt} (r : Rep F0 H0 F H Z) (p : Z.Perm W) : Rep F0 H0 F H W :=
  ⟨r.base, r.low, r.ent, r.apart, fun q hq => r.ok q (p.mem_iff.mpr hq), (p.pairwise_iff fun h => apart_symm h).mp r.dist⟩
end
/-- an expression -/
class DE (F0 H0 : Hp) (t : TE) (f : outParam DX) : Prop where
  run : ∀ (Z T : Zt) (H : Hp) (P : SV → Prop) (Q : VK), (∃ F, Rep F0 H0 F H (Z ++ T)) → f (Z.map Prod.snd) P → (∀ sv, P sv → ∀ v H', (∃ F, Rep F0 H0 F H' (Z ++ (T ++ [(some v, some sv)]))) → Q v H') → t (Z.map Prod.fst) H Q
class DT (F0 H0 : Hp) (t : TT) (f : outParam DTX) : Prop where
  run : ∀ (Z T : Zt) (H : Hp) (P : Bool → Prop) (Q : Bool → Hp → Prop), (∃ F, Rep F0 H0 F H (Z ++ T)) → f (Z.map Prod.snd) P → (∀ b, P b → ∀ H', (∃ F, Rep F0 H0 F H' (Z ++ T)) → Q b H') → t (Z.map Prod.fst) H Q
def pr (p : V × SV) : Option V × Option SV := (some p.1, some p.2)
class DA (F0 H0 : Hp) (t : TA) (f : outParam DAX) : Prop where
  run : ∀ (Z T : Zt) (H : Hp) (P : List SV → Prop) (Q : List V → Hp → Prop), (∃ F, Rep F0 H0 F H (Z ++ T)) → f (Z.map Prod.snd) P → (∀ A : List (V × SV), P (A.map Prod.snd) → ∀ H', (∃ F, Rep F0 H0 F H' (Z ++ (T ++ A.map pr))) → Q (A.map Prod.fst) H') → t (Z.map Prod.fst) H Q
/-- an operator, by values -/
class OpD (F0 H0 : Hp) (r : R2) (o : outParam (SV → SV → (SV → Prop) → Prop)) : Prop where
  run : ∀ (W : Zt) (x y : V) (sx sy : SV) (H : Hp) (P : SV → Prop) (Q : VK), (∃ F, Rep F0 H0 F H (W ++ [(some x, some sx), (some y, some sy)])) → o sx sy P → (∀ sv, P sv → ∀ v H', (∃ F, Rep F0 H0 F H' (W ++ [(some v, some sv)])) → Q v H') → r x y H Q
/-- a built-in, by values -/
class CbD (F0 H0 : Hp) (r : List V → Hp → VK → Prop) (o : outParam (List SV → (SV → Prop) → Prop)) : Prop where
  run : ∀ (W : Zt) (A : List (V × SV)) (H : Hp) (P : SV → Prop) (Q : VK), (∃ F, Rep F0 H0 F H (W ++ A.map pr)) → o (A.map Prod.snd) P → (∀ sv, P sv → ∀ v H', (∃ F, Rep F0 H0 F H' (W ++ [(some v, some sv)])) → Q v H') → r (A.map Prod.fst) H Q
section
variable {F0 H0 F H : Hp} {K : PySem.W.Frag}
theorem slot_of {Z : Zt} {i : Nat} {sv : SV} (h : (Z.map Prod.snd)[i]? = some (some sv)) : ∃ x, Z[i]? = some (x, some sv) := by
  rw [List.getElem?_map] at h
  cases e : Z[i]? with
  | none => rw [e] at h; cases h
  | some p =>
    rw [e] at h
    obtain ⟨x, y⟩ := p
    have h' : y = some sv := Option.some.inj h
    exact ⟨x, by rw [h']⟩
def dVar (i : Nat) : DX := fun σ P => match σ[i]? with | some (some sv) => P sv.al | _ => False
theorem slot_val {Z T : Zt} {i : Nat} {sv : SV} (r : Rep F0 H0 F H (Z ++ T)) (h : (Z.map Prod.snd)[i]? = some (some sv)) : ∃ v, Z[i]? = some (some v, some sv) ∧ (Z.map Prod.fst)[i]? = some (some v) ∧ RV H0 F H v sv := by
  obtain ⟨x, hx⟩ := slot_of h
  obtain ⟨v, e, rv⟩ := r.ok (x, some sv) (List.mem_append_left _ (List.mem_of_getElem? hx)) _ rfl
  have e' : x = some v := e
  subst e'
  exact ⟨v, hx, by rw [List.getElem?_map, hx]; rfl, rv⟩
theorem RV.al {v : V} {sv : SV} (r : RV H0 F H v sv) : RV H0 F H v sv.al := by
  cases sv with
  | val d => exact r
  | own ds => obtain ⟨a, vs, h1, _, h0, h2, h3⟩ := r; exact ⟨a, vs, h1, h0, h2, h3⟩
  | ali ds => exact r
  | raw u => exact r
  | ent ds => exact r
instance (i : Nat) : DE F0 H0 (tVar i) (dVar i) where
  run Z T H P Q := fun ⟨F, r⟩ h q => by
    unfold dVar at h
    cases e : (Z.map Prod.snd)[i]? with
    | none => rw [e] at h; exact h.elim
    | some o =>
      cases o with
      | none => rw [e] at h; exact h.elim
      | some sv =>
        rw [e] at h
        obtain ⟨v, h1, h2, rv⟩ := slot_val r e
        refine ⟨v, h2, q _ h v H ⟨F, ?_⟩⟩
        rw [← List.append_assoc]
        refine r.push rv.al fun a es _ e2 => ?_
        cases sv <;> cases e2
def dK (d : PyData) : DX := fun _ P => P (.val d)
def dRaw (v : V) : DX := fun _ P => P (.raw v)
instance (i : Int) : DE F0 H0 (tC (.int i)) (dK (.int i)) where
  run Z T H P Q := fun ⟨F, r⟩ h q => q _ h _ H ⟨F, by rw [← List.append_assoc]; exact r.pushV (.int i)⟩
instance (b : Bool) : DE F0 H0 (tC (.bl b)) (dK (.bool b)) where
  run Z T H P Q := fun ⟨F, r⟩ h q => q _ h _ H ⟨F, by rw [← List.append_assoc]; exact r.pushV (.bl b)⟩
instance (x : Str) : DE F0 H0 (tC (.str x)) (dK (.str x)) where
  run Z T H P Q := fun ⟨F, r⟩ h q => q _ h _ H ⟨F, by rw [← List.append_assoc]; exact r.pushV (.str x)⟩
instance : DE F0 H0 (tC .non) (dK .none) where
  run Z T H P Q := fun ⟨F, r⟩ h q => q _ h _ H ⟨F, by rw [← List.append_assoc]; exact r.pushV .non⟩
instance (n : String) : DE F0 H0 (tC (.ty n)) (dRaw (.ty n)) where
  run Z T H P Q := fun ⟨F, r⟩ h q => q _ h _ H ⟨F, by rw [← List.append_assoc]; exact r.pushR⟩
instance (a : Addr) : DE F0 H0 (tC (.ref a)) (dRaw (.ref a)) where
  run Z T H P Q := fun ⟨F, r⟩ h q => q _ h _ H ⟨F, by rw [← List.append_assoc]; exact r.pushR⟩
def dOp (o : SV → SV → (SV → Prop) → Prop) (fa fb : DX) : DX := fun σ P => fa σ fun x => fb σ fun y => o x y P
theorem app3 (Z T : Zt) (p q : Option V × Option SV) : Z ++ ((T ++ [p]) ++ [q]) = (Z ++ T) ++ [p, q] := by simp
instance {r : R2} {o} {ta tb : TE} {fa fb : DX} [ho : OpD F0 H0 r o] [ha : DE F0 H0 ta fa] [hb : DE F0 H0 tb fb] : DE F0 H0 (tOp r ta tb) (dOp o fa fb) where
  run Z T H P Q := fun hr h q => ha.run Z T H _ _ hr h fun x h1 vx H1 r1 => hb.run Z _ H1 _ _ r1 h1 fun y h2 vy H2 r2 => ho.run (Z ++ T) vx vy x y H2 P Q (by rw [← app3]; exact r2) h2 fun sv hp v H3 r3 => q sv hp v H3 (by rw [← List.append_assoc]; exact r3)
/-- two numbers -/
def oI (C : Int → Int → Prop) (g : Int → Int → PyData) : SV → SV → (SV → Prop) → Prop := fun x y P => match x.int?, y.int? with | some i, some j => C i j ∧ P (.val (g i j)) | _, _ => False
def oI0 (g : Int → Int → PyData) : SV → SV → (SV → Prop) → Prop := fun x y P => match x.int?, y.int? with | some i, some j => P (.val (g i j)) | _, _ => False
theorem two {W : Zt} {x y : V} {sx sy : SV} (r : Rep F0 H0 F H (W ++ [(some x, some sx), (some y, some sy)])) : Rep F0 H0 F H W ∧ RV H0 F H x sx ∧ RV H0 F H y sy := by
  refine ⟨r.left, ?_, ?_⟩
  · obtain ⟨w, e, h⟩ := r.ok (some x, some sx) (by simp) _ rfl
    cases e; exact h
  · obtain ⟨w, e, h⟩ := r.ok (some y, some sy) (by simp) _ rfl
    cases e; exact h
theorem oI_of {C : Int → Int → Prop} {g : Int → Int → PyData} {g' : Int → Int → V} {r : R2} (hg : ∀ F i j, Dv F (g' i j) (g i j)) (hr : ∀ i j H Q, C i j → Q (g' i j) H → r (.int i) (.int j) H Q) : OpD F0 H0 r (oI C g) where
  run W x y sx sy H P Q := fun ⟨F, re⟩ h q => by
    obtain ⟨r0, r1, r2⟩ := two re
    unfold oI at h
    cases e1 : sx.int? with
    | none => rw [e1] at h; exact h.elim
    | some i =>
      cases e2 : sy.int? with
      | none => rw [e1, e2] at h; exact h.elim
      | some j =>
        rw [e1, e2] at h
        rw [r1.int e1, r2.int e2]
        exact hr i j H Q h.1 (q _ h.2 _ H ⟨F, r0.pushV (hg _ i j)⟩)
theorem oI0_of {g : Int → Int → PyData} {g' : Int → Int → V} {r : R2} (hg : ∀ F i j, Dv F (g' i j) (g i j)) (hr : ∀ i j H Q, Q (g' i j) H → r (.int i) (.int j) H Q) : OpD F0 H0 r (oI0 g) where
  run W x y sx sy H P Q := fun ⟨F, re⟩ h q => by
    obtain ⟨r0, r1, r2⟩ := two re
    unfold oI0 at h
    cases e1 : sx.int? with
    | none => rw [e1] at h; exact h.elim
    | some i =>
      cases e2 : sy.int? with
      | none => rw [e1, e2] at h; exact h.elim
      | some j =>
        rw [e1, e2] at h
        rw [r1.int e1, r2.int e2]
        exact hr i j H Q (q _ h _ H ⟨F, r0.pushV (hg _ i j)⟩)
instance {C : Int → Int → Prop} {g : Int → Int → Int} : OpD F0 H0 (rI C fun i j => .int (g i j)) (oI C fun i j => .int (g i j)) := oI_of (fun _ i j => .int _) fun i j H Q c q => ⟨i, j, rfl, rfl, c, q⟩
instance {g : Int → Int → Int} : OpD F0 H0 (rI0 fun i j => .int (g i j)) (oI0 fun i j => .int (g i j)) := oI0_of (fun _ i j => .int _) fun i j H Q q => ⟨i, j, rfl, rfl, q⟩
instance {g : Int → Int → Bool} : OpD F0 H0 (rI0 fun i j => .bl (g i j)) (oI0 fun i j => .bool (g i j)) := oI0_of (fun _ i j => .bl _) fun i j H Q q => ⟨i, j, rfl, rfl, q⟩
instance {g : Int → Int → Int} : OpD F0 H0 (ipI g) (oI0 fun i j => .int (g i j)) := oI0_of (fun _ i j => .int _) fun i j H Q q => ⟨i, j, rfl, rfl, q⟩
instance : OpD F0 H0 rEq (oI0 fun i j => .bool (decide (i = j))) := oI0_of (g' := fun i j => .bl (decide (i = j))) (fun _ i j => .bl _) fun i j H Q q => ⟨rfl, by
  have : decide (V.int i = V.int j) = decide (i = j) := by by_cases h : i = j <;> simp [h]
  rw [this]; exact q⟩
instance : OpD F0 H0 rNe (oI0 fun i j => .bool (!decide (i = j))) := oI0_of (g' := fun i j => .bl (!decide (i = j))) (fun _ i j => .bl _) fun i j H Q q => ⟨rfl, by
  have : decide (V.int i = V.int j) = decide (i = j) := by by_cases h : i = j <;> simp [h]
  rw [this]; exact q⟩
/-- == of data -/
structure oEqD (neg : Bool) (x y : SV) (P : SV → Prop) : Prop where
  h : match x.dat?, y.dat? with | some d, some e => SeqAt.shaped d = true ∧ SeqAt.shaped e = true ∧ P (.val (.bool (if neg then !PyData.eqv d e else PyData.eqv d e))) | _, _ => False
theorem oEqD_run {neg : Bool} {r : R2} (hr : ∀ x y H Q d e, Dp K H x d → Dp K H y e → SeqAt.shaped d = true → SeqAt.shaped e = true → Q (.bl (if neg then !PyData.eqv d e else PyData.eqv d e)) H → r x y H Q) : OpD F0 H0 r (oEqD neg) where
  run W x y sx sy H P Q := fun ⟨F, re⟩ h q => by
    obtain ⟨r0, r1, r2⟩ := two re
    obtain ⟨h⟩ := h
    cases e1 : sx.dat? with
    | none => rw [e1] at h; exact h.elim
    | some d =>
      cases e2 : sy.dat? with
      | none => rw [e1, e2] at h; exact h.elim
      | some e =>
        rw [e1, e2] at h
        exact hr x y H Q d e (r1.dat re.low e1 (SeqAt.canLay_of_shaped h.1)) (r2.dat re.low e2 (SeqAt.canLay_of_shaped h.2.1)) h.1 h.2.1 (q _ h.2.2 _ H ⟨F, r0.pushV (.bl _)⟩)
instance : OpD F0 H0 (rEqD K) (oEqD false) := oEqD_run fun x y H Q d e h1 h2 h3 h4 q => ⟨d, e, h1, h2, h3, h4, q⟩
instance : OpD F0 H0 (rNeD K) (oEqD true) := oEqD_run fun x y H Q d e h1 h2 h3 h4 q => ⟨d, e, h1, h2, h3, h4, q⟩
def SV.isN : SV → Bool
  | .val .none => true
  | .raw v => decide (v = .non)
  | _ => false
theorem RV.isN {v : V} {sv : SV} (r : RV H0 F H v sv) : decide (v = .non) = sv.isN := by
  cases sv with
  | val d =>
    cases r <;> first | rfl | simp [SV.isN]
  | own ds => obtain ⟨a, vs, rfl, _⟩ := r; rfl
  | ali ds => obtain ⟨a, vs, rfl, _⟩ := r; rfl
  | raw u => cases r; rfl
  | ent ds => obtain ⟨a, vs, rfl, _⟩ := r; rfl
def oIsN (neg : Bool) : SV → SV → (SV → Prop) → Prop := fun x y P => match y with | .val .none => P (.val (.bool (if neg then !x.isN else x.isN))) | _ => False
theorem oIsN_run {neg : Bool} {r : R2} (hr : ∀ x H Q, Q (.bl (if neg then !decide (x = .non) else decide (x = .non))) H → r x .non H Q) : OpD F0 H0 r (oIsN neg) where
  run W x y sx sy H P Q := fun ⟨F, re⟩ h q => by
    obtain ⟨r0, r1, r2⟩ := two re
    match sy, h, r2 with
    | .val .none, h, r2 =>
      cases r2
      refine hr x H Q ?_
      rw [r1.isN]
      exact q _ h _ H ⟨F, r0.pushV (.bl _)⟩
instance : OpD F0 H0 (fun x y H Q => y = .non ∧ Q (.bl (decide (x = .non))) H) (oIsN false) := oIsN_run fun x H Q q => ⟨rfl, q⟩
instance : OpD F0 H0 (fun x y H Q => y = .non ∧ Q (.bl (!decide (x = .non))) H) (oIsN true) := oIsN_run fun x H Q q => ⟨rfl, q⟩
/-- xs[i] -/
def oIx : SV → SV → (SV → Prop) → Prop := fun x y P => match x.items?, y.int? with | some ds, some i => ∃ d, atI ds i = some d ∧ P (.val d) | _, _ => False
theorem atI_all {vs : List V} {ds : List PyData} {i : Int} {d : PyData} (h : DvAll F vs ds) (e : atI ds i = some d) : ∃ v, atI vs i = some v ∧ Dv F v d := by
  unfold atI at e ⊢
  rw [h.length]
  cases k : ixN ds.length i with
  | none => rw [k] at e; cases e
  | some j =>
    rw [k] at e
    obtain ⟨v, h1, h2⟩ := h.get (i := j) (d := d) e
    exact ⟨v, h1, h2⟩
instance : OpD F0 H0 (rIxL K) oIx where
  run W x y sx sy H P Q := fun ⟨F, re⟩ h q => by
    obtain ⟨r0, r1, r2⟩ := two re
    unfold oIx at h
    cases e1 : sx.items? with
    | none => rw [e1] at h; exact h.elim
    | some ds =>
      cases e2 : sy.int? with
      | none => rw [e1, e2] at h; exact h.elim
      | some i =>
        rw [e1, e2] at h
        obtain ⟨d, hd, hp⟩ := h
        obtain ⟨a, vs, rfl, ha, hv⟩ := r1.items re.low e1
        obtain ⟨v, h1, h2⟩ := atI_all hv hd
        exact ⟨a, vs, i, v, rfl, r2.int e2, SqL.of ha, h1, q _ hp v H ⟨F, r0.pushV h2⟩⟩
def oIxT : SV → SV → (SV → Prop) → Prop := fun x y P => match x.tup?, y.int? with | some ds, some i => ∃ d, atI ds i = some d ∧ P (.val d) | _, _ => False
instance : OpD F0 H0 (rIxT K) oIxT where
  run W x y sx sy H P Q := fun ⟨F, re⟩ h q => by
    obtain ⟨r0, r1, r2⟩ := two re
    unfold oIxT at h
    cases e1 : sx.tup? with
    | none => rw [e1] at h; exact h.elim
    | some ds =>
      cases e2 : sy.int? with
      | none => rw [e1, e2] at h; exact h.elim
      | some i =>
        rw [e1, e2] at h
        obtain ⟨d, hd, hp⟩ := h
        obtain ⟨a, vs, rfl, ha, hv⟩ := r1.tup re.low e1
        obtain ⟨v, h1, h2⟩ := atI_all hv hd
        exact ⟨a, vs, i, v, rfl, r2.int e2, SqT.of ha, h1, q _ hp v H ⟨F, r0.pushV h2⟩⟩
def oCat : SV → SV → (SV → Prop) → Prop := fun x y P => match x.items?, y.items? with | some ds, some es => ds.length + es.length ≤ sizeLine ∧ P (.own (ds ++ es)) | _, _ => False
instance : OpD F0 H0 rCat oCat where
  run W x y sx sy H P Q := fun ⟨F, re⟩ h q => by
    obtain ⟨r0, r1, r2⟩ := two re
    unfold oCat at h
    cases e1 : sx.items? with
    | none => rw [e1] at h; exact h.elim
    | some ds =>
      cases e2 : sy.items? with
      | none => rw [e1, e2] at h; exact h.elim
      | some es =>
        rw [e1, e2] at h
        obtain ⟨hl, hp⟩ := h
        obtain ⟨a, vs, rfl, ha, hv⟩ := r1.items re.low e1
        obtain ⟨b, ws, rfl, hb, hw⟩ := r2.items re.low e2
        exact ⟨a, b, vs, ws, rfl, rfl, ha, hb, by rw [hv.length, hw.length]; exact hl, fun p np => q _ hp _ _ ⟨F, r0.pushL np (hv.app hw)⟩⟩
def oRep : SV → SV → (SV → Prop) → Prop := fun x y P => match x.items?, y.int? with | some ds, some k => k < 2 ^ 63 ∧ -(2 ^ 63) ≤ k ∧ ds.length * k.toNat ≤ sizeLine ∧ P (.own (List.replicate k.toNat ds).flatten) | _, _ => False
instance : OpD F0 H0 rRep oRep where
  run W x y sx sy H P Q := fun ⟨F, re⟩ h q => by
    obtain ⟨r0, r1, r2⟩ := two re
    unfold oRep at h
    cases e1 : sx.items? with
    | none => rw [e1] at h; exact h.elim
    | some ds =>
      cases e2 : sy.int? with
      | none => rw [e1, e2] at h; exact h.elim
      | some k =>
        rw [e1, e2] at h
        obtain ⟨h1, h2, h3, hp⟩ := h
        obtain ⟨a, vs, rfl, ha, hv⟩ := r1.items re.low e1
        exact ⟨a, k, vs, rfl, r2.int e2, ha, h2, h1, by rw [hv.length]; exact h3, fun p np => q _ hp _ _ ⟨F, r0.pushL np (hv.rep _)⟩⟩
/-- one value -/
def dUn (g : Int → Int) (fa : DX) : DX := fun σ P => fa σ fun x => match x.int? with | some i => P (.val (.int (g i))) | none => False
theorem one_tmp {Z T : Zt} {v : V} {sv : SV} (r : Rep F0 H0 F H (Z ++ (T ++ [(some v, some sv)]))) : Rep F0 H0 F H (Z ++ T) ∧ RV H0 F H v sv := by
  rw [← List.append_assoc] at r
  exact ⟨r.left, r.last⟩
theorem put_tmp {Z T : Zt} {v : V} {d : PyData} (r : Rep F0 H0 F H (Z ++ T)) (h : Dv F v d) : Rep F0 H0 F H (Z ++ (T ++ [(some v, some (.val d))])) := by
  rw [← List.append_assoc]
  exact r.pushV h
instance {g : Int → Int} {ta : TE} {fa : DX} [ha : DE F0 H0 ta fa] : DE F0 H0 (tUn (rU fun i => .int (g i)) ta) (dUn g fa) where
  run Z T H P Q := fun hr h q => ha.run Z T H _ _ hr h fun x h1 vx H1 ⟨F, r1⟩ => by
    cases e : x.int? with
    | none => rw [e] at h1; exact h1.elim
    | some i =>
      rw [e] at h1
      obtain ⟨r0, rx⟩ := one_tmp r1
      exact ⟨i, rx.int e, q _ h1 _ _ ⟨F, put_tmp r0 (.int _)⟩⟩
/-! ### tests -/
def dTest (fa : DX) : DTX := fun σ P => fa σ fun x => match x.bool? with | some b => P b | none => False
instance {ta : TE} {fa : DX} [ha : DE F0 H0 ta fa] : DT F0 H0 (tTest ta) (dTest fa) where
  run Z T H P Q := fun hr h q => ha.run Z T H _ _ hr h fun x h1 vx H1 ⟨F, r1⟩ => by
    cases e : x.bool? with
    | none => rw [e] at h1; exact h1.elim
    | some b =>
      rw [e] at h1
      obtain ⟨r0, rx⟩ := one_tmp r1
      exact ⟨b, rx.bool e, q _ h1 _ ⟨F, r0⟩⟩
instance {ta : TE} {fa : DX} [ha : DE F0 H0 ta fa] : DT F0 H0 (tB ta) (dTest fa) where
  run Z T H P Q := fun hr h q => ha.run Z T H _ _ hr h fun x h1 vx H1 ⟨F, r1⟩ => by
    cases e : x.bool? with
    | none => rw [e] at h1; exact h1.elim
    | some b =>
      rw [e] at h1
      obtain ⟨r0, rx⟩ := one_tmp r1
      exact ⟨b, rx.bool e, q _ h1 _ ⟨F, r0⟩⟩
def dAnd (fa fb : DTX) : DTX := fun σ P => fa σ fun b => Br b (fb σ P) (P false)
def dOr (fa fb : DTX) : DTX := fun σ P => fa σ fun b => Br b (P true) (fb σ P)
def dNot (fa : DTX) : DTX := fun σ P => fa σ fun b => P (!b)
instance {ta tb : TT} {fa fb : DTX} [ha : DT F0 H0 ta fa] [hb : DT F0 H0 tb fb] : DT F0 H0 (tAnd ta tb) (dAnd fa fb) where
  run Z T H P Q := fun hr h q => ha.run Z T H _ _ hr h fun b h1 H1 r1 => by
    cases b with
    | true => exact iteT (hb.run Z T H1 P Q r1 h1.t q)
    | false => exact iteF (q _ h1.f _ r1)
instance {ta tb : TT} {fa fb : DTX} [ha : DT F0 H0 ta fa] [hb : DT F0 H0 tb fb] : DT F0 H0 (tOr ta tb) (dOr fa fb) where
  run Z T H P Q := fun hr h q => ha.run Z T H _ _ hr h fun b h1 H1 r1 => by
    cases b with
    | true => exact iteT (q _ h1.t _ r1)
    | false => exact iteF (hb.run Z T H1 P Q r1 h1.f q)
instance {ta : TT} {fa : DTX} [ha : DT F0 H0 ta fa] : DT F0 H0 (tNot ta) (dNot fa) where
  run Z T H P Q := fun hr h q => ha.run Z T H _ _ hr h fun b h1 H1 r1 => q _ h1 _ r1
/-- truth of a value -/
def tTru (K : PySem.W.Frag) (ta : TE) : TT := fun σ H Q => ta σ H fun x H' => ∃ k, TruV K x H' k ∧ Q k H'
theorem pt_tru {X : Cx} {a : Expr} {ta : TE} (ha : PE X a ta) (he : ∀ whole, isTrue a X.env whole = (do let v ← whole; standAt a.pos; holding [v] (truthy v))) : PT X a (tTru X.K ta) := pt_truth ha he
def SV.tru? : SV → Option Bool
  | .val .none => some false
  | .val (.bool b) => some b
  | .val (.int i) => some (i != 0)
  | .val (.list ds) => some (!ds.isEmpty)
  | .own ds => some (!ds.isEmpty)
  | .ali ds => some (!ds.isEmpty)
  | _ => none
def dTru (fa : DX) : DTX := fun σ P => fa σ fun x => match x.tru? with | some b => P b | none => False
theorem all_empty : ∀ {vs : List V} {ds : List PyData}, DvAll F vs ds → vs.isEmpty = ds.isEmpty
  | _, _, .nil => rfl
  | _, _, .cons _ _ => rfl
theorem RV.tru {v : V} {sv : SV} {k : Bool} (r : RV H0 F H v sv) (l : Same F H) (e : sv.tru? = some k) : TruV K v H k := by
  match sv, r, e with
  | .val .none, r, e => cases e; cases r; rfl
  | .val (.bool b), r, e => cases e; cases r; rfl
  | .val (.int i), r, e => cases e; cases r; rfl
  | .val (.list ds), r, e =>
    cases e
    cases r with
    | lst h hs => exact .inl ⟨_, SqL.of (l _ _ h), by rw [all_empty hs]⟩
  | .own ds, r, e => cases e; obtain ⟨a, vs, rfl, _, _, h, hs⟩ := r; exact .inl ⟨_, SqL.of h, by rw [all_empty hs]⟩
  | .ali ds, r, e => cases e; obtain ⟨a, vs, rfl, _, h, hs⟩ := r; exact .inl ⟨_, SqL.of h, by rw [all_empty hs]⟩
instance {ta : TE} {fa : DX} [ha : DE F0 H0 ta fa] : DT F0 H0 (tTru K ta) (dTru fa) where
  run Z T H P Q := fun hr h q => ha.run Z T H _ _ hr h fun x h1 vx H1 ⟨F, r1⟩ => by
    cases e : x.tru? with
    | none => rw [e] at h1; exact h1.elim
    | some b =>
      rw [e] at h1
      obtain ⟨r0, rx⟩ := one_tmp r1
      exact ⟨b, rx.tru r1.low e, q _ h1 _ ⟨F, r0⟩⟩
/-! ### and, or, not as values; a if t else b -/
def dAndV (fa fb : DX) : DX := fun σ P => fa σ fun x => match x.bool? with | some b => Br b (fb σ P) (P (.val (.bool false))) | none => False
def dOrV (fa fb : DX) : DX := fun σ P => fa σ fun x => match x.bool? with | some b => Br b (P (.val (.bool true))) (fb σ P) | none => False
def dNotV (fa : DX) : DX := fun σ P => fa σ fun x => match x.bool? with | some b => P (.val (.bool (!b))) | none => False
def dIf (fc : DTX) (fa fb : DX) : DX := fun σ P => fc σ fun b => Br b (fa σ P) (fb σ P)
instance {ta tb : TE} {fa fb : DX} [ha : DE F0 H0 ta fa] [hb : DE F0 H0 tb fb] : DE F0 H0 (tAndV ta tb) (dAndV fa fb) where
  run Z T H P Q := fun hr h q => ha.run Z T H _ _ hr h fun x h1 vx H1 ⟨F, r1⟩ => by
    cases e : x.bool? with
    | none => rw [e] at h1; exact h1.elim
    | some b =>
      rw [e] at h1
      obtain ⟨r0, rx⟩ := one_tmp r1
      refine ⟨b, rx.bool e, ?_⟩
      cases b with
      | true => exact iteT (hb.run Z T H1 P Q ⟨F, r0⟩ h1.t q)
      | false => exact iteF (q _ h1.f _ _ ⟨F, put_tmp r0 (.bl _)⟩)
instance {ta tb : TE} {fa fb : DX} [ha : DE F0 H0 ta fa] [hb : DE F0 H0 tb fb] : DE F0 H0 (tOrV ta tb) (dOrV fa fb) where
  run Z T H P Q := fun hr h q => ha.run Z T H _ _ hr h fun x h1 vx H1 ⟨F, r1⟩ => by
    cases e : x.bool? with
    | none => rw [e] at h1; exact h1.elim
    | some b =>
      rw [e] at h1
      obtain ⟨r0, rx⟩ := one_tmp r1
      refine ⟨b, rx.bool e, ?_⟩
      cases b with
      | true => exact iteT (q _ h1.t _ _ ⟨F, put_tmp r0 (.bl _)⟩)
      | false => exact iteF (hb.run Z T H1 P Q ⟨F, r0⟩ h1.f q)
instance {ta : TE} {fa : DX} [ha : DE F0 H0 ta fa] : DE F0 H0 (tNotV ta) (dNotV fa) where
  run Z T H P Q := fun hr h q => ha.run Z T H _ _ hr h fun x h1 vx H1 ⟨F, r1⟩ => by
    cases e : x.bool? with
    | none => rw [e] at h1; exact h1.elim
    | some b =>
      rw [e] at h1
      obtain ⟨r0, rx⟩ := one_tmp r1
      exact ⟨b, rx.bool e, q _ h1 _ _ ⟨F, put_tmp r0 (.bl _)⟩⟩
instance {tc : TT} {ta tb : TE} {fc : DTX} {fa fb : DX} [hc : DT F0 H0 tc fc] [ha : DE F0 H0 ta fa] [hb : DE F0 H0 tb fb] : DE F0 H0 (tIf tc ta tb) (dIf fc fa fb) where
  run Z T H P Q := fun hr h q => hc.run Z T H _ _ hr h fun b h1 H1 r1 => by
    cases b with
    | true => exact iteT (ha.run Z T H1 P Q r1 h1.t q)
    | false => exact iteF (hb.run Z T H1 P Q r1 h1.f q)
/-- a < b < c -/
def dChain (o o' : SV → SV → (SV → Prop) → Prop) (fa fb fc : DX) : DX := fun σ P => fa σ fun x => fb σ fun y => o x y.al fun z => match z.bool? with | some b => Br b (fc σ fun w => o' y w P) (P (.val (.bool false))) | none => False
/-! ### arguments, displays -/
def dNil : DAX := fun _ P => P []
def dCons (fa : DX) (fr : DAX) : DAX := fun σ P => fa σ fun x => fr σ fun xs => P (x :: xs)
instance : DA F0 H0 tNil dNil where
  run Z T H P Q := fun hr h q => q [] h H (by simpa using hr)
instance {ta : TE} {tr : TA} {fa : DX} {fr : DAX} [ha : DE F0 H0 ta fa] [hb : DA F0 H0 tr fr] : DA F0 H0 (tCons ta tr) (dCons fa fr) where
  run Z T H P Q := fun hr h q => ha.run Z T H _ _ hr h fun x h1 vx H1 r1 => hb.run Z _ H1 _ _ r1 h1 fun A h2 H2 r2 => q ((vx, x) :: A) h2 H2 (by
    obtain ⟨F, r2⟩ := r2
    refine ⟨F, ?_⟩
    simpa [pr] using r2)
def allFix : List SV → Option (List PyData)
  | [] => some []
  | x :: xs => match x.fix?, allFix xs with | some d, some ds => some (d :: ds) | _, _ => none
theorem Rep.fixAll : ∀ {A : List (V × SV)} {W : Zt} {F : Hp} {ds : List PyData}, Rep F0 H0 F H (W ++ A.map pr) → allFix (A.map Prod.snd) = some ds → ∃ F', Rep F0 H0 F' H W ∧ DvAll F' (A.map Prod.fst) ds
  | [], W, F, ds, r, e => by cases e; exact ⟨F, r.left, .nil⟩
  | (v, sv) :: A, W, F, ds, r, e => by
    simp only [List.map_cons, allFix] at e
    cases e1 : sv.fix? with
    | none => rw [e1] at e; cases e
    | some d =>
      cases e2 : allFix (A.map Prod.snd) with
      | none => rw [e1, e2] at e; cases e
      | some es =>
        rw [e1, e2] at e
        cases e
        have r' : Rep F0 H0 F H (W ++ (some v, some sv) :: A.map pr) := r
        have r1 : ∃ F1, Rep F0 H0 F1 H (W ++ (some v, some (.val d)) :: A.map pr) := by
          match sv, e1, r' with
          | .val d', e1, r' => cases e1; exact ⟨F, r'⟩
          | .own es', e1, r' => cases e1; exact r'.freeze
        obtain ⟨F1, r1⟩ := r1
        have r2 : Rep F0 H0 F1 H ((W ++ [(some v, some (.val d))]) ++ A.map pr) := by simpa using r1
        obtain ⟨F2, r3, hs⟩ := Rep.fixAll (W := W ++ [(some v, some (.val d))]) r2 e2
        exact ⟨F2, r3.left, .cons r3.last hs⟩
def dLst (fa : DAX) : DX := fun σ P => fa σ fun xs => match allFix xs with | some ds => ds.length ≤ sizeLine ∧ P (.own ds) | none => False
def dTup (fa : DAX) : DX := fun σ P => fa σ fun xs => match allFix xs with | some ds => ds.length ≤ sizeLine ∧ P (.val (.tuple ds)) | none => False
instance {ta : TA} {fa : DAX} [ha : DA F0 H0 ta fa] : DE F0 H0 (tLst ta) (dLst fa) where
  run Z T H P Q := fun hr h q => ha.run Z T H _ _ hr h fun A h1 H1 ⟨F, r1⟩ => by
    cases e : allFix (A.map Prod.snd) with
    | none => rw [e] at h1; exact h1.elim
    | some ds =>
      rw [e] at h1
      rw [← List.append_assoc] at r1
      obtain ⟨F', r2, hs⟩ := r1.fixAll e
      exact ⟨by rw [hs.length]; exact h1.1, fun p np => q _ h1.2 _ _ ⟨F', by rw [← List.append_assoc]; exact r2.pushL np hs⟩⟩
instance {ta : TA} {fa : DAX} [ha : DA F0 H0 ta fa] : DE F0 H0 (tTup ta) (dTup fa) where
  run Z T H P Q := fun hr h q => ha.run Z T H _ _ hr h fun A h1 H1 ⟨F, r1⟩ => by
    cases e : allFix (A.map Prod.snd) with
    | none => rw [e] at h1; exact h1.elim
    | some ds =>
      rw [e] at h1
      rw [← List.append_assoc] at r1
      obtain ⟨F', r2, hs⟩ := r1.fixAll e
      exact ⟨by rw [hs.length]; exact h1.1, fun p np => q _ h1.2 _ _ ⟨_, by rw [← List.append_assoc]; exact r2.pushT np hs⟩⟩
end
end DL
/-! Reading by data: built-ins, slices, calls, comprehensions. -/
namespace DL
open PySem PySem.Spec PyProof.Rows L2 NB
section
variable {F0 H0 F H : Hp} {K : PySem.W.Frag}
instance {r r' : R2} {o o'} {ta tb tc : TE} {fa fb fc : DX} [ho : OpD F0 H0 r o] [ho' : OpD F0 H0 r' o'] [ha : DE F0 H0 ta fa] [hb : DE F0 H0 tb fb] [hc : DE F0 H0 tc fc] : DE F0 H0 (tChain r r' ta tb tc) (dChain o o' fa fb fc) where
  run Z T H P Q := fun hr h q => ha.run Z T H _ _ hr h fun x h1 vx H1 r1 => hb.run Z _ H1 _ _ r1 h1 fun y h2 vy H2 ⟨F2, r2⟩ => by
    -- the second value stays
    have r2' : Rep F0 H0 F2 H2 ((Z ++ T ++ [(some vy, some y)]) ++ [(some vx, some x), (some vy, some (SV.al y))]) := by
      have r3 : Rep F0 H0 F2 H2 ((Z ++ T) ++ [(some vx, some x), (some vy, some y)]) := by rw [← app3]; exact r2
      have r4 : Rep F0 H0 F2 H2 ((Z ++ T ++ [(some vy, some y)]) ++ [(some vx, some x)]) := r3.perm (by
        have e : (Z ++ T ++ [(some vy, some y)]) ++ [(some vx, some x)] = (Z ++ T) ++ [(some vy, some y), (some vx, some x)] := by simp
        rw [e]
        exact List.Perm.append_left (Z ++ T) (List.Perm.swap _ _ _))
      have r5 := r4.push (v := vy) (sv := SV.al y) (RV.al (two r3).2.2) (fun a es _ e2 => by cases y <;> cases e2)
      simpa using r5
    refine ho.run _ vx vy x (SV.al y) H2 _ _ ⟨F2, r2'⟩ h2 fun z hz vz H3 ⟨F3, r3⟩ => ?_
    cases e : z.bool? with
    | none => rw [e] at hz; exact hz.elim
    | some b =>
      rw [e] at hz
      have rz := r3.last.bool e
      have r4 := r3.left
      refine ⟨b, rz, ?_⟩
      cases b with
      | true =>
        refine iteT ?_
        have hz' : fc (Z.map Prod.snd) fun w => o' y w P := hz.t
        exact hc.run Z (T ++ [(some vy, some y)]) H3 _ _ ⟨F3, by rw [← List.append_assoc]; exact r4⟩ hz' fun w hw vw H4 r5 => ho'.run (Z ++ T) vy vw y w H4 P Q (by rw [← app3]; exact r5) hw fun sv hp v H5 r6 => q sv hp v H5 (by rw [← List.append_assoc]; exact r6)
      | false => exact iteF (q _ hz.f _ _ ⟨F3, put_tmp r4.left (.bl _)⟩)
/-! ### built-ins -/
instance {r} {o} {ta : TA} {fa : DAX} [hc : CbD F0 H0 r o] [ha : DA F0 H0 ta fa] : DE F0 H0 (tCB r ta) (fun σ P => fa σ fun xs => o xs P) where
  run Z T H P Q := fun hr h q => ha.run Z T H _ _ hr h fun A h1 H1 r1 => hc.run (Z ++ T) A H1 P Q (by rw [List.append_assoc]; exact r1) h1 fun sv hp v H2 r2 => q sv hp v H2 (by rw [← List.append_assoc]; exact r2)
theorem one_arg {W : Zt} {v : V} {sv : SV} (r : Rep F0 H0 F H (W ++ [(v, sv)].map pr)) : Rep F0 H0 F H W ∧ RV H0 F H v sv := ⟨r.left, Rep.last r⟩
theorem two_arg {W : Zt} {v w : V} {sv sw : SV} (r : Rep F0 H0 F H (W ++ [(v, sv), (w, sw)].map pr)) : Rep F0 H0 F H W ∧ RV H0 F H v sv ∧ RV H0 F H w sw := two r
/-- a rule of one argument -/
theorem CbD.one {r : List V → Hp → VK → Prop} {o : SV → (SV → Prop) → Prop}
    (h : ∀ (W : Zt) (x : V) (sx : SV) (H F : Hp) (P : SV → Prop) (Q : VK), Rep F0 H0 F H W → RV H0 F H x sx → Same F H → o sx P → (∀ sv, P sv → ∀ v H', (∃ F, Rep F0 H0 F H' (W ++ [(some v, some sv)])) → Q v H') → r [x] H Q) :
    CbD F0 H0 r (fun xs P => match xs with | [x] => o x P | _ => False) where
  run W A H P Q := fun ⟨F, re⟩ ho q => by
    match A, re, ho with
    | [(x, sx)], re, ho => obtain ⟨r0, r1⟩ := one_arg re; exact h W x sx H F P Q r0 r1 re.low ho q
theorem CbD.two {r : List V → Hp → VK → Prop} {o : SV → SV → (SV → Prop) → Prop}
    (h : ∀ (W : Zt) (x y : V) (sx sy : SV) (H F : Hp) (P : SV → Prop) (Q : VK), Rep F0 H0 F H W → RV H0 F H x sx → RV H0 F H y sy → Same F H → o sx sy P → (∀ sv, P sv → ∀ v H', (∃ F, Rep F0 H0 F H' (W ++ [(some v, some sv)])) → Q v H') → r [x, y] H Q) :
    CbD F0 H0 r (fun xs P => match xs with | [x, y] => o x y P | _ => False) where
  run W A H P Q := fun ⟨F, re⟩ ho q => by
    match A, re, ho with
    | [(x, sx), (y, sy)], re, ho => obtain ⟨r0, r1, r2⟩ := two_arg re; exact h W x y sx sy H F P Q r0 r1 r2 re.low ho q
def bLen : SV → (SV → Prop) → Prop := fun x P => match x.items? with
  | some ds => P (.val (.int ds.length))
  | none => match x.tup? with
    | some ds => P (.val (.int ds.length))
    | none => False
instance : CbD F0 H0 (fun xs H Q => ∃ p ys, xs = [.ref p] ∧ (SqL K H p ys ∨ SqT K H p ys) ∧ Q (.int ys.length) H) (fun xs P => match xs with | [x] => bLen x P | _ => False) :=
  .one fun W x sx H F P Q r rx l h q => by
    unfold bLen at h
    cases e : sx.items? with
    | some ds =>
      rw [e] at h
      obtain ⟨a, vs, rfl, ha, hv⟩ := rx.items l e
      exact ⟨a, vs, rfl, .inl (SqL.of ha), q _ h _ _ ⟨F, by rw [hv.length]; exact r.pushV (.int _)⟩⟩
    | none =>
      rw [e] at h
      cases e2 : sx.tup? with
      | none => rw [e2] at h; exact h.elim
      | some ds =>
        rw [e2] at h
        obtain ⟨a, vs, rfl, ha, hv⟩ := rx.tup l e2
        exact ⟨a, vs, rfl, .inr (SqT.of ha), q _ h _ _ ⟨F, by rw [hv.length]; exact r.pushV (.int _)⟩⟩
def bInt : SV → (SV → Prop) → Prop := fun x P => match x.int? with
  | some i => P (.val (.int i))
  | none => match x.bool? with
    | some b => P (.val (.int (if b then 1 else 0)))
    | none => False
instance : CbD F0 H0 (fun xs H Q => (∃ i, xs = [.int i] ∧ Q (.int i) H) ∨ ∃ k, xs = [.bl k] ∧ Q (.int (if k then 1 else 0)) H) (fun xs P => match xs with | [x] => bInt x P | _ => False) :=
  .one fun W x sx H F P Q r rx l h q => by
    unfold bInt at h
    cases e : sx.int? with
    | some i => rw [e] at h; rw [rx.int e]; exact .inl ⟨i, rfl, q _ h _ _ ⟨F, r.pushV (.int _)⟩⟩
    | none =>
      rw [e] at h
      cases e2 : sx.bool? with
      | none => rw [e2] at h; exact h.elim
      | some b => rw [e2] at h; rw [rx.bool e2]; exact .inr ⟨b, rfl, q _ h _ _ ⟨F, r.pushV (.int _)⟩⟩
def bI1 (g : Int → Int) : SV → (SV → Prop) → Prop := fun x P => match x.int? with | some i => P (.val (.int (g i))) | none => False
def bI2 (g : Int → Int → Int) : SV → SV → (SV → Prop) → Prop := fun x y P => match x.int?, y.int? with | some i, some j => P (.val (.int (g i j))) | _, _ => False
instance {g : Int → Int} : CbD F0 H0 (fun xs H Q => ∃ i : Int, xs = [.int i] ∧ Q (.int (g i)) H) (fun xs P => match xs with | [x] => bI1 g x P | _ => False) :=
  .one fun W x sx H F P Q r rx l h q => by
    unfold bI1 at h
    cases e : sx.int? with
    | none => rw [e] at h; exact h.elim
    | some i => rw [e] at h; exact ⟨i, by rw [rx.int e], q _ h _ _ ⟨F, r.pushV (.int _)⟩⟩
instance {g : Int → Int → Int} : CbD F0 H0 (fun xs H Q => ∃ i j : Int, xs = [.int i, .int j] ∧ Q (.int (g i j)) H) (fun xs P => match xs with | [x, y] => bI2 g x y P | _ => False) :=
  .two fun W x y sx sy H F P Q r rx ry l h q => by
    unfold bI2 at h
    cases e : sx.int? with
    | none => rw [e] at h; exact h.elim
    | some i =>
      cases e2 : sy.int? with
      | none => rw [e, e2] at h; exact h.elim
      | some j => rw [e, e2] at h; exact ⟨i, j, by rw [rx.int e, ry.int e2], q _ h _ _ ⟨F, r.pushV (.int _)⟩⟩
def bList : SV → (SV → Prop) → Prop := fun x P => match x.items? with
  | some ds => P (.own ds)
  | none => match x.tup? with
    | some ds => P (.own ds)
    | none => False
instance : CbD F0 H0 (fun xs H Q => ∃ p ys, xs = [.ref p] ∧ (SqL K H p ys ∨ SqT K H p ys) ∧ ∀ l, H l = none → Q (.ref l) (upd H l (.lst ys))) (fun xs P => match xs with | [x] => bList x P | _ => False) :=
  .one fun W x sx H F P Q r rx l h q => by
    unfold bList at h
    cases e : sx.items? with
    | some ds =>
      rw [e] at h
      obtain ⟨a, vs, rfl, ha, hv⟩ := rx.items l e
      exact ⟨a, vs, rfl, .inl (SqL.of ha), fun p np => q _ h _ _ ⟨F, r.pushL np hv⟩⟩
    | none =>
      rw [e] at h
      cases e2 : sx.tup? with
      | none => rw [e2] at h; exact h.elim
      | some ds =>
        rw [e2] at h
        obtain ⟨a, vs, rfl, ha, hv⟩ := rx.tup l e2
        exact ⟨a, vs, rfl, .inr (SqT.of ha), fun p np => q _ h _ _ ⟨F, r.pushL np hv⟩⟩
/-- lists of ints -/
def LI (ns : List Int) : List PyData := ns.map PyData.int
theorem all_ints : ∀ {vs : List V} {ns : List Int}, DvAll F vs (LI ns) → vs = ns.map V.int
  | _, [], h => by cases h; rfl
  | _, n :: ns, h => by
    unfold LI at h
    cases h with
    | cons h hs => cases h; rw [all_ints hs]; rfl
theorem all_bools : ∀ {vs : List V} {bs : List Bool}, DvAll F vs (bs.map PyData.bool) → vs = bs.map V.bl
  | _, [], h => by cases h; rfl
  | _, n :: ns, h => by
    cases h with
    | cons h hs => cases h; rw [all_bools hs]; rfl
def bMax : SV → (SV → Prop) → Prop := fun x P => ∃ ns : List Int, x.items? = some (LI ns) ∧ 0 < ns.length ∧ ∀ m, m ∈ ns → (∀ y, y ∈ ns → y ≤ m) → P (.val (.int m))
def bMin : SV → (SV → Prop) → Prop := fun x P => ∃ ns : List Int, x.items? = some (LI ns) ∧ 0 < ns.length ∧ ∀ m, m ∈ ns → (∀ y, y ∈ ns → m ≤ y) → P (.val (.int m))
def bSum : SV → (SV → Prop) → Prop := fun x P => ∃ ns : List Int, x.items? = some (LI ns) ∧ P (.val (.int ns.sum))
def bAny : SV → (SV → Prop) → Prop := fun x P => ∃ bs : List Bool, x.items? = some (bs.map PyData.bool) ∧ P (.val (.bool (bs.any id)))
def bAll : SV → (SV → Prop) → Prop := fun x P => ∃ bs : List Bool, x.items? = some (bs.map PyData.bool) ∧ P (.val (.bool (bs.all id)))
instance : CbD F0 H0 (rMax K) (fun xs P => match xs with | [x] => bMax x P | _ => False) :=
  .one fun W x sx H F P Q r rx l ⟨ns, e, hl, h⟩ q => by
    obtain ⟨a, vs, rfl, ha, hv⟩ := rx.items l e
    rw [all_ints hv] at ha
    exact ⟨a, ns, rfl, SqL.of ha, hl, fun m h1 h2 => q _ (h m h1 h2) _ _ ⟨F, r.pushV (.int _)⟩⟩
instance : CbD F0 H0 (rMin K) (fun xs P => match xs with | [x] => bMin x P | _ => False) :=
  .one fun W x sx H F P Q r rx l ⟨ns, e, hl, h⟩ q => by
    obtain ⟨a, vs, rfl, ha, hv⟩ := rx.items l e
    rw [all_ints hv] at ha
    exact ⟨a, ns, rfl, SqL.of ha, hl, fun m h1 h2 => q _ (h m h1 h2) _ _ ⟨F, r.pushV (.int _)⟩⟩
instance : CbD F0 H0 (rSum K) (fun xs P => match xs with | [x] => bSum x P | _ => False) :=
  .one fun W x sx H F P Q r rx l ⟨ns, e, h⟩ q => by
    obtain ⟨a, vs, rfl, ha, hv⟩ := rx.items l e
    rw [all_ints hv] at ha
    exact ⟨a, ns, rfl, SqL.of ha, q _ h _ _ ⟨F, r.pushV (.int _)⟩⟩
instance : CbD F0 H0 (rAny K) (fun xs P => match xs with | [x] => bAny x P | _ => False) :=
  .one fun W x sx H F P Q r rx l ⟨ns, e, h⟩ q => by
    obtain ⟨a, vs, rfl, ha, hv⟩ := rx.items l e
    rw [all_bools hv] at ha
    exact ⟨a, ns, rfl, SqL.of ha, q _ h _ _ ⟨F, r.pushV (.bl _)⟩⟩
instance : CbD F0 H0 (rAll K) (fun xs P => match xs with | [x] => bAll x P | _ => False) :=
  .one fun W x sx H F P Q r rx l ⟨ns, e, h⟩ q => by
    obtain ⟨a, vs, rfl, ha, hv⟩ := rx.items l e
    rw [all_bools hv] at ha
    exact ⟨a, ns, rfl, SqL.of ha, q _ h _ _ ⟨F, r.pushV (.bl _)⟩⟩
def bDivmod : SV → SV → (SV → Prop) → Prop := fun x y P => match x.int?, y.int? with | some i, some j => CDiv i j ∧ P (.val (.tuple [.int (i / j), .int (i % j)])) | _, _ => False
instance : CbD F0 H0 (fun xs H Q => ∃ i j, xs = [.int i, .int j] ∧ CDiv i j ∧ ∀ p, H p = none → Q (.ref p) (upd H p (.tup [.int (i / j), .int (i % j)]))) (fun xs P => match xs with | [x, y] => bDivmod x y P | _ => False) :=
  .two fun W x y sx sy H F P Q r rx ry l h q => by
    unfold bDivmod at h
    cases e : sx.int? with
    | none => rw [e] at h; exact h.elim
    | some i =>
      cases e2 : sy.int? with
      | none => rw [e, e2] at h; exact h.elim
      | some j =>
        rw [e, e2] at h
        exact ⟨i, j, by rw [rx.int e, ry.int e2], h.1, fun p np => q _ h.2 _ _ ⟨_, r.pushT np (.cons (.int _) (.cons (.int _) .nil))⟩⟩
/-- isinstance(x, list), isinstance(x, bool) -/
def SV.cls? : SV → Option String
  | .val .none => some "NoneType"
  | .val (.bool _) => some "bool"
  | .val (.int _) => some "int"
  | .val (.list _) => some "list"
  | .val (.tuple _) => some "tuple"
  | .own _ => some "list"
  | .ali _ => some "list"
  | _ => none
def bIs : SV → SV → (SV → Prop) → Prop := fun x y P => match x.cls?, y with | some t, .raw (.ty n) => ∃ b, (∀ K, PySem.W.kitOne K (.type t) (.type n) = some b) ∧ P (.val (.bool b)) | _, _ => False
/-! ### slices -/
abbrev DOX := SD → (Option Int → Prop) → Prop
class DOc (F0 H0 : Hp) (t : TO) (f : outParam DOX) : Prop where
  run : ∀ (Z T : Zt) (H : Hp) (P : Option Int → Prop) (Q : Option Int → Hp → Prop), (∃ F, Rep F0 H0 F H (Z ++ T)) → f (Z.map Prod.snd) P → (∀ b, P b → ∀ H', (∃ F, Rep F0 H0 F H' (Z ++ T)) → Q b H') → t (Z.map Prod.fst) H Q
def dNoPart : DOX := fun _ P => P none
def dPart (fa : DX) : DOX := fun σ P => fa σ fun x => match x.int? with | some i => P (some i) | none => False
instance : DOc F0 H0 tNoPart dNoPart where
  run Z T H P Q := fun hr h q => q _ h _ hr
instance {ta : TE} {fa : DX} [ha : DE F0 H0 ta fa] : DOc F0 H0 (tPart ta) (dPart fa) where
  run Z T H P Q := fun hr h q => ha.run Z T H _ _ hr h fun x h1 vx H1 ⟨F, r1⟩ => by
    cases e : x.int? with
    | none => rw [e] at h1; exact h1.elim
    | some i =>
      rw [e] at h1
      obtain ⟨r0, rx⟩ := one_tmp r1
      exact ⟨i, rx.int e, q _ h1 _ ⟨F, r0⟩⟩
def cutD (xs : List PyData) (lo hi : Option Int) : List PyData := (xs.drop (HT.sIx xs.length 0 lo)).take (HT.sIx xs.length xs.length hi - HT.sIx xs.length 0 lo)
theorem cut_all {vs : List V} {ds : List PyData} (h : DvAll F vs ds) (lo hi : Option Int) : DvAll F (cutV vs lo hi) (cutD ds lo hi) := by
  unfold cutV cutD
  rw [h.length]
  exact (h.drop _).take _
def dSl (fa : DX) (fl fh : DOX) : DX := fun σ P => fa σ fun x => fl σ fun lo => fh σ fun hi => match x.items? with | some ds => P (.own (cutD ds lo hi)) | none => False
instance {ta : TE} {tl th : TO} {fa : DX} {fl fh : DOX} [ha : DE F0 H0 ta fa] [hl : DOc F0 H0 tl fl] [hh : DOc F0 H0 th fh] : DE F0 H0 (tSl (rSlL K) ta tl th) (dSl fa fl fh) where
  run Z T H P Q := fun hr h q => ha.run Z T H _ _ hr h fun x h1 vx H1 r1 => hl.run Z _ H1 _ _ r1 h1 fun lo h2 H2 r2 => hh.run Z _ H2 _ _ r2 h2 fun hi h3 H3 ⟨F, r3⟩ => by
    cases e : x.items? with
    | none => rw [e] at h3; exact h3.elim
    | some ds =>
      rw [e] at h3
      obtain ⟨r0, rx⟩ := one_tmp r3
      obtain ⟨a, vs, rfl, ha', hv⟩ := rx.items r3.low e
      exact ⟨a, vs, rfl, SqL.of ha', fun p np => q _ h3 _ _ ⟨F, by rw [← List.append_assoc]; exact r0.pushL np (cut_all hv lo hi)⟩⟩
/-! ### calls -/
inductive Rs where
  | ok (sv : SV)
  | er (C : Addr) (i : Int)
/-- a contract: from what stands (F) and the arguments, the set of what may come -/
abbrev RC := Hp → List SV → (Rs → Prop) → Prop
def spF (R : RC) : Sp := fun vs H Q E => ∃ (F : Hp) (A : List (V × SV)) (S : Rs → Prop), vs = A.map Prod.fst ∧ Rep F H F H (A.map pr) ∧ (∀ s ∈ A.map Prod.snd, s.isAli = false) ∧ R F (A.map Prod.snd) S ∧ ∀ r, S r → match r with
  | .ok sv => ∀ v H', (∃ F', Rep F H F' H' [(some v, some sv)]) → Q v H'
  | .er C i => ∀ dd H', Same H H' → H' dd = none → E (.ref C) (some dd) (upd H' dd (.xd [("at", .int i)]))
class MonoR (R : RC) : Prop where
  mono : ∀ {F F' : Hp} {as : List SV} {S : Rs → Prop}, Same F F' → R F as S → R F' as S
/-- a contract that asks nothing of what stands -/
def pur (R : List SV → (Rs → Prop) → Prop) : RC := fun _ => R
instance {R} : MonoR (pur R) := ⟨fun _ h => h⟩
/-- the arguments, let go for the call: the caller's own lists are put into the frozen part that the callee sees -/
def keepArgs (F H : Hp) : List (V × SV) → Hp
  | [] => F
  | (.ref a, .own _) :: A => fun b => if b = a then H b else keepArgs F H A b
  | (.ref a, .ali _) :: A => fun b => if b = a then H b else keepArgs F H A b
  | _ :: A => keepArgs F H A
theorem keepArgs_at (F H : Hp) (l : Same F H) : ∀ A : List (V × SV), Same F (keepArgs F H A) ∧ Same (keepArgs F H A) H
  | [] => ⟨Same.refl _, l⟩
  | (v, sv) :: A => by
    obtain ⟨h1, h2⟩ := keepArgs_at F H l A
    have two : ∀ a : Addr, Same F (fun b => if b = a then H b else keepArgs F H A b) ∧ Same (fun b => if b = a then H b else keepArgs F H A b) H := fun a => ⟨fun b o e => by
      show (if b = a then H b else keepArgs F H A b) = some o
      by_cases z : b = a
      · rw [if_pos z]; exact l _ _ e
      · rw [if_neg z]; exact h1 _ _ e, fun b o e => by
      have e' : (if b = a then H b else keepArgs F H A b) = some o := e
      by_cases z : b = a
      · rw [if_pos z] at e'; exact e'
      · rw [if_neg z] at e'; exact h2 _ _ e'⟩
    cases v <;> cases sv <;> first | exact ⟨h1, h2⟩ | exact two _
theorem keepArgs_sub (F H : Hp) : ∀ (A : List (V × SV)) (b : Addr), keepArgs F H A b ≠ F b → ∃ sv, (V.ref b, sv) ∈ A ∧ ((∃ ds, sv = .own ds) ∨ ∃ ds, sv = .ali ds)
  | [], b, h => absurd rfl h
  | (v, sv) :: A, b, h => by
    have rec_ : keepArgs F H A b ≠ F b → ∃ sv', (V.ref b, sv') ∈ (v, sv) :: A ∧ ((∃ ds, sv' = .own ds) ∨ ∃ ds, sv' = .ali ds) := fun z => by
      obtain ⟨s, m, k⟩ := keepArgs_sub F H A b z
      exact ⟨s, List.mem_cons_of_mem _ m, k⟩
    have two : ∀ (a : Addr) (ds : List PyData), (sv = .own ds ∨ sv = .ali ds) → v = .ref a → (if b = a then H b else keepArgs F H A b) ≠ F b → ∃ sv', (V.ref b, sv') ∈ (v, sv) :: A ∧ ((∃ ds, sv' = .own ds) ∨ ∃ ds, sv' = .ali ds) := fun a ds hs hv z => by
      by_cases e : b = a
      · subst e; subst hv
        refine ⟨sv, List.mem_cons_self, ?_⟩
        rcases hs with hs | hs
        · exact .inl ⟨ds, hs⟩
        · exact .inr ⟨ds, hs⟩
      · rw [if_neg e] at z; exact rec_ z
    cases v <;> cases sv <;> first
      | exact rec_ h
      | exact two _ _ (.inl rfl) rfl h
      | exact two _ _ (.inr rfl) rfl h
theorem keepArgs_mem (F H : Hp) (l : Same F H) : ∀ {A : List (V × SV)} {a : Addr} {sv : SV}, (V.ref a, sv) ∈ A → ((∃ ds, sv = .own ds) ∨ ∃ ds, sv = .ali ds) → ∀ o, H a = some o → keepArgs F H A a = some o
  | (v, sv') :: A, a, sv, m, k, o, e => by
    have rec_ : (V.ref a, sv) ∈ A → keepArgs F H A a = some o := fun z => keepArgs_mem F H l z k o e
    have two : ∀ (c : Addr), (if a = c then H a else keepArgs F H A a) = some o ∨ ¬ (a = c ∨ (V.ref a, sv) ∈ A) := fun c => by
      by_cases z : a = c
      · exact .inl (by rw [if_pos z]; exact e)
      · by_cases z2 : (V.ref a, sv) ∈ A
        · exact .inl (by rw [if_neg z]; exact rec_ z2)
        · exact .inr (by rintro (h | h); exact z h; exact z2 h)
    rcases List.mem_cons.mp m with h | h
    · cases h
      rcases k with ⟨ds, rfl⟩ | ⟨ds, rfl⟩
      · show (if a = a then H a else keepArgs F H A a) = some o
        rw [if_pos rfl]; exact e
      · show (if a = a then H a else keepArgs F H A a) = some o
        rw [if_pos rfl]; exact e
    · cases v <;> cases sv' <;> first
        | exact rec_ h
        | (refine (two _).resolve_right (fun z => z (.inr h)))
theorem all_pw {α : Type} {R : α → α → Prop} (h : ∀ x y, R x y) : ∀ l : List α, l.Pairwise R
  | [] => .nil
  | x :: l => .cons (fun y _ => h x y) (all_pw h l)
/-- the arguments as the callee sees them -/
theorem args_ok {W : Zt} {A : List (V × SV)} (r : Rep F0 H0 F H (W ++ A.map pr)) : Rep (keepArgs F H A) H (keepArgs F H A) H ((A.map fun p => (p.1, p.2.frz)).map pr) := by
  obtain ⟨s1, s2⟩ := keepArgs_at F H r.low A
  refine ⟨Same.refl _, s2, Same.refl _, fun b h _ => h, fun p hp sv e => ?_, ?_⟩
  · rw [List.map_map] at hp
    obtain ⟨⟨v, s⟩, hm, rfl⟩ := List.mem_map.mp hp
    cases e
    obtain ⟨w, e1, rv⟩ := r.ok (some v, some s) (List.mem_append_right _ (List.mem_map.mpr ⟨(v, s), hm, rfl⟩)) _ rfl
    cases e1
    refine ⟨v, rfl, ?_⟩
    cases s with
    | val d => exact rv.mono s1
    | raw u => exact rv
    | ent ds =>
      obtain ⟨a, vs, rfl, _, h3, h4⟩ := rv
      exact ⟨a, vs, rfl, h3, h3, h4.mono s1⟩
    | own ds =>
      obtain ⟨a, vs, rfl, _, _, h3, h4⟩ := rv
      exact .lst (keepArgs_mem F H r.low hm (.inl ⟨_, rfl⟩) _ h3) (h4.mono s1)
    | ali ds =>
      obtain ⟨a, vs, rfl, _, h3, h4⟩ := rv
      exact .lst (keepArgs_mem F H r.low hm (.inr ⟨_, rfl⟩) _ h3) (h4.mono s1)
  · rw [List.pairwise_map, List.pairwise_map]
    refine all_pw (fun x y a es fs _ e2 _ _ => ?_) _
    obtain ⟨v, s⟩ := x
    cases s <;> cases e2
/-- what comes back of a call -/
theorem back_ok {W : Zt} {A : List (V × SV)} {v : V} {sv : SV} {H' : Hp} (r : Rep F0 H0 F H (W ++ A.map pr)) (b : ∃ F', Rep (keepArgs F H A) H F' H' [(some v, some sv)]) (hf : ((A.any fun p => p.2.isAli) || sv.isEnt) = true → sv.flat = true) :
    ∃ F', Rep F0 H0 F' H' (W ++ [(some v, some sv)]) := by
  obtain ⟨F', b⟩ := b
  obtain ⟨s1, s2⟩ := keepArgs_at F H r.low A
  have rW : Rep F0 H0 F H W := r.left
  obtain ⟨v', e0, rv⟩ := b.ok (some v, some sv) (by simp) _ rfl
  cases e0
  have notin : ∀ {a : Addr} {es : List PyData} {p}, p ∈ W → p.1 = some (.ref a) → p.2 = some (.own es) → ∀ sv', sv' = SV.own es → H a ≠ none := fun {a es p} hp e1 e2 _ _ => by
    obtain ⟨w, e3, c, vs, e4, _, _, e5, _⟩ := r.ok p (List.mem_append_left _ hp) _ e2
    rw [e1] at e3; cases e3; cases e4
    rw [e5]; simp
  by_cases ha : (A.any fun p => p.2.isAli) = true
  · -- F stays
    have fl := hf (by rw [ha]; rfl)
    have r1 : Rep F0 H0 F H' W := rW.both (Same.refl _) (rW.low.trans b.ent) b.ent fun _ h _ => h
    cases sv with
    | val d => exact ⟨F, r1.pushV (rv.flat fl)⟩
    | raw u => cases rv; exact ⟨F, r1.pushR⟩
    | ent ds => cases fl
    | ali ds => cases fl
    | own ds =>
      obtain ⟨a, vs, rfl, q1, q2, q3, q4⟩ := rv
      refine ⟨F, r1.push ⟨a, vs, rfl, r.low.free q2, r.ent.free q2, q3, q4.flat fl⟩ fun c es e1 _ p hp fs e3 e4 => ?_⟩
      cases e1
      exact notin hp e3 e4 _ rfl q2
  · -- F grows
    have sF : Same F F' := s1.trans b.base
    have k : ∀ p ∈ W, PairOk H0 F' H' p := fun p hp s e => by
      obtain ⟨w, e1, rr⟩ := rW.ok p hp s e
      refine ⟨w, e1, ?_⟩
      cases s with
      | val d => exact rr.mono sF
      | raw u => exact rr
      | ent ds =>
        obtain ⟨a, vs, q1, q3, q4, q5⟩ := rr
        exact ⟨a, vs, q1, q3, b.ent _ _ q4, q5.mono sF⟩
      | ali ds =>
        obtain ⟨a, vs, q1, q3, q4, q5⟩ := rr
        exact ⟨a, vs, q1, q3, b.ent _ _ q4, q5.mono sF⟩
      | own ds =>
        obtain ⟨a, vs, q1, q2, q3, q4, q5⟩ := rr
        subst q1
        refine ⟨a, vs, rfl, b.apart a ?_ (by rw [q4]; simp), q3, b.ent _ _ q4, q5.mono sF⟩
        -- not among the arguments
        by_cases z : keepArgs F H A a = F a
        · rw [z]; exact q2
        · obtain ⟨sv', hm, kk⟩ := keepArgs_sub F H A a z
          rcases kk with ⟨es, rfl⟩ | ⟨es, rfl⟩
          · have := r.dist
            rw [List.pairwise_append] at this
            exact (this.2.2 p hp (some (.ref a), some (.own es)) (List.mem_map.mpr ⟨_, hm, rfl⟩) a ds es e1 e rfl rfl).elim
          · exact absurd (List.any_eq_true.mpr ⟨_, hm, rfl⟩) ha
    have rF : Rep F0 H0 F' H' W := ⟨r.base.trans sF, b.low, r.ent.trans b.ent, fun c h0 h1 => by
      have hH : H c ≠ none := fun z => by
        cases e : H0 c with
        | none => exact h1 e
        | some o => rw [r.ent _ _ e] at z; cases z
      refine b.apart c ?_ hH
      by_cases z : keepArgs F H A c = F c
      · rw [z]; exact r.apart c h0 h1
      · obtain ⟨sv', hm, kk⟩ := keepArgs_sub F H A c z
        rcases kk with ⟨es, rfl⟩ | ⟨es, rfl⟩
        · obtain ⟨w, e3, d, vs, e4, _, e6, _⟩ := r.ok (some (.ref c), some (.own es)) (List.mem_append_right _ (List.mem_map.mpr ⟨_, hm, rfl⟩)) _ rfl
          cases e3; cases e4
          exact absurd e6 h1
        · exact absurd (List.any_eq_true.mpr ⟨_, hm, rfl⟩) ha, k, rW.dist⟩
    cases sv with
    | val d => exact ⟨F', rF.pushV rv⟩
    | raw u => cases rv; exact ⟨F', rF.pushR⟩
    | ent ds => have := hf (by simp [SV.isEnt]); cases this
    | ali ds =>
      obtain ⟨a, vs, q1, q3, q4, q5⟩ := rv
      exact ⟨F', rF.push ⟨a, vs, q1, r.ent.free q3, q4, q5⟩ fun _ _ _ e => nomatch e⟩
    | own ds =>
      obtain ⟨a, vs, rfl, q1, q2, q3, q4⟩ := rv
      refine ⟨F', rF.push ⟨a, vs, rfl, q1, r.ent.free q2, q3, q4⟩ fun c es e1 _ p hp fs e3 e4 => ?_⟩
      cases e1
      exact notin hp e3 e4 _ rfl q2
/-- what is wanted of an error of one's own -/
class EOk (H0 : Hp) (E : XK) (ER : outParam (Addr → Int → Prop)) : Prop where
  run : ∀ C i, ER C i → ∀ dd H', Same H0 H' → H' dd = none → E (.ref C) (some dd) (upd H' dd (.xd [("at", .int i)]))
def dCall (F0 : Hp) (R : RC) (ER : Addr → Int → Prop) (fa : DAX) : DX := fun σ P => fa σ fun as => ∃ S, R F0 (as.map SV.frz) S ∧ ∀ r, S r → match r with
  | .ok sv => ((as.any SV.isAli || sv.isEnt) = true → sv.flat = true) ∧ P sv
  | .er C i => ER C i
theorem call_run {R : RC} [MonoR R] {ER : Addr → Int → Prop} {E : XK} {W : Zt} {A : List (V × SV)} {P : SV → Prop} {Q : VK} (hE : ∀ C i, ER C i → ∀ dd H', Same H0 H' → H' dd = none → E (.ref C) (some dd) (upd H' dd (.xd [("at", .int i)])))
    (r : Rep F0 H0 F H (W ++ A.map pr)) (h : ∃ S, R F0 ((A.map Prod.snd).map SV.frz) S ∧ ∀ r, S r → match r with
      | .ok sv => (((A.map Prod.snd).any SV.isAli || sv.isEnt) = true → sv.flat = true) ∧ P sv
      | .er C i => ER C i) (q : ∀ sv, P sv → ∀ v H', (∃ F, Rep F0 H0 F H' (W ++ [(some v, some sv)])) → Q v H') : spF R (A.map Prod.fst) H Q E := by
  obtain ⟨S, h1, h2⟩ := h
  obtain ⟨s1, s2⟩ := keepArgs_at F H r.low A
  refine ⟨keepArgs F H A, A.map (fun p => (p.1, p.2.frz)), S, by simp, args_ok r, (fun s hs => by
    rw [List.map_map] at hs
    obtain ⟨p, _, rfl⟩ := List.mem_map.mp hs
    obtain ⟨v, s⟩ := p
    cases s <;> rfl), MonoR.mono (r.base.trans s1) (by simpa [Function.comp_def] using h1), fun rs hs => ?_⟩
  have := h2 rs hs
  cases rs with
  | ok sv => exact fun v H' b => q sv this.2 v H' (back_ok r b fun z => this.1 (by simpa [List.any_map] using z))
  | er C i => exact fun dd H' s n => hE C i this dd H' (r.ent.trans s) n
instance {R : RC} [MonoR R] {ta : TA} {fa : DAX} [ha : DA F0 H0 ta fa] : DE F0 H0 (tCall (spF R) [] (fun _ _ _ => False) ta) (dCall F0 R (fun _ _ => False) fa) where
  run Z T H P Q := fun hr h q => ha.run Z T H _ _ hr h fun A h1 H1 ⟨F, r1⟩ => by
    show spF R (A.map Prod.fst ++ []) H1 Q _
    rw [List.append_nil]
    exact call_run (W := Z ++ T) (fun _ _ z => z.elim) (by rw [List.append_assoc]; exact r1) h1 fun sv hp v H2 r2 => q sv hp v H2 (by rw [← List.append_assoc]; exact r2)
instance {R : RC} [MonoR R] {E : XK} {ER} [he : EOk H0 E ER] {ta : TA} {fa : DAX} [ha : DA F0 H0 ta fa] : DE F0 H0 (tCallS (spF R) (fun _ cls d H => E cls d H) ta) (dCall F0 R ER fa) where
  run Z T H P Q := fun hr h q => ha.run Z T H _ _ hr h fun A h1 H1 ⟨F, r1⟩ =>
    call_run (W := Z ++ T) he.run (by rw [List.append_assoc]; exact r1) h1 fun sv hp v H2 r2 => q sv hp v H2 (by rw [← List.append_assoc]; exact r2)
end
end DL
/-! Reading by data: targets, walks, comprehensions, statements. -/
namespace DL
open PySem PySem.Spec PyProof.Rows L2 NB
section
variable {F0 H0 F H : Hp} {K : PySem.W.Frag}
def NoAli (p : Option V × Option SV) : Prop := ∀ es, p.2 ≠ some (.ali es)
theorem cut_at {α : Type} : ∀ (l : List α) (i : Nat), i < l.length → ∃ A z B, l = A ++ z :: B ∧ A.length = i ∧ ∀ p, l.set i p = A ++ p :: B
  | x :: l, 0, _ => ⟨[], x, l, rfl, rfl, fun _ => rfl⟩
  | x :: l, i + 1, h => by
    obtain ⟨A, z, B, h1, h2, h3⟩ := cut_at l i (by simpa using h)
    exact ⟨x :: A, z, B, by rw [h1]; rfl, by rw [List.length_cons, h2], fun p => by rw [List.set_cons_succ, h3]; rfl⟩
/-- the last temp goes to a slot -/
theorem Rep.store {Z T : Zt} {p : Option V × Option SV} {i : Nat} (r : Rep F0 H0 F H (Z ++ (T ++ [p]))) : Rep F0 H0 F H (Z.set i p ++ T) := by
  by_cases h : i < Z.length
  · obtain ⟨A, z, B, h1, _, h3⟩ := cut_at Z i h
    rw [h3]
    rw [h1] at r
    have r1 : Rep F0 H0 F H ((A ++ B) ++ T ++ [p]) := r.sub (by
      simp only [List.append_assoc, List.cons_append]
      exact List.Sublist.append_left (List.sublist_cons_self _ _) _)
    refine r1.perm ?_
    have : (A ++ B ++ T ++ [p]).Perm (p :: (A ++ B ++ T)) := List.perm_append_singleton _ _
    refine this.trans ?_
    have e : A ++ p :: B ++ T = A ++ p :: (B ++ T) := by simp
    rw [e]
    have e2 : p :: (A ++ B ++ T) = p :: (A ++ (B ++ T)) := by simp
    rw [e2]
    exact List.perm_middle.symm
  · rw [List.set_eq_of_length_le (by omega)]
    rw [← List.append_assoc] at r
    exact r.left
theorem map_set_fst (Z : Zt) (i : Nat) (p : Option V × Option SV) : (Z.set i p).map Prod.fst = (Z.map Prod.fst).set i p.1 := List.map_set
theorem map_set_snd (Z : Zt) (i : Nat) (p : Option V × Option SV) : (Z.set i p).map Prod.snd = (Z.map Prod.snd).set i p.2 := List.map_set
/-! ### targets -/
abbrev DG1 := PyData → SD → (SD → Prop) → Prop
abbrev DGL := List PyData → SD → (SD → Prop) → Prop
/-- what a target does to the slots -/
structure Stored (H : Hp) (F0 H0 : Hp) (F : Hp) (T Z Z' : Zt) (ix : List Nat) : Prop where
  rep : Rep F0 H0 F H (Z' ++ T)
  mem : ∀ p ∈ Z', p ∈ Z ∨ ∃ d, p.2 = some (.val d)
  wip : ∀ vs, (∀ i ∈ ix, i ∈ vs) → wipe (Z'.map Prod.fst) vs = wipe (Z.map Prod.fst) vs
class DGt (F0 H0 : Hp) (g : TG) (f : outParam DG1) (ix : outParam (List Nat)) : Prop where
  run : ∀ (Z T : Zt) (H F : Hp) (x : V) (d : PyData) (P : SD → Prop) (Q : L2.St → Hp → Prop), Rep F0 H0 F H (Z ++ T) → Dv F x d → f d (Z.map Prod.snd) P → (∀ Z', P (Z'.map Prod.snd) → Stored H F0 H0 F T Z Z' ix → Q (Z'.map Prod.fst) H) → g x (Z.map Prod.fst) H Q
class DGs (F0 H0 : Hp) (g : TGs) (f : outParam DGL) (ix : outParam (List Nat)) : Prop where
  run : ∀ (Z T : Zt) (H F : Hp) (xs : List V) (ds : List PyData) (P : SD → Prop) (Q : L2.St → Hp → Prop), Rep F0 H0 F H (Z ++ T) → DvAll F xs ds → f ds (Z.map Prod.snd) P → (∀ Z', P (Z'.map Prod.snd) → Stored H F0 H0 F T Z Z' ix → Q (Z'.map Prod.fst) H) → g xs (Z.map Prod.fst) H Q
theorem wipe_set (σ : L2.St) (i : Nat) (x : Option V) : ∀ {vs : List Nat}, i ∈ vs → wipe (σ.set i x) vs = wipe σ vs
  | v :: vs, h => by
    unfold wipe
    by_cases e : i = v
    · subst e
      by_cases m : i ∈ vs
      · rw [wipe_set σ i x m]
      · have : ∀ ws : List Nat, i ∉ ws → wipe (σ.set i x) ws = (wipe σ ws).set i x := fun ws => by
          induction ws with
          | nil => intro _; rfl
          | cons w ws ih =>
            intro hw
            unfold wipe
            rw [ih (fun z => hw (List.mem_cons_of_mem _ z)), List.set_comm _ _ (fun z => hw (by rw [z]; exact List.mem_cons_self))]
        rw [this vs m, List.set_set]
    · rcases List.mem_cons.mp h with z | z
      · exact absurd z e
      · rw [wipe_set σ i x z]
theorem set_none_set_none (σ : L2.St) (i j : Nat) : (σ.set i none).set j none = (σ.set j none).set i none := by
  by_cases h : i = j
  · subst h; rfl
  · exact List.set_comm _ _ h
theorem wipe_out (σ : L2.St) (v : Nat) : ∀ vs : List Nat, wipe (σ.set v none) vs = (wipe σ vs).set v none
  | [] => rfl
  | w :: vs => by unfold wipe; rw [wipe_out σ v vs, set_none_set_none]
theorem wipe_twice (σ : L2.St) : ∀ vs : List Nat, wipe (wipe σ vs) vs = wipe σ vs
  | [] => rfl
  | v :: vs => by
    have ih := wipe_twice σ vs
    show (wipe ((wipe σ vs).set v none) vs).set v none = (wipe σ vs).set v none
    rw [wipe_out, List.set_set, ih]
instance (i : Nat) : DGt F0 H0 (gName i) (fun d σ P => P (σ.set i (some (.val d)))) [i] where
  run Z T H F x d P Q r hd h q := by
    have := q (Z.set i (some x, some (.val d))) (by rw [map_set_snd]; exact h) ⟨(put_tmp r hd).store, fun p hp => by
      rcases List.mem_or_eq_of_mem_set hp with z | z
      · exact .inl z
      · subst z; exact .inr ⟨d, rfl⟩, fun vs hv => by rw [map_set_fst]; exact wipe_set _ _ _ (hv i (by simp))⟩
    rw [map_set_fst] at this
    exact this
instance : DGs F0 H0 gNil (fun ds σ P => match ds with | [] => P σ | _ => False) [] where
  run Z T H F xs ds P Q r hd h q := by
    match xs, ds, hd, h with
    | [], [], _, h => exact ⟨rfl, q Z h ⟨r, fun p hp => .inl hp, fun _ _ => rfl⟩⟩
    | _, _ :: _, _, h => exact h.elim
instance {t : TG} {u : TGs} {f : DG1} {fs : DGL} {ix jx} [ht : DGt F0 H0 t f ix] [hu : DGs F0 H0 u fs jx] : DGs F0 H0 (gCons t u) (fun ds σ P => match ds with | d :: r => f d σ fun σ' => fs r σ' P | [] => False) (ix ++ jx) where
  run Z T H F xs ds P Q r hd h q := by
    match xs, ds, hd, h with
    | x :: xs, d :: ds, .cons h1 h2, h =>
      refine ⟨x, xs, rfl, ht.run Z T H F x d _ _ r h1 h fun Z1 p1 s1 => ?_⟩
      refine hu.run Z1 T H F xs ds _ _ s1.rep h2 p1 fun Z2 p2 s2 => q Z2 p2 ⟨s2.rep, fun p hp => ?_, fun vs hv => ?_⟩
      · rcases s2.mem p hp with z | z
        · exact s1.mem p z
        · exact .inr z
      · rw [s2.wip vs fun i hi => hv i (List.mem_append_right _ hi), s1.wip vs fun i hi => hv i (List.mem_append_left _ hi)]
    | [], [], _, h => exact h.elim
instance {n : Nat} {t : TGs} {f : DGL} {ix} [ht : DGs F0 H0 t f ix] : DGt F0 H0 (gTup K n t) (fun d σ P => match d with | .tuple ds => ds.length = n ∧ f ds σ P | _ => False) ix where
  run Z T H F x d P Q r hd h q := by
    match d, hd, h with
    | .tuple ds, .tup ha hs, h =>
      exact ⟨_, _, rfl, SqT.of (r.low _ _ ha), by rw [hs.length]; exact h.1, ht.run Z T H F _ ds P Q r hs h.2 q⟩
/-! ### walks -/
structure DWalk (F0 H0 : Hp) (J : It) (items : List PyData) (A : Zt) : Prop where
  goes : ∀ i H F W, i < items.length → Rep F0 H0 F H (W ++ A) → J.go i H
  stops : ∀ H F W, Rep F0 H0 F H (W ++ A) → J.stop items.length H
  yields : ∀ i H x H' F W d, items[i]? = some d → Rep F0 H0 F H (W ++ A) → J.yld i H x H' → ∃ F', Rep F0 H0 F' H' ((W ++ A) ++ [(some x, some (.val d))])
class DI (F0 H0 : Hp) (w : TI) (f : outParam (SD → (List PyData → Bool → Prop) → Prop)) : Prop where
  run : ∀ (Z T : Zt) (H : Hp) (P : List PyData → Bool → Prop) (R : It → Hp → Prop), (∃ F, Rep F0 H0 F H (Z ++ T)) → f (Z.map Prod.snd) P →
    (∀ items b, P items b → ∀ J H' A, (∃ F, Rep F0 H0 F H' (Z ++ (T ++ A))) → (b = true → ∀ p ∈ A, NoAli p) → DWalk F0 H0 J items A → R J H') → w (Z.map Prod.fst) H R
theorem noali_of {v : V} {sv : SV} (h : (!sv.isAli) = true) : ∀ p ∈ [((some v, some sv) : Option V × Option SV)], NoAli p := fun p hp es e => by
  rw [List.mem_singleton] at hp
  subst hp
  cases e
  cases h
theorem walk_lst {v : V} {sv : SV} {ds : List PyData} {a : Addr} (ev : v = .ref a) (e : sv.items? = some ds) : DWalk F0 H0 (Itl K a) ds [(some v, some sv)] where
  goes i H F W hi r := by
    obtain ⟨a', vs, h1, h2, h3⟩ := r.last.items r.low e
    rw [ev] at h1; cases h1
    exact ⟨vs, vs[i]'(by rw [h3.length]; exact hi), SqL.of h2, by simp⟩
  stops H F W r := by
    obtain ⟨a', vs, h1, h2, h3⟩ := r.last.items r.low e
    rw [ev] at h1; cases h1
    exact ⟨vs, SqL.of h2, by rw [h3.length]; exact Nat.le_refl _⟩
  yields i H x H' F W d hd r y := by
    obtain ⟨a', vs, h1, h2, h3⟩ := r.last.items r.low e
    rw [ev] at h1; cases h1
    obtain ⟨rfl, y⟩ := y
    obtain ⟨w, h4, h5⟩ := h3.get hd
    have := y vs (SqL.of h2)
    rw [h4] at this
    cases this
    exact ⟨F, r.pushV h5⟩
def dItems (fa : DX) : SD → (List PyData → Bool → Prop) → Prop := fun σ P => fa σ fun sv => match sv.items? with | some ds => P ds (!sv.isAli) | none => False
instance {ta : TE} {fa : DX} [ha : DE F0 H0 ta fa] : DI F0 H0 (iList K ta) (dItems fa) where
  run Z T H P R := fun hr h q => ha.run Z T H _ _ hr h fun sv h1 v H1 ⟨F, r1⟩ => by
    cases e : sv.items? with
    | none => rw [e] at h1; exact h1.elim
    | some ds =>
      rw [e] at h1
      obtain ⟨r0, rv⟩ := one_tmp r1
      obtain ⟨a, vs, rfl, h2, h3⟩ := rv.items r1.low e
      exact ⟨a, rfl, ⟨vs, SqL.of h2⟩, q ds _ h1 _ _ [(some (.ref a), some sv)] ⟨F, r1⟩ (fun z => noali_of z) (walk_lst rfl e)⟩
def rangeD (lo : Int) (n : Nat) : List PyData := (List.range n).map fun (i : Nat) => PyData.int (lo + (i : Int))
theorem rangeD_len (lo : Int) (n : Nat) : (rangeD lo n).length = n := by unfold rangeD; simp
theorem rangeD_at {lo : Int} {n i : Nat} {d : PyData} (h : (rangeD lo n)[i]? = some d) : i < n ∧ d = .int (lo + i) := by
  unfold rangeD at h
  rw [List.getElem?_map] at h
  by_cases z : i < n
  · rw [List.getElem?_range z] at h
    exact ⟨z, (Option.some.inj h).symm⟩
  · rw [List.getElem?_eq_none (by simp; omega)] at h; cases h
theorem walk_rng (lo : Int) (n : Nat) : DWalk F0 H0 (Itr lo n) (rangeD lo n) [] where
  goes i H F W hi r := by rw [rangeD_len] at hi; exact hi
  stops H F W r := by rw [rangeD_len]; exact Nat.le_refl _
  yields i H x H' F W d hd r y := by
    obtain ⟨rfl, rfl⟩ := y
    obtain ⟨_, rfl⟩ := rangeD_at hd
    exact ⟨F, r.pushV (.int _)⟩
def dRng1 (fa : DAX) : SD → (List PyData → Bool → Prop) → Prop := fun σ P => fa σ fun xs => match xs with
  | [x] => match x.int? with | some j => (-(2 ^ 62) ≤ j ∧ j < 2 ^ 62) ∧ P (rangeD 0 j.toNat) true | none => False
  | _ => False
def dRng2 (fa : DAX) : SD → (List PyData → Bool → Prop) → Prop := fun σ P => fa σ fun xs => match xs with
  | [x, y] => match x.int?, y.int? with | some i, some j => (-(2 ^ 62) ≤ i ∧ i < 2 ^ 62 ∧ -(2 ^ 62) ≤ j ∧ j < 2 ^ 62) ∧ P (rangeD i (j - i).toNat) true | _, _ => False
  | _ => False
instance {ta : TA} {fa : DAX} [ha : DA F0 H0 ta fa] : DI F0 H0 (iRng1 ta) (dRng1 fa) where
  run Z T H P R := fun hr h q => ha.run Z T H _ _ hr h fun A h1 H1 ⟨F, r1⟩ => by
    match A, h1, r1 with
    | [(v, sv)], h1, r1 =>
      cases e : sv.int? with
      | none => simp only [List.map_cons, List.map_nil] at h1; rw [e] at h1; exact h1.elim
      | some j =>
        simp only [List.map_cons, List.map_nil] at h1
        rw [e] at h1
        obtain ⟨r0, rv⟩ := one_tmp (v := v) (sv := sv) r1
        exact ⟨j, by rw [← rv.int e]; rfl, h1.1.1, h1.1.2, q _ _ h1.2 _ _ [] ⟨F, by simpa using r0⟩ (fun _ p hp => nomatch hp) (walk_rng 0 _)⟩
instance {ta : TA} {fa : DAX} [ha : DA F0 H0 ta fa] : DI F0 H0 (iRng2 ta) (dRng2 fa) where
  run Z T H P R := fun hr h q => ha.run Z T H _ _ hr h fun A h1 H1 ⟨F, r1⟩ => by
    match A, h1, r1 with
    | [(v, sv), (w, sw)], h1, r1 =>
      simp only [List.map_cons, List.map_nil] at h1
      cases e : sv.int? with
      | none => rw [e] at h1; exact h1.elim
      | some i =>
        cases e2 : sw.int? with
        | none => rw [e, e2] at h1; exact h1.elim
        | some j =>
          rw [e, e2] at h1
          have r1' : Rep F0 H0 F H1 ((Z ++ T) ++ [(some v, some sv), (some w, some sw)]) := by simpa [pr] using r1
          obtain ⟨r0, rv, rw'⟩ := two r1'
          exact ⟨i, j, by rw [← rv.int e, ← rw'.int e2]; rfl, h1.1, q _ _ h1.2 _ _ [] ⟨F, by simpa using r0⟩ (fun _ p hp => nomatch hp) (walk_rng _ _)⟩
/-- enumerate: pairs -/
def enumD (ds : List PyData) : List PyData := ds.mapIdx fun i d => .tuple [.int (i : Nat), d]
theorem enumD_len (ds : List PyData) : (enumD ds).length = ds.length := by unfold enumD; simp
theorem enumD_at {ds : List PyData} {i : Nat} {d : PyData} (h : (enumD ds)[i]? = some d) : ∃ e, ds[i]? = some e ∧ d = .tuple [.int (i : Nat), e] := by
  unfold enumD at h
  rw [List.getElem?_mapIdx] at h
  cases e : ds[i]? with
  | none => rw [e] at h; cases h
  | some x => rw [e] at h; exact ⟨x, rfl, (Option.some.inj h).symm⟩
theorem walk_enm {v : V} {sv : SV} {ds : List PyData} {a : Addr} (ev : v = .ref a) (e : sv.items? = some ds) : DWalk F0 H0 (Ite K a) (enumD ds) [(some v, some sv)] where
  goes i H F W hi r := by
    obtain ⟨a', vs, h1, h2, h3⟩ := r.last.items r.low e
    rw [ev] at h1; cases h1
    exact walk_enum.goes i H (by rw [h3.length, ← enumD_len]; exact hi) (SqL.of h2)
  stops H F W r := by
    obtain ⟨a', vs, h1, h2, h3⟩ := r.last.items r.low e
    rw [ev] at h1; cases h1
    rw [enumD_len, ← h3.length]
    exact walk_enum.stops H (SqL.of h2)
  yields i H x H' F W d hd r y := by
    obtain ⟨a', vs, h1, h2, h3⟩ := r.last.items r.low e
    rw [ev] at h1; cases h1
    obtain ⟨c, hc, rfl⟩ := enumD_at hd
    have hi : i < vs.length := by rw [h3.length]; exact (List.getElem?_eq_some_iff.mp hc).1
    obtain ⟨T, x1, x2, rfl, nT, rfl, e1, e2⟩ := walk_enum.yields i H x H' hi (SqL.of h2) y
    obtain ⟨w, h4, h5⟩ := h3.get hc
    have e2' : vs[i]? = some x2 := e2
    rw [h4] at e2'; cases e2'; cases e1
    exact ⟨_, r.pushT nT (.cons (.int _) (.cons h5 .nil))⟩
def dEnum (fa : DAX) : SD → (List PyData → Bool → Prop) → Prop := fun σ P => fa σ fun xs => match xs with
  | [x] => match x.items? with | some ds => P (enumD ds) (!x.isAli) | none => False
  | _ => False
instance {ta : TA} {fa : DAX} [ha : DA F0 H0 ta fa] : DI F0 H0 (iEnum K ta) (dEnum fa) where
  run Z T H P R := fun hr h q => ha.run Z T H _ _ hr h fun A h1 H1 ⟨F, r1⟩ => by
    match A, h1, r1 with
    | [(v, sv)], h1, r1 =>
      simp only [List.map_cons, List.map_nil] at h1
      cases e : sv.items? with
      | none => rw [e] at h1; exact h1.elim
      | some ds =>
        rw [e] at h1
        obtain ⟨r0, rv⟩ := one_tmp (v := v) (sv := sv) r1
        obtain ⟨a, vs, rfl, h2, h3⟩ := rv.items r1.low e
        exact ⟨a, vs, rfl, SqL.of h2, q _ _ h1 _ _ [(some (.ref a), some sv)] ⟨F, r1⟩ (fun z => noali_of z) (walk_enm rfl e)⟩
def zipD (ds es : List PyData) : List PyData := List.zipWith (fun d e => .tuple [d, e]) ds es
theorem zipD_len (ds es : List PyData) : (zipD ds es).length = min ds.length es.length := by unfold zipD; simp
theorem zipD_at {ds es : List PyData} {i : Nat} {d : PyData} (h : (zipD ds es)[i]? = some d) : ∃ x y, ds[i]? = some x ∧ es[i]? = some y ∧ d = .tuple [x, y] := by
  unfold zipD at h
  rw [List.getElem?_zipWith] at h
  cases e : ds[i]? with
  | none => rw [e] at h; cases h
  | some x =>
    cases e2 : es[i]? with
    | none => rw [e, e2] at h; cases h
    | some y => rw [e, e2] at h; exact ⟨x, y, rfl, rfl, (Option.some.inj h).symm⟩
theorem walk_zp {v w : V} {sv sw : SV} {ds es : List PyData} {a b : Addr} (ev : v = .ref a) (ew : w = .ref b) (e : sv.items? = some ds) (e2 : sw.items? = some es) : DWalk F0 H0 (Itz K a b) (zipD ds es) [(some v, some sv), (some w, some sw)] where
  goes i H F W hi r := by
    obtain ⟨_, rv, rw'⟩ := two r
    obtain ⟨a', vs, h1, h2, h3⟩ := rv.items r.low e
    obtain ⟨b', ws, k1, k2, k3⟩ := rw'.items r.low e2
    rw [ev] at h1; cases h1
    rw [ew] at k1; cases k1
    exact (walk_zip (xs := vs) (ys := ws) rfl).goes i H (by rw [h3.length, k3.length, ← zipD_len]; exact hi) ⟨SqL.of h2, SqL.of k2⟩
  stops H F W r := by
    obtain ⟨_, rv, rw'⟩ := two r
    obtain ⟨a', vs, h1, h2, h3⟩ := rv.items r.low e
    obtain ⟨b', ws, k1, k2, k3⟩ := rw'.items r.low e2
    rw [ev] at h1; cases h1
    rw [ew] at k1; cases k1
    rw [zipD_len, ← h3.length, ← k3.length]
    exact (walk_zip (xs := vs) (ys := ws) rfl).stops H ⟨SqL.of h2, SqL.of k2⟩
  yields i H x H' F W d hd r y := by
    obtain ⟨_, rv, rw'⟩ := two r
    obtain ⟨a', vs, h1, h2, h3⟩ := rv.items r.low e
    obtain ⟨b', ws, k1, k2, k3⟩ := rw'.items r.low e2
    rw [ev] at h1; cases h1
    rw [ew] at k1; cases k1
    obtain ⟨c, c', hc, hc', rfl⟩ := zipD_at hd
    have hi : i < min vs.length ws.length := by
      have := (List.getElem?_eq_some_iff.mp hc).1
      have := (List.getElem?_eq_some_iff.mp hc').1
      rw [h3.length, k3.length]; omega
    obtain ⟨T, x1, x2, rfl, nT, rfl, q1, q2⟩ := (walk_zip (xs := vs) (ys := ws) rfl).yields i H x H' hi ⟨SqL.of h2, SqL.of k2⟩ y
    obtain ⟨w, h4, h5⟩ := h3.get hc
    obtain ⟨w', h6, h7⟩ := k3.get hc'
    have q1' : vs[i]? = some x1 := q1
    have q2' : ws[i]? = some x2 := q2
    rw [h4] at q1'; cases q1'
    rw [h6] at q2'; cases q2'
    exact ⟨_, r.pushT nT (.cons h5 (.cons h7 .nil))⟩
def dZip (fa : DAX) : SD → (List PyData → Bool → Prop) → Prop := fun σ P => fa σ fun xs => match xs with
  | [x, y] => match x.items?, y.items? with | some ds, some es => P (zipD ds es) (!x.isAli && !y.isAli) | _, _ => False
  | _ => False
instance {ta : TA} {fa : DAX} [ha : DA F0 H0 ta fa] : DI F0 H0 (iZip K ta) (dZip fa) where
  run Z T H P R := fun hr h q => ha.run Z T H _ _ hr h fun A h1 H1 ⟨F, r1⟩ => by
    match A, h1, r1 with
    | [(v, sv), (w, sw)], h1, r1 =>
      simp only [List.map_cons, List.map_nil] at h1
      cases e : sv.items? with
      | none => rw [e] at h1; exact h1.elim
      | some ds =>
        cases e2 : sw.items? with
        | none => rw [e, e2] at h1; exact h1.elim
        | some es =>
          rw [e, e2] at h1
          have r1' : Rep F0 H0 F H1 ((Z ++ T) ++ [(some v, some sv), (some w, some sw)]) := by simpa [pr] using r1
          obtain ⟨r0, rv, rw'⟩ := two r1'
          obtain ⟨a, vs, rfl, h2, h3⟩ := rv.items r1.low e
          obtain ⟨b, ws, rfl, k2, k3⟩ := rw'.items r1.low e2
          refine ⟨a, b, vs, ws, rfl, SqL.of h2, SqL.of k2, q _ _ h1 _ _ [(some (.ref a), some sv), (some (.ref b), some sw)] ⟨F, r1⟩ (fun z p hp es' e' => ?_) (walk_zp rfl rfl e e2)⟩
          rw [Bool.and_eq_true] at z
          rcases List.mem_cons.mp hp with hp | hp
          · subst hp; cases e'; exact Bool.noConfusion z.1
          · rw [List.mem_singleton] at hp; subst hp; cases e'; exact Bool.noConfusion z.2
theorem walk_rv {v : V} {sv : SV} {ds : List PyData} {a : Addr} (ev : v = .ref a) (e : sv.items? = some ds) : DWalk F0 H0 (Itv K a ds.length) ds.reverse [(some v, some sv)] where
  goes i H F W hi r := by
    obtain ⟨a', vs, h1, h2, h3⟩ := r.last.items r.low e
    rw [ev] at h1; cases h1
    have := (walk_rev (K := K) (a := a) (xs := vs)).goes i H (by rw [h3.length]; simpa using hi) (SqL.of h2)
    rw [h3.length] at this
    exact this
  stops H F W r := by
    obtain ⟨a', vs, h1, h2, h3⟩ := r.last.items r.low e
    rw [ev] at h1; cases h1
    have := (walk_rev (K := K) (a := a) (xs := vs)).stops H (SqL.of h2)
    rw [h3.length] at this
    rw [List.length_reverse]
    exact this
  yields i H x H' F W d hd r y := by
    obtain ⟨a', vs, h1, h2, h3⟩ := r.last.items r.low e
    rw [ev] at h1; cases h1
    have hi : i < ds.length := by have := (List.getElem?_eq_some_iff.mp hd).1; simpa using this
    have := (walk_rev (K := K) (a := a) (xs := vs)).yields i H x H' (by rw [h3.length]; exact hi) (SqL.of h2) (by rw [h3.length]; exact y)
    obtain ⟨rfl, hx⟩ := this
    rw [List.getElem?_reverse hi, ← h3.length] at hd
    obtain ⟨w, h4, h5⟩ := h3.get hd
    rw [h4] at hx; cases hx
    exact ⟨F, r.pushV h5⟩
def dRev (fa : DAX) : SD → (List PyData → Bool → Prop) → Prop := fun σ P => fa σ fun xs => match xs with
  | [x] => match x.items? with | some ds => P ds.reverse (!x.isAli) | none => False
  | _ => False
instance {ta : TA} {fa : DAX} [ha : DA F0 H0 ta fa] : DI F0 H0 (iRev K ta) (dRev fa) where
  run Z T H P R := fun hr h q => ha.run Z T H _ _ hr h fun A h1 H1 ⟨F, r1⟩ => by
    match A, h1, r1 with
    | [(v, sv)], h1, r1 =>
      simp only [List.map_cons, List.map_nil] at h1
      cases e : sv.items? with
      | none => rw [e] at h1; exact h1.elim
      | some ds =>
        rw [e] at h1
        obtain ⟨r0, rv⟩ := one_tmp (v := v) (sv := sv) r1
        obtain ⟨a, vs, rfl, h2, h3⟩ := rv.items r1.low e
        refine ⟨a, vs, rfl, SqL.of h2, ?_⟩
        rw [h3.length]
        exact q _ _ h1 _ _ [(some (.ref a), some sv)] ⟨F, r1⟩ (fun z => noali_of z) (walk_rv rfl e)
end
end DL
/-! Reading by data: comprehensions. -/
namespace DL
open PySem PySem.Spec PyProof.Rows L2 NB
section
variable {F0 H0 F H : Hp} {K : PySem.W.Frag}
def alP (p : Option V × Option SV) : Option V × Option SV := (p.1, p.2.map SV.al)
def alD (σ : SD) : SD := σ.map (Option.map SV.al)
def wipeD (σ : SD) : List Nat → SD
  | [] => σ
  | v :: vs => (wipeD σ vs).set v none
def wipeZ (Z : Zt) : List Nat → Zt
  | [] => Z
  | v :: vs => (wipeZ Z vs).set v (none, none)
theorem wipeZ_fst (Z : Zt) : ∀ vs, (wipeZ Z vs).map Prod.fst = wipe (Z.map Prod.fst) vs
  | [] => rfl
  | v :: vs => by unfold wipeZ wipe; rw [map_set_fst, wipeZ_fst Z vs]
theorem wipeZ_snd (Z : Zt) : ∀ vs, (wipeZ Z vs).map Prod.snd = wipeD (Z.map Prod.snd) vs
  | [] => rfl
  | v :: vs => by unfold wipeZ wipeD; rw [map_set_snd, wipeZ_snd Z vs]
theorem wipeZ_mem {Z : Zt} {p} : ∀ {vs : List Nat}, p ∈ wipeZ Z vs → p ∈ Z ∨ p.2 = none
  | [], h => .inl h
  | v :: vs, h => by
    unfold wipeZ at h
    rcases List.mem_or_eq_of_mem_set h with z | z
    · exact wipeZ_mem z
    · subst z; exact .inr rfl
theorem alP_fst (Z : Zt) : (Z.map alP).map Prod.fst = Z.map Prod.fst := by rw [List.map_map]; rfl
theorem alP_snd (Z : Zt) : (Z.map alP).map Prod.snd = alD (Z.map Prod.snd) := by unfold alD; rw [List.map_map, List.map_map]; rfl
/-- the slots once more, for reading -/
theorem Rep.again {L G : Zt} (r : Rep F0 H0 F H L) (h : ∀ p ∈ G, (∃ q ∈ L, p = alP q) ∨ p.2 = none) : Rep F0 H0 F H (G ++ L) := by
  have noown : ∀ p ∈ G, ∀ es, p.2 ≠ some (.own es) := fun p hp es e => by
    rcases h p hp with ⟨q, _, rfl⟩ | z
    · obtain ⟨a, b⟩ := q
      cases b with
      | none => cases e
      | some sv => cases sv <;> cases e
    · rw [z] at e; cases e
  refine ⟨r.base, r.low, r.ent, r.apart, fun p hp => ?_, ?_⟩
  · rcases List.mem_append.mp hp with z | z
    · rcases h p z with ⟨q, hq, rfl⟩ | w
      · intro sv e
        obtain ⟨a, b⟩ := q
        cases b with
        | none => cases e
        | some sq =>
          cases e
          obtain ⟨v, e1, rv⟩ := r.ok _ hq _ rfl
          exact ⟨v, e1, rv.al⟩
      · intro sv e; rw [w] at e; cases e
    · exact r.ok p z
  · rw [List.pairwise_append]
    refine ⟨?_, r.dist, fun p hp q hq a es fs _ e _ _ => noown p hp es e⟩
    exact List.Pairwise.imp_of_mem (S := Apart) (fun {p q} hp hq _ a es fs _ e _ _ => noown p hp es e) (all_pw (R := fun _ _ => True) (fun _ _ => trivial) G)
instance : DT F0 H0 tYes (fun _ P => P true) where
  run Z T H P Q := fun hr h q => q _ h _ hr
/-- the list that is made -/
def pD (D : Addr) (acc : List PyData) : Option V × Option SV := (some (.ref D), some (.own acc))
def NaD (D : Addr) (L : Zt) : Prop := ∀ p ∈ L, ∀ es, p.2 = some (.ali es) → p.1 ≠ some (.ref D)
abbrev TB := L2.St → Hp → (Hp → Prop) → Prop
abbrev DB := SD → List PyData → (List PyData → Prop) → Prop
def BodyOk (F0 H0 : Hp) (D : Addr) (tb : TB) (fb : DB) : Prop := ∀ (Z T1 T2 : Zt) (H : Hp) (acc : List PyData) (k : List PyData → Prop) (Nx : Hp → Prop), (∃ F, Rep F0 H0 F H (Z ++ (T1 ++ pD D acc :: T2))) → NaD D Z → NaD D T1 → NaD D T2 → fb (Z.map Prod.snd) acc k →
  (∀ acc', k acc' → ∀ H', (∃ F, Rep F0 H0 F H' (T1 ++ pD D acc' :: T2)) → Nx H') → tb (Z.map Prod.fst) H Nx
def eltB (te : TE) (D : Addr) : TB := fun σ2 H3 Nx => te σ2 H3 fun y H4 => ∃ acc, H4 D = some (.lst acc) ∧ acc.length < sizeLine ∧ Nx (upd H4 D (.lst (acc ++ [y])))
def eltF (fe : DX) : DB := fun σ acc k => fe σ fun sv => match sv.fix? with | some e => acc.length < sizeLine ∧ k (acc ++ [e]) | none => False
theorem elt_body {te : TE} {fe : DX} [he : DE F0 H0 te fe] (D : Addr) : BodyOk F0 H0 D (eltB te D) (eltF fe) := fun Z T1 T2 H acc k Nx hr _ n1 n2 h q =>
  he.run Z _ H _ _ hr h fun sv h1 y H4 ⟨F, r⟩ => by
    cases e : sv.fix? with
    | none => rw [e] at h1; exact h1.elim
    | some d =>
      rw [e] at h1
      have r1 : Rep F0 H0 F H4 ((T1 ++ pD D acc :: T2) ++ [(some y, some sv)]) := r.sub (List.sublist_append_right _ _)
      obtain ⟨F', r2⟩ := r1.fixLast e
      obtain ⟨v, e1, a, vs, e2, f1, f0, hD, hv⟩ := r2.left.ok (pD D acc) (by simp) _ rfl
      cases e1; cases e2
      exact ⟨vs, hD, by rw [hv.length]; exact h1.1, q _ h1.2 _ ⟨F', r2.left.put (fun p hp es e => by
        rcases hp with z | z
        · exact n1 p z es e
        · exact n2 p z es e) (hv.app (.cons r2.last .nil))⟩⟩
/-- the turns of a comprehension -/
def lcG (g : DG1) (tt : DTX) (fb : DB) (σ0 : SD) (items : List PyData) (acc0 : List PyData) (k : List PyData → Prop) : Prop := ∃ I : Nat → List PyData → Prop, I 0 acc0 ∧
  (∀ i d acc, items[i]? = some d → I i acc → g d σ0 fun σ2 => tt σ2 fun b => Br b (fb σ2 acc (I (i + 1))) (I (i + 1) acc)) ∧ ∀ acc, I items.length acc → k acc
theorem lc_loop {D : Addr} {g : TG} {tt : TT} {tb : TB} {fg : DG1} {ix : List Nat} {ft : DTX} {fb : DB} [hg : DGt F0 H0 g fg ix] [ht : DT F0 H0 tt ft] (hb : BodyOk F0 H0 D tb fb) {J : It} {items : List PyData} {A : Zt} (w : DWalk F0 H0 J items A)
    {Z T1 T3 : Zt} {vs : List Nat} {acc0 : List PyData} {k : List PyData → Prop} {H : Hp} {Nd : Hp → Prop} (hix : ∀ i ∈ ix, i ∈ vs) (hr : ∃ F, Rep F0 H0 F H ((Z ++ T1) ++ pD D acc0 :: (T3 ++ A))) (n1 : NaD D (Z ++ T1)) (n2 : NaD D (T3 ++ A))
    (h : lcG fg ft fb (wipeD (alD (Z.map Prod.snd)) vs) items acc0 k) (hd : ∀ acc, k acc → ∀ H', (∃ F, Rep F0 H0 F H' ((Z ++ T1) ++ pD D acc :: (T3 ++ A))) → Nd H') :
    ∃ W : Nat → Nat → Hp → Prop, (∃ m, W 0 m H) ∧ ∀ i m H, W i m H → (J.stop i H ∧ Nd H) ∨ (J.go i H ∧ ∃ Nx : Hp → Prop, (∀ H', Nx H' → ∃ m', m' < m ∧ W (i + 1) m' H') ∧ ∀ x H', J.yld i H x H' →
      g x (wipe (Z.map Prod.fst) vs) H' fun σ2 H2 => wipe σ2 vs = wipe (Z.map Prod.fst) vs ∧ tt σ2 H2 fun b H3 => if b = true then tb σ2 H3 Nx else Nx H3) := by
  obtain ⟨I, h0, hs, hk⟩ := h
  refine ⟨fun i m H => m = items.length - i ∧ i ≤ items.length ∧ ∃ acc, I i acc ∧ ∃ F, Rep F0 H0 F H ((Z ++ T1) ++ pD D acc :: (T3 ++ A)), ⟨items.length, by simp, Nat.zero_le _, acc0, h0, hr⟩, ?_⟩
  rintro i m H ⟨rfl, hi, acc, hI, F, r⟩
  have r' : Rep F0 H0 F H (((Z ++ T1) ++ pD D acc :: T3) ++ A) := by simpa using r
  by_cases hlt : i < items.length
  · refine .inr ⟨w.goes i H F _ hlt r', fun H' => ∃ acc, I (i + 1) acc ∧ ∃ F, Rep F0 H0 F H' ((Z ++ T1) ++ pD D acc :: (T3 ++ A)), fun H' hn => ⟨items.length - (i + 1), by omega, rfl, hlt, hn⟩, fun x H' y => ?_⟩
    have hd' : items[i]? = some items[i] := List.getElem?_eq_getElem hlt
    obtain ⟨F', r2⟩ := w.yields i H x H' F _ _ hd' r' y
    generalize items[i] = d at hd' r2
    have turn := hs i d acc hd' hI
    let L : Zt := (Z ++ T1) ++ pD D acc :: (T3 ++ A ++ [(some x, some (.val d))])
    have rL : Rep F0 H0 F' H' L := by
      have e : (((Z ++ T1) ++ pD D acc :: T3) ++ A) ++ [(some x, some (SV.val d))] = L := by simp [L]
      rw [← e]; exact r2
    have rG : Rep F0 H0 F' H' (wipeZ (Z.map alP) vs ++ L) := rL.again fun p hp => by
      rcases wipeZ_mem hp with z | z
      · obtain ⟨q, hq, rfl⟩ := List.mem_map.mp z
        exact .inl ⟨q, by simp [L, hq], rfl⟩
      · exact .inr z
    have e1 : (wipeZ (Z.map alP) vs).map Prod.fst = wipe (Z.map Prod.fst) vs := by rw [wipeZ_fst, alP_fst]
    have e2 : (wipeZ (Z.map alP) vs).map Prod.snd = wipeD (alD (Z.map Prod.snd)) vs := by rw [wipeZ_snd, alP_snd]
    rw [← e2] at turn
    have sub1 : ∀ {acc' : List PyData}, ((Z ++ T1) ++ pD D acc' :: (T3 ++ A)).Sublist ((Z ++ T1) ++ pD D acc' :: (T3 ++ A ++ [(some x, some (.val d))])) := fun {acc'} => List.Sublist.append_left (List.Sublist.cons₂ _ (List.sublist_append_left _ _)) _
    have := hg.run (wipeZ (Z.map alP) vs) L H' F' x d _ (fun σ2 H2 => wipe σ2 vs = wipe (Z.map Prod.fst) vs ∧ tt σ2 H2 fun b H3 => if b = true then tb σ2 H3 (fun H' => ∃ acc, I (i + 1) acc ∧ ∃ F, Rep F0 H0 F H' ((Z ++ T1) ++ pD D acc :: (T3 ++ A))) else ∃ acc, I (i + 1) acc ∧ ∃ F, Rep F0 H0 F H3 ((Z ++ T1) ++ pD D acc :: (T3 ++ A))) rG (Rep.last r2) turn fun Z' p1 s1 => by
      refine ⟨by rw [s1.wip vs hix, e1, wipe_twice], ht.run Z' L H' _ _ ⟨F', s1.rep⟩ p1 fun b p2 H3 r3 => ?_⟩
      cases b with
      | true =>
        rw [if_pos rfl]
        have p2' : fb (Z'.map Prod.snd) acc (I (i + 1)) := p2.t
        refine hb Z' (Z ++ T1) (T3 ++ A ++ [(some x, some (.val d))]) H3 acc _ _ r3 (fun p hp es e z => ?_) n1 (fun p hp es e => ?_) p2' fun acc' ha H4 ⟨F4, r4⟩ => ⟨acc', ha, F4, r4.sub sub1⟩
        · rcases s1.mem p hp with m | ⟨d', m⟩
          · rcases wipeZ_mem m with m | m
            · obtain ⟨⟨a, b⟩, hq, rfl⟩ := List.mem_map.mp m
              cases b with
              | none => cases e
              | some sv =>
                cases sv with
                | val _ => cases e
                | raw _ => cases e
                | ent _ => cases e
                | ali es' => exact n1 _ (List.mem_append_left _ hq) es' rfl z
                | own es' =>
                  have dd := r.dist
                  rw [List.pairwise_append] at dd
                  exact dd.2.2 _ (List.mem_append_left _ hq) _ List.mem_cons_self D es' acc z rfl rfl rfl
            · rw [m] at e; cases e
          · rw [m] at e; cases e
        · rcases List.mem_append.mp hp with z | z
          · exact n2 p z es e
          · rw [List.mem_singleton] at z; subst z; cases e
      | false =>
        rw [if_neg Bool.false_ne_true]
        obtain ⟨F3, r3⟩ := r3
        exact ⟨acc, p2.f, F3, r3.sub (sub1.trans (List.sublist_append_right _ _))⟩
    rw [e1] at this
    exact this
  · have e : i = items.length := by omega
    subst e
    exact .inl ⟨w.stops H F _ r', hd acc (hk acc hI) H ⟨F, r⟩⟩
theorem naD_new {L : Zt} {D : Addr} (r : Rep F0 H0 F H L) (n : H D = none) : NaD D L := fun p hp es e z => by
  obtain ⟨v, e1, a, vs, e2, _, h1, _⟩ := r.ok p hp _ e
  rw [z] at e1; cases e1; cases e2
  rw [n] at h1; cases h1
def ixIn (ix vs : List Nat) : Prop := (ix.all fun i => vs.contains i) = true
theorem ixIn.mem {ix vs : List Nat} (h : ixIn ix vs) : ∀ i ∈ ix, i ∈ vs := fun i hi => by
  have := List.all_eq_true.mp h i hi
  simpa using this
def dLc (fi : SD → (List PyData → Bool → Prop) → Prop) (fg : DG1) (ix : List Nat) (ft : DTX) (fe : DX) (vs : List Nat) : DX := fun σ P => fi σ fun items _ => ixIn ix vs ∧ lcG fg ft (eltF fe) (wipeD (alD σ) vs) items [] fun acc => P (.own acc)
instance {wi : TI} {g : TG} {tt : TT} {te : TE} {vs : List Nat} {fi fg ix ft fe} [hi : DI F0 H0 wi fi] [hg : DGt F0 H0 g fg ix] [ht : DT F0 H0 tt ft] [he : DE F0 H0 te fe] : DE F0 H0 (tLc wi g tt te vs) (dLc fi fg ix ft fe vs) where
  run Z T H P Q := fun hr h q => hi.run Z T H _ _ hr h fun items b h1 J H1 A ⟨F, r1⟩ _ w => fun D nD => by
    have r2 : Rep F0 H0 F H1 (Z ++ T ++ A) := by rw [List.append_assoc]; exact r1
    have r3 : Rep F0 H0 F (upd H1 D (.lst [])) ((Z ++ T) ++ pD D [] :: ([] ++ A)) := by
      have := r2.pushL nD .nil
      refine this.perm ?_
      have e : (Z ++ T ++ A) ++ [(some (V.ref D), some (SV.own []))] = (Z ++ T) ++ (A ++ [pD D []]) := by simp [pD]
      rw [e, List.nil_append]
      exact List.Perm.append_left _ (List.perm_append_singleton _ _)
    have n := naD_new r2 nD
    exact lc_loop (elt_body D) w (ixIn.mem h1.1) ⟨F, r3⟩ (fun p hp => n p (List.mem_append_left _ hp)) (fun p hp => n p (List.mem_append_right _ hp)) h1.2 fun acc ha H' ⟨F', r'⟩ => q _ ha _ _ ⟨F', by
      have : Rep F0 H0 F' H' ((Z ++ T) ++ [pD D acc]) := r'.sub (List.Sublist.append_left (List.Sublist.cons₂ _ (List.nil_sublist _)) _)
      rw [← List.append_assoc]; exact this⟩
/-- the inner clause -/
def inF (fi : SD → (List PyData → Bool → Prop) → Prop) (fg : DG1) (ix : List Nat) (ft : DTX) (fb : DB) (vs : List Nat) : DB := fun σ acc k => fi σ fun items b => b = true ∧ ixIn ix vs ∧ lcG fg ft fb (wipeD (alD σ) vs) items acc k
def inB (wi1 : TI) (g1 : TG) (tt1 : TT) (tb : TB) (vs1 : List Nat) : TB := fun σ2 H3 Nx => wi1 σ2 H3 fun J1 H4 => ∃ W1 : Nat → Nat → Hp → Prop, (∃ m, W1 0 m H4) ∧ ∀ j k H, W1 j k H →
      (J1.stop j H ∧ Nx H) ∨ (J1.go j H ∧ ∃ Nx1 : Hp → Prop, (∀ H', Nx1 H' → ∃ k', k' < k ∧ W1 (j + 1) k' H') ∧ ∀ x H', J1.yld j H x H' → g1 x (wipe σ2 vs1) H' fun σ3 H5 => wipe σ3 vs1 = wipe σ2 vs1 ∧ tt1 σ3 H5 fun b H6 => if b = true then tb σ3 H6 Nx1 else Nx1 H6)
theorem in_body {wi : TI} {g : TG} {tt : TT} {tb : TB} {vs : List Nat} {fi fg ix ft fb} [hi : DI F0 H0 wi fi] [hg : DGt F0 H0 g fg ix] [ht : DT F0 H0 tt ft] {D : Addr} (hb : BodyOk F0 H0 D tb fb) : BodyOk F0 H0 D (inB wi g tt tb vs) (inF fi fg ix ft fb vs) := fun Z T1 T2 H acc k Nx hr n0 n1 n2 h q =>
  hi.run Z (T1 ++ pD D acc :: T2) H _ _ hr h fun items b h1 J H1 A ⟨F, r1⟩ nb w => by
    have r2 : Rep F0 H0 F H1 ((Z ++ T1) ++ pD D acc :: (T2 ++ A)) := by simpa using r1
    exact lc_loop hb w (ixIn.mem h1.2.1) ⟨F, r2⟩ (fun p hp => by rcases List.mem_append.mp hp with z | z; exact n0 p z; exact n1 p z) (fun p hp es e => by rcases List.mem_append.mp hp with z | z; exact n2 p z es e; exact absurd e (nb h1.1 p z es)) h1.2.2 fun acc' ha H' ⟨F', r'⟩ => q _ ha _ ⟨F', r'.sub (by
      have e : (Z ++ T1) ++ pD D acc' :: (T2 ++ A) = Z ++ ((T1 ++ pD D acc' :: T2) ++ A) := by simp
      rw [e]
      exact (List.sublist_append_left _ _).trans (List.sublist_append_right _ _))⟩
def dLc2 (fi : SD → (List PyData → Bool → Prop) → Prop) (fg : DG1) (ix : List Nat) (ft : DTX) (fb : DB) (vs : List Nat) : DX := fun σ P => fi σ fun items _ => ixIn ix vs ∧ lcG fg ft fb (wipeD (alD σ) vs) items [] fun acc => P (.own acc)
instance {wi wi1 : TI} {g g1 : TG} {tt tt1 : TT} {te : TE} {vs vs1 : List Nat} {fi fg ix ft fi1 fg1 ix1 ft1 fe} [hi : DI F0 H0 wi fi] [hg : DGt F0 H0 g fg ix] [ht : DT F0 H0 tt ft] [hi1 : DI F0 H0 wi1 fi1] [hg1 : DGt F0 H0 g1 fg1 ix1] [ht1 : DT F0 H0 tt1 ft1] [he : DE F0 H0 te fe] :
    DE F0 H0 (tLc2 wi g tt wi1 g1 tt1 te vs vs1) (dLc2 fi fg ix ft (inF fi1 fg1 ix1 ft1 (eltF fe) vs1) vs) where
  run Z T H P Q := fun hr h q => hi.run Z T H _ _ hr h fun items b h1 J H1 A ⟨F, r1⟩ _ w => fun D nD => by
    have r2 : Rep F0 H0 F H1 (Z ++ T ++ A) := by rw [List.append_assoc]; exact r1
    have r3 : Rep F0 H0 F (upd H1 D (.lst [])) ((Z ++ T) ++ pD D [] :: ([] ++ A)) := by
      have := r2.pushL nD .nil
      refine this.perm ?_
      have e : (Z ++ T ++ A) ++ [(some (V.ref D), some (SV.own []))] = (Z ++ T) ++ (A ++ [pD D []]) := by simp [pD]
      rw [e, List.nil_append]
      exact List.Perm.append_left _ (List.perm_append_singleton _ _)
    have n := naD_new r2 nD
    exact lc_loop (in_body (elt_body D)) w (ixIn.mem h1.1) ⟨F, r3⟩ (fun p hp => n p (List.mem_append_left _ hp)) (fun p hp => n p (List.mem_append_right _ hp)) h1.2 fun acc ha H' ⟨F', r'⟩ => q _ ha _ _ ⟨F', by
      have : Rep F0 H0 F' H' ((Z ++ T) ++ [pD D acc]) := r'.sub (List.Sublist.append_left (List.Sublist.cons₂ _ (List.nil_sublist _)) _)
      rw [← List.append_assoc]; exact this⟩
end
end DL
/-! Reading by data: statements, defs. -/
namespace DL
open PySem PySem.Spec PyProof.Rows L2 NB
structure DEnds where
  nx : SD → Prop
  rt : SV → Prop
  bk : SD → Prop := fun _ => False
  ct : SD → Prop := fun _ => False
abbrev DSX := DEnds → SD → Prop
def RepS (F0 H0 H : Hp) (W : Zt) : Prop := (∃ F, Rep F0 H0 F H W) ∧ ∀ p ∈ W, NoAli p
structure Low (F0 H0 : Hp) (T : Zt) (E : DEnds) (D : Ends) : Prop where
  nx : ∀ Z H, RepS F0 H0 H (Z ++ T) → E.nx (Z.map Prod.snd) → D.nx (Z.map Prod.fst) H
  bk : ∀ Z H, RepS F0 H0 H (Z ++ T) → E.bk (Z.map Prod.snd) → D.bk (Z.map Prod.fst) H
  ct : ∀ Z H, RepS F0 H0 H (Z ++ T) → E.ct (Z.map Prod.snd) → D.ct (Z.map Prod.fst) H
  rt : ∀ sv v H, E.rt sv → (∃ F, Rep F0 H0 F H [(some v, some sv)]) → D.rt v H
class DS (F0 H0 : Hp) (t : TS) (g : outParam DSX) : Prop where
  run : ∀ (Z T : Zt) (H : Hp) (E : DEnds) (D : Ends), RepS F0 H0 H (Z ++ T) → g E (Z.map Prod.snd) → Low F0 H0 T E D → t D (Z.map Prod.fst) H
section
variable {F0 H0 F H : Hp} {K : PySem.W.Frag}
theorem Low.nx' {T : Zt} {E : DEnds} {D : Ends} (l : Low F0 H0 T E D) (f : L2.St → Hp → Prop) (p : SD → Prop) (h : ∀ Z H, RepS F0 H0 H (Z ++ T) → p (Z.map Prod.snd) → f (Z.map Prod.fst) H) : Low F0 H0 T { E with nx := p } { D with nx := f } := ⟨h, l.bk, l.ct, l.rt⟩
instance : DS F0 H0 tNext (fun E σ => E.nx σ) where
  run Z T H E D r h l := l.nx Z H r h
instance : DS F0 H0 tBreak (fun E σ => E.bk σ) where
  run Z T H E D r h l := l.bk Z H r h
instance : DS F0 H0 tCont (fun E σ => E.ct σ) where
  run Z T H E D r h l := l.ct Z H r h
def dSeq (g1 g2 : DSX) : DSX := fun E σ => g1 { E with nx := g2 E } σ
instance {t u : TS} {g1 g2 : DSX} [h1 : DS F0 H0 t g1] [h2 : DS F0 H0 u g2] : DS F0 H0 (tSeq t u) (dSeq g1 g2) where
  run Z T H E D r h l := h1.run Z T H _ _ r h (l.nx' _ _ fun Z' H' r' h' => h2.run Z' T H' E D r' h' l)
def dCut (g1 g2 : DSX) : DSX := fun E σ => ∃ M : SD → Prop, g1 { E with nx := M } σ ∧ ∀ σ', M σ' → g2 E σ'
instance {t u : TS} {g1 g2 : DSX} [h1 : DS F0 H0 t g1] [h2 : DS F0 H0 u g2] : DS F0 H0 (C8.tCut t u) (dCut g1 g2) where
  run Z T H E D r h l := by
    obtain ⟨M, h, k⟩ := h
    refine ⟨fun σ' H' => ∃ Z', Z'.map Prod.fst = σ' ∧ RepS F0 H0 H' (Z' ++ T) ∧ M (Z'.map Prod.snd), h1.run Z T H _ _ r h (l.nx' _ _ fun Z' H' r' h' => ⟨Z', rfl, r', h'⟩), ?_⟩
    rintro σ' H' ⟨Z', rfl, r', h'⟩
    exact h2.run Z' T H' E D r' (k _ h') l
def dIfS (fc : DTX) (g1 g2 : DSX) : DSX := fun E σ => fc σ fun b => Br b (g1 E σ) (g2 E σ)
theorem noali_left {A B : Zt} (h : ∀ p ∈ A ++ B, NoAli p) : ∀ p ∈ A, NoAli p := fun p hp => h p (List.mem_append_left _ hp)
theorem noali_right {A B : Zt} (h : ∀ p ∈ A ++ B, NoAli p) : ∀ p ∈ B, NoAli p := fun p hp => h p (List.mem_append_right _ hp)
instance {c : TT} {t u : TS} {fc : DTX} {g1 g2 : DSX} [hc : DT F0 H0 c fc] [h1 : DS F0 H0 t g1] [h2 : DS F0 H0 u g2] : DS F0 H0 (tIfS c t u) (dIfS fc g1 g2) where
  run Z T H E D r h l := hc.run Z T H _ _ r.1 h fun b hb H1 r1 => by
    cases b with
    | true => exact iteT (h1.run Z T H1 E D ⟨r1, r.2⟩ hb.t l)
    | false => exact iteF (h2.run Z T H1 E D ⟨r1, r.2⟩ hb.f l)
/-- x = e -/
def dSet (i : Nat) (f : DX) : DSX := fun E σ => f σ fun sv => match sv with
  | .own ds => E.nx (σ.set i (some (.own ds))) ∨ E.nx (σ.set i (some (.val (.list ds))))
  | .ali _ => False
  | .ent _ => False
  | sv => E.nx (σ.set i (some sv))
theorem store_S {Z T : Zt} {v : V} {sv : SV} {i : Nat} (r : ∃ F, Rep F0 H0 F H (Z ++ (T ++ [(some v, some sv)]))) (n : ∀ p ∈ Z ++ T, NoAli p) (ns : ∀ es, sv ≠ .ali es) : RepS F0 H0 H (Z.set i (some v, some sv) ++ T) := by
  obtain ⟨F, r⟩ := r
  refine ⟨⟨F, r.store⟩, fun p hp => ?_⟩
  rcases List.mem_append.mp hp with z | z
  · rcases List.mem_or_eq_of_mem_set z with z | z
    · exact n p (List.mem_append_left _ z)
    · subst z; exact fun es e => ns es (Option.some.inj e)
  · exact n p (List.mem_append_right _ z)
theorem low_set {Z T : Zt} {E : DEnds} {D : Ends} {i : Nat} {v : V} {sv : SV} (l : Low F0 H0 T E D) (r : RepS F0 H0 H (Z.set i (some v, some sv) ++ T)) (h : E.nx ((Z.map Prod.snd).set i (some sv))) : D.nx ((Z.map Prod.fst).set i (some v)) H := by
  have := l.nx _ _ r (by rw [map_set_snd]; exact h)
  rw [map_set_fst] at this
  exact this
instance {te : TE} {f : DX} {i : Nat} [he : DE F0 H0 te f] : DS F0 H0 (tAsg te (gName i)) (dSet i f) where
  run Z T H E D r h l := he.run Z T H _ _ r.1 h fun sv hs v H' r' => by
    show D.nx ((Z.map Prod.fst).set i (some v)) H'
    cases sv with
    | val d => exact low_set l (store_S r' r.2 (by intro _ e; cases e)) hs
    | raw u => exact low_set l (store_S r' r.2 (by intro _ e; cases e)) hs
    | ent u => exact hs.elim
    | ali ds => exact hs.elim
    | own ds =>
      rcases hs with hs | hs
      · exact low_set l (store_S r' r.2 (by intro _ e; cases e)) hs
      · obtain ⟨F', r'⟩ := r'
        rw [← List.append_assoc] at r'
        obtain ⟨F2, r2⟩ := r'.freeze
        exact low_set l (store_S ⟨F2, by rw [← List.append_assoc]; exact r2⟩ r.2 (by intro _ e; cases e)) hs
/-- a, b = e -/
def dUnp (g : DG1) (f : DX) : DSX := fun E σ => f σ fun sv => match sv with | .val d => g d σ E.nx | _ => False
instance {te : TE} {f : DX} {n : Nat} {t : TGs} {g : DG1} {ix} [he : DE F0 H0 te f] [hg : DGt F0 H0 (gTup K n t) g ix] : DS F0 H0 (tAsg te (gTup K n t)) (dUnp g f) where
  run Z T H E D r h l := he.run Z T H _ _ r.1 h fun sv hs v H' ⟨F, r'⟩ => by
    cases sv with
    | own _ => exact hs.elim
    | ali _ => exact hs.elim
    | raw _ => exact hs.elim
    | ent _ => exact hs.elim
    | val d =>
      obtain ⟨r0, rv⟩ := one_tmp r'
      exact hg.run Z T H' F v d _ _ r0 rv hs fun Z' p' s' => l.nx Z' H' ⟨⟨F, s'.rep⟩, fun p hp => by
        rcases List.mem_append.mp hp with z | z
        · rcases s'.mem p z with z | ⟨d', z⟩
          · exact r.2 p (List.mem_append_left _ z)
          · exact fun es e => by rw [z] at e; cases e
        · exact r.2 p (List.mem_append_right _ z)⟩ p'
/-- x[k] = e, x an own list -/
def dPut (i : Nat) (fk fe : DX) : DSX := fun E σ => fe σ fun sv => match sv.fix?, σ[i]? with
  | some e, some (some (.own ds)) => fk σ fun sk => match sk.int? with
    | some k => ∃ j, ixN ds.length k = some j ∧ E.nx (σ.set i (some (.own (ds.set j e))))
    | none => False
  | _, _ => False
theorem own_put {Z T : Zt} {i : Nat} {ds es : List PyData} {vs : List V} {a : Addr} (r : Rep F0 H0 F H (Z ++ T)) (n : ∀ p ∈ Z ++ T, NoAli p) (h : Z[i]? = some (some (.ref a), some (.own ds))) (hv : DvAll F vs es) : RepS F0 H0 (upd H a (.lst vs)) (Z.set i (some (.ref a), some (.own es)) ++ T) := by
  have hi : i < Z.length := (List.getElem?_eq_some_iff.mp h).1
  obtain ⟨A, z, B, h1, h2, h3⟩ := cut_at Z i hi
  have hz : z = (some (.ref a), some (.own ds)) := by
    rw [h1, List.getElem?_append_right (by omega), h2, Nat.sub_self] at h
    exact Option.some.inj h
  subst hz
  rw [h3]
  rw [h1] at r n
  have r1 : Rep F0 H0 F H (A ++ (some (.ref a), some (.own ds)) :: (B ++ T)) := by simpa using r
  have nn : ∀ p, p ∈ A ∨ p ∈ B ++ T → NoAli p := fun p hp => n p (by
    rcases hp with z | z
    · simp [z]
    · rcases List.mem_append.mp z with z | z <;> simp [z])
  have r2 := r1.put (fun p hp es e => absurd e (nn p hp es)) hv
  refine ⟨⟨F, by simpa using r2⟩, fun p hp => ?_⟩
  have hp' : p ∈ A ++ (some (.ref a), some (.own es)) :: (B ++ T) := by simpa using hp
  rcases List.mem_append.mp hp' with z | z
  · exact nn p (.inl z)
  · rcases List.mem_cons.mp z with z | z
    · subst z; exact fun es e => nomatch e
    · exact nn p (.inr z)
theorem own_slot {Z T : Zt} {i : Nat} {ds : List PyData} (r : Rep F0 H0 F H (Z ++ T)) (h : (Z.map Prod.snd)[i]? = some (some (.own ds))) : ∃ a vs, Z[i]? = some (some (.ref a), some (.own ds)) ∧ (Z.map Prod.fst)[i]? = some (some (.ref a)) ∧ H a = some (.lst vs) ∧ DvAll F vs ds := by
  obtain ⟨v, h1, h2, a, vs, rfl, _, _, h3, h4⟩ := slot_val r h
  exact ⟨a, vs, h1, h2, h3, h4⟩
instance {te tk : TE} {fe fk : DX} {i : Nat} [he : DE F0 H0 te fe] [hk : DE F0 H0 tk fk] : DS F0 H0 (tAsg te (gSub (tVar i) tk rSetL)) (dPut i fk fe) where
  run Z T H E D r h l := he.run Z T H _ _ r.1 h fun sv hs v H1 ⟨F1, r1⟩ => by
    cases e : sv.fix? with
    | none => rw [e] at hs; exact hs.elim
    | some d =>
      rw [e] at hs
      rw [← List.append_assoc] at r1
      obtain ⟨F2, r2⟩ := r1.fixLast e
      cases e3 : (Z.map Prod.snd)[i]? with
      | none => rw [e3] at hs; exact hs.elim
      | some o =>
        match o, e3 with
        | none, e3 => rw [e3] at hs; exact hs.elim
        | some (.val _), e3 => rw [e3] at hs; exact hs.elim
        | some (.ali _), e3 => rw [e3] at hs; exact hs.elim
        | some (.raw _), e3 => rw [e3] at hs; exact hs.elim
        | some (.ent _), e3 => rw [e3] at hs; exact hs.elim
        | some (.own ds), e3 =>
          rw [e3] at hs
          obtain ⟨a, vs, z1, z2, _, _⟩ := own_slot r2.left e3
          have hs' : fk (Z.map Prod.snd) fun sk => match sk.int? with
            | some k => ∃ j, ixN ds.length k = some j ∧ E.nx ((Z.map Prod.snd).set i (some (.own (ds.set j d))))
            | none => False := hs
          refine ⟨.ref a, z2, hk.run Z (T ++ [(some v, some (.val d))]) H1 _ _ ⟨F2, by rw [← List.append_assoc]; exact r2⟩ hs' fun sk hk' w H3 ⟨F3, r3⟩ => ?_⟩
          cases e4 : sk.int? with
          | none => rw [e4] at hk'; exact hk'.elim
          | some k =>
            rw [e4] at hk'
            obtain ⟨j, hj, hn⟩ := hk'
            have r4 : Rep F0 H0 F3 H3 ((Z ++ T ++ [(some v, some (.val d))]) ++ [(some w, some sk)]) := by simpa using r3
            have rv := r4.left.last
            have rw' := r4.last.int e4
            obtain ⟨a', vs3, z3, z4, z5, z6⟩ := own_slot r4.left.left e3
            rw [z1] at z3; cases z3
            refine ⟨a, vs3, k, j, rfl, rw', z5, by rw [z6.length]; exact hj, ?_⟩
            have r5 := own_put r4.left.left r.2 z1 (z6.set (show Dv F3 v d from rv) j)
            have := l.nx _ _ r5 (by rw [map_set_snd]; exact hn)
            rw [map_set_fst] at this
            have e5 : (Z.map Prod.fst).set i (some (V.ref a)) = Z.map Prod.fst := by
              refine List.ext_getElem? fun n => ?_
              rw [List.getElem?_set]
              by_cases hin : i = n
              · subst hin
                rw [if_pos rfl, if_pos (List.getElem?_eq_some_iff.mp z2).1]; exact z2.symm
              · rw [if_neg hin]
            rw [e5] at this
            exact this
theorem set_self {Z : Zt} {i : Nat} {x : Option V} (h : (Z.map Prod.fst)[i]? = some x) : (Z.map Prod.fst).set i x = Z.map Prod.fst := by
  refine List.ext_getElem? fun n => ?_
  rw [List.getElem?_set]
  by_cases hin : i = n
  · subst hin
    rw [if_pos rfl, if_pos (List.getElem?_eq_some_iff.mp h).1]; exact h.symm
  · rw [if_neg hin]
/-- x += e -/
def dAug (i : Nat) (o : SV → SV → (SV → Prop) → Prop) (f : DX) : DSX := fun E σ => match σ[i]? with
  | some (some (.val d)) => f σ fun sy => o (.val d) sy fun sv => match sv with
    | .val e => E.nx (σ.set i (some (.val e)))
    | _ => False
  | _ => False
instance {te : TE} {f : DX} {i : Nat} {r : R2} {o} [he : DE F0 H0 te f] [ho : OpD F0 H0 r o] : DS F0 H0 (tAug i te r) (dAug i o f) where
  run Z T H E D r h l := by
    unfold dAug at h
    cases e3 : (Z.map Prod.snd)[i]? with
    | none => rw [e3] at h; exact h.elim
    | some ov =>
      match ov, e3 with
      | none, e3 => rw [e3] at h; exact h.elim
      | some (.own _), e3 => rw [e3] at h; exact h.elim
      | some (.ali _), e3 => rw [e3] at h; exact h.elim
      | some (.raw _), e3 => rw [e3] at h; exact h.elim
      | some (.ent _), e3 => rw [e3] at h; exact h.elim
      | some (.val d), e3 =>
        rw [e3] at h
        obtain ⟨F, r0⟩ := r.1
        obtain ⟨v, z1, z2, rv⟩ := slot_val r0 e3
        have h' : f (Z.map Prod.snd) fun sy => o (.val d) sy fun sv => match sv with
          | .val e => E.nx ((Z.map Prod.snd).set i (some (.val e)))
          | _ => False := h
        refine ⟨v, z2, he.run Z T H _ _ ⟨F, r0⟩ h' fun sy hy y H1 ⟨F1, r1⟩ => ?_⟩
        obtain ⟨r1', ry⟩ := one_tmp r1
        obtain ⟨v', z3, _, rv'⟩ := slot_val r1' e3
        rw [z1] at z3; cases z3
        have r2 : Rep F0 H0 F1 H1 ((Z ++ T) ++ [(some v, some (.val d)), (some y, some sy)]) := by
          have q1 : Rep F0 H0 F1 H1 ((Z ++ T) ++ [(some y, some sy)]) := by rw [List.append_assoc]; exact r1
          have q2 := q1.pushV (v := v) (d := d) rv'
          refine q2.perm ?_
          have e : ((Z ++ T) ++ [(some y, some sy)]) ++ [(some v, some (SV.val d))] = (Z ++ T) ++ [(some y, some sy), (some v, some (SV.val d))] := by simp
          rw [e]
          exact List.Perm.append_left _ (List.Perm.swap _ _ _)
        refine ho.run (Z ++ T) v y (.val d) sy H1 _ _ ⟨F1, r2⟩ hy fun sv hs w H2 ⟨F2, r3⟩ => ?_
        cases sv with
        | own _ => exact hs.elim
        | ali _ => exact hs.elim
        | raw _ => exact hs.elim
        | ent _ => exact hs.elim
        | val e => exact low_set l (store_S ⟨F2, by rw [← List.append_assoc]; exact r3⟩ r.2 (by intro _ e; cases e)) hs
/-- an expression alone -/
def dDrop (f : DX) : DSX := fun E σ => f σ fun _ => E.nx σ
instance (priority := low) {te : TE} {f : DX} [he : DE F0 H0 te f] : DS F0 H0 (tDrop te) (dDrop f) where
  run Z T H E D r h l := he.run Z T H _ _ r.1 h fun sv hs v H' ⟨F, r'⟩ => l.nx Z H' ⟨⟨F, (one_tmp r').1⟩, r.2⟩ hs
/-- x.append(e), x an own list -/
def dApp (i : Nat) (f : DX) : DSX := fun E σ => match σ[i]? with
  | some (some (.own ds)) => f σ fun sv => match sv.fix? with
    | some e => ds.length < sizeLine ∧ E.nx (σ.set i (some (.own (ds ++ [e]))))
    | none => False
  | _ => False
instance {te : TE} {f : DX} {i : Nat} [he : DE F0 H0 te f] : DS F0 H0 (tDrop (tBM K "list" rAppend (tVar i) (tCons te tNil))) (dApp i f) where
  run Z T H E D r h l := by
    unfold dApp at h
    cases e3 : (Z.map Prod.snd)[i]? with
    | none => rw [e3] at h; exact h.elim
    | some ov =>
      match ov, e3 with
      | none, e3 => rw [e3] at h; exact h.elim
      | some (.val _), e3 => rw [e3] at h; exact h.elim
      | some (.ali _), e3 => rw [e3] at h; exact h.elim
      | some (.raw _), e3 => rw [e3] at h; exact h.elim
      | some (.ent _), e3 => rw [e3] at h; exact h.elim
      | some (.own ds), e3 =>
        rw [e3] at h
        obtain ⟨F, r0⟩ := r.1
        obtain ⟨a, vs, z1, z2, z3, _⟩ := own_slot r0 e3
        have h' : f (Z.map Prod.snd) fun sv => match sv.fix? with
          | some e => ds.length < sizeLine ∧ E.nx ((Z.map Prod.snd).set i (some (.own (ds ++ [e]))))
          | none => False := h
        refine ⟨.ref a, z2, .inl ⟨rfl, _, SqL.of z3⟩, he.run Z T H _ _ ⟨F, r0⟩ h' fun sv hs y H1 ⟨F1, r1⟩ => ?_⟩
        cases e : sv.fix? with
        | none => rw [e] at hs; exact hs.elim
        | some d =>
          rw [e] at hs
          rw [← List.append_assoc] at r1
          obtain ⟨F2, r2⟩ := r1.fixLast e
          obtain ⟨a', vs2, q1, q2, q3, q4⟩ := own_slot r2.left e3
          rw [z1] at q1; cases q1
          refine ⟨a, vs2, y, rfl, rfl, q3, by rw [q4.length]; exact hs.1, ?_⟩
          have := l.nx _ _ (own_put r2.left r.2 z1 (q4.app (.cons r2.last .nil))) (by rw [map_set_snd]; exact hs.2)
          rw [map_set_fst, set_self z2] at this
          exact this
/-! ### return -/
def frzD (σ : SD) : SD := σ.map (Option.map SV.frz)
def frzP (p : Option V × Option SV) : Option V × Option SV := (p.1, p.2.map SV.frz)
theorem Rep.frzAll : ∀ (Z A B : Zt) (F : Hp), (∀ p ∈ Z, NoAli p) → Rep F0 H0 F H (A ++ Z ++ B) → ∃ F', Rep F0 H0 F' H (A ++ Z.map frzP ++ B)
  | [], A, B, F, _, r => ⟨F, by simpa using r⟩
  | (x, none) :: Z, A, B, F, n, r => by
    obtain ⟨F', r'⟩ := Rep.frzAll Z (A ++ [(x, none)]) B F (fun p hp => n p (List.mem_cons_of_mem _ hp)) (by simpa using r)
    exact ⟨F', by simpa [frzP] using r'⟩
  | (x, some (.val d)) :: Z, A, B, F, n, r => by
    obtain ⟨F', r'⟩ := Rep.frzAll Z (A ++ [(x, some (.val d))]) B F (fun p hp => n p (List.mem_cons_of_mem _ hp)) (by simpa using r)
    exact ⟨F', by simpa [frzP, SV.frz] using r'⟩
  | (x, some (.raw d)) :: Z, A, B, F, n, r => by
    obtain ⟨F', r'⟩ := Rep.frzAll Z (A ++ [(x, some (.raw d))]) B F (fun p hp => n p (List.mem_cons_of_mem _ hp)) (by simpa using r)
    exact ⟨F', by simpa [frzP, SV.frz] using r'⟩
  | (x, some (.ent d)) :: Z, A, B, F, n, r => by
    obtain ⟨F', r'⟩ := Rep.frzAll Z (A ++ [(x, some (.ent d))]) B F (fun p hp => n p (List.mem_cons_of_mem _ hp)) (by simpa using r)
    exact ⟨F', by simpa [frzP, SV.frz] using r'⟩
  | (x, some (.ali d)) :: Z, A, B, F, n, r => absurd rfl (n _ List.mem_cons_self d)
  | (x, some (.own d)) :: Z, A, B, F, n, r => by
    have r0 : Rep F0 H0 F H (A ++ (x, some (.own d)) :: (Z ++ B)) := by simpa using r
    obtain ⟨F1, r1⟩ := r0.freeze
    obtain ⟨F', r'⟩ := Rep.frzAll Z (A ++ [(x, some (.val (.list d)))]) B F1 (fun p hp => n p (List.mem_cons_of_mem _ hp)) (by simpa using r1)
    exact ⟨F', by simpa [frzP, SV.frz] using r'⟩
theorem frz_fst (Z : Zt) : (Z.map frzP).map Prod.fst = Z.map Prod.fst := by rw [List.map_map]; rfl
theorem frz_snd (Z : Zt) : (Z.map frzP).map Prod.snd = frzD (Z.map Prod.snd) := by unfold frzD; rw [List.map_map, List.map_map]; rfl
def dRet (f : DX) : DSX := fun E σ => f (frzD σ) E.rt
instance (priority := low) {te : TE} {f : DX} [he : DE F0 H0 te f] : DS F0 H0 (tRet te) (dRet f) where
  run Z T H E D r h l := by
    obtain ⟨F, r0⟩ := r.1
    obtain ⟨F1, r1⟩ := Rep.frzAll (F0 := F0) (H0 := H0) Z [] T F (noali_left r.2) r0
    have h' : f ((Z.map frzP).map Prod.snd) E.rt := by rw [frz_snd]; exact h
    have := he.run (Z.map frzP) T H _ D.rt ⟨F1, r1⟩ h' fun sv hs v H' ⟨F2, r2⟩ => l.rt sv v H' hs ⟨F2, r2.sub ((List.sublist_append_right _ _).trans (List.sublist_append_right _ _))⟩
    rw [frz_fst] at this
    exact this
/-- return x -/
def dRetV (i : Nat) : DSX := fun E σ => match σ[i]? with | some (some sv) => E.rt sv | _ => False
instance {i : Nat} : DS F0 H0 (tRet (tVar i)) (dRetV i) where
  run Z T H E D r h l := by
    unfold dRetV at h
    cases e : (Z.map Prod.snd)[i]? with
    | none => rw [e] at h; exact h.elim
    | some o =>
      cases o with
      | none => rw [e] at h; exact h.elim
      | some sv =>
        rw [e] at h
        obtain ⟨F, r0⟩ := r.1
        obtain ⟨v, h1, h2, rv⟩ := slot_val r0 e
        exact ⟨v, h2, l.rt sv v H h ⟨F, r0.sub (List.singleton_sublist.mpr (List.mem_append_left _ (List.mem_of_getElem? h1)))⟩⟩
instance : DS F0 H0 tRetN (fun E σ => E.rt (.val .none)) where
  run Z T H E D r h l := by
    obtain ⟨F, r0⟩ := r.1
    exact l.rt _ _ H h ⟨F, by simpa using (r0.pushV (v := .non) (d := .none) .non).sub (List.sublist_append_right _ _)⟩
/-! ### raise -/
def dRaise (C : Addr) (ER : Addr → Int → Prop) (fa : DAX) : DSX := fun _ σ => fa σ fun as => match as with
  | [x] => match x.int? with | some i => i.natAbs.log2 < 1920 ∧ ER C i | none => False
  | _ => False
instance {C : Addr} {E' : XK} {ER} [hE : EOk H0 E' ER] {ta : TA} {fa : DAX} [ha : DA F0 H0 ta fa] : DS F0 H0 (_root_.ER.tRaise C (fun cls d _ H => E' cls d H) ta) (dRaise C ER fa) where
  run Z T H E D r h l := ha.run Z T H _ _ r.1 h fun A h1 H1 ⟨F, r1⟩ => by
    match A, h1, r1 with
    | [(v, sv)], h1, r1 =>
      simp only [List.map_cons, List.map_nil] at h1
      cases e : sv.int? with
      | none => rw [e] at h1; exact h1.elim
      | some i =>
        rw [e] at h1
        obtain ⟨r0, rv⟩ := one_tmp (v := v) (sv := sv) r1
        exact ⟨i, by rw [← rv.int e]; rfl, h1.1, fun d nd => hE.run C i h1.2 d H1 r1.ent nd⟩
/-! ### loops -/
def dWhile (fc : DTX) (g : DSX) : DSX := fun E σ => ∃ (I : SD → Prop) (μ : SD → Nat), I σ ∧ ∀ σ, I σ → fc σ fun b => Br b (g { E with nx := fun σ' => I σ' ∧ μ σ' < μ σ, ct := fun σ' => I σ' ∧ μ σ' < μ σ, bk := E.nx } σ) (E.nx σ)
instance {c : TT} {t : TS} {fc : DTX} {g : DSX} [hc : DT F0 H0 c fc] [hg : DS F0 H0 t g] : DS F0 H0 (tWhile c t) (dWhile fc g) where
  run Z T H E D r h l := by
    obtain ⟨I, μ, h0, hs⟩ := h
    refine ⟨fun m σ H => ∃ Z', Z'.map Prod.fst = σ ∧ RepS F0 H0 H (Z' ++ T) ∧ I (Z'.map Prod.snd) ∧ m = μ (Z'.map Prod.snd), ⟨_, Z, rfl, r, h0, rfl⟩, ?_⟩
    rintro m σ H' ⟨Z', rfl, r', h', rfl⟩
    refine hc.run Z' T H' _ _ r'.1 (hs _ h') fun b hb H1 r1 => ?_
    cases b with
    | true =>
      refine iteT ⟨fun σ H => ∃ Z2, Z2.map Prod.fst = σ ∧ RepS F0 H0 H (Z2 ++ T) ∧ I (Z2.map Prod.snd) ∧ μ (Z2.map Prod.snd) < μ (Z'.map Prod.snd), fun σ' H' ⟨Z2, a, b, c, d⟩ => ⟨_, d, Z2, a, b, c, rfl⟩, ?_⟩
      exact hg.run Z' T H1 _ _ ⟨r1, r'.2⟩ hb.t ⟨fun Z2 H2 q p => ⟨Z2, rfl, q, p.1, p.2⟩, l.nx, fun Z2 H2 q p => ⟨Z2, rfl, q, p.1, p.2⟩, l.rt⟩
    | false => exact iteF (l.nx Z' H1 ⟨r1, r'.2⟩ hb.f)
/-- what a for walks is let go first -/
class FV (w : TI) (is : outParam (List Nat)) : Prop where
  triv : True
instance (priority := low) {w : TI} : FV w [] := ⟨trivial⟩
instance {i : Nat} : FV (iList K (tVar i)) [i] := ⟨trivial⟩
instance {i : Nat} : FV (iEnum K (tCons (tVar i) tNil)) [i] := ⟨trivial⟩
instance {i : Nat} : FV (iRev K (tCons (tVar i) tNil)) [i] := ⟨trivial⟩
instance {i j : Nat} : FV (iZip K (tCons (tVar i) (tCons (tVar j) tNil))) [i, j] := ⟨trivial⟩
def frz1 (i : Nat) (σ : SD) : SD := match σ[i]? with | some (some (.own ds)) => σ.set i (some (.val (.list ds))) | _ => σ
def frzL : List Nat → SD → SD
  | [], σ => σ
  | i :: is, σ => frzL is (frz1 i σ)
theorem Rep.frz1 {Z T : Zt} (i : Nat) (r : RepS F0 H0 H (Z ++ T)) : ∃ Z', Z'.map Prod.fst = Z.map Prod.fst ∧ Z'.map Prod.snd = frz1 i (Z.map Prod.snd) ∧ RepS F0 H0 H (Z' ++ T) := by
  cases e : (Z.map Prod.snd)[i]? with
  | none => exact ⟨Z, rfl, by unfold DL.frz1; rw [e], r⟩
  | some o =>
    match o, e with
    | none, e => exact ⟨Z, rfl, by unfold DL.frz1; rw [e], r⟩
    | some (.val _), e => exact ⟨Z, rfl, by unfold DL.frz1; rw [e], r⟩
    | some (.ali _), e => exact ⟨Z, rfl, by unfold DL.frz1; rw [e], r⟩
    | some (.raw _), e => exact ⟨Z, rfl, by unfold DL.frz1; rw [e], r⟩
    | some (.ent _), e => exact ⟨Z, rfl, by unfold DL.frz1; rw [e], r⟩
    | some (.own ds), e =>
      obtain ⟨F, r0⟩ := r.1
      obtain ⟨a, vs, z1, z2, _, _⟩ := own_slot r0 e
      have hi : i < Z.length := (List.getElem?_eq_some_iff.mp z1).1
      obtain ⟨A, z, B, h1, h2, h3⟩ := cut_at Z i hi
      have hz : z = (some (.ref a), some (.own ds)) := by
        rw [h1, List.getElem?_append_right (by omega), h2, Nat.sub_self] at z1
        exact Option.some.inj z1
      subst hz
      have r1 : Rep F0 H0 F H (A ++ (some (.ref a), some (.own ds)) :: (B ++ T)) := by rw [h1] at r0; simpa using r0
      obtain ⟨F', r2⟩ := r1.freeze
      refine ⟨Z.set i (some (.ref a), some (.val (.list ds))), by rw [map_set_fst, set_self z2], by rw [map_set_snd]; unfold DL.frz1; rw [e], ⟨F', by rw [h3]; simpa using r2⟩, fun p hp => ?_⟩
      rcases List.mem_append.mp hp with w | w
      · rcases List.mem_or_eq_of_mem_set w with w | w
        · exact r.2 p (List.mem_append_left _ w)
        · subst w; exact fun es e => nomatch e
      · exact r.2 p (List.mem_append_right _ w)
theorem Rep.frzL {T : Zt} : ∀ (is : List Nat) {Z : Zt}, RepS F0 H0 H (Z ++ T) → ∃ Z', Z'.map Prod.fst = Z.map Prod.fst ∧ Z'.map Prod.snd = frzL is (Z.map Prod.snd) ∧ RepS F0 H0 H (Z' ++ T)
  | [], Z, r => ⟨Z, rfl, rfl, r⟩
  | i :: is, Z, r => by
    obtain ⟨Z1, a1, a2, a3⟩ := Rep.frz1 i r
    obtain ⟨Z2, b1, b2, b3⟩ := Rep.frzL is a3
    exact ⟨Z2, b1.trans a1, by rw [b2, a2]; rfl, b3⟩
def loopD (g : DG1) (body : DSX) (items : List PyData) : DSX := fun E σ => ∃ I : Nat → SD → Prop, I 0 σ ∧
  (∀ i d σ, items[i]? = some d → I i σ → g d σ fun σ' => body { E with nx := I (i + 1), ct := I (i + 1), bk := E.nx } σ') ∧ ∀ σ, I items.length σ → E.nx σ
def dFor (is : List Nat) (fi : SD → (List PyData → Bool → Prop) → Prop) (g : DG1) (body : DSX) : DSX := fun E σ => fi (frzL is σ) fun items b => b = true ∧ loopD g body items E (frzL is σ)
instance {wi : TI} {is fi} {g : TG} {fg ix} {tb : TS} {gb : DSX} [FV wi is] [hi : DI F0 H0 wi fi] [hg : DGt F0 H0 g fg ix] [hb : DS F0 H0 tb gb] : DS F0 H0 (tFor wi g tb) (dFor is fi fg gb) where
  run Z T H E D r h l := by
    obtain ⟨Z0, e1, e2, r0⟩ := Rep.frzL is r
    unfold dFor at h
    rw [← e2] at h
    rw [← e1]
    refine hi.run Z0 T H _ _ r0.1 h fun items b h1 J H1 A ⟨F1, r1⟩ na w => ?_
    obtain ⟨rfl, I, h0, hs, hk⟩ := h1
    have nA := na rfl
    have nTA : ∀ {Z' : Zt}, (∀ p ∈ Z' ++ T, NoAli p) → ∀ p ∈ Z' ++ (T ++ A), NoAli p := fun n p hp => by
      rw [← List.append_assoc] at hp
      rcases List.mem_append.mp hp with z | z
      · exact n p z
      · exact nA p z
    have back : ∀ {Z' : Zt} {H' : Hp}, RepS F0 H0 H' (Z' ++ (T ++ A)) → RepS F0 H0 H' (Z' ++ T) := fun {Z' H'} q => by
      obtain ⟨⟨F', q1⟩, q2⟩ := q
      rw [← List.append_assoc] at q1 q2
      exact ⟨⟨F', q1.left⟩, noali_left q2⟩
    refine ⟨fun i m σ H => m = items.length - i ∧ i ≤ items.length ∧ ∃ Z', Z'.map Prod.fst = σ ∧ RepS F0 H0 H (Z' ++ (T ++ A)) ∧ I i (Z'.map Prod.snd), ⟨items.length, by simp, Nat.zero_le _, Z0, rfl, ⟨⟨F1, r1⟩, nTA r0.2⟩, h0⟩, ?_⟩
    rintro i m σ H' ⟨rfl, hle, Z', rfl, r', hI⟩
    obtain ⟨⟨F', r1'⟩, n'⟩ := r'
    have r2 : Rep F0 H0 F' H' ((Z' ++ T) ++ A) := by rw [List.append_assoc]; exact r1'
    by_cases hlt : i < items.length
    · refine .inr ⟨w.goes i H' F' _ hlt r2, fun σ H => ∃ Z', Z'.map Prod.fst = σ ∧ RepS F0 H0 H (Z' ++ (T ++ A)) ∧ I (i + 1) (Z'.map Prod.snd), fun σ2 H2 hn => ⟨items.length - (i + 1), by omega, rfl, hlt, hn⟩, fun x H2 y => ?_⟩
      have hd : items[i]? = some items[i] := List.getElem?_eq_getElem hlt
      obtain ⟨F2, r3⟩ := w.yields i H' x H2 F' _ _ hd r2 y
      refine hg.run Z' (T ++ A) H2 F2 x items[i] _ _ (by rw [← List.append_assoc]; exact r3.left) r3.last (hs i _ _ hd hI) fun Z3 p3 s3 => ?_
      refine hb.run Z3 (T ++ A) H2 _ _ ⟨⟨F2, s3.rep⟩, fun p hp => ?_⟩ p3 ⟨fun Z4 H4 q p => ⟨Z4, rfl, q, p⟩, fun Z4 H4 q p => l.nx Z4 H4 (back q) p, fun Z4 H4 q p => ⟨Z4, rfl, q, p⟩, l.rt⟩
      rcases List.mem_append.mp hp with z | z
      · rcases s3.mem p z with z | ⟨d', z⟩
        · exact n' p (List.mem_append_left _ z)
        · exact fun es e => by rw [z] at e; cases e
      · exact n' p (List.mem_append_right _ z)
    · have e : i = items.length := by omega
      subst e
      exact .inl ⟨w.stops H' F' _ r2, l.nx Z' H' (back ⟨⟨F', r1'⟩, n'⟩) (hk _ hI)⟩
end
end DL
/-! Reading by data: rules with K named, small things. -/
namespace DL
open PySem PySem.Spec PyProof.Rows L2 NB
theorem pe_z {X : Cx} (n : Int) {j pos} {i : Int} (h : i = n := by rfl) : PE X (.Constant (.int i) j pos) (tC (.int n)) := by subst h; exact pe_int
theorem pass00 {X : Cx} : Passes CX0 X (fun _ _ _ => False) := pass0
section
variable {X : Cx} {K : PySem.W.Frag}
theorem call_lenK (h : X.K = K) : CallR X (.builtin "len") (fun xs H Q => ∃ p ys, xs = [.ref p] ∧ (SqL K H p ys ∨ SqT K H p ys) ∧ Q (.int ys.length) H) := h ▸ call_len_seq
theorem call_listK (h : X.K = K) : CallR X (.type "list") (fun xs H Q => ∃ p ys, xs = [.ref p] ∧ (SqL K H p ys ∨ SqT K H p ys) ∧ ∀ l, H l = none → Q (.ref l) (upd H l (.lst ys))) := h ▸ call_list_of
theorem cr_sumK (h : X.K = K) (hc : X.calm = true) : CallR X (.builtin "sum") (rSum K) := h ▸ cr_sum hc
theorem cr_anyK (h : X.K = K) (hc : X.calm = true) : CallR X (.builtin "any") (rAny K) := h ▸ cr_any hc
theorem cr_allK (h : X.K = K) (hc : X.calm = true) : CallR X (.builtin "all") (rAll K) := h ▸ cr_all hc
end
end DL
/-! Data: lists of ints, equality. -/
namespace DL
open PySem PySem.Spec PyProof.Rows L2 NB
theorem D_at {α : Type} {ds : List α} {i : Int} (h0 : 0 ≤ i) (h : i < ds.length) : atI ds i = some (ds[i.toNat]'(by omega)) := by
  unfold atI ixN
  rw [if_pos h0, if_pos h]
  simp
theorem D_atN {α : Type} {ds : List α} {i : Nat} {d : α} (h : ds[i]? = some d) : atI ds (i : Int) = some d := by
  have hl := (List.getElem?_eq_some_iff.mp h).1
  rw [D_at (by omega) (by omega)]
  simp only [Int.toNat_natCast]
  rw [← List.getElem?_eq_getElem, h]
theorem ixN_pos {n : Nat} {i : Int} (h0 : 0 ≤ i) (h : i < n) : ixN n i = some i.toNat := by unfold ixN; rw [if_pos h0, if_pos h]
theorem LI_len (ns : List Int) : (LI ns).length = ns.length := by unfold LI; simp
theorem LI_get {ns : List Int} {i : Nat} {z : Int} (h : ns[i]? = some z) : (LI ns)[i]? = some (.int z) := by unfold LI; rw [List.getElem?_map, h]; rfl
theorem LI_inv {ns : List Int} {i : Nat} {d : PyData} (h : (LI ns)[i]? = some d) : ∃ z, ns[i]? = some z ∧ d = .int z := by
  unfold LI at h
  rw [List.getElem?_map] at h
  cases e : ns[i]? with
  | none => rw [e] at h; cases h
  | some z => rw [e] at h; exact ⟨z, rfl, (Option.some.inj h).symm⟩
theorem LI_at {ns : List Int} {i : Int} (h0 : 0 ≤ i) (h : i < ns.length) : ∃ z, ns[i.toNat]? = some z ∧ atI (LI ns) i = some (.int z) := by
  refine ⟨ns[i.toNat]'(by omega), List.getElem?_eq_getElem _, ?_⟩
  rw [D_at h0 (by rw [LI_len]; exact h)]
  unfold LI
  simp
theorem LI_app (a b : List Int) : LI a ++ LI b = LI (a ++ b) := by unfold LI; simp
theorem LI_snoc (a : List Int) (z : Int) : LI a ++ [.int z] = LI (a ++ [z]) := by unfold LI; simp
theorem LI_nil : ([] : List PyData) = LI [] := rfl
theorem LI_set (a : List Int) (i : Nat) (z : Int) : (LI a).set i (.int z) = LI (a.set i z) := by unfold LI; rw [List.map_set]
theorem LI_take (a : List Int) (n : Nat) : (LI a).take n = LI (a.take n) := by unfold LI; rw [List.map_take]
theorem LI_drop (a : List Int) (n : Nat) : (LI a).drop n = LI (a.drop n) := by unfold LI; rw [List.map_drop]
theorem LI_rep (n : Nat) (z : Int) : (List.replicate n [PyData.int z]).flatten = LI (List.replicate n z) := by
  unfold LI
  induction n with
  | zero => rfl
  | succ n ih => rw [List.replicate_succ, List.flatten_cons, ih]; simp [List.replicate_succ]
theorem sIx_len (n : Nat) : HT.sIx n n none = n := by rfl
theorem cutD_nat {ds : List PyData} {lo hi : Nat} : cutD ds (some (lo : Int)) (some (hi : Int)) = (ds.drop (min lo ds.length)).take (min hi ds.length - min lo ds.length) := by
  unfold cutD
  rw [HT.sIx_nat, HT.sIx_nat]
theorem cutD_to {ds : List PyData} {hi : Nat} : cutD ds none (some (hi : Int)) = ds.take hi := by
  unfold cutD
  have e : HT.sIx ds.length 0 none = 0 := by rfl
  rw [e, HT.sIx_nat, List.drop_zero, Nat.sub_zero]
  by_cases h : hi ≤ ds.length
  · rw [Nat.min_eq_left h]
  · rw [Nat.min_eq_right (by omega), List.take_of_length_le (by omega), List.take_of_length_le (by omega)]
theorem cutD_from {ds : List PyData} {lo : Nat} : cutD ds (some (lo : Int)) none = ds.drop lo := by
  unfold cutD
  have e : HT.sIx ds.length ds.length none = ds.length := by rfl
  rw [e, HT.sIx_nat]
  by_cases h : lo ≤ ds.length
  · rw [Nat.min_eq_left h, List.take_of_length_le (by rw [List.length_drop]; exact Nat.le_refl _)]
  · rw [Nat.min_eq_right (by omega), Nat.sub_self, List.take_zero, List.drop_of_length_le (by omega)]
/-! equality of plain things -/
def flat0 : PyData → Bool
  | .none => true
  | .bool _ => true
  | .int _ => true
  | _ => false
theorem flat_lay {d : PyData} (h : flat0 d = true) : PyData.canLay0 d = true := by cases d <;> first | rfl | (simp [PyData.canLay0]; done) | exact Bool.noConfusion h
theorem flat_dep {d : PyData} (h : flat0 d = true) : PyData.depth d = 0 := by cases d <;> first | rfl | (simp [PyData.depth]; done) | exact Bool.noConfusion h
theorem flat_eqv {d : PyData} (h : flat0 d = true) : PyData.eqv d d = true := by cases d <;> first | rfl | (simp [PyData.eqv]; done) | exact Bool.noConfusion h
/-- plain things in lists and tuples, n deep -/
def flatN : Nat → PyData → Bool
  | 0, d => flat0 d
  | n + 1, .list ds => ds.all (flatN n)
  | n + 1, .tuple ds => ds.all (flatN n)
  | _ + 1, d => flat0 d
mutual
theorem N_lay : ∀ (n : Nat) (d : PyData), flatN n d = true → PyData.canLay0 d = true ∧ PyData.depth d ≤ 2 * n ∧ PyData.eqv d d = true
  | 0, d, h => ⟨flat_lay h, by rw [flat_dep h]; omega, flat_eqv h⟩
  | n + 1, .list ds, h => by
    obtain ⟨a, b, c⟩ := Ns_lay n ds h
    refine ⟨by simpa [PyData.canLay0] using a, by simp only [PyData.depth]; omega, by simpa [PyData.eqv] using c⟩
  | n + 1, .tuple ds, h => by
    obtain ⟨a, b, c⟩ := Ns_lay n ds h
    refine ⟨by simpa [PyData.canLay0] using a, by simp only [PyData.depth]; omega, by simpa [PyData.eqv] using c⟩
  | n + 1, .none, h => ⟨flat_lay rfl, by rw [flat_dep rfl]; omega, flat_eqv rfl⟩
  | n + 1, .bool _, h => ⟨flat_lay rfl, by rw [flat_dep rfl]; omega, flat_eqv rfl⟩
  | n + 1, .int _, h => ⟨flat_lay rfl, by rw [flat_dep rfl]; omega, flat_eqv rfl⟩
theorem Ns_lay : ∀ (n : Nat) (ds : List PyData), ds.all (flatN n) = true → PyData.canLayAll0 ds = true ∧ PyData.depthAll ds ≤ 2 * n + 1 ∧ PyData.eqvAll ds ds = true
  | n, [], _ => ⟨by simp [PyData.canLayAll0], by simp [PyData.depthAll], by simp [PyData.eqvAll]⟩
  | n, d :: ds, h => by
    rw [List.all_cons, Bool.and_eq_true] at h
    obtain ⟨a, b, c⟩ := N_lay n d h.1
    obtain ⟨a', b', c'⟩ := Ns_lay n ds h.2
    exact ⟨by simp [PyData.canLayAll0, a, a'], by simp only [PyData.depthAll]; omega, by simp [PyData.eqvAll, c, c']⟩
end
theorem shp {n : Nat} {d : PyData} (h : flatN n d = true) (hn : n ≤ 8 := by decide) : SeqAt.shaped d = true := by
  obtain ⟨a, b, c⟩ := N_lay n d h
  unfold SeqAt.shaped
  rw [Bool.and_eq_true]
  exact ⟨a, decide_eq_true (by omega)⟩
theorem eqv_self {n : Nat} {d : PyData} (h : flatN n d = true) : PyData.eqv d d = true := (N_lay n d h).2.2
/-- equal things are equal -/
theorem eqD_self {n : Nat} {sx sy : SV} {d : PyData} {P : SV → Prop} (e1 : sx.dat? = some d) (e2 : sy.dat? = some d) (h : flatN n d = true) (hp : P (.val (.bool true))) (hn : n ≤ 8 := by decide) : oEqD false sx sy P := by
  constructor
  rw [e1, e2]
  refine ⟨shp h hn, shp h hn, ?_⟩
  rw [eqv_self h]
  exact hp
theorem neD_self {n : Nat} {sx sy : SV} {d : PyData} {P : SV → Prop} (e1 : sx.dat? = some d) (e2 : sy.dat? = some d) (h : flatN n d = true) (hp : P (.val (.bool false))) (hn : n ≤ 8 := by decide) : oEqD true sx sy P := by
  constructor
  rw [e1, e2]
  refine ⟨shp h hn, shp h hn, ?_⟩
  rw [eqv_self h]
  exact hp
theorem neD1 {sx sy : SV} {d : PyData} {P : SV → Prop} (e1 : sx.dat? = some d) (e2 : sy.dat? = some d) (h : flatN 1 d = true) (hp : P (.val (.bool false))) : oEqD true sx sy P := neD_self e1 e2 h hp
theorem neD2 {sx sy : SV} {d : PyData} {P : SV → Prop} (e1 : sx.dat? = some d) (e2 : sy.dat? = some d) (h : flatN 2 d = true) (hp : P (.val (.bool false))) : oEqD true sx sy P := neD_self e1 e2 h hp
theorem eqD1 {sx sy : SV} {d : PyData} {P : SV → Prop} (e1 : sx.dat? = some d) (e2 : sy.dat? = some d) (h : flatN 1 d = true) (hp : P (.val (.bool true))) : oEqD false sx sy P := eqD_self e1 e2 h hp
theorem eqD2 {sx sy : SV} {d : PyData} {P : SV → Prop} (e1 : sx.dat? = some d) (e2 : sy.dat? = some d) (h : flatN 2 d = true) (hp : P (.val (.bool true))) : oEqD false sx sy P := eqD_self e1 e2 h hp
theorem LI_flat (ns : List Int) : (LI ns).all flat0 = true := by unfold LI; rw [List.all_map]; exact List.all_eq_true.mpr fun _ _ => rfl
theorem LI_flatN (ns : List Int) : flatN 1 (.list (LI ns)) = true := LI_flat ns
theorem LI_flatD (ns : List Int) : (LI ns).all flatD = true := by unfold LI; rw [List.all_map]; exact List.all_eq_true.mpr fun _ _ => rfl
end DL
/-! Data: try .. except at a def's own level. -/
namespace DL
open PySem PySem.Spec PyProof.Rows L2 NB ER
/-- what is told of the error that a suite holds: it is at a, of the class C, its at is n -/
class EInf (F0 : Hp) (K : PySem.W.Frag) (a : Addr) (cls : Value) (d : Option Addr) (C : outParam Addr) (n : outParam Int) : Prop where
  inf : cls = .ref C ∧ (∃ dd, d = some dd ∧ F0 dd = some (.xd [("at", .int n)])) ∧ ∃ mg x fI CH, XC K mg x C fI CH
/-- what is wanted of an error that leaves a try's body -/
class EOkW (F0 H0 : Hp) (W : WX) (ER : outParam (Addr → Int → SD → Prop)) : Prop where
  run : ∀ C n (Z T : Zt) H' dd, ER C n (Z.map Prod.snd) → (∃ F, Rep F0 H0 F H' (Z ++ T)) → (∀ p ∈ Z, NoAli p) → H' dd = none → W (.ref C) (some dd) (Z.map Prod.fst) (upd H' dd (.xd [("at", .int n)]))
class DS0 (F0 H0 : Hp) (t : TS) (g : outParam DSX) : Prop where
  run : ∀ (Z : Zt) (H : Hp) (E : DEnds) (D : Ends), RepS F0 H0 H (Z ++ []) → g E (Z.map Prod.snd) → Low F0 H0 [] E D → t D (Z.map Prod.fst) H
/-- a statement within a try, whose errors are told by ER -/
class DSW (F0 H0 : Hp) (t : TS) (g : outParam DSX) : Prop where
  run : ∀ (Z : Zt) (H : Hp) (E : DEnds) (D : Ends), RepS F0 H0 H (Z ++ []) → g E (Z.map Prod.snd) → Low F0 H0 [] E D → t D (Z.map Prod.fst) H
section
variable {F0 H0 F H : Hp} {K : PySem.W.Frag}
instance (priority := low) {t : TS} {g : DSX} [h : DS F0 H0 t g] : DS0 F0 H0 t g where
  run Z H E D := h.run Z [] H E D
instance {t u : TS} {g1 g2 : DSX} [h1 : DS0 F0 H0 t g1] [h2 : DS0 F0 H0 u g2] : DS0 F0 H0 (tSeq t u) (dSeq g1 g2) where
  run Z H E D r h l := h1.run Z H _ _ r h (l.nx' _ _ fun Z' H' r' h' => h2.run Z' H' E D r' h' l)
instance {t u : TS} {g1 g2 : DSX} [h1 : DS0 F0 H0 t g1] [h2 : DS0 F0 H0 u g2] : DS0 F0 H0 (C8.tCut t u) (dCut g1 g2) where
  run Z H E D r h l := by
    obtain ⟨M, h, k⟩ := h
    refine ⟨fun σ' H' => ∃ Z', Z'.map Prod.fst = σ' ∧ RepS F0 H0 H' (Z' ++ []) ∧ M (Z'.map Prod.snd), h1.run Z H _ _ r h (l.nx' _ _ fun Z' H' r' h' => ⟨Z', rfl, r', h'⟩), ?_⟩
    rintro σ' H' ⟨Z', rfl, r', h'⟩
    exact h2.run Z' H' E D r' (k _ h') l
instance {c : TT} {t u : TS} {fc : DTX} {g1 g2 : DSX} [hc : DT F0 H0 c fc] [h1 : DS0 F0 H0 t g1] [h2 : DS0 F0 H0 u g2] : DS0 F0 H0 (tIfS c t u) (dIfS fc g1 g2) where
  run Z H E D r h l := hc.run Z [] H _ _ r.1 h fun b hb H1 r1 => by
    cases b with
    | true => exact iteT (h1.run Z H1 E D ⟨r1, r.2⟩ hb.t l)
    | false => exact iteF (h2.run Z H1 E D ⟨r1, r.2⟩ hb.f l)
/-! the suite -/
def bIsE (K : PySem.W.Frag) (a C : Addr) : SV → SV → (SV → Prop) → Prop := fun x y P => x = .raw (.ref a) ∧ ∃ D b, y = .raw (.ref D) ∧ PySem.W.kitOne K (.ref C) (.ref D) = some b ∧ P (.val (.bool b))
instance {a : Addr} {cls : Value} {d : Option Addr} {C : Addr} {n : Int} [e : EInf F0 K a cls d C n] : CbD F0 H0 (rIsE K a cls d) (fun xs P => match xs with | [x, y] => bIsE K a C x y P | _ => False) :=
  .two fun W x y sx sy H F P Q r rx ry l ⟨ex, D, b, ey, hk, hp⟩ q => by
    obtain ⟨rfl, ⟨dd, rfl, hd⟩, T⟩ := e.inf
    subst ex ey
    cases rx
    cases ry
    exact ⟨C, .ref D, .ref D, b, dd, _, rfl, rfl, T, rfl, l _ _ (r.base _ _ hd), fun u h => h, hk, q _ hp _ _ ⟨F, r.pushV (.bl _)⟩⟩
def dAt (a : Addr) (n : Int) (f : DX) : DX := fun σ P => f σ fun sv => sv = .raw (.ref a) ∧ P (.val (.int n))
instance {a : Addr} {cls : Value} {d : Option Addr} {C : Addr} {n : Int} {te : TE} {f : DX} [e : EInf F0 K a cls d C n] [h : DE F0 H0 te f] : DE F0 H0 (tAt K a cls d te) (dAt a n f) where
  run Z T H P Q := fun hr hh q => h.run Z T H _ _ hr hh fun sv ⟨e1, hp⟩ v H' ⟨F, r⟩ => by
    obtain ⟨rfl, ⟨dd, rfl, hd⟩, X⟩ := e.inf
    subst e1
    obtain ⟨r0, rv⟩ := one_tmp r
    cases rv
    exact ⟨C, dd, n, rfl, rfl, X, rfl, r0.low _ _ (r0.base _ _ hd), q _ hp _ _ ⟨F, put_tmp r0 (.int _)⟩⟩
/-! the body -/
def dCallW (F0 : Hp) (R : RC) (ER : Addr → Int → SD → Prop) (fa : DAX) : DX := fun σ P => fa σ fun as => ∃ S, R F0 (as.map SV.frz) S ∧ ∀ r, S r → match r with
  | .ok sv => ((as.any SV.isAli || sv.isEnt) = true → sv.flat = true) ∧ P sv
  | .er C i => ER C i σ
/-- an expression within a try -/
class DEW (F0 H0 : Hp) (t : TE) (f : outParam DX) : Prop where
  run : ∀ (Z T : Zt) (H : Hp) (P : SV → Prop) (Q : VK), (∃ F, Rep F0 H0 F H (Z ++ T)) → (∀ p ∈ Z, NoAli p) → f (Z.map Prod.snd) P → (∀ sv, P sv → ∀ v H', (∃ F, Rep F0 H0 F H' (Z ++ (T ++ [(some v, some sv)]))) → Q v H') → t (Z.map Prod.fst) H Q
instance (priority := low) {t : TE} {f : DX} [h : DE F0 H0 t f] : DEW F0 H0 t f where
  run Z T H P Q r _ := h.run Z T H P Q r
instance {R : RC} [MonoR R] {W : WX} {ER} [he : EOkW F0 H0 W ER] {ta : TA} {fa : DAX} [ha : DA F0 H0 ta fa] : DEW F0 H0 (tCallS (spF R) (WE W) ta) (dCallW F0 R ER fa) where
  run Z T H P Q := fun hr na h q => ha.run Z T H _ _ hr h fun A h1 H1 ⟨F, r1⟩ => by
    have r1' : Rep F0 H0 F H1 ((Z ++ T) ++ A.map pr) := by rw [List.append_assoc]; exact r1
    obtain ⟨S, h1, h2⟩ := h1
    obtain ⟨s1, s2⟩ := keepArgs_at F H1 r1'.low A
    refine ⟨keepArgs F H1 A, A.map (fun p => (p.1, p.2.frz)), S, by simp, args_ok r1', (fun s hs => by
      rw [List.map_map] at hs
      obtain ⟨p, _, rfl⟩ := List.mem_map.mp hs
      obtain ⟨v, s⟩ := p
      cases s <;> rfl), MonoR.mono (r1'.base.trans s1) (by simpa [Function.comp_def] using h1), fun rs hs => ?_⟩
    have := h2 rs hs
    cases rs with
    | ok sv => exact fun v H' b => q sv this.2 v H' (by
        have := back_ok r1' b fun z => this.1 (by simpa [List.any_map] using z)
        simpa using this)
    | er C i =>
      intro dd H' sm nd
      refine he.run C i Z [] H' dd this ?_ na nd
      have rZ : Rep F0 H0 F H1 Z := r1'.left.left
      exact ⟨F, by rw [List.append_nil]; exact rZ.both (Same.refl _) (rZ.low.trans sm) sm fun _ h _ => h⟩
instance (priority := low) {t : TS} {g : DSX} [h : DS F0 H0 t g] : DSW F0 H0 t g where
  run Z H E D := h.run Z [] H E D
instance {te : TE} {f : DX} [he : DEW F0 H0 te f] : DSW F0 H0 (tDrop te) (dDrop f) where
  run Z H E D r h l := he.run Z [] H _ _ r.1 (noali_left r.2) h fun sv hs v H' ⟨F, r'⟩ => l.nx Z H' ⟨⟨F, (one_tmp r').1⟩, r.2⟩ hs
instance {te : TE} {f : DX} {i : Nat} [he : DEW F0 H0 te f] : DSW F0 H0 (tAsg te (gName i)) (dSet i f) where
  run Z H E D r h l := he.run Z [] H _ _ r.1 (noali_left r.2) h fun sv hs v H' r' => by
    show D.nx ((Z.map Prod.fst).set i (some v)) H'
    cases sv with
    | val d => exact low_set l (store_S r' r.2 (by intro _ e; cases e)) hs
    | raw u => exact low_set l (store_S r' r.2 (by intro _ e; cases e)) hs
    | ent u => exact hs.elim
    | ali ds => exact hs.elim
    | own ds =>
      rcases hs with hs | hs
      · exact low_set l (store_S r' r.2 (by intro _ e; cases e)) hs
      · obtain ⟨F', r'⟩ := r'
        rw [← List.append_assoc] at r'
        obtain ⟨F2, r2⟩ := r'.freeze
        exact low_set l (store_S ⟨F2, by rw [← List.append_assoc]; exact r2⟩ r.2 (by intro _ e; cases e)) hs
instance {te : TE} {f : DX} [he : DEW F0 H0 te f] : DSW F0 H0 (tRet te) (dRet f) where
  run Z H E D r h l := by
    obtain ⟨F, r0⟩ := r.1
    obtain ⟨F1, r1⟩ := Rep.frzAll (F0 := F0) (H0 := H0) Z [] [] F (noali_left r.2) r0
    have h' : f ((Z.map frzP).map Prod.snd) E.rt := by rw [frz_snd]; exact h
    have := he.run (Z.map frzP) [] H _ D.rt ⟨F1, r1⟩ (fun p hp es e => by
      obtain ⟨q, _, rfl⟩ := List.mem_map.mp hp
      obtain ⟨x, s⟩ := q
      cases s with
      | none => cases e
      | some s => cases s <;> cases e) h' fun sv hs v H' ⟨F2, r2⟩ => l.rt sv v H' hs ⟨F2, r2.sub ((List.sublist_append_right _ _).trans (List.sublist_append_right _ _))⟩
    rw [frz_fst] at this
    exact this
instance {t u : TS} {g1 g2 : DSX} [h1 : DSW F0 H0 t g1] [h2 : DSW F0 H0 u g2] : DSW F0 H0 (tSeq t u) (dSeq g1 g2) where
  run Z H E D r h l := h1.run Z H _ _ r h (l.nx' _ _ fun Z' H' r' h' => h2.run Z' H' E D r' h' l)
instance {c : TT} {t u : TS} {fc : DTX} {g1 g2 : DSX} [hc : DT F0 H0 c fc] [h1 : DSW F0 H0 t g1] [h2 : DSW F0 H0 u g2] : DSW F0 H0 (tIfS c t u) (dIfS fc g1 g2) where
  run Z H E D r h l := hc.run Z [] H _ _ r.1 h fun b hb H1 r1 => by
    cases b with
    | true => exact iteT (h1.run Z H1 E D ⟨r1, r.2⟩ hb.t l)
    | false => exact iteF (h2.run Z H1 E D ⟨r1, r.2⟩ hb.f l)
theorem DS0.cut {t u : TS} {g1 g2 : DSX} (h1 : DS0 F0 H0 t g1) (h2 : DS0 F0 H0 u g2) : DS0 F0 H0 (C8.tCut t u) (dCut g1 g2) := inferInstance
theorem DS0.seq {t u : TS} {g1 g2 : DSX} (h1 : DS0 F0 H0 t g1) (h2 : DS0 F0 H0 u g2) : DS0 F0 H0 (tSeq t u) (dSeq g1 g2) := inferInstance
/-! the try -/
def dTry (K : PySem.W.Frag) (c : Value) (i : Nat) (gb : (Addr → Int → SD → Prop) → DSX) (gs : Hp → Addr → Addr → Int → DSX) : DSX := fun E σ =>
  gb (fun C n σ' => (∃ mg x fI CH, XC K mg x C fI CH) ∧ PySem.W.exmOne K (.ref C) c = some true ∧ ∀ F0' a, gs F0' a C n { nx := fun σ'' => E.nx (σ''.set i none), rt := E.rt, bk := fun σ'' => E.bk (σ''.set i none), ct := fun σ'' => E.ct (σ''.set i none) } (σ'.set i (some (.raw (.ref a))))) E σ
theorem Low.more {F0' : Hp} {T : Zt} {E : DEnds} {D : Ends} (l : Low F0 H0 T E D) (s : Same F0 F0') (k : ∀ b, F0 b = none → H0 b ≠ none → F0' b = none) : Low F0' H0 T E D := by
  have k2 : ∀ {W : Zt} {F H : Hp}, Rep F0' H0 F H W → Rep F0 H0 F H W := fun r => ⟨s.trans r.base, r.low, r.ent, fun b h0 h1 => r.apart b (k b h0 h1) h1, r.ok, r.dist⟩
  have k3 : ∀ {W : Zt} {H : Hp}, RepS F0' H0 H W → RepS F0 H0 H W := fun ⟨⟨F, r⟩, n⟩ => ⟨⟨F, k2 r⟩, n⟩
  refine ⟨fun Z H r h => l.nx Z H (k3 r) h, fun Z H r h => l.bk Z H (k3 r) h, fun Z H r h => l.ct Z H (k3 r) h, fun sv v H h ⟨F, r⟩ => ?_⟩
  exact l.rt sv v H h ⟨F, k2 r⟩
theorem low_unset {Z : Zt} {i : Nat} {E : DEnds} {f : SD → Prop} {g : L2.St → Hp → Prop} (h : ∀ Z H, RepS F0 H0 H (Z ++ []) → f (Z.map Prod.snd) → g (Z.map Prod.fst) H) : RepS F0 H0 H (Z ++ []) → f ((Z.map Prod.snd).set i none) → g ((Z.map Prod.fst).set i none) H := fun r p => by
  have := h (Z.set i (none, none)) H ⟨by
    obtain ⟨⟨F, r⟩, _⟩ := r
    refine ⟨F, ?_⟩
    have r1 : Rep F0 H0 F H (Z ++ ([] ++ [((none : Option V), (none : Option SV))])) := by
      have r0 : Rep F0 H0 F H Z := by simpa using r
      refine ⟨r0.base, r0.low, r0.ent, r0.apart, fun p hp => ?_, ?_⟩
      · rcases List.mem_append.mp hp with z | z
        · exact r0.ok p z
        · simp at z; subst z; intro sv e; cases e
      · rw [List.pairwise_append]
        refine ⟨r0.dist, List.pairwise_singleton _ _, fun p hp q hq a es fs _ _ e => ?_⟩
        simp at hq; subst hq; cases e
    exact r1.store, fun p hp => by
    rw [List.append_nil] at hp
    rcases List.mem_or_eq_of_mem_set hp with z | z
    · exact r.2 p (by simpa using z)
    · subst z; exact fun es e => nomatch e⟩ (by rw [map_set_snd]; exact p)
  rw [map_set_fst] at this
  exact this
theorem DS0.tryI {c : Value} {i : Nat} {tb : WX → TS} {ts : Addr → Value → Option Addr → TS} {Wout : WX} {gb : (Addr → Int → SD → Prop) → DSX} {gs : Hp → Addr → Addr → Int → DSX}
    (hb : ∀ W ER, EOkW F0 H0 W ER → DSW F0 H0 (tb W) (gb ER)) (hs : ∀ F0' a cls d C n, EInf F0' K a cls d C n → DS F0' H0 (ts a cls d) (gs F0' a C n)) : DS0 F0 H0 (tTry K c i tb ts Wout) (dTry K c i gb gs) := ⟨fun Z H E D r h l => by
    have : EOkW F0 H0 (wAs K c i ts Wout D) (fun C n σ' => (∃ mg x fI CH, XC K mg x C fI CH) ∧ PySem.W.exmOne K (.ref C) c = some true ∧ ∀ F0' a, gs F0' a C n { nx := fun σ'' => E.nx (σ''.set i none), rt := E.rt, bk := fun σ'' => E.bk (σ''.set i none), ct := fun σ'' => E.ct (σ''.set i none) } (σ'.set i (some (.raw (.ref a))))) := by
      refine ⟨fun C n Z' T H' dd ⟨hX, he, hg⟩ ⟨F, r'⟩ na nd => ⟨true, he, fun _ a ha => ?_, fun z => Bool.noConfusion z⟩⟩
      have rZ : Rep F0 H0 F H' Z' := r'.left
      have rd := rZ.newF (o := HO.xd [("at", V.int n)]) nd
      have sF : Same F0 (upd F dd (.xd [("at", .int n)])) := rd.base
      let F0' := upd F dd (.xd [("at", .int n)])
      have inst : EInf F0' K a (.ref C) (some dd) C n := ⟨rfl, ⟨dd, rfl, upd_same⟩, hX⟩
      have r2 : Rep F0' H0 F0' (upd H' dd (.xd [("at", .int n)])) Z' := ⟨Same.refl _, rd.low, rd.ent, fun b h0 _ => h0, rd.ok, rd.dist⟩
      have r3 : RepS F0' H0 (upd H' dd (.xd [("at", .int n)])) (Z'.set i (some (.ref a), some (.raw (.ref a))) ++ []) := store_S ⟨F0', by simpa using r2.pushR⟩ (by simpa using na) (by intro _ e; cases e)
      have l2 : Low F0' H0 [] { nx := fun σ'' => E.nx (σ''.set i none), rt := E.rt, bk := fun σ'' => E.bk (σ''.set i none), ct := fun σ'' => E.ct (σ''.set i none) } { nx := fun σ' H' => D.nx (σ'.set i none) H', rt := D.rt, bk := fun σ' H' => D.bk (σ'.set i none) H', ct := fun σ' H' => D.ct (σ'.set i none) H' } := by
        have l1 := l.more sF rd.apart
        exact ⟨fun Z H r p => low_unset (E := E) l1.nx r p, fun Z H r p => low_unset (E := E) l1.bk r p, fun Z H r p => low_unset (E := E) l1.ct r p, l1.rt⟩
      have := (hs F0' a (.ref C) (some dd) C n inst).run _ [] _ _ _ r3 (by rw [map_set_snd]; exact hg F0' a) l2
      rw [map_set_fst] at this
      exact this
    exact (hb _ _ this).run Z H E D r h l⟩
end
end DL
/-! Data: defs keep contracts. -/
namespace DL
open PySem PySem.Spec PyProof.Rows L2 NB
section
variable {F0 H0 F H : Hp} {K : PySem.W.Frag}
/-! ### defs -/
/-- a contract's arguments are no aliases -/
def plainArgs (as : List SV) : Prop := ∀ s ∈ as, s.isAli = false
/-- from data to a def's reading -/
theorem def_run {R : RC} {N ps : List Str} {t : TS} {vs : List V} {Q : VK} {E : XK} (h : spF R vs H Q E) (hlen : ∀ F as S, R F as S → as.length = ps.length) {g : Hp → DSX} (inst : ∀ F0, DS0 F0 H t (g F0))
    (hx : ∀ F0 as S, R F0 as S → g F0 { nx := fun _ => S (.ok (.val .none)), rt := fun sv => S (.ok sv) } (as.map some ++ List.replicate (N.length - ps.length) none)) :
    t { nx := fun _ H' => Q .non H', rt := Q } (L2.start N vs) H := by
  obtain ⟨F, A, S, rfl, r, na, hR, hS⟩ := h
  have hl : A.length = ps.length := by have := hlen F _ S hR; simpa using this
  have e1 : (A.map pr ++ List.replicate (N.length - ps.length) ((none : Option V), (none : Option SV))).map Prod.fst = L2.start N (A.map Prod.fst) := by
    unfold L2.start
    rw [List.map_append, List.map_map, List.map_replicate, List.length_map, hl, List.map_map]; rfl
  have e2 : (A.map pr ++ List.replicate (N.length - ps.length) ((none : Option V), (none : Option SV))).map Prod.snd = (A.map Prod.snd).map some ++ List.replicate (N.length - ps.length) none := by
    rw [List.map_append, List.map_map, List.map_map, List.map_replicate]; rfl
  have rep : Rep F H F H (A.map pr ++ List.replicate (N.length - ps.length) ((none : Option V), (none : Option SV))) := by
    refine ⟨r.base, r.low, r.ent, r.apart, fun p hp => ?_, ?_⟩
    · rcases List.mem_append.mp hp with z | z
      · exact r.ok p z
      · rw [List.mem_replicate] at z
        rw [z.2]; intro sv e; cases e
    · rw [List.pairwise_append]
      refine ⟨r.dist, List.pairwise_replicate.mpr (.inr fun a es fs e => by cases e), fun p hp q hq a es fs _ _ e => ?_⟩
      rw [List.mem_replicate] at hq
      rw [hq.2] at e; cases e
  have noali : ∀ p ∈ A.map pr ++ List.replicate (N.length - ps.length) ((none : Option V), (none : Option SV)), NoAli p := fun p hp es e => by
    rcases List.mem_append.mp hp with z | z
    · obtain ⟨q, hq, rfl⟩ := List.mem_map.mp z
      have := na q.2 (List.mem_map.mpr ⟨q, hq, rfl⟩)
      rw [Option.some.inj e] at this; cases this
    · rw [List.mem_replicate] at z
      rw [z.2] at e; cases e
  have := (inst F).run _ H { nx := fun _ => S (.ok (.val .none)), rt := fun sv => S (.ok sv) } { nx := fun _ H' => Q .non H', rt := Q } ⟨⟨F, by rw [List.append_nil]; exact rep⟩, by rw [List.append_nil]; exact noali⟩ (by rw [e2]; exact hx F _ S hR)
    ⟨fun Z H' r' h' => hS _ h' .non H' (by
      obtain ⟨⟨F', q⟩, _⟩ := r'
      exact ⟨F', by simpa using (q.pushV (v := .non) (d := .none) .non).sub (List.sublist_append_right _ _)⟩), fun _ _ _ h => h.elim, fun _ _ _ h => h.elim, fun sv v H' h' b => hS _ h' v H' b⟩
  rw [e1] at this
  exact this
end
section
variable {P : Program} {w : World} {K : PySem.W.Frag} {mg : Str → Option Value} {base : Heap}
/-- a def that no error leaves keeps its contract -/
theorem okF {x qual : Str} {st : Stmt} {f : Addr} {fd : FuncData} {N ps : List Str} {k : Nat} {R : RC} (F : Fun K x qual st f fd) (S : FnScope N ps (defScope st)) (hlen : ∀ F as S, R F as S → as.length = ps.length)
    (body : ∀ (cdv : Value) (A : Around) (outer : List Env) (s : Shared) (H : Hp) (E : XK), Room k (A.deeper (envOfC qual (defScope st) s.heap.objs.size f cdv)) →
      ∃ (t : TS) (g : Hp → DSX), PSs (cxOf CX0 P w K mg base N qual (defScope st) f cdv A outer s H E).nox (defBody st) t ∧ (∀ F0, DS0 F0 H t (g F0)) ∧
        ∀ F0 as S, R F0 as S → g F0 { nx := fun _ => S (.ok (.val .none)), rt := fun sv => S (.ok sv) } (as.map some ++ List.replicate (N.length - ps.length) none)) : FnOk P w K mg base CX0 (k + 1) f fd ps (spF R) := by
  refine F.ok S (fun vs H Q E h => ?_) (fun cdv A outer s H vs Q E hr h => ?_)
  · obtain ⟨F, A, S, rfl, r, na, hR, hS⟩ := h
    simpa using hlen _ _ _ hR
  · obtain ⟨t, g, h1, h2, h3⟩ := body cdv A outer s H E hr
    exact ⟨t, h1, def_run h hlen h2 h3⟩
/-- the same of a def that errors may leave -/
theorem okFX {x qual : Str} {st : Stmt} {f : Addr} {fd : FuncData} {N ps : List Str} {k : Nat} {R : RC} (F : Fun K x qual st f fd) (S : FnScope N ps (defScope st)) (hlen : ∀ F as S, R F as S → as.length = ps.length)
    (body : ∀ (cdv : Value) (A : Around) (outer : List Env) (s : Shared) (H : Hp) (E : XK), Room k (A.deeper (envOfC qual (defScope st) s.heap.objs.size f cdv)) →
      ∃ (t : TS) (g : (Addr → Int → Prop) → Hp → DSX), PSs (cxOf (L2.CX P w) P w K mg base N qual (defScope st) f cdv A outer s H E) (defBody st) t ∧ (∀ F0 ER, EOk H E ER → DS0 F0 H t (g ER F0)) ∧
        ∀ F0 as (S : Rs → Prop), R F0 as S → g (fun C i => S (.er C i)) F0 { nx := fun _ => S (.ok (.val .none)), rt := fun sv => S (.ok sv) } (as.map some ++ List.replicate (N.length - ps.length) none)) : FnOk P w K mg base (L2.CX P w) (k + 1) f fd ps (spF R) := by
  refine F.okX S (fun vs H Q E h => ?_) (fun cdv A outer s H vs Q E hr h => ?_)
  · obtain ⟨F, A, S, rfl, r, na, hR, hS⟩ := h
    simpa using hlen _ _ _ hR
  · obtain ⟨t, g, h1, h2, h3⟩ := body cdv A outer s H E hr
    refine ⟨t, h1, ?_⟩
    obtain ⟨F1, A1, S1, e1, r1, na1, hR1, hS1⟩ := h
    refine def_run (R := fun F as S => S = S1 ∧ R F as S) (g := g (fun C i => S1 (.er C i))) ⟨F1, A1, S1, e1, r1, na1, ⟨rfl, hR1⟩, hS1⟩ (fun F as S h => hlen _ _ _ h.2) (fun F0 => h2 F0 _ ⟨fun C i hs dd H' sm nd => hS1 _ hs dd H' sm nd⟩) fun F0 as S h => ?_
    obtain ⟨rfl, h⟩ := h
    exact h3 F0 as S h
end

section
variable {F0 H0 F H : Hp}
/-- a law's rest, behind its first statement (which told the script's numbers): all that stands is let go -/
theorem law_rest {t : TS} {g : DSX} {Q : VK} {Z : Zt} {H : Hp} [inst : DS0 H H t g] (hz : ∀ p ∈ Z, ∀ sv, p.2 = some sv → ∃ v d, p.1 = some v ∧ sv = .val d ∧ Dv H v d) (hQ : ∀ H', Q (.bl true) H')
    (h : g { nx := fun _ => False, rt := fun sv => sv = .val (.bool true) } (Z.map Prod.snd)) : t { nx := fun _ H' => Q .non H', rt := Q } (Z.map Prod.fst) H := by
  refine inst.run Z H _ _ ⟨⟨H, Same.refl _, Same.refl _, Same.refl _, fun _ h _ => h, fun p hp => ?_, ?_⟩, fun p hp es e => ?_⟩ h ⟨fun _ _ _ h => h.elim, fun _ _ _ h => h.elim, fun _ _ _ h => h.elim, fun sv v H' e ⟨F, r⟩ => ?_⟩
  · intro sv e
    rw [List.append_nil] at hp
    obtain ⟨v, d, e1, rfl, hd⟩ := hz p hp sv e
    exact ⟨v, e1, hd⟩
  · refine List.Pairwise.imp_of_mem (S := Apart) (fun {p q} hp hq _ a es fs _ e _ _ => ?_) (all_pw (R := fun _ _ => True) (fun _ _ => trivial) _)
    rw [List.append_nil] at hp
    obtain ⟨v, d, _, z, _⟩ := hz p hp _ e
    cases z
  · rw [List.append_nil] at hp
    obtain ⟨v, d, _, z, _⟩ := hz p hp _ e
    cases z
  · subst e
    obtain ⟨w, e1, rv⟩ := r.ok (some v, some (SV.val (PyData.bool true))) (by simp) _ rfl
    cases e1
    cases rv
    exact hQ H'
theorem dv_ints (H : Hp) {l : Addr} {xs : List Int} (h : H l = some (.lst (xs.map V.int))) : Dv H (.ref l) (.list (LI xs)) := by
  have : ∀ ys : List Int, DvAll H (ys.map V.int) (LI ys) := fun ys => by
    unfold LI
    induction ys with
    | nil => exact .nil
    | cons y ys ih => exact .cons (.int y) ih
  exact .lst h (this xs)
end
section
variable {P : Program} {w : World} {K : PySem.W.Frag} {mg : Str → Option Value} {base : Heap}
def sp_draws (K : PySem.W.Frag) : Sp := fun vs H Q _ => ∃ (a : Addr) (ns : List Int), vs = [.ref a] ∧ SqL K H a (ns.map V.int) ∧ ns.length ≤ 63 ∧
  ∀ (l : Addr) (xs : List Int) H', Same H H' → H l = none → H' l = some (.lst (xs.map V.int)) → xs.length ≤ 4000 → Q (.ref l) H'
def sp_law (K : PySem.W.Frag) : Sp := fun vs H Q _ => ∃ (a : Addr) (ns : List Int), vs = [.ref a] ∧ SqL K H a (ns.map V.int) ∧ ns.length ≤ 63 ∧ ∀ H', Q (.bl true) H'
def lawEnds : DEnds := { nx := fun _ => False, rt := fun sv => sv = .val (.bool true) }
/-- a law that begins with draws = _law_draws(script) -/
theorem okLaw {x qual : Str} {st : Stmt} {f : Addr} {fd : FuncData} {N : List Str} {k : Nat} (F : Fun K x qual st f fd) (S : FnScope N ["script"] (defScope st)) (hN : 2 ≤ N.length)
    (body : ∀ (cdv : Value) (A : Around) (outer : List Env) (s : Shared) (H : Hp) (E : XK), Room k (A.deeper (envOfC qual (defScope st) s.heap.objs.size f cdv)) →
      ∃ (t : TS) (g : Hp → DSX), PSs (cxOf CX0 P w K mg base N qual (defScope st) f cdv A outer s H E).nox (defBody st) (tSeq (tAsg (tCall (sp_draws K) [] (fun _ _ _ => False) (tCons (tVar 0) tNil)) (gName 1)) t) ∧ (∀ F0, DS0 F0 F0 t (g F0)) ∧
        ∀ F0 (xs : List Int), xs.length ≤ 4000 → g F0 lawEnds (none :: some (.val (.list (LI xs))) :: List.replicate (N.length - 2) none)) : FnOk P w K mg base CX0 (k + 1) f fd ["script"] (sp_law K) := by
  refine F.ok S (fun vs H Q E h => ?_) (fun cdv A outer s H vs Q E hr h => ?_)
  · obtain ⟨a, ns, rfl, _⟩ := h; rfl
  · obtain ⟨a, ns, rfl, hS, hl, hQ⟩ := h
    obtain ⟨t, g, h1, h2, h3⟩ := body cdv A outer s H E hr
    refine ⟨_, h1, ?_⟩
    refine ⟨.ref a, rfl, a, ns, rfl, hS, hl, fun l xs H1 s1 nl hx hlen => ?_⟩
    have e : L2.start N [V.ref a] = some (.ref a) :: none :: List.replicate (N.length - 2) none := by
      unfold L2.start
      obtain ⟨m, hm⟩ : ∃ m, N.length = m + 2 := ⟨N.length - 2, by omega⟩
      rw [hm]
      show some (V.ref a) :: List.replicate (m + 2 - 1) none = some (V.ref a) :: none :: List.replicate (m + 2 - 2) none
      have : m + 2 - 1 = m + 1 := by omega
      rw [this, List.replicate_succ]; rfl
    show t _ ((L2.start N [V.ref a]).set 1 (some (.ref l))) H1
    rw [e]
    have inst := h2 H1
    have := law_rest (t := t) (g := g H1) (Q := Q) (Z := (some (.ref a), none) :: (some (.ref l), some (.val (.list (LI xs)))) :: List.replicate (N.length - 2) (none, none)) (H := H1) (fun p hp sv e => ?_) hQ (by
      simp only [List.map_cons, List.map_replicate]
      exact h3 H1 xs hlen)
    · simpa using this
    · rcases List.mem_cons.mp hp with z | hp
      · subst z; cases e
      · rcases List.mem_cons.mp hp with z | hp
        · subst z; cases e; exact ⟨_, _, rfl, rfl, dv_ints H1 hx⟩
        · rw [List.mem_replicate] at hp
          rw [hp.2] at e; cases e
end
end DL
/-! Data: isinstance, the draws of a law. -/
namespace DL
open PySem PySem.Spec PyProof.Rows L2 NB
section
variable {F0 H0 F H : Hp} {K : PySem.W.Frag}
theorem RV.ty {v : V} {sv : SV} {t : String} (r : RV H0 F H v sv) (l : Same F H) (e : sv.cls? = some t) : TyX K H v (.type t) := by
  match sv, r, e with
  | .val .none, r, e => cases e; cases r; exact .base .non
  | .val (.bool b), r, e => cases e; cases r; exact .base (.bl _)
  | .val (.int i), r, e => cases e; cases r; exact .base (.int _)
  | .val (.list ds), r, e =>
    cases e
    cases r with
    | lst h hs => exact .base (.lst (l _ _ h))
  | .val (.tuple ds), r, e =>
    cases e
    cases r with
    | tup h hs => exact .base (.tup (l _ _ h))
  | .own ds, r, e => cases e; obtain ⟨a, vs, rfl, _, _, h, hs⟩ := r; exact .base (.lst h)
  | .ali ds, r, e => cases e; obtain ⟨a, vs, rfl, _, h, hs⟩ := r; exact .base (.lst h)
def bIsi : SV → SV → (SV → Prop) → Prop := fun x y P => match x.cls?, y with | some t, .raw (.ty n) => ∃ b, kitB t n = some b ∧ P (.val (.bool b)) | _, _ => False
instance : CbD F0 H0 (rIsi K) (fun xs P => match xs with | [x, y] => bIsi x y P | _ => False) :=
  .two fun W x y sx sy H F P Q r rx ry l h q => by
    unfold bIsi at h
    cases e : sx.cls? with
    | none => rw [e] at h; exact h.elim
    | some t =>
      rw [e] at h
      match sy, h, ry with
      | .raw (.ty n), ⟨b, hb, hp⟩, ry =>
        cases ry
        exact ⟨x, .ty n, .type t, .type n, b, rfl, .ty n, rx.ty l e, kit_ty hb, q _ hp _ _ ⟨F, r.pushV (.bl _)⟩⟩
end
def rcMix : RC := pur fun as S => ∃ (ds : List Int) (k many : Int), as = [.val (.list (LI ds)), .val (.int k), .val (.int many)] ∧ 0 ≤ k ∧ k < 2 ^ 40 ∧ 0 < many ∧ ∀ v : Int, 0 ≤ v → v < many → S (.ok (.val (.int v)))
instance : MonoR rcMix := inferInstanceAs (MonoR (pur _))
/-- what a call that gives one value asks -/
theorem mix_go {F0 : Hp} {ds : List Int} {k many : Int} {al : SV → Bool} {P : SV → Prop} {ER : Addr → Int → Prop} (h : ∀ v : Int, 0 ≤ v → v < many → P (.val (.int v))) (hk : 0 ≤ k := by decide) (hk2 : k < 2 ^ 40 := by decide) (hm : 0 < many := by decide) :
    ∃ S, rcMix F0 [.val (.list (LI ds)), .val (.int k), .val (.int many)] S ∧ ∀ r, S r → match r with
      | .ok sv => (al sv = true → sv.flat = true) ∧ P sv
      | .er C i => ER C i := by
  refine ⟨fun r => ∃ v : Int, r = .ok (.val (.int v)) ∧ 0 ≤ v ∧ v < many, ⟨ds, k, many, rfl, hk, hk2, hm, fun v h1 h2 => ⟨v, rfl, h1, h2⟩⟩, ?_⟩
  rintro r ⟨v, rfl, h1, h2⟩
  exact ⟨fun _ => rfl, h v h1 h2⟩
/-! rules with K named: within a comprehension -/
section
variable {X : Cx} {K : PySem.W.Frag}
theorem pi_listK {tg l : Expr} {tl : TE} (h : X.K = K) (hl : PE X l tl) : PI X tg l (iList K tl) := h ▸ pi_list hl
theorem pi_enumK {e : Expr} {ta : TA} {p pos tpos : Pos} {elts : List Expr} {kk : Nat} (h : X.K = K) (hg : Gl X "enumerate") (hm : X.mg "enumerate" = none) (ha : PA X [e] ta) (hs : starEach [e] X.env = [(false, eval e X.env)] := by rfl) : PI X (.Tuple elts kk tpos) (.Call (.Name "enumerate" p) [e] [] pos) (iEnum K ta) := h ▸ pi_enum hg hm ha hs
theorem pi_zipK {e e2 : Expr} {ta : TA} {p pos tpos : Pos} {elts : List Expr} {kk : Nat} (h : X.K = K) (hg : Gl X "zip") (hm : X.mg "zip" = none) (ha : PA X [e, e2] ta)
    (hs : starEach [e, e2] X.env = (false, eval e X.env) :: starEach [e2] X.env := by rfl) (hpl : (backTo pos (starEach [e2] X.env)).any (·.1) = false := by rfl) : PI X (.Tuple elts kk tpos) (.Call (.Name "zip" p) [e, e2] [] pos) (iZip K ta) := h ▸ pi_zip hg hm ha hs hpl
theorem pi_revK {tg e : Expr} {ta : TA} {p pos : Pos} (h : X.K = K) (hg : Gl X "reversed") (hm : X.mg "reversed" = none) (ha : PA X [e] ta) (hs : starEach [e] X.env = [(false, eval e X.env)] := by rfl) : PI X tg (.Call (.Name "reversed" p) [e] [] pos) (iRev K ta) := h ▸ pi_reversed hg hm ha hs
theorem sl_listK (h : X.K = K) : SlR X (rSlL K) := h ▸ sl_list
theorem call_isK (h : X.K = K) : CallR X (.builtin "isinstance") (rIsi K) := h ▸ call_isi
theorem cr_maxK (h : X.K = K) (hc : X.calm = true) : CallR X (.builtin "max") (rMax K) := h ▸ cr_max hc
theorem cr_minK (h : X.K = K) (hc : X.calm = true) : CallR X (.builtin "min") (rMin K) := h ▸ cr_min hc
theorem op_inK (h : X.K = K) : OpR X (compareOp .In) (rIn K false) := h ▸ op_in_seq
theorem op_notInK (h : X.K = K) : OpR X (compareOp .NotIn) (rIn K true) := h ▸ op_notIn_seq
theorem pt_truK {a : Expr} {ta : TE} (h : X.K = K) (ha : PE X a ta) (he : ∀ whole, isTrue a X.env whole = (do let v ← whole; standAt a.pos; holding [v] (truthy v))) : PT X a (tTru K ta) := h ▸ pt_tru ha he
end
end DL
/-! Data: sums of bools. -/
namespace DL
open PySem PySem.Spec PyProof.Rows L2 NB
def b2n : V → Int
  | .bl true => 1
  | _ => 0
def rSumB (K : PySem.W.Frag) : List V → Hp → VK → Prop := fun vs H Q => ∃ (a : Addr) (bs : List Bool), vs = [V.ref a] ∧ SqL K H a (bs.map V.bl) ∧ Q (.int ((bs.map V.bl).map b2n).sum) H
theorem cr_sumB {X : Cx} (hc : X.calm = true) : CallR X (.builtin "sum") (rSumB X.K) := by
  intro pins s σ H vs us Q I r h
  obtain ⟨a, bs, rfl, hs, q⟩ := h
  obtain ⟨its, rv, hl, _⟩ := I.list hs
  rw [Vals.ref1 r]
  refine call_sum_walkAnyB (iter_any hl.isList fun s2 e2 st hne => ?_)
  subst e2
  refine ⟨_, _, _, _, _, _, _, fun i => b2n ((bs.map V.bl).getD i .non), rfl, (Walks.list (A := X.A.in1) (I.ok.hd hc) _ a hne its.toArray).toS, st, fun b hb => ?_, fun i v hv => ?_, fun s' t' m => ?_⟩
  · show b < (s.heap.push _).objs.size
    rw [Heap.size_push]
    obtain ⟨_, e, _⟩ := hl.isList
    have := Heap.lt_size e
    rcases List.mem_cons.mp hb with z | z
    · rw [z]; exact Nat.lt_succ_self _
    · rw [List.mem_singleton] at z; rw [z]; exact Nat.lt_succ_of_lt this
  · have hb := rv.bls
    have hv' : (bs.map Value.bool)[i]? = some v := by rw [← hb, ← List.getElem?_toArray]; exact hv
    rw [List.getElem?_map] at hv'
    cases e : bs[i]? with
    | none => rw [e] at hv'; cases hv'
    | some b =>
      rw [e] at hv'
      cases hv'
      refine .inr ⟨b, rfl, ?_⟩
      have : (bs.map V.bl).getD i .non = .bl b := by rw [List.getD_eq_getElem?_getD, List.getElem?_map, e]; rfl
      show b2n ((bs.map V.bl).getD i .non) = _
      rw [this]
      cases b <;> rfl
  · obtain ⟨h2, g2, d2, t2, o2⟩ := s'
    have eg : g2 = s.gens := m.gens
    have ed : d2 = s.drawn := m.drawn
    have eo : o2 = s.os := m.os
    subst eg ed eo
    refine ⟨.int _, H, I.kept (t' := t2) (h' := h2) fun b o e => m.heap b o (fun hm => ?_) (Heap.get?_push_of_some _ e), ⟨_, rfl⟩, ?_⟩
    · rw [List.mem_singleton] at hm
      have := Heap.lt_size e
      rw [hm] at this
      exact absurd this (Nat.lt_irrefl _)
    · have hn : its.toArray.size = (bs.map V.bl).length := by rw [List.size_toArray, rv.length]
      rw [hn, preSum_list (h := b2n) (bs.map V.bl) _ (fun i x hx => by rw [List.getD_eq_getElem?_getD, hx]; rfl) _ (Nat.le_refl _), List.take_length]
      exact q
/-- how many are true -/
def cntB (bs : List Bool) : Nat := (bs.filter id).length
theorem sum_cnt : ∀ bs : List Bool, ((bs.map V.bl).map b2n).sum = (cntB bs : Int)
  | [] => rfl
  | b :: bs => by
    have ih := sum_cnt bs
    simp only [List.map_cons, List.sum_cons, ih]
    cases b with
    | true => show (1 : Int) + (cntB bs : Int) = ((cntB (true :: bs) : Nat) : Int); unfold cntB; simp; omega
    | false => show (0 : Int) + (cntB bs : Int) = ((cntB (false :: bs) : Nat) : Int); unfold cntB; simp
section
variable {F0 H0 : Hp} {K : PySem.W.Frag}
theorem cr_sumBK {X : Cx} (h : X.K = K) (hc : X.calm = true) : CallR X (.builtin "sum") (rSumB K) := h ▸ cr_sumB hc
def bSumB : SV → (SV → Prop) → Prop := fun x P => ∃ bs : List Bool, x.items? = some (bs.map PyData.bool) ∧ P (.val (.int (cntB bs)))
instance : CbD F0 H0 (rSumB K) (fun xs P => match xs with | [x] => bSumB x P | _ => False) :=
  .one fun W x sx H F P Q r rx l ⟨ns, e, h⟩ q => by
    obtain ⟨a, vs, rfl, ha, hv⟩ := rx.items l e
    rw [all_bools hv] at ha
    exact ⟨a, ns, rfl, SqL.of ha, by rw [sum_cnt]; exact q _ h _ _ ⟨F, r.pushV (.int _)⟩⟩
end
end DL
/-! Data: objects that never change behind their making. -/
namespace DL
open PySem PySem.Spec PyProof.Rows L2 NB MKX
/-- an object of the class at C, its attributes in their order -/
def Ob (C : Addr) (fs : List (Str × PyData)) : PyData := .dict [(.int (.ofNat C), .tuple (fs.map fun p => PyData.str p.1)), (.none, .list (fs.map Prod.snd))]
/-- the attributes of an object, as they stand and as data -/
structure FsOk (F : Hp) (fs' : List (Str × V)) (fs : List (Str × PyData)) : Prop where
  nm : fs'.map Prod.fst = fs.map Prod.fst
  al : DvAll F (fs'.map Prod.snd) (fs.map Prod.snd)
theorem str_names {xs ys : List Str} (h : xs.map PyData.str = ys.map PyData.str) : xs = ys := (List.map_inj_right (fun a b e => PyData.str.inj e)).mp h
theorem Dv.obE {F : Hp} {v : V} {C : Addr} {fs : List (Str × PyData)} (h : Dv F v (Ob C fs)) : ∃ a dx fs', v = .ref a ∧ F a = some (.ins C dx fs') ∧ FsOk F fs' fs := by
  unfold Ob at h
  generalize hn : (fs.map fun p => PyData.str p.1) = ns at h
  generalize hd : fs.map Prod.snd = ds at h
  cases h with
  | ob h1 h2 h3 =>
    rename_i a dx fs'
    refine ⟨a, dx, fs', rfl, h1, str_names ?_, hd ▸ h3⟩
    rw [List.map_map, List.map_map]
    have := hn.trans h2
    exact this.symm
theorem Dv.obI {F : Hp} {a dx C : Addr} {fs' : List (Str × V)} {fs : List (Str × PyData)} (h : F a = some (.ins C dx fs')) (k : FsOk F fs' fs) : Dv F (.ref a) (Ob C fs) := .ob h (by
  have := congrArg (List.map PyData.str) k.nm
  rw [List.map_map, List.map_map] at this
  exact this.symm) k.al
theorem FsOk.mono {F F' : Hp} {fs' fs} (k : FsOk F fs' fs) (s : Same F F') : FsOk F' fs' fs := ⟨k.nm, k.al.mono s⟩
theorem FsOk.get {F : Hp} {f : Str} : ∀ {fs' : List (Str × V)} {fs : List (Str × PyData)} {d : PyData}, FsOk F fs' fs → fs.lookup f = some d → ∃ v, fs'.lookup f = some v ∧ Dv F v d
  | [], [], _, _, e => by cases e
  | [], _ :: _, _, k, _ => by have := k.nm; cases this
  | _ :: _, [], _, k, _ => by have := k.nm; cases this
  | (n, v) :: fs', (m, d') :: fs, d, k, e => by
    obtain ⟨h1, h2⟩ := k
    have e1 : n = m := (List.cons.inj h1).1
    subst e1
    cases h2 with
    | cons h hs =>
      by_cases z : f = n
      · subst z
        rw [List.lookup_cons_self] at e ⊢
        cases e
        exact ⟨v, rfl, h⟩
      · have z' : (f == n) = false := beq_eq_false_iff_ne.mpr z
        rw [List.lookup_cons, z'] at e ⊢
        exact FsOk.get ⟨(List.cons.inj h1).2, hs⟩ e
theorem FsOk.no {F : Hp} {f : Str} : ∀ {fs' : List (Str × V)} {fs : List (Str × PyData)}, FsOk F fs' fs → fs.lookup f = none → fs'.lookup f = none
  | [], [], _, _ => rfl
  | [], _ :: _, k, _ => by have := k.nm; cases this
  | _ :: _, [], k, _ => by have := k.nm; cases this
  | (n, v) :: fs', (m, d') :: fs, k, e => by
    obtain ⟨h1, h2⟩ := k
    have e1 : n = m := (List.cons.inj h1).1
    subst e1
    cases h2 with
    | cons h hs =>
      cases z : (f == n) with
      | true => rw [List.lookup_cons, z] at e; cases e
      | false =>
        rw [List.lookup_cons, z] at e ⊢
        exact FsOk.no ⟨(List.cons.inj h1).2, hs⟩ e
theorem FsOk.len {F : Hp} {fs' fs} (k : FsOk F fs' fs) : fs'.length = fs.length := by have := congrArg List.length k.nm; simpa using this
section
variable {F0 H0 F H : Hp} {K : PySem.W.Frag}
/-- e.f -/
def dFld (K : PySem.W.Frag) (f : Str) (g : DX) : DX := fun σ P => g σ fun sv => ∃ C fs d, sv = .val (Ob C fs) ∧ Cls K C ∧ NoAttr K C f ∧ fs.lookup f = some d ∧ P (.val d)
instance {te : TE} {g : DX} {f : Str} [he : DE F0 H0 te g] : DE F0 H0 (tFld K te f) (dFld K f g) where
  run Z T H P Q := fun hr h q => he.run Z T H _ _ hr h fun sv ⟨C, fs, d, e, c, n, l, hp⟩ v H' ⟨F, r⟩ => by
    subst e
    obtain ⟨r0, rv⟩ := one_tmp r
    obtain ⟨a, dx, fs', rfl, ha, k⟩ := Dv.obE rv
    obtain ⟨w, hw, hd⟩ := k.get l
    exact ⟨a, C, dx, fs', w, rfl, r0.low _ _ ha, c, n, hw, q _ hp _ _ ⟨F, put_tmp r0 hd⟩⟩
/-- o.m(..) -/
def dMeth (F0 : Hp) (C : Addr) (m : Str) (R : RC) (ER : Addr → Int → Prop) (f : DX) (fa : DAX) : DX := fun σ P => f σ fun x => ∃ fs, x = .val (Ob C fs) ∧ fs.lookup m = none ∧ fa σ fun as => ∃ S, R F0 (x :: as.map SV.frz) S ∧ ∀ r, S r → match r with
  | .ok sv => ((as.any SV.isAli || sv.isEnt) = true → sv.flat = true) ∧ P sv
  | .er C i => ER C i
theorem meth_run {R : RC} [MonoR R] {ER : Addr → Int → Prop} {E : XK} {C : Addr} {m : Str} {te : TE} {ta : TA} {f : DX} {fa : DAX} [he : DE F0 H0 te f] [ha : DA F0 H0 ta fa] (hE : ∀ C i, ER C i → ∀ dd H', Same H0 H' → H' dd = none → E (.ref C) (some dd) (upd H' dd (.xd [("at", .int i)])))
    {Z T : Zt} {H : Hp} {P : SV → Prop} {Q : VK} (hr : ∃ F, Rep F0 H0 F H (Z ++ T)) (h : dMeth F0 C m R ER f fa (Z.map Prod.snd) P) (q : ∀ sv, P sv → ∀ v H', (∃ F, Rep F0 H0 F H' (Z ++ (T ++ [(some v, some sv)]))) → Q v H') :
    te (Z.map Prod.fst) H fun x H1 => ∃ a dx fs, x = .ref a ∧ H1 a = some (.ins C dx fs) ∧ fs.lookup m = none ∧ ta (Z.map Prod.fst) H1 fun vs H2 => spF R (x :: vs) H2 Q E :=
  he.run Z T H _ _ hr h fun x ⟨fs, e, nl, h1⟩ v H1 ⟨F, r⟩ => by
    subst e
    obtain ⟨r0, rv⟩ := one_tmp r
    obtain ⟨a, dx, fs', rfl, hA, k⟩ := Dv.obE rv
    refine ⟨a, dx, fs', rfl, r0.low _ _ hA, k.no nl, ha.run Z (T ++ [(some (.ref a), some (.val (Ob C fs)))]) H1 _ _ ⟨F, r⟩ h1 fun A h2 H2 ⟨F2, r2⟩ => ?_⟩
    obtain ⟨S, h3, h4⟩ := h2
    exact call_run (ER := ER) (W := Z ++ T) (A := (.ref a, .val (Ob C fs)) :: A) (P := P) hE (by
      have := r2
      simp only [List.map_cons, List.append_assoc, List.cons_append, List.nil_append] at this ⊢
      exact this) ⟨S, h3, fun r hs => by
      have := h4 r hs
      cases r with
      | ok sv => exact ⟨fun z => this.1 (by simpa [SV.isAli] using z), this.2⟩
      | er C i => exact this⟩ fun sv hp v H3 r3 => q sv hp v H3 (by rw [← List.append_assoc]; exact r3)
instance {R : RC} [MonoR R] {C : Addr} {m : Str} {te : TE} {ta : TA} {f : DX} {fa : DAX} [he : DE F0 H0 te f] [ha : DA F0 H0 ta fa] : DE F0 H0 (tMeth C m (spF R) [] (fun _ _ _ => False) te ta) (dMeth F0 C m R (fun _ _ => False) f fa) where
  run Z T H P Q := fun hr h q => by
    have := meth_run (te := te) (ta := ta) (E := fun _ _ _ => False) (fun _ _ z => z.elim) hr h q
    unfold tMeth
    simpa only [List.append_nil] using this
instance {R : RC} [MonoR R] {E : XK} {ER} [hE : EOk H0 E ER] {C : Addr} {m : Str} {te : TE} {ta : TA} {f : DX} {fa : DAX} [he : DE F0 H0 te f] [ha : DA F0 H0 ta fa] : DE F0 H0 (tMtS C m (spF R) (fun _ cls d H => E cls d H) te ta) (dMeth F0 C m R ER f fa) where
  run Z T H P Q := fun hr h q => meth_run (te := te) (ta := ta) hE.run hr h q
end
end DL
/-! Data: objects are made. -/
namespace DL
open PySem PySem.Spec PyProof.Rows L2 NB MKX
/-- __init__: R tells of the arguments (without self) which objects may come -/
def spI (C : Addr) (R : RC) : Sp := fun vs H Q E => ∃ (x dx : Addr) (Hb F : Hp) (A : List (V × SV)) (S : Rs → Prop), vs = .ref x :: A.map Prod.fst ∧ Hb x = none ∧ Hb dx = none ∧ dx ≠ x ∧ H = upd (upd Hb dx (.own x)) x (.ins C dx []) ∧
  Rep F Hb F Hb (A.map pr) ∧ (∀ s ∈ A.map Prod.snd, s.isAli = false) ∧ R F (A.map Prod.snd) S ∧ ∀ r, S r → match r with
  | .ok sv => ∀ H', (∃ F', Rep F Hb F' H' [(some (.ref x), some sv)]) → Q .non H'
  | .er C i => ∀ dd H', Same Hb H' → H' dd = none → E (.ref C) (some dd) (upd H' dd (.xd [("at", .int i)]))
section
variable {F0 H0 F H : Hp} {K : PySem.W.Frag}
/-- a list as __init__ sees it: it stands at the entry, and stays -/
def SV.entz : SV → SV
  | .own ds => .ent ds
  | .ali ds => .ent ds
  | .val (.list ds) => .ent ds
  | x => x
theorem ent_ok {W : Zt} {A : List (V × SV)} (r : Rep F0 H0 F H (W ++ A.map pr)) : Rep F H F H ((A.map fun p => (p.1, p.2.entz)).map pr) := by
  refine ⟨Same.refl _, r.low, Same.refl _, fun b h _ => h, fun p hp sv e => ?_, ?_⟩
  · rw [List.map_map] at hp
    obtain ⟨⟨v, s⟩, hm, rfl⟩ := List.mem_map.mp hp
    cases e
    obtain ⟨w, e1, rv⟩ := r.ok (some v, some s) (List.mem_append_right _ (List.mem_map.mpr ⟨(v, s), hm, rfl⟩)) _ rfl
    cases e1
    refine ⟨v, rfl, ?_⟩
    cases s with
    | val d =>
      have rv' : Dv F v d := rv
      cases rv' with
      | lst h hs => exact ⟨_, _, rfl, r.low _ _ h, r.low _ _ h, hs⟩
      | non => exact Dv.non
      | bl b => exact Dv.bl b
      | int i => exact Dv.int i
      | str x => exact Dv.str x
      | tup h hs => exact Dv.tup h hs
      | ob h e hs => exact Dv.ob h e hs
    | raw u => exact rv
    | own ds =>
      obtain ⟨a, vs, rfl, _, _, h3, h4⟩ := rv
      exact ⟨a, vs, rfl, h3, h3, h4⟩
    | ali ds =>
      obtain ⟨a, vs, rfl, _, h3, h4⟩ := rv
      exact ⟨a, vs, rfl, h3, h3, h4⟩
    | ent ds =>
      obtain ⟨a, vs, rfl, _, h3, h4⟩ := rv
      exact ⟨a, vs, rfl, h3, h3, h4⟩
  · rw [List.pairwise_map, List.pairwise_map]
    refine all_pw (fun x y a es fs _ e2 _ _ => ?_) _
    obtain ⟨v, s⟩ := x
    cases s with
    | val d => cases d <;> cases e2
    | own _ => cases e2
    | ali _ => cases e2
    | raw _ => cases e2
    | ent _ => cases e2
theorem ent_na {A : List (V × SV)} : ∀ s ∈ (A.map fun p => (p.1, p.2.entz)).map Prod.snd, s.isAli = false := fun s hs => by
  rw [List.map_map] at hs
  obtain ⟨p, _, rfl⟩ := List.mem_map.mp hs
  obtain ⟨v, s⟩ := p
  cases s with
  | val d => cases d <;> rfl
  | own _ => rfl
  | ali _ => rfl
  | raw _ => rfl
  | ent _ => rfl
theorem made_ok {W : Zt} {v : V} {d : PyData} {H' : Hp} (r : Rep F0 H0 F H W) (b : ∃ F', Rep F H F' H' [(some v, some (.val d))]) : ∃ F', Rep F0 H0 F' H' (W ++ [(some v, some (.val d))]) := by
  obtain ⟨F', b⟩ := b
  have rF : Rep F0 H0 F' H' W := r.both b.base b.low b.ent b.apart
  obtain ⟨v', e0, rv⟩ := b.ok (some v, some (.val d)) (by simp) _ rfl
  cases e0
  exact ⟨F', rF.pushV rv⟩
/-- C(..), as data -/
def dMake (F0 : Hp) (R : RC) (ER : Addr → Int → Prop) (fa : DAX) : DX := fun σ P => fa σ fun as => ∃ S, R F0 (as.map SV.entz) S ∧ ∀ r, S r → match r with
  | .ok sv => (∃ d, sv = .val d) ∧ P sv
  | .er C i => ER C i
theorem make_run {C : Addr} {R : RC} [MonoR R] {ER : Addr → Int → Prop} {E : XK} {W : Zt} {A : List (V × SV)} {P : SV → Prop} {Q : VK} (hE : ∀ C i, ER C i → ∀ dd H', Same H0 H' → H' dd = none → E (.ref C) (some dd) (upd H' dd (.xd [("at", .int i)])))
    (r : Rep F0 H0 F H (W ++ A.map pr)) (h : ∃ S, R F0 ((A.map Prod.snd).map SV.entz) S ∧ ∀ r, S r → match r with
      | .ok sv => (∃ d, sv = .val d) ∧ P sv
      | .er C i => ER C i) (q : ∀ sv, P sv → ∀ v H', (∃ F, Rep F0 H0 F H' (W ++ [(some v, some sv)])) → Q v H') {x dx : Addr} (nx : H x = none) (nd : H dx = none) (ne : dx ≠ x) :
    spI C R (.ref x :: A.map Prod.fst) (upd (upd H dx (.own x)) x (.ins C dx [])) (fun v H2 => v = .non ∧ Q (.ref x) H2) E := by
  obtain ⟨S, h1, h2⟩ := h
  refine ⟨x, dx, H, F, A.map (fun p => (p.1, p.2.entz)), S, by simp, nx, nd, ne, rfl, ent_ok r, ent_na, MonoR.mono r.base (by simpa [Function.comp_def] using h1), fun rs hs => ?_⟩
  have := h2 rs hs
  cases rs with
  | ok sv =>
    obtain ⟨⟨d, rfl⟩, hp⟩ := this
    exact fun H' b => ⟨rfl, q _ hp (.ref x) H' (made_ok r.left b)⟩
  | er C i => exact fun dd H' s n => hE C i this dd H' (r.ent.trans s) n
instance {C : Addr} {R : RC} [MonoR R] {ta : TA} {fa : DAX} [ha : DA F0 H0 ta fa] : DE F0 H0 (tMake C (spI C R) [] (fun _ _ _ => False) ta) (dMake F0 R (fun _ _ => False) fa) where
  run Z T H P Q := fun hr h q => ha.run Z T H _ _ hr h fun A h1 H1 ⟨F, r1⟩ => by
    intro x dx nx nd ne
    rw [List.append_nil]
    exact make_run (W := Z ++ T) (P := P) (fun _ _ z => z.elim) (by rw [List.append_assoc]; exact r1) h1 (fun sv hp v H2 r2 => q sv hp v H2 (by rw [← List.append_assoc]; exact r2)) nx nd ne
instance {C : Addr} {R : RC} [MonoR R] {E : XK} {ER} [he : EOk H0 E ER] {ta : TA} {fa : DAX} [ha : DA F0 H0 ta fa] : DE F0 H0 (tMkS C (spI C R) (fun _ cls d H => E cls d H) ta) (dMake F0 R ER fa) where
  run Z T H P Q := fun hr h q => ha.run Z T H _ _ hr h fun A h1 H1 ⟨F, r1⟩ => by
    intro x dx nx nd ne
    exact make_run (W := Z ++ T) (P := P) he.run (by rw [List.append_assoc]; exact r1) h1 (fun sv hp v H2 r2 => q sv hp v H2 (by rw [← List.append_assoc]; exact r2)) nx nd ne
def dMakeW (F0 : Hp) (R : RC) (ER : Addr → Int → SD → Prop) (fa : DAX) : DX := fun σ P => fa σ fun as => ∃ S, R F0 (as.map SV.entz) S ∧ ∀ r, S r → match r with
  | .ok sv => (∃ d, sv = .val d) ∧ P sv
  | .er C i => ER C i σ
instance {C : Addr} {R : RC} [MonoR R] {W : WX} {ER} [he : EOkW F0 H0 W ER] {ta : TA} {fa : DAX} [ha : DA F0 H0 ta fa] : DEW F0 H0 (tMkS C (spI C R) (WE W) ta) (dMakeW F0 R ER fa) where
  run Z T H P Q := fun hr na h q => ha.run Z T H _ _ hr h fun A h1 H1 ⟨F, r1⟩ => by
    have r1' : Rep F0 H0 F H1 ((Z ++ T) ++ A.map pr) := by rw [List.append_assoc]; exact r1
    obtain ⟨S, h1, h2⟩ := h1
    intro x dx nx nd ne
    refine ⟨x, dx, H1, F, A.map (fun p => (p.1, p.2.entz)), S, by simp, nx, nd, ne, rfl, ent_ok r1', ent_na, MonoR.mono r1'.base (by simpa [Function.comp_def] using h1), fun rs hs => ?_⟩
    have := h2 rs hs
    cases rs with
    | ok sv =>
      obtain ⟨⟨d, rfl⟩, hp⟩ := this
      exact fun H' b => ⟨rfl, q _ hp (.ref x) H' (by
        have := made_ok r1'.left b
        simpa using this)⟩
    | er C i =>
      intro dd H' sm nd
      refine he.run C i Z [] H' dd this ?_ na nd
      have rZ : Rep F0 H0 F H1 Z := r1'.left.left
      exact ⟨F, by rw [List.append_nil]; exact rZ.both (Same.refl _) (rZ.low.trans sm) sm fun _ h _ => h⟩
/-! ### the body of __init__ -/
abbrev DIE := List (Str × PyData) → SD → Prop
abbrev DIX := DIE → List (Str × PyData) → SD → Prop
/-- what stands while self at x is being made -/
structure Mkg (F0 Hb : Hp) (C x : Addr) (fs' : List (Str × V)) (fs : List (Str × PyData)) (dx : Addr) (F1 : Hp) (H : Hp) (Z : Zt) : Prop where
  base : Same F0 F1
  apart : ∀ b, F0 b = none → Hb b ≠ none → F1 b = none
  nx : F1 x = none
  rep : RepS F1 (upd Hb x (.ins C dx fs')) H (Z ++ [])
  ok : FsOk F1 fs' fs
  slf : (Z.map Prod.snd)[0]? = some (some (.raw (.ref x)))
class DIn (F0 Hb : Hp) (C x : Addr) (t : TS) (g : outParam DIX) : Prop where
  run : ∀ (F1 H : Hp) (Z : Zt) (dx : Addr) (fs' : List (Str × V)) (fs : List (Str × PyData)) (E : DIE) (D : Ends), Mkg F0 Hb C x fs' fs dx F1 H Z → g E fs (Z.map Prod.snd) →
    (∀ F2 H' Z' fs2' fs2, Mkg F0 Hb C x fs2' fs2 dx F2 H' Z' → E fs2 (Z'.map Prod.snd) → D.nx (Z'.map Prod.fst) H') → t D (Z.map Prod.fst) H
variable {Hb : Hp} {C x : Addr}
/-- a statement that leaves self alone -/
def dStm (F0 : Hp) (g : Hp → DSX) : DIX := fun E fs σ => ∀ F1, Same F0 F1 → g F1 { nx := fun σ' => σ'[0]? = σ[0]? ∧ E fs σ', rt := fun _ => False } σ
theorem eok_at {Ex : XK} {ER : Addr → Int → Prop} {o : HO} (he : EOk Hb Ex ER) (nx : Hb x = none) : EOk (upd Hb x o) Ex ER := ⟨fun C i h dd H' s n => he.run C i h dd H' ((same_upd nx).trans s) n⟩
theorem DIn.stm {t : TS} {g : Hp → DSX} (h : ∀ F1 o, DS0 F1 (upd Hb x o) t (g F1)) : DIn F0 Hb C x t (dStm F0 g) where
  run F1 H Z dx fs' fs E D m hg k := (h F1 (.ins C dx fs')).run Z H _ D m.rep (hg F1 m.base) ⟨fun Z' H' r' h' => k F1 H' Z' fs' fs ⟨m.base, m.apart, m.nx, r', m.ok, h'.1.trans m.slf⟩ h'.2, fun _ _ _ h => h.elim, fun _ _ _ h => h.elim, fun _ _ _ h => h.elim⟩
def dISeq (g1 g2 : DIX) : DIX := fun E fs σ => g1 (fun fs σ => g2 E fs σ) fs σ
theorem DIn.seq {t u : TS} {g1 g2 : DIX} (h1 : DIn F0 Hb C x t g1) (h2 : DIn F0 Hb C x u g2) : DIn F0 Hb C x (tSeq t u) (dISeq g1 g2) where
  run F1 H Z dx fs' fs E D m hg k := h1.run F1 H Z dx fs' fs _ _ m hg fun F2 H' Z' fs2' fs2 m2 h' => h2.run F2 H' Z' dx fs2' fs2 E D m2 h' k
def dICut (g1 g2 : DIX) : DIX := fun E fs σ => ∃ M : DIE, g1 M fs σ ∧ ∀ fs σ', M fs σ' → g2 E fs σ'
theorem DIn.cut {t u : TS} {g1 g2 : DIX} (h1 : DIn F0 Hb C x t g1) (h2 : DIn F0 Hb C x u g2) : DIn F0 Hb C x (C8.tCut t u) (dICut g1 g2) where
  run F1 H Z dx fs' fs E D m hg k := by
    obtain ⟨M, a, b⟩ := hg
    refine ⟨fun σ' H' => ∃ F2 Z' fs2' fs2, Z'.map Prod.fst = σ' ∧ Mkg F0 Hb C x fs2' fs2 dx F2 H' Z' ∧ M fs2 (Z'.map Prod.snd), h1.run F1 H Z dx fs' fs _ _ m a fun F2 H' Z' fs2' fs2 m2 h' => ⟨F2, Z', fs2', fs2, rfl, m2, h'⟩, ?_⟩
    rintro σ' H' ⟨F2, Z', fs2', fs2, rfl, m2, h'⟩
    exact h2.run F2 H' Z' dx fs2' fs2 E D m2 (b _ _ h') k
theorem putF_new {f : Str} {v : V} : ∀ {fs : List (Str × V)}, fs.lookup f = none → putF f v fs = fs ++ [(f, v)]
  | [], _ => rfl
  | (g, y) :: fs, e => by
    cases z : (f == g) with
    | true => rw [List.lookup_cons, z] at e; cases e
    | false =>
      rw [List.lookup_cons, z] at e
      show (if g = f then _ else _) = _
      rw [if_neg (fun w => by subst w; simp at z), putF_new e]; rfl
/-- self.f = e -/
def dIFld (F0 : Hp) (K : PySem.W.Frag) (C : Addr) (f : Str) (g : Hp → DX) : DIX := fun E fs σ => Cls K C ∧ NoAttr K C f ∧ fs.length < 1000 ∧ fs.lookup f = none ∧ ∀ F1, Same F0 F1 → g F1 σ fun sv => ∃ d, sv.fix? = some d ∧ E (fs ++ [(f, d)]) σ
theorem DIn.fld {f : Str} {te : TE} {g : Hp → DX} (he : ∀ F1 o, DE F1 (upd Hb x o) te (g F1)) : DIn F0 Hb C x (sFld K (tVar 0) te f) (dIFld F0 K C f g) where
  run F1 H Z dx fs' fs E D m hg k := by
    obtain ⟨hc, hn, hl, hf, hg⟩ := hg
    refine (he F1 (.ins C dx fs')).run Z [] H _ _ m.rep.1 (hg F1 m.base) fun sv ⟨d, e, hE⟩ v H1 ⟨F, r⟩ => ?_
    obtain ⟨F2, r2⟩ := Rep.fixLast (by rw [List.nil_append] at r; exact r) e
    have rv := r2.last
    have rZ := r2.left
    have m0 := m.slf
    rw [List.getElem?_map] at m0
    cases eZ : Z[0]? with
    | none => rw [eZ] at m0; cases m0
    | some p =>
      rw [eZ] at m0
      obtain ⟨y, s⟩ := p
      have e1 : s = some (.raw (.ref x)) := Option.some.inj m0
      subst e1
      obtain ⟨w, e2, e3⟩ := rZ.ok (y, some (.raw (.ref x))) (List.mem_of_getElem? eZ) _ rfl
      have e2' : y = some w := e2
      subst e2'
      have e3' : w = .ref x := e3
      subst e3'
      have hx : H1 x = some (.ins C dx fs') := rZ.ent _ _ upd_same
      have fx : F2 x = none := rZ.apart x m.nx (by rw [upd_same]; simp)
      refine ⟨.ref x, by rw [List.getElem?_map, eZ]; rfl, x, C, dx, fs', rfl, hx, hc, hn, by rw [m.ok.len]; exact hl, ?_⟩
      have nl := m.ok.no hf
      rw [putF_new nl]
      have sF : Same F1 F2 := rZ.base
      refine k F2 _ Z (fs' ++ [(f, v)]) (fs ++ [(f, d)]) ⟨m.base.trans sF, fun b h0 h1 => ?_, fx, ⟨⟨F2, Same.refl _, fun b o e => ?_, fun b o e => ?_, fun _ h _ => h, fun p hp sv' e => ?_, ?_⟩, m.rep.2⟩, ⟨by
        rw [List.map_append, List.map_append, m.ok.nm]; rfl, by
        rw [List.map_append, List.map_append]
        exact (m.ok.al.mono sF).app (.cons rv .nil)⟩, m.slf⟩ hE
      · refine rZ.apart b (m.apart b h0 h1) ?_
        by_cases z : b = x
        · subst z; rw [upd_same]; simp
        · rw [upd_ne z]; exact h1
      · have : b ≠ x := fun z => by subst z; rw [fx] at e; cases e
        rw [upd_ne this]; exact rZ.low _ _ e
      · by_cases z : b = x
        · subst z; rw [upd_same] at e ⊢; exact e
        · rw [upd_ne z] at e ⊢
          exact rZ.ent _ _ (by rw [upd_ne z]; exact e)
      · have hp' : p ∈ Z := by simpa using hp
        obtain ⟨w, e1, rr⟩ := rZ.ok p hp' sv' e
        refine ⟨w, e1, ?_⟩
        cases sv' with
        | val d' => exact rr
        | raw u => exact rr
        | ali ds => exact absurd e (m.rep.2 p hp ds)
        | ent ds =>
          obtain ⟨a, vs, q1, q3, q4, q5⟩ := rr
          subst q1
          by_cases z : a = x
          · subst z; rw [hx] at q4; cases q4
          · exact ⟨a, vs, rfl, by rw [upd_ne z] at q3 ⊢; exact q3, by rw [upd_ne z]; exact q4, q5⟩
        | own ds =>
          obtain ⟨a, vs, q1, q2, q3, q4, q5⟩ := rr
          have : a ≠ x := fun z => by subst z; rw [upd_same] at q3; cases q3
          exact ⟨a, vs, q1, q2, by rw [upd_ne this] at q3 ⊢; exact q3, by rw [upd_ne this]; exact q4, q5⟩
      · rw [List.append_nil]; exact rZ.dist
/-- the end: the object stays as it is -/
theorem Mkg.done {F1 : Hp} {Z : Zt} {dx : Addr} {fs' fs} (hb : Hb x = none) (m : Mkg F0 Hb C x fs' fs dx F1 H Z) : ∃ F', Rep F0 Hb F' H [(some (.ref x), some (.val (Ob C fs)))] := by
  obtain ⟨⟨F, r⟩, _⟩ := m.rep
  have fx : F x = none := r.apart x m.nx (by rw [upd_same]; simp)
  have hx : H x = some (.ins C dx fs') := r.ent _ _ upd_same
  have s1 : Same F (upd F x (.ins C dx fs')) := same_upd fx
  have r0 : Rep F0 Hb (upd F x (.ins C dx fs')) H [] := ⟨m.base.trans (r.base.trans s1), fun b o e => by
      by_cases z : b = x
      · subst z; rw [upd_same] at e; rw [← e]; exact hx
      · rw [upd_ne z] at e; exact r.low _ _ e, (same_upd hb).trans r.ent, fun b h0 h1 => by
      have z : b ≠ x := fun z => by subst z; exact h1 hb
      rw [upd_ne z]
      exact r.apart b (m.apart b h0 h1) (by rw [upd_ne z]; exact h1), fun p hp => (by cases hp), .nil⟩
  refine ⟨upd F x (.ins C dx fs'), ?_⟩
  exact r0.pushV (.obI upd_same ((m.ok.mono r.base).mono s1))
end
section
variable {P : Program} {w : World} {K : PySem.W.Frag} {mg : Str → Option Value} {base : Heap}
/-- __init__ keeps its contract -/
theorem okInit {x qual : Str} {st : Stmt} {f C : Addr} {fd : FuncData} {N ps : List Str} {k : Nat} {R : RC} (F : Fun K x qual st f fd) (S : FnScope N ps (defScope st)) (hlen : ∀ F as S, R F as S → as.length + 1 = ps.length)
    (body : ∀ (cdv : Value) (A : Around) (outer : List Env) (s : Shared) (H : Hp) (E : XK), Room k (A.deeper (envOfC qual (defScope st) s.heap.objs.size f cdv)) →
      ∃ (t : TS) (g : (Addr → Int → Prop) → Hp → DIX), PSs (cxOf (L2.CX P w) P w K mg base N qual (defScope st) f cdv A outer s H E) (defBody st) t ∧ (∀ F0 Hb x ER, Hb x = none → EOk Hb E ER → DIn F0 Hb C x t (g ER F0)) ∧
        ∀ F0 as (S : Rs → Prop) x, R F0 as S → g (fun C i => S (.er C i)) F0 (fun fs _ => S (.ok (.val (Ob C fs)))) [] (some (.raw (.ref x)) :: as.map some ++ List.replicate (N.length - ps.length) none)) : FnOk P w K mg base (L2.CX P w) (k + 1) f fd ps (spI C R) := by
  refine F.okX S (fun vs H Q E h => ?_) (fun cdv A outer s H vs Q E hr h => ?_)
  · obtain ⟨x, dx, Hb, F, A, S, rfl, _, _, _, _, r, na, hR, hS⟩ := h
    simpa using hlen _ _ _ hR
  · obtain ⟨t, g, h1, h2, h3⟩ := body cdv A outer s H E hr
    refine ⟨t, h1, ?_⟩
    obtain ⟨x, dx, Hb, F, A, S1, rfl, nx, nd, ne, rfl, r, na, hR, hS⟩ := h
    have hl : A.length + 1 = ps.length := by have := hlen F _ S1 hR; simpa using this
    have fx : F x = none := r.low.free nx
    let H1 : Hp := upd (upd Hb dx (.own x)) x (.ins C dx [])
    have sH : Same Hb H1 := (same_upd nd).trans (same_upd (by rw [upd_ne (Ne.symm ne)]; exact nx))
    have ex : ∀ rest : List (Option V × Option SV), (((some (V.ref x), some (SV.raw (.ref x))) :: A.map pr ++ rest).map Prod.fst) = some (V.ref x) :: (A.map Prod.fst).map some ++ rest.map Prod.fst := fun rest => by
      simp [pr, Function.comp_def]
    have e1 : (((some (V.ref x), some (SV.raw (.ref x))) :: A.map pr ++ List.replicate (N.length - ps.length) ((none : Option V), (none : Option SV))).map Prod.fst) = L2.start N (.ref x :: A.map Prod.fst) := by
      rw [ex]
      unfold L2.start
      rw [List.map_replicate, List.map_cons, List.length_cons, List.length_map, hl]
    have e2 : (((some (V.ref x), some (SV.raw (.ref x))) :: A.map pr ++ List.replicate (N.length - ps.length) ((none : Option V), (none : Option SV))).map Prod.snd) = some (.raw (.ref x)) :: (A.map Prod.snd).map some ++ List.replicate (N.length - ps.length) none := by
      simp [pr, Function.comp_def]
    have rA : Rep F (upd Hb x (.ins C dx [])) F H1 (A.map pr) := ⟨Same.refl _, r.low.trans sH, fun b o e => by
        by_cases z : b = x
        · subst z; rw [upd_same] at e; rw [← e]; exact upd_same
        · rw [upd_ne z] at e; exact sH _ _ e, fun _ h _ => h, fun p hp sv e => by
        obtain ⟨v, e1, rv⟩ := r.ok p hp sv e
        refine ⟨v, e1, ?_⟩
        cases sv with
        | val d => exact rv
        | raw u => exact rv
        | own ds => obtain ⟨a, vs, q1, q2, q3, q4, q5⟩ := rv; rw [q3] at q4; cases q4
        | ent ds =>
          obtain ⟨a, vs, q1, q3, q4, q5⟩ := rv
          have z : a ≠ x := fun z => by subst z; rw [nx] at q3; cases q3
          exact ⟨a, vs, q1, by rw [upd_ne z]; exact q3, sH _ _ q4, q5⟩
        | ali ds => (obtain ⟨a, vs, q1, q3, q4, q5⟩ := rv; exact absurd (q3.symm.trans q4) (by simp)), r.dist⟩
    have noali : ∀ p ∈ ((some (V.ref x), some (SV.raw (.ref x))) :: A.map pr ++ List.replicate (N.length - ps.length) ((none : Option V), (none : Option SV))), NoAli p := fun p hp es e => by
      rcases List.mem_append.mp hp with z | z
      · rcases List.mem_cons.mp z with z | z
        · subst z; cases e
        · obtain ⟨q, hq, rfl⟩ := List.mem_map.mp z
          have := na q.2 (List.mem_map.mpr ⟨q, hq, rfl⟩)
          rw [Option.some.inj e] at this; cases this
      · rw [List.mem_replicate] at z
        rw [z.2] at e; cases e
    have rep : Rep F (upd Hb x (.ins C dx [])) F H1 ((some (V.ref x), some (SV.raw (.ref x))) :: A.map pr ++ List.replicate (N.length - ps.length) ((none : Option V), (none : Option SV))) := by
      refine ⟨rA.base, rA.low, rA.ent, rA.apart, fun p hp => ?_, ?_⟩
      · rcases List.mem_append.mp hp with z | z
        · rcases List.mem_cons.mp z with z | z
          · subst z; intro sv e; cases e; exact ⟨_, rfl, rfl⟩
          · exact rA.ok p z
        · rw [List.mem_replicate] at z
          rw [z.2]; intro sv e; cases e
      · rw [List.cons_append, List.pairwise_cons]
        refine ⟨fun q hq a es fs _ e => (by cases e), ?_⟩
        rw [List.pairwise_append]
        refine ⟨rA.dist, List.pairwise_replicate.mpr (.inr fun a es fs e => by cases e), fun p hp q hq a es fs _ _ e => ?_⟩
        rw [List.mem_replicate] at hq
        rw [hq.2] at e; cases e
    have he : EOk Hb E (fun C i => S1 (.er C i)) := ⟨fun C i hs dd H' sm nd => hS _ hs dd H' sm nd⟩
    have := (h2 F Hb x _ nx he).run F H1 _ dx [] [] (fun fs _ => S1 (.ok (.val (Ob C fs)))) { nx := fun _ H' => Q .non H', rt := Q } ⟨Same.refl _, fun b h _ => h, fx, ⟨⟨F, by rw [List.append_nil]; exact rep⟩, by rw [List.append_nil]; exact noali⟩, ⟨rfl, .nil⟩, rfl⟩ (by rw [e2]; exact h3 F _ S1 x hR)
      fun F2 H' Z' fs2' fs2 m2 h' => hS _ h' H' (m2.done nx)
    rw [e1] at this
    exact this
end
end DL
/-! Data: further built-ins and statements. -/
namespace DL
open PySem PySem.Spec PyProof.Rows L2 NB MKX
/-! any of ints -/
theorem truth_intsI {prog : Program} {w : World} {A : Around} {ns : List Int} {its : List Value} (e : IntsAre its ns) :
    TruthOf prog w A (fun i v => its.toArray[i]? = some v) (fun i => (ns.map fun n => decide (n ≠ 0)).getD i false) := fun i v s Q E hv hq => by
  have hv' : its[i]? = some v := by simpa using hv
  have key : ∀ {us : List Value} {ms : List Int} {i : Nat} {v : Value}, IntsAre us ms → us[i]? = some v → ∃ n t, ms[i]? = some n ∧ v = Value.int n t := fun {us} => by
    induction us with
    | nil => intro ms i v _ h; simp at h
    | cons u us ih =>
      intro ms i v h hi
      cases h with
      | cons n t h =>
        cases i with
        | zero => simp at hi; exact ⟨n, t, rfl, hi.symm⟩
        | succ i => simpa using ih h (by simpa using hi)
  obtain ⟨n, t, hn, rfl⟩ := key e hv'
  have hg : (ns.map fun n => decide (n ≠ 0)).getD i false = decide (n ≠ 0) := by rw [List.getD_eq_getElem?_getD, List.getElem?_map, hn]; rfl
  have hq' : Q ((ns.map fun n => decide (n ≠ 0)).getD i false) s := hq
  rw [hg] at hq'
  refine PyProof.Rows.truthy_int ?_
  have : (n != 0) = decide (n ≠ 0) := by by_cases z : n = 0 <;> simp [z]
  rw [this]; exact hq'
def rAnyI (K : PySem.W.Frag) : List V → Hp → VK → Prop := fun vs H Q => ∃ (a : Addr) (ns : List Int), vs = [V.ref a] ∧ SqL K H a (ns.map V.int) ∧ Q (.bl (ns.any fun n => decide (n ≠ 0))) H
theorem cr_anyI {X : Cx} (hc : X.calm = true) : CallR X (.builtin "any") (rAnyI X.K) := by
  intro pins s σ H vs us Q I r h
  obtain ⟨a, ns, rfl, hs, q⟩ := h
  obtain ⟨its, rv, hl, _⟩ := I.list hs
  rw [Vals.ref1 r]
  have hb := rv.ints
  refine call_any_walk (iter_any hl.isList fun s₂ e2 st hne => ?_)
  subst e2
  refine ⟨_, _, _, _, _, _, _, rfl, Walks.list (A := X.A.in1) (I.ok.hd hc) _ a hne its.toArray, st, truth_intsI hb, fun h' tk hk => ?_⟩
  refine ⟨.bl _, H, I.kept fun b o eo => hk b o (fun hmem => ?_) (Heap.get?_push_of_some _ eo), ?_, q⟩
  · rcases List.mem_cons.mp hmem with e1 | hmem
    · exact absurd (e1 ▸ Heap.lt_size eo) (Nat.lt_irrefl _)
    · cases hmem
  · show Value.bool _ = Value.bool _
    have hlen : its.length = (ns.map fun n => decide (n ≠ 0)).length := by rw [← rv.length, List.length_map, List.length_map]
    have := any_range (ns.map fun n => decide (n ≠ 0))
    rw [List.any_map] at this
    rw [List.size_toArray, hlen, this]; rfl
theorem cr_anyIK {X : Cx} {K : PySem.W.Frag} (h : X.K = K) (hc : X.calm = true) : CallR X (.builtin "any") (rAnyI K) := h ▸ cr_anyI hc
section
variable {F0 H0 F H : Hp} {K : PySem.W.Frag}
def bAnyI : SV → (SV → Prop) → Prop := fun x P => ∃ ns : List Int, x.items? = some (LI ns) ∧ P (.val (.bool (ns.any fun n => decide (n ≠ 0))))
instance : CbD F0 H0 (rAnyI K) (fun xs P => match xs with | [x] => bAnyI x P | _ => False) :=
  .one fun W x sx H F P Q r rx l ⟨ns, e, h⟩ q => by
    obtain ⟨a, vs, rfl, ha, hv⟩ := rx.items l e
    rw [all_ints hv] at ha
    exact ⟨a, ns, rfl, SqL.of ha, q _ h _ _ ⟨F, r.pushV (.bl _)⟩⟩
/-! x.extend(e), x an own list -/
def dExt (i : Nat) (f : DX) : DSX := fun E σ => match σ[i]? with
  | some (some (.own ds)) => f σ fun sv => match sv.items? with
    | some es => ds.length + es.length ≤ sizeLine ∧ E.nx (σ.set i (some (.own (ds ++ es))))
    | none => False
  | _ => False
instance {te : TE} {f : DX} {i : Nat} [he : DE F0 H0 te f] : DS F0 H0 (tDrop (tBM K "list" rExtend (tVar i) (tCons te tNil))) (dExt i f) where
  run Z T H E D r h l := by
    unfold dExt at h
    cases e3 : (Z.map Prod.snd)[i]? with
    | none => rw [e3] at h; exact h.elim
    | some ov =>
      match ov, e3 with
      | none, e3 => rw [e3] at h; exact h.elim
      | some (.val _), e3 => rw [e3] at h; exact h.elim
      | some (.ali _), e3 => rw [e3] at h; exact h.elim
      | some (.raw _), e3 => rw [e3] at h; exact h.elim
      | some (.ent _), e3 => rw [e3] at h; exact h.elim
      | some (.own ds), e3 =>
        rw [e3] at h
        obtain ⟨F, r0⟩ := r.1
        obtain ⟨a, vs, z1, z2, z3, _⟩ := own_slot r0 e3
        have h' : f (Z.map Prod.snd) fun sv => match sv.items? with
          | some es => ds.length + es.length ≤ sizeLine ∧ E.nx ((Z.map Prod.snd).set i (some (.own (ds ++ es))))
          | none => False := h
        refine ⟨.ref a, z2, .inl ⟨rfl, _, SqL.of z3⟩, he.run Z T H _ _ ⟨F, r0⟩ h' fun sv hs y H1 ⟨F1, r1⟩ => ?_⟩
        cases e : sv.items? with
        | none => rw [e] at hs; exact hs.elim
        | some es =>
          rw [e] at hs
          rw [← List.append_assoc] at r1
          obtain ⟨b, zs, rfl, hb, hz⟩ := r1.last.items r1.low e
          obtain ⟨a', vs2, q1, q2, q3, q4⟩ := own_slot r1.left e3
          rw [z1] at q1; cases q1
          refine ⟨a, b, vs2, zs, rfl, rfl, q3, hb, by rw [q4.length, hz.length]; exact hs.1, ?_⟩
          have := l.nx _ _ (own_put r1.left r.2 z1 (q4.app hz)) (by rw [map_set_snd]; exact hs.2)
          rw [map_set_fst, set_self z2] at this
          exact this
/-! a, b = e, f -/
def dPar (i j : Nat) (fa : DAX) : DSX := fun E σ => fa σ fun as => ∃ d e, as = [.val d, .val e] ∧ E.nx ((σ.set i (some (.val d))).set j (some (.val e)))
instance {ta : TA} {fa : DAX} {i j : Nat} [ha : DA F0 H0 ta fa] : DS F0 H0 (tPar i j ta) (dPar i j fa) where
  run Z T H E D r h l := ha.run Z T H _ _ r.1 h fun A ⟨d, e, hA, hn⟩ H1 ⟨F, r1⟩ => by
    match A, hA with
    | [(v, _), (w, _)], hA =>
      cases hA
      refine ⟨v, w, rfl, ?_⟩
      have r2 : RepS F0 H0 H1 (Z.set i (some v, some (.val d)) ++ (T ++ [(some w, some (.val e))])) := store_S (T := T ++ [(some w, some (.val e))]) ⟨F, by
        have r1' : Rep F0 H0 F H1 (Z ++ (T ++ [(some v, some (.val d)), (some w, some (.val e))])) := r1
        refine r1'.perm ?_
        refine List.Perm.append_left _ ?_
        rw [List.append_assoc]
        exact List.Perm.append_left _ (List.Perm.swap _ _ _)⟩ (fun p hp es e => by
          rcases List.mem_append.mp hp with z | z
          · exact r.2 p (List.mem_append_left _ z) es e
          · rcases List.mem_append.mp z with z | z
            · exact r.2 p (List.mem_append_right _ z) es e
            · simp at z; subst z; cases e) (by intro _ e; cases e)
      have r3 : RepS F0 H0 H1 ((Z.set i (some v, some (.val d))).set j (some w, some (.val e)) ++ T) := store_S r2.1 (fun p hp => r2.2 p (by
        rcases List.mem_append.mp hp with z | z
        · exact List.mem_append_left _ z
        · exact List.mem_append_right _ (List.mem_append_left _ z))) (by intro _ e; cases e)
      have := l.nx _ _ r3 (by rw [map_set_snd, map_set_snd]; exact hn)
      rw [map_set_fst, map_set_fst] at this
      exact this
/-! e.append(f), e a new list that nobody keeps -/
def dAppT (f fe : DX) : DSX := fun E σ => f σ fun x => ∃ ds, x = .own ds ∧ fe σ fun sv => (∃ d, sv.fix? = some d) ∧ ds.length < sizeLine ∧ E.nx σ
theorem dAppT_run {to te : TE} {f fe : DX} (ho : DE F0 H0 to f) (he : DE F0 H0 te fe) : DS F0 H0 (tDrop (tBM K "list" rAppend to (tCons te tNil))) (dAppT f fe) where
  run Z T H E D r h l := ho.run Z T H _ _ r.1 h fun x ⟨ds, ex, h2⟩ v H1 ⟨F1, r1⟩ => by
    subst ex
    obtain ⟨a, vs, rfl, _, _, ha, hv⟩ := (show RV H0 F1 H1 v (.own ds) from by
      have := r1
      rw [← List.append_assoc] at this
      exact this.last)
    refine ⟨.inl ⟨rfl, _, SqL.of ha⟩, he.run Z (T ++ [(some (.ref a), some (.own ds))]) H1 _ _ ⟨F1, r1⟩ h2 fun sv hs y H2 ⟨F2, r2⟩ => ?_⟩
    obtain ⟨⟨d, hd⟩, hl, hn⟩ := hs
    rw [← List.append_assoc] at r2
    obtain ⟨F3, r3⟩ := r2.fixLast hd
    have r4 : Rep F0 H0 F3 H2 ((Z ++ T) ++ (some (.ref a), some (.own ds)) :: []) := by have := r3.left; rw [← List.append_assoc] at this; exact this
    obtain ⟨w, e1, a', ws, e2, f1, f0, h1, hd2⟩ := r4.ok (some (.ref a), some (.own ds)) (by simp) _ rfl
    cases e1
    cases e2
    have r5 := r4.put (es := ds ++ [d]) (vs := ws ++ [y]) (fun p hp es e => by
      rcases hp with z | z
      · exact absurd e (r.2 p z es)
      · cases z) (hd2.app (.cons r3.last .nil))
    refine ⟨a, ws, y, rfl, rfl, h1, by rw [hd2.length]; exact hl, ?_⟩
    exact l.nx Z _ ⟨⟨F3, r5.left⟩, r.2⟩ hn
instance {C : Addr} {m : Str} {sp : Sp} {E : XK} {ta : TE} {t : TA} {te : TE} {f fe : DX} [ho : DE F0 H0 (tMeth C m sp [] E ta t) f] [he : DE F0 H0 te fe] : DS F0 H0 (tDrop (tBM K "list" rAppend (tMeth C m sp [] E ta t) (tCons te tNil))) (dAppT f fe) := dAppT_run ho he
end
end DL
/-! Data: repr of lists and tuples, where nothing is being printed. -/
namespace DL
open PySem PySem.Spec PyProof.Rows L2 NB
def isSeqD : PyData → Bool
  | .list _ => true
  | .tuple _ => true
  | _ => false
/-- what repr asks of a list or tuple -/
structure ReprOk (d : PyData) : Prop where
  sq : isSeqD d = true
  lay : d.canLay0 = true
  sh : d.showable = true
  dp : d.depth ≤ 60
  ln : d.shown.length ≤ sizeLine
section
variable {F0 H0 F H : Hp} {K : PySem.W.Frag}
def bRepr : SV → (SV → Prop) → Prop := fun x P => ∃ d, x.dat? = some d ∧ ReprOk d ∧ P (.val (.str d.shown))
instance : CbD F0 H0 (GR.rRepr K) (fun xs P => match xs with | [x] => bRepr x P | _ => False) :=
  .one fun W x sx H F P Q r rx l ⟨d, e, ok, h⟩ q => by
    have dp := rx.dat (K := K) l e ok.lay
    cases dp with
    | non => cases ok.sq
    | bl b => cases ok.sq
    | int i => cases ok.sq
    | str x => cases ok.sq
    | lst h1 h2 => exact ⟨_, _, rfl, .lst h1 h2, ok.sh, PySem.PyData.hasDict_of_canLay _ ok.lay, ok.dp, ok.ln, q _ h _ _ ⟨F, r.pushV (.str _)⟩⟩
    | tup h1 h2 => exact ⟨_, _, rfl, .tup h1 h2, ok.sh, PySem.PyData.hasDict_of_canLay _ ok.lay, ok.dp, ok.ln, q _ h _ _ ⟨F, r.pushV (.str _)⟩⟩
end
section
variable {P : Program} {w : World} {K : PySem.W.Frag} {mg : Str → Option Value} {base : Heap}
/-- okF of a def that prints -/
theorem okG {x qual : Str} {st : Stmt} {f : Addr} {fd : FuncData} {N ps : List Str} {k : Nat} {R : RC} (F : Fun K x qual st f fd) (S : FnScope N ps (defScope st)) (hlen : ∀ F as S, R F as S → as.length = ps.length)
    (body : ∀ (cdv : Value) (A : Around) (outer : List Env) (s : Shared) (H : Hp) (E : XK), (A.deeper (envOfC qual (defScope st) s.heap.objs.size f cdv)).guards = some [] → Room k (A.deeper (envOfC qual (defScope st) s.heap.objs.size f cdv)) →
      ∃ (t : TS) (g : Hp → DSX), PSs (cxOf CX0 P w K mg base N qual (defScope st) f cdv A outer s H E).nox (defBody st) t ∧ (∀ F0, DS0 F0 H t (g F0)) ∧
        ∀ F0 as S, R F0 as S → g F0 { nx := fun _ => S (.ok (.val .none)), rt := fun sv => S (.ok sv) } (as.map some ++ List.replicate (N.length - ps.length) none)) : GR.FnG P w K mg base CX0 (k + 1) f fd ps (spF R) := by
  refine GR.Fun.okG F S (fun vs H Q E h => ?_) (fun cdv A outer s H vs Q E gd hr h => ?_)
  · obtain ⟨F, A, S, rfl, r, na, hR, hS⟩ := h
    simpa using hlen _ _ _ hR
  · obtain ⟨t, g, h1, h2, h3⟩ := body cdv A outer s H E gd hr
    exact ⟨t, h1, def_run h hlen h2 h3⟩
end
section
variable {X : Cx} {k : Nat} {f : Addr} {fd : FuncData} {ps : List Str} {sp : Sp} {x : Str} {p pos : Pos} {e : Expr} {es : List Expr} {t : TA} {E : XK}
theorem run_fnG {pins : List (Addr × Obj)} {σ : L2.St} {H : Hp} {s : Shared} {Q : VK} {us : List Value} {vs : List V} (G : GR.FnG X.prog X.w X.K X.mg X.base CX0 k f fd ps sp) (hg : X.A.guards = some []) (hl : us.length = ps.length) (hr : Room k X.A) (hb : L2.Binds X.K fd ps [])
    (I : Inv X pins σ H s) (r : Vals vs us) (hx : Passes CX0 X E) (h : sp vs H Q E) : wpAny (model X.prog X.w) X.A (call (.ref f) us) (EP X pins σ Q) X.xe s := by
  have b := hb s us I.kIn (by rw [List.append_nil]; exact hl)
  rw [List.append_nil] at b
  refine wpAny_call (codeAny_mono (G X.A X.stack s H ⟨us, []⟩ us vs Q E hg hr I.env0 b r h) fun r s' hq => ?_)
  cases r with
  | error e => exact hx pins σ H s e s' I hq
  | ok fl =>
    cases fl with
    | ret u => exact I.after hq
    | next => exact False.elim hq
    | brk => exact False.elim hq
    | cont => exact False.elim hq
theorem pe_callG (G : GR.FnG X.prog X.w X.K X.mg X.base CX0 k f fd ps sp) (hgd : X.A.guards = some []) (hlen : ∀ vs H Q E, sp vs H Q E → vs.length = ps.length) (hr : Room k X.A) (hg : Gl X x) (hm : X.mg x = some (.ref f)) (hk : PySem.W.keepIn X.K (.ref f) = true) (hb : L2.Binds X.K fd ps []) (hx : Passes CX0 X E)
    (ha : PA X (e :: es) t) (hdb : (x == ("__debug__" : Str)) = false := by decide) (he : starEach (e :: es) X.env = (false, eval e X.env) :: starEach es X.env := by rfl) (hpl : (backTo pos (starEach es X.env)).any (·.1) = false := by rfl) :
    PE X (.Call (.Name x p) (e :: es) [] pos) (tCall sp [] E t) := by
  refine ⟨fun pins s σ H Q I h => ?_⟩
  refine wpAny_Call_Name_kw (ld_glob I hg hm ?_ hdb)
  refine PySem.W.callWith_K (h₀ := X.base) I.ok.mod.kin hk (thn (ha.run pos pins s σ H _ I h) fun us s1 ⟨vs, H1, I1, r, q1⟩ => ⟨I1.kIn, ?_⟩) he hpl
  have q2 : sp (vs ++ []) H1 Q E := q1
  rw [List.append_nil] at q2
  exact run_fnG G hgd (by show us.length = ps.length; rw [← r.length]; exact hlen _ _ _ _ q2) hr hb I1 r hx q2
end
/-- what repr asks, by the size -/
theorem ReprOk.of {d : PyData} (sq : isSeqD d = true) (lay : PyData.layable0 d = true) (short : d.intsShort 13 = true) (sh : d.showable = true) (dp : d.depth ≤ 60) : ReprOk d :=
  ⟨sq, SeqAt.canLay_of_layable lay, sh, dp, by have := PyProof.Rows.shown_le13 lay short; have := sizeLine_eq; omega⟩
section
variable {P : Program} {w : World} {K : PySem.W.Frag} {mg : Str → Option Value} {base : Heap}
/-- okLaw of a law that prints, or calls a def that does -/
theorem okLawG {x qual : Str} {st : Stmt} {f : Addr} {fd : FuncData} {N : List Str} {k : Nat} (F : Fun K x qual st f fd) (S : FnScope N ["script"] (defScope st)) (hN : 2 ≤ N.length)
    (body : ∀ (cdv : Value) (A : Around) (outer : List Env) (s : Shared) (H : Hp) (E : XK), (A.deeper (envOfC qual (defScope st) s.heap.objs.size f cdv)).guards = some [] → Room k (A.deeper (envOfC qual (defScope st) s.heap.objs.size f cdv)) →
      ∃ (t : TS) (g : Hp → DSX), PSs (cxOf CX0 P w K mg base N qual (defScope st) f cdv A outer s H E).nox (defBody st) (tSeq (tAsg (tCall (sp_draws K) [] (fun _ _ _ => False) (tCons (tVar 0) tNil)) (gName 1)) t) ∧ (∀ F0, DS0 F0 F0 t (g F0)) ∧
        ∀ F0 (xs : List Int), xs.length ≤ 4000 → g F0 lawEnds (none :: some (.val (.list (LI xs))) :: List.replicate (N.length - 2) none)) : GR.FnG P w K mg base CX0 (k + 1) f fd ["script"] (sp_law K) := by
  refine GR.Fun.okG F S (fun vs H Q E h => ?_) (fun cdv A outer s H vs Q E gd hr h => ?_)
  · obtain ⟨a, ns, rfl, _⟩ := h; rfl
  · obtain ⟨a, ns, rfl, hS, hl, hQ⟩ := h
    obtain ⟨t, g, h1, h2, h3⟩ := body cdv A outer s H E gd hr
    refine ⟨_, h1, ?_⟩
    refine ⟨.ref a, rfl, a, ns, rfl, hS, hl, fun l xs H1 s1 nl hx hlen => ?_⟩
    have e : L2.start N [V.ref a] = some (.ref a) :: none :: List.replicate (N.length - 2) none := by
      unfold L2.start
      obtain ⟨m, hm⟩ : ∃ m, N.length = m + 2 := ⟨N.length - 2, by omega⟩
      rw [hm]
      show some (V.ref a) :: List.replicate (m + 2 - 1) none = some (V.ref a) :: none :: List.replicate (m + 2 - 2) none
      have : m + 2 - 1 = m + 1 := by omega
      rw [this, List.replicate_succ]; rfl
    show t _ ((L2.start N [V.ref a]).set 1 (some (.ref l))) H1
    rw [e]
    have inst := h2 H1
    have := law_rest (t := t) (g := g H1) (Q := Q) (Z := (some (.ref a), none) :: (some (.ref l), some (.val (.list (LI xs)))) :: List.replicate (N.length - 2) (none, none)) (H := H1) (fun p hp sv e => ?_) hQ (by
      simp only [List.map_cons, List.map_replicate]
      exact h3 H1 xs hlen)
    · simpa using this
    · rcases List.mem_cons.mp hp with z | hp
      · subst z; cases e
      · rcases List.mem_cons.mp hp with z | hp
        · subst z; cases e; exact ⟨_, _, rfl, rfl, dv_ints H1 hx⟩
        · rw [List.mem_replicate] at hp
          rw [hp.2] at e; cases e
end
section
variable {F0 H0 F H : Hp} {K : PySem.W.Frag}
/-- x += e, x an own list -/
instance {te : TE} {f : DX} {i : Nat} [he : DE F0 H0 te f] : DS F0 H0 (tAug i te rExt2) (dExt i f) where
  run Z T H E D r h l := by
    unfold dExt at h
    cases e3 : (Z.map Prod.snd)[i]? with
    | none => rw [e3] at h; exact h.elim
    | some ov =>
      match ov, e3 with
      | none, e3 => rw [e3] at h; exact h.elim
      | some (.val _), e3 => rw [e3] at h; exact h.elim
      | some (.ali _), e3 => rw [e3] at h; exact h.elim
      | some (.raw _), e3 => rw [e3] at h; exact h.elim
      | some (.ent _), e3 => rw [e3] at h; exact h.elim
      | some (.own ds), e3 =>
        rw [e3] at h
        obtain ⟨F, r0⟩ := r.1
        obtain ⟨a, vs, z1, z2, z3, _⟩ := own_slot r0 e3
        have h' : f (Z.map Prod.snd) fun sv => match sv.items? with
          | some es => ds.length + es.length ≤ sizeLine ∧ E.nx ((Z.map Prod.snd).set i (some (.own (ds ++ es))))
          | none => False := h
        refine ⟨.ref a, z2, he.run Z T H _ _ ⟨F, r0⟩ h' fun sv hs y H1 ⟨F1, r1⟩ => ?_⟩
        cases e : sv.items? with
        | none => rw [e] at hs; exact hs.elim
        | some es =>
          rw [e] at hs
          rw [← List.append_assoc] at r1
          obtain ⟨b, zs, rfl, hb, hz⟩ := r1.last.items r1.low e
          obtain ⟨a', vs2, q1, q2, q3, q4⟩ := own_slot r1.left e3
          rw [z1] at q1; cases q1
          refine ⟨a, b, vs2, zs, rfl, rfl, q3, hb, by rw [q4.length, hz.length]; exact hs.1, ?_⟩
          have := l.nx _ _ (own_put r1.left r.2 z1 (q4.app hz)) (by rw [map_set_snd]; exact hs.2)
          rw [map_set_fst] at this
          exact this
end
section
variable {F0 H0 F H : Hp} {K : PySem.W.Frag}
/-! for x in reversed(range(n)) -/
def stepD (a c : Int) (n : Nat) : List PyData := (List.range n).map fun (i : Nat) => PyData.int (a + (i : Int) * c)
theorem stepD_len (a c : Int) (n : Nat) : (stepD a c n).length = n := by unfold stepD; simp
theorem stepD_at {a c : Int} {n i : Nat} {d : PyData} (h : (stepD a c n)[i]? = some d) : i < n ∧ d = .int (a + (i : Int) * c) := by
  unfold stepD at h
  rw [List.getElem?_map] at h
  by_cases z : i < n
  · rw [List.getElem?_range z] at h
    exact ⟨z, (Option.some.inj h).symm⟩
  · rw [List.getElem?_eq_none (by simp; omega)] at h; cases h
theorem walk_stp (a c : Int) (n : Nat) : DWalk F0 H0 (Itc a c n) (stepD a c n) [] where
  goes i H F W hi r := by rw [stepD_len] at hi; exact hi
  stops H F W r := by rw [stepD_len]; exact Nat.le_refl _
  yields i H x H' F W d hd r y := by
    obtain ⟨rfl, rfl⟩ := y
    obtain ⟨_, rfl⟩ := stepD_at hd
    exact ⟨F, r.pushV (.int _)⟩
def dRevR1 (fa : DX) : SD → (List PyData → Bool → Prop) → Prop := fun σ P => fa σ fun x => match x.int? with | some j => (-(2 ^ 62) ≤ j ∧ j < 2 ^ 62) ∧ P (stepD ((j.toNat : Int) - 1) (-1) j.toNat) true | none => False
instance {ta : TE} {fa : DX} [ha : DE F0 H0 ta fa] : DI F0 H0 (iRevR (tRg1 ta)) (dRevR1 fa) where
  run Z T H P R := fun hr h q => ha.run Z T H _ _ hr h fun sv h1 v H1 ⟨F, r1⟩ => by
    cases e : sv.int? with
    | none => rw [e] at h1; exact h1.elim
    | some j =>
      rw [e] at h1
      obtain ⟨r0, rv⟩ := one_tmp r1
      have ev := rv.int e
      have := q _ _ h1.2 _ _ [] ⟨F, by simpa using r0⟩ (fun _ p hp => nomatch hp) (walk_stp ((j.toNat : Int) - 1) (-1) j.toNat)
      refine ⟨j, ev, by decide, by decide, h1.1.1, h1.1.2, ?_⟩
      have e0 : (j - 0).toNat = j.toNat := by rw [Int.sub_zero]
      rw [e0, Int.zero_add]
      exact this
end
theorem spF_len {R : RC} {n : Nat} (h : ∀ F as S, R F as S → as.length = n) : ∀ vs H Q E, spF R vs H Q E → vs.length = n := fun vs H Q E ⟨F, A, S, e, r, na, hR, hS⟩ => by
  subst e
  simpa using h _ _ _ hR
/-! what repr asks, put together -/
structure Rp (d : PyData) (n b : Nat) : Prop where
  sh : d.intsShort 13 = true
  wt : d.weight ≤ n
  sw : d.showable = true
  ly : d.canLay0 = true
  dp : d.depth ≤ b
structure RpA (ds : List PyData) (n b : Nat) : Prop where
  sh : PyData.intsShortAll 13 ds = true
  wt : PyData.weightAll ds ≤ n
  sw : PyData.showableAll ds = true
  ly : PyData.canLayAll0 ds = true
  dp : PyData.depthAll ds ≤ b
theorem RpA.nil {n b : Nat} : RpA [] n b := ⟨by simp [PyData.intsShortAll], by simp [PyData.weightAll], by simp [PyData.showableAll], by simp [PyData.canLayAll0], by simp [PyData.depthAll]⟩
theorem RpA.cons {d : PyData} {ds : List PyData} {n m N b : Nat} (h : Rp d n b) (k : RpA ds m b) (e : n + 1 + m ≤ N) : RpA (d :: ds) N b :=
  ⟨by rw [PyData.intsShortAll, h.sh, k.sh]; rfl, by rw [PyData.weightAll]; have := h.wt; have := k.wt; omega, by rw [PyData.showableAll, h.sw, k.sw]; rfl, by rw [PyData.canLayAll0, h.ly, k.ly]; rfl, by rw [PyData.depthAll]; have := h.dp; have := k.dp; omega⟩
theorem RpA.lst {ds : List PyData} {n b : Nat} (k : RpA ds n b) : Rp (.list ds) n (b + 1) :=
  ⟨by rw [PyData.intsShort]; exact k.sh, by rw [PyData.weight]; exact k.wt, by rw [PyData.showable]; exact k.sw, by rw [PyData.canLay0]; exact k.ly, by rw [PyData.depth]; have := k.dp; omega⟩
theorem RpA.tup {ds : List PyData} {n b : Nat} (k : RpA ds n b) : Rp (.tuple ds) n (b + 1) :=
  ⟨by rw [PyData.intsShort]; exact k.sh, by rw [PyData.weight]; exact k.wt, by rw [PyData.showable]; exact k.sw, by rw [PyData.canLay0]; exact k.ly, by rw [PyData.depth]; have := k.dp; omega⟩
theorem Rp.mono {d : PyData} {n m b c : Nat} (h : Rp d n b) (e : n ≤ m) (f : b ≤ c) : Rp d m c := ⟨h.sh, Nat.le_trans h.wt e, h.sw, h.ly, Nat.le_trans h.dp f⟩
theorem Rp.int {c : Int} (h0 : 0 ≤ c) (h : c < 256) : Rp (.int c) 10 1 := by
  obtain ⟨n, rfl⟩ := Int.eq_ofNat_of_zero_le h0
  have hn : n < 256 := by omega
  have hl : (n : Int).natAbs.log2 < 10 := by
    rw [Int.natAbs_natCast]
    by_cases z : n = 0
    · rw [z]; decide
    · exact Nat.lt_of_lt_of_le ((Nat.log2_lt (k := 8) z).mpr hn) (by decide)
  have hs : (PyData.shown (.int (n : Int))).length ≤ 13 := by
    have e := int_text_length_le (k := 10) (by decide) hl
    show (Str.ofString (toString (n : Int))).length ≤ 13
    rw [PySem.ofString_length]
    omega
  refine ⟨?_, ?_, ?_, ?_, ?_⟩
  · simp only [PyData.intsShort]; exact decide_eq_true hs
  · simp only [PyData.weight]
    split <;> omega
  · simp only [PyData.showable]; exact decide_eq_true (by omega)
  · simp [PyData.canLay0]
  · simp [PyData.depth]
theorem RpA.ints : ∀ {ns : List Int}, (∀ c ∈ ns, 0 ≤ c ∧ c < 256) → RpA (LI ns) (11 * ns.length) 1
  | [], _ => RpA.nil
  | c :: ns, h => by
    have hc := h c (by simp)
    exact RpA.cons (Rp.int hc.1 hc.2) (RpA.ints fun x hx => h x (List.mem_cons_of_mem _ hx)) (by rw [List.length_cons]; omega)
theorem Rp.ok {d : PyData} {n b : Nat} (h : Rp d n b) (sq : isSeqD d = true) (hn : n ≤ 2 ^ 20) (hb : b ≤ 60) : ReprOk d :=
  .of sq (by
    unfold PyData.layable0
    rw [Bool.and_eq_true, Bool.and_eq_true]
    exact ⟨⟨h.ly, decide_eq_true (by have := h.dp; omega)⟩, decide_eq_true (by have := h.wt; omega)⟩) h.sh h.sw (Nat.le_trans h.dp hb)
end DL
/-! Data: a def that gives a number and a new list in a tuple, of which the caller takes the list. -/
namespace DL
open PySem PySem.Spec PyProof.Rows L2 NB
/-- the contract of a def that returns (n, l), l a new list that nobody else holds -/
def spB (R : List SV → (Int → List PyData → Prop) → Prop) : Sp := fun vs H Q _ => ∃ (F : Hp) (A : List (V × SV)) (S : Int → List PyData → Prop), vs = A.map Prod.fst ∧ Rep F H F H (A.map pr) ∧ (∀ s ∈ A.map Prod.snd, s.isAli = false) ∧ R (A.map Prod.snd) S ∧
  ∀ n es, S n es → ∀ a b H', (∃ F', Rep F H F' H' [(some (.ref b), some (.own es))]) → H' a = some (.tup [.int n, .ref b]) → Q (.ref a) H'
section
variable {P : Program} {w : World} {K : PySem.W.Frag} {mg : Str → Option Value} {base : Heap}
theorem okFB {x qual : Str} {st : Stmt} {f : Addr} {fd : FuncData} {N ps : List Str} {k : Nat} {R : List SV → (Int → List PyData → Prop) → Prop} (i j : Nat) (F : Fun K x qual st f fd) (S : FnScope N ps (defScope st)) (hlen : ∀ as S, R as S → as.length = ps.length)
    (body : ∀ (cdv : Value) (A : Around) (outer : List Env) (s : Shared) (H : Hp) (E : XK), Room k (A.deeper (envOfC qual (defScope st) s.heap.objs.size f cdv)) →
      ∃ (t1 t2 : TS) (g1 g2 : Hp → DSX), PSs (cxOf CX0 P w K mg base N qual (defScope st) f cdv A outer s H E).nox (defBody st) (tSeq t1 (tSeq t2 (tRet (tTup (tCons (tVar i) (tCons (tVar j) tNil)))))) ∧ (∀ F0, DS0 F0 H t1 (g1 F0)) ∧ (∀ F0, DS0 F0 H t2 (g2 F0)) ∧
        ∀ F0 as S, R as S → g1 F0 { nx := g2 F0 { nx := fun σ => ∃ n es, σ[i]? = some (some (.val (.int n))) ∧ σ[j]? = some (some (.own es)) ∧ S n es, rt := fun _ => False }, rt := fun _ => False } (as.map some ++ List.replicate (N.length - ps.length) none)) : FnOk P w K mg base CX0 (k + 1) f fd ps (spB R) := by
  refine F.ok S (fun vs H Q E h => ?_) (fun cdv A outer s H vs Q E hr h => ?_)
  · obtain ⟨F, A, S, rfl, r, na, hR, hS⟩ := h
    simpa using hlen _ _ hR
  · obtain ⟨t1, t2, g1, g2, h1, i1, i2, h3⟩ := body cdv A outer s H E hr
    refine ⟨_, h1, ?_⟩
    obtain ⟨F, A, S, rfl, r, noA, hR, hS⟩ := h
    have last : ∀ Z H', RepS F H H' (Z ++ []) → (∃ n es, (Z.map Prod.snd)[i]? = some (some (.val (.int n))) ∧ (Z.map Prod.snd)[j]? = some (some (.own es)) ∧ S n es) →
        tRet (tTup (tCons (tVar i) (tCons (tVar j) tNil))) { nx := fun _ H' => Q .non H', rt := Q } (Z.map Prod.fst) H' := by
      rintro Z H' ⟨⟨F', r'⟩, _⟩ ⟨n, es, e1, e2, hs⟩
      rw [List.append_nil] at r'
      rw [List.getElem?_map] at e1 e2
      obtain ⟨p1, m1, q1⟩ := Option.map_eq_some_iff.mp e1
      obtain ⟨p2, m2, q2⟩ := Option.map_eq_some_iff.mp e2
      obtain ⟨v1, w1, rv1⟩ := r'.ok p1 (List.mem_of_getElem? m1) _ q1
      obtain ⟨v2, w2, rv2⟩ := r'.ok p2 (List.mem_of_getElem? m2) _ q2
      cases rv1
      obtain ⟨b, ws, rfl, b1, b2, b3, b4⟩ := rv2
      have s2 := sizeLine_eq
      refine ⟨.int n, by rw [List.getElem?_map, m1, Option.map_some, w1], .ref b, by rw [List.getElem?_map, m2, Option.map_some, w2], (show 2 ≤ sizeLine by omega), fun p np => ?_⟩
      refine hS n es hs p b _ ⟨F', ?_⟩ upd_same
      have r2 : Rep F H F' H' [(some (.ref b), some (.own es))] := r'.sub (by
        have : p2 = (some (.ref b), some (.own es)) := Prod.ext w2 q2
        rw [← this]
        exact List.singleton_sublist.mpr (List.mem_of_getElem? m2))
      exact r2.grow np
    have hl : A.length = ps.length := by have := hlen _ S hR; simpa using this
    have e1 : (A.map pr ++ List.replicate (N.length - ps.length) ((none : Option V), (none : Option SV))).map Prod.fst = L2.start N (A.map Prod.fst) := by
      unfold L2.start
      rw [List.map_append, List.map_map, List.map_replicate, List.length_map, hl, List.map_map]; rfl
    have e2 : (A.map pr ++ List.replicate (N.length - ps.length) ((none : Option V), (none : Option SV))).map Prod.snd = (A.map Prod.snd).map some ++ List.replicate (N.length - ps.length) none := by
      rw [List.map_append, List.map_map, List.map_map, List.map_replicate]; rfl
    have rep : Rep F H F H (A.map pr ++ List.replicate (N.length - ps.length) ((none : Option V), (none : Option SV))) := by
      refine ⟨r.base, r.low, r.ent, r.apart, fun p hp => ?_, ?_⟩
      · rcases List.mem_append.mp hp with z | z
        · exact r.ok p z
        · rw [List.mem_replicate] at z
          rw [z.2]; intro sv e; cases e
      · rw [List.pairwise_append]
        refine ⟨r.dist, List.pairwise_replicate.mpr (.inr fun a es fs e => by cases e), fun p hp q hq a es fs _ _ e => ?_⟩
        rw [List.mem_replicate] at hq
        rw [hq.2] at e; cases e
    have noali : ∀ p ∈ A.map pr ++ List.replicate (N.length - ps.length) ((none : Option V), (none : Option SV)), NoAli p := fun p hp es e => by
      rcases List.mem_append.mp hp with z | z
      · obtain ⟨q, hq, rfl⟩ := List.mem_map.mp z
        have := noA q.2 (List.mem_map.mpr ⟨q, hq, rfl⟩)
        rw [Option.some.inj e] at this; cases this
      · rw [List.mem_replicate] at z
        rw [z.2] at e; cases e
    have := (i1 F).run _ H { nx := g2 F { nx := fun σ => ∃ n es, σ[i]? = some (some (.val (.int n))) ∧ σ[j]? = some (some (.own es)) ∧ S n es, rt := fun _ => False }, rt := fun _ => False }
      { nx := tSeq t2 (tRet (tTup (tCons (tVar i) (tCons (tVar j) tNil)))) { nx := fun _ H' => Q .non H', rt := Q }, rt := Q } ⟨⟨F, by rw [List.append_nil]; exact rep⟩, by rw [List.append_nil]; exact noali⟩ (by rw [e2]; exact h3 F _ S hR)
      ⟨fun Z H' r' h' => (i2 F).run Z H' { nx := fun σ => ∃ n es, σ[i]? = some (some (.val (.int n))) ∧ σ[j]? = some (some (.own es)) ∧ S n es, rt := fun _ => False }
        { nx := tRet (tTup (tCons (tVar i) (tCons (tVar j) tNil))) { nx := fun _ H' => Q .non H', rt := Q }, rt := Q } r' h' ⟨fun Z2 H2 r2 h2 => last Z2 H2 r2 h2, fun _ _ _ h => h.elim, fun _ _ _ h => h.elim, fun _ _ _ h => h.elim⟩,
        fun _ _ _ h => h.elim, fun _ _ _ h => h.elim, fun _ _ _ h => h.elim⟩
    rw [e1] at this
    exact this
end
section
variable {F0 H0 F H : Hp} {K : PySem.W.Frag}
theorem callB_run {R : List SV → (Int → List PyData → Prop) → Prop} {E : XK} {W : Zt} {A : List (V × SV)} {P : SV → Prop} {Q : VK}
    (r : Rep F0 H0 F H (W ++ A.map pr)) (h : ∃ S, R ((A.map Prod.snd).map SV.frz) S ∧ ∀ n es, S n es → ((A.map Prod.snd).any SV.isAli = true → es.all flatD = true) ∧ P (.own es))
    (q : ∀ es, P (.own es) → ∀ a b n H', (∃ F, Rep F0 H0 F H' (W ++ [(some (.ref b), some (.own es))])) → H' a = some (.tup [.int n, .ref b]) → Q (.ref a) H') : spB R (A.map Prod.fst) H Q E := by
  obtain ⟨S, h1, h2⟩ := h
  obtain ⟨s1, s2⟩ := keepArgs_at F H r.low A
  refine ⟨keepArgs F H A, A.map (fun p => (p.1, p.2.frz)), S, by simp, args_ok r, (fun s hs => by
    rw [List.map_map] at hs
    obtain ⟨p, _, rfl⟩ := List.mem_map.mp hs
    obtain ⟨v, s⟩ := p
    cases s <;> rfl), by simpa [Function.comp_def] using h1, fun n es hs a b H' bk ha => ?_⟩
  have := h2 n es hs
  exact q es this.2 a b n H' (back_ok r bk fun z => this.1 (by simpa [List.any_map, SV.isEnt] using z)) ha
/-- o.m(..)[1] -/
def dMethB (C : Addr) (m : Str) (R : List SV → (Int → List PyData → Prop) → Prop) (f : DX) (fa : DAX) : DX := fun σ P => f σ fun x => ∃ fs, x = .val (Ob C fs) ∧ fs.lookup m = none ∧ fa σ fun as => ∃ S, R (x :: as.map SV.frz) S ∧ ∀ n es, S n es →
  (as.any SV.isAli = true → es.all flatD = true) ∧ P (.own es)
instance (priority := 2000) {R : List SV → (Int → List PyData → Prop) → Prop} {C : Addr} {m : Str} {te : TE} {ta : TA} {f : DX} {fa : DAX} [he : DE F0 H0 te f] [ha : DA F0 H0 ta fa] : DE F0 H0 (tOp (rIxT K) (tMeth C m (spB R) [] (fun _ _ _ => False) te ta) (tC (.int 1))) (dMethB C m R f fa) where
  run Z T H P Q := fun hr h q => he.run Z T H _ _ hr h fun x ⟨fs, e, nl, h1⟩ v H1 ⟨F, r⟩ => by
    subst e
    obtain ⟨r0, rv⟩ := one_tmp r
    obtain ⟨a, dx, fs', rfl, hA, k⟩ := Dv.obE rv
    refine ⟨a, dx, fs', rfl, r0.low _ _ hA, k.no nl, ha.run Z (T ++ [(some (.ref a), some (.val (Ob C fs)))]) H1 _ _ ⟨F, r⟩ h1 fun A h2 H2 ⟨F2, r2⟩ => ?_⟩
    obtain ⟨S, h3, h4⟩ := h2
    rw [List.append_nil]
    exact callB_run (W := Z ++ T) (A := (.ref a, .val (Ob C fs)) :: A) (P := P) (by
      have := r2
      simp only [List.map_cons, List.append_assoc, List.cons_append, List.nil_append] at this ⊢
      exact this) ⟨S, h3, fun n es hs => by
      have := h4 n es hs
      exact ⟨fun z => this.1 (by simpa [SV.isAli] using z), this.2⟩⟩ fun es hp c b n H3 r3 hc => ⟨c, [.int n, .ref b], 1, .ref b, rfl, rfl, SqT.of hc, rfl, q _ hp _ H3 (by rw [← List.append_assoc]; exact r3)⟩
end
end DL
/-! Data: list.index; x = f(..), a test, x[1].append(0): the list within what a call gave is new. -/
namespace DL
open PySem PySem.Spec PyProof.Rows L2 NB
/-- a contract that asks nothing of what stands -/
class PureR (R : RC) : Prop where
  pure : ∀ {F F' : Hp} {as : List SV} {S : Rs → Prop}, R F as S → R F' as S
instance {R : List SV → (Rs → Prop) → Prop} : PureR (pur R) := ⟨fun h => h⟩
def argFlat : SV → Bool
  | .val (.list ds) => ds.all flatD
  | .val d => flatD d
  | _ => false
def noOwnS : Option SV → Bool
  | some (.own _) => false
  | _ => true
/-- x = f(..); if c: return ..; if c2: x[1].append(0) -/
def dFresh (i : Nat) (R : RC) (fa : DAX) (fc fc2 : DTX) : DSX := fun E σ => fa σ fun as => (as.map SV.frz).all argFlat = true ∧ σ.all noOwnS = true ∧ i < σ.length ∧ ∃ S, R (fun _ => none) (as.map SV.frz) S ∧ ∀ r, S r →
  (r = .ok (.val .none) ∧ fc (σ.set i (some (.val .none))) (· = false) ∧ fc2 (σ.set i (some (.val .none))) (· = false) ∧ E.nx (σ.set i (some (.val .none)))) ∨
  (∃ n es, r = .ok (.val (.tuple [.int n, .list es])) ∧ (∀ s ∈ as.map SV.frz, s ≠ .val (.list es)) ∧ es.all flatD = true ∧ es.length < sizeLine ∧
    fc (σ.set i (some (.val (.tuple [.int n, .list es])))) (· = false) ∧ fc2 (σ.set i (some (.val (.tuple [.int n, .list es])))) (· = true) ∧ E.nx (σ.set i none))
section
variable {F0 H0 F H : Hp} {K : PySem.W.Frag}
def convP (p : Option V × Option SV) : Option V × Option SV := (p.1, match p.2 with
  | some (.own ds) => some (.ent ds)
  | some (.ali ds) => some (.ent ds)
  | x => x)
theorem flat_det {F F' : Hp} : ∀ {vs : List V} {ds es : List PyData}, DvAll F vs ds → DvAll F' vs es → es.all flatD = true → ds = es
  | _, _, _, .nil, .nil, _ => rfl
  | _, _, _, .cons h hs, .cons k ks, f => by
    rw [List.all_cons, Bool.and_eq_true] at f
    have e := flat_det hs ks f.2
    have : ∀ {v : V} {d e : PyData}, Dv F v d → Dv F' v e → flatD e = true → d = e := fun h k f => by
      cases k with
      | non => cases h; rfl
      | bl b => cases h; rfl
      | int i => cases h; rfl
      | str x => cases h; rfl
      | lst _ _ => cases f
      | tup _ _ => cases f
      | ob _ _ _ => cases f
    rw [this h k f.1, e]
instance {R : RC} [pR : PureR R] {ta : TA} {fa : DAX} {i : Nat} {tc tc2 : TT} {fc fc2 : DTX} {tv : TE} [ha : DA F0 H0 ta fa] [hc : ∀ G0 G1, DT G0 G1 tc fc] [hc2 : ∀ G0 G1, DT G0 G1 tc2 fc2] :
    DS F0 H0 (tSeq (tAsg (tCall (spF R) [] (fun _ _ _ => False) ta) (gName i)) (tSeq (tIfS tc (tRet tv) tNext) (tIfS tc2 (tDrop (tBM K "list" rAppend (tOp (rIxT K) (tVar i) (tC (.int 1))) (tCons (tC (.int 0)) tNil))) tNext))) (dFresh i R fa fc fc2) where
  run Z T H E D r h l := ha.run Z T H _ _ r.1 h fun A hA H1 ⟨F1, r1⟩ => by
    obtain ⟨fl, nOwn, hiZ0, S, hR, hS⟩ := hA
    have hiZ : i < Z.length := by simpa using hiZ0
    have rZ : Rep F0 H0 F1 H1 (Z ++ T) := r1.sub (by rw [← List.append_assoc]; exact List.sublist_append_left _ _)
    let L : List Addr := A.filterMap fun p => match p.1 with | .ref a => some a | _ => none
    let Fs : Hp := fun a => if a ∈ L then H1 a else none
    have inL : ∀ {a s}, ((V.ref a, s) : V × SV) ∈ A → a ∈ L := fun {a s} hm => List.mem_filterMap.mpr ⟨_, hm, rfl⟩
    have ofL : ∀ {a}, a ∈ L → ∃ s, ((V.ref a, s) : V × SV) ∈ A := fun {a} hm => by
      obtain ⟨⟨v, s⟩, h1, h2⟩ := List.mem_filterMap.mp hm
      cases v with
      | ref c => cases h2; exact ⟨s, h1⟩
      | _ => cases h2
    have FsIn : ∀ {a}, a ∈ L → Fs a = H1 a := fun h => if_pos h
    have FsOut : ∀ {a}, a ∉ L → Fs a = none := fun h => if_neg h
    have argOk : ∀ v s, (v, s) ∈ A → argFlat s.frz = true := fun v s hm => List.all_eq_true.mp fl _ (List.mem_map.mpr ⟨s, by
      have := hm
      exact List.mem_map.mpr ⟨(v, s), hm, rfl⟩, rfl⟩)
    have rvA : ∀ v s, (v, s) ∈ A → RV H0 F1 H1 v s := fun v s hm => by
      obtain ⟨w, e1, rv⟩ := r1.ok (some v, some s) (List.mem_append_right _ (List.mem_append_right _ (List.mem_map.mpr ⟨(v, s), hm, rfl⟩))) _ rfl
      cases e1; exact rv
    have small : ∀ v s, (v, s) ∈ A → RV H1 Fs H1 v s.frz := fun v s hm => by
      have fl := argOk v s hm
      have rv := rvA v s hm
      cases s with
      | val d =>
        cases d with
        | list ds =>
          cases rv with
          | lst h1 h2 => exact .lst (by rw [FsIn (inL hm)]; exact r1.low _ _ h1) (h2.flat fl)
        | none => exact Dv.flat rv rfl
        | bool b => exact Dv.flat rv rfl
        | int n => exact Dv.flat rv rfl
        | str x => exact Dv.flat rv rfl
        | _ => cases fl
      | own ds =>
        obtain ⟨a, vs, rfl, _, _, h3, h4⟩ := rv
        exact .lst (by rw [FsIn (inL hm)]; exact h3) (h4.flat fl)
      | ali ds =>
        obtain ⟨a, vs, rfl, _, h3, h4⟩ := rv
        exact .lst (by rw [FsIn (inL hm)]; exact h3) (h4.flat fl)
      | raw u => cases fl
      | ent ds => cases fl
    have lowS : Same Fs H1 := fun b o e => by
      by_cases z : b ∈ L
      · rw [FsIn z] at e; exact e
      · rw [FsOut z] at e; cases e
    have repA : Rep Fs H1 Fs H1 ((A.map fun p => (p.1, p.2.frz)).map pr) := by
      refine ⟨Same.refl _, lowS, Same.refl _, fun b h _ => h, fun p hp sv e => ?_, ?_⟩
      · rw [List.map_map] at hp
        obtain ⟨⟨v, s⟩, hm, rfl⟩ := List.mem_map.mp hp
        cases e
        exact ⟨v, rfl, small v s hm⟩
      · rw [List.pairwise_map, List.pairwise_map]
        refine all_pw (fun x y a es fs _ e2 _ _ => ?_) _
        obtain ⟨v, s⟩ := x
        cases s <;> cases e2
    show spF R (A.map Prod.fst ++ []) H1 _ _
    rw [List.append_nil]
    refine ⟨Fs, A.map (fun p => (p.1, p.2.frz)), S, by simp, repA, (fun s hs => by
      rw [List.map_map] at hs
      obtain ⟨⟨v, s⟩, _, rfl⟩ := List.mem_map.mp hs
      cases s <;> rfl), pR.pure (by simpa [Function.comp_def] using hR), fun rs hs => ?_⟩
    rcases hS rs hs with ⟨rfl, g1, g2, g3⟩ | ⟨n, es, rfl, hne, hfl, hlen, g1, g2, g3⟩
    · intro v H2 ⟨F', b⟩
      have b0 := b.last (W := [])
      cases b0
      have rb : Rep F0 H0 F1 H2 (Z ++ T) := rZ.both (Same.refl _) (rZ.low.trans b.ent) b.ent fun _ h _ => h
      have st := store_S (i := i) (T := T) (v := .non) (sv := .val .none) ⟨F1, by have := rb.pushV (v := .non) (d := .none) .non; rw [List.append_assoc] at this; exact this⟩ r.2 (fun es e => nomatch e)
      show tc _ H2 _
      have e1 : (Z.map Prod.fst).set i (some V.non) = (Z.set i (some V.non, some (SV.val .none))).map Prod.fst := by rw [List.map_set]
      show tc ((Z.map Prod.fst).set i (some V.non)) H2 _
      rw [e1]
      refine (hc F0 H0).run _ T H2 (· = false) _ st.1 (by rw [map_set_snd]; exact g1) fun bb hb H3 r3 => ?_
      subst hb
      show tc2 _ H3 _
      refine (hc2 F0 H0).run _ T H3 (· = false) _ r3 (by rw [map_set_snd]; exact g2) fun bb hb H4 r4 => ?_
      subst hb
      exact l.nx _ H4 ⟨r4, st.2⟩ (by rw [map_set_snd]; exact g3)
    · intro v H2 ⟨F', bk⟩
      have b0 := bk.last (W := [])
      cases b0 with
      | @tup a xs ds q1 q2 =>
        cases q2 with
        | cons q3 q4 =>
          cases q3
          cases q4 with
          | cons q5 q6 =>
            cases q6
            cases q5 with
            | @lst b ws ds q7 q8 =>
              have bL : b ∉ L := fun z => by
                obtain ⟨s, hm⟩ := ofL z
                have hb : Fs b = some (.lst ws) := by
                  have hs0 : Fs b = H1 b := FsIn z
                  cases e : Fs b with
                  | none =>
                    have fl := argOk _ _ hm
                    have rv := rvA _ _ hm
                    rw [e] at hs0
                    cases s with
                    | val d =>
                      cases rv with
                      | lst k1 k2 => rw [r1.low _ _ k1] at hs0; cases hs0
                      | tup _ _ => cases fl
                      | ob _ _ _ => cases fl
                    | own ds => obtain ⟨a, vs, e1, _, _, h3, h4⟩ := rv; cases e1; rw [h3] at hs0; cases hs0
                    | ali ds => obtain ⟨a, vs, e1, _, h3, h4⟩ := rv; cases e1; rw [h3] at hs0; cases hs0
                    | raw u => cases fl
                    | ent ds => cases fl
                  | some o => rw [bk.base _ _ e] at q7; exact q7
                have h1 := small _ _ hm
                have hfr : ∃ ds0, s.frz = .val (.list ds0) ∧ DvAll Fs ws ds0 := by
                  have fl := argOk _ _ hm
                  revert h1 fl
                  cases s.frz with
                  | val d =>
                    intro h1 fl
                    cases h1 with
                    | lst k1 k2 => rw [hb] at k1; cases k1; exact ⟨_, rfl, k2⟩
                    | tup _ _ => cases fl
                    | ob _ _ _ => cases fl
                  | _ => intro h1 fl; cases fl
                obtain ⟨ds0, e1, k2⟩ := hfr
                have := flat_det k2 q8 hfl
                subst this
                exact hne _ (List.mem_map.mpr ⟨s, List.mem_map.mpr ⟨_, hm, rfl⟩, rfl⟩) e1
              have aL : a ∉ L := fun z => by
                obtain ⟨s, hm⟩ := ofL z
                have h1 := small _ _ hm
                have fl := argOk _ _ hm
                revert h1 fl
                cases s.frz with
                | val d =>
                  intro h1 fl
                  cases h1 with
                  | lst k1 k2 => rw [bk.base _ _ k1] at q1; cases q1
                  | tup _ _ => cases fl
                  | ob _ _ _ => cases fl
                | _ => intro h1 fl; cases fl
              have nb : H1 b = none := by
                cases e : H1 b with
                | none => rfl
                | some o => have := bk.apart b (FsOut bL) (by rw [e]; simp); rw [q7] at this; cases this
              have na : H1 a = none := by
                cases e : H1 a with
                | none => rfl
                | some o => have := bk.apart a (FsOut aL) (by rw [e]; simp); rw [q1] at this; cases this
              have ha2 : H2 a = some (.tup [.int n, .ref b]) := bk.low _ _ q1
              have hb2 : H2 b = some (.lst ws) := bk.low _ _ q7
              have ab : a ≠ b := fun z => by rw [z, hb2] at ha2; cases ha2
              let F2 : Hp := fun x => if x = a then H2 a else if x = b then H2 b else F1 x
              have F2a : F2 a = H2 a := if_pos rfl
              have F2b : F2 b = H2 b := by show (if b = a then H2 a else if b = b then H2 b else F1 b) = _; rw [if_neg (Ne.symm ab), if_pos rfl]
              have F2o : ∀ {x}, x ≠ a → x ≠ b → F2 x = F1 x := fun h1 h2 => by show (if _ = a then H2 a else if _ = b then H2 b else F1 _) = _; rw [if_neg h1, if_neg h2]
              have s12 : Same F1 F2 := fun x o e => by
                have hx := rZ.low _ _ e
                rw [F2o (fun z => by rw [z, na] at hx; cases hx) (fun z => by rw [z, nb] at hx; cases hx)]; exact e
              have l2 : Same F2 H2 := fun x o e => by
                by_cases z : x = a
                · subst z; rw [F2a] at e; exact e
                · by_cases y : x = b
                  · subst y; rw [F2b] at e; exact e
                  · rw [F2o z y] at e; exact bk.ent _ _ (rZ.low _ _ e)
              have conv : ∀ p, p ∈ Z ++ T → PairOk H2 F2 H2 (convP p) := fun p hp sv e => by
                obtain ⟨x, s⟩ := p
                cases s with
                | none => cases e
                | some s =>
                  obtain ⟨w, e1, rv⟩ := rZ.ok _ hp _ rfl
                  refine ⟨w, e1, ?_⟩
                  cases s with
                  | val d => cases e; exact rv.mono s12
                  | raw u => cases e; exact rv
                  | own ds => cases e; obtain ⟨c, vs, q1, _, _, q4, q5⟩ := rv; exact ⟨c, vs, q1, bk.ent _ _ q4, bk.ent _ _ q4, q5.mono s12⟩
                  | ali ds => cases e; obtain ⟨c, vs, q1, _, q4, q5⟩ := rv; exact ⟨c, vs, q1, bk.ent _ _ q4, bk.ent _ _ q4, q5.mono s12⟩
                  | ent ds => cases e; obtain ⟨c, vs, q1, _, q4, q5⟩ := rv; exact ⟨c, vs, q1, bk.ent _ _ q4, bk.ent _ _ q4, q5.mono s12⟩
              have convZ : ∀ p ∈ Z, convP p = p := fun p hp => by
                obtain ⟨x, s⟩ := p
                cases s with
                | none => rfl
                | some s =>
                  cases s with
                  | own ds => have := List.all_eq_true.mp nOwn (some (.own ds)) (List.mem_map.mpr ⟨_, hp, rfl⟩); cases this
                  | ali ds => exact absurd rfl (r.2 _ (List.mem_append_left _ hp) ds)
                  | _ => rfl
              let Z1 : Zt := Z.set i (some (.ref a), some (.val (.tuple [.int n, .list es])))
              have tupV : Dv F2 (.ref a) (.tuple [.int n, .list es]) := .tup (by rw [F2a]; exact ha2) (.cons (.int n) (.cons (.lst (by rw [F2b]; exact hb2) (q8.flat hfl)) .nil))
              have rM : Rep F2 H2 F2 H2 (Z1 ++ T.map convP) := by
                refine ⟨Same.refl _, l2, Same.refl _, fun b h _ => h, fun p hp => ?_, ?_⟩
                · rcases List.mem_append.mp hp with z | z
                  · rcases List.mem_or_eq_of_mem_set z with z | z
                    · have := conv p (List.mem_append_left _ z)
                      rw [convZ p z] at this; exact this
                    · subst z
                      exact fun sv e => by cases e; exact ⟨_, rfl, tupV⟩
                  · obtain ⟨p', hp', rfl⟩ := List.mem_map.mp z
                    exact conv p' (List.mem_append_right _ hp')
                · refine List.Pairwise.imp_of_mem (S := Apart) (fun {p q} hp hq _ a' es' fs' _ e _ _ => ?_) (all_pw (R := fun _ _ => True) (fun _ _ => trivial) _)
                  rcases List.mem_append.mp hp with z | z
                  · rcases List.mem_or_eq_of_mem_set z with z | z
                    · have := List.all_eq_true.mp nOwn p.2 (List.mem_map.mpr ⟨_, z, rfl⟩)
                      rw [e] at this; cases this
                    · subst z; cases e
                  · obtain ⟨p, hp, rfl⟩ := List.mem_map.mp z
                    obtain ⟨x, s⟩ := p
                    cases s with
                    | none => cases e
                    | some s => cases s <;> cases e
              have e1 : (Z.map Prod.fst).set i (some (V.ref a)) = Z1.map Prod.fst := by show _ = (Z.set i _).map Prod.fst; rw [List.map_set]
              have e2 : Z1.map Prod.snd = (Z.map Prod.snd).set i (some (.val (.tuple [.int n, .list es]))) := by show (Z.set i _).map Prod.snd = _; rw [List.map_set]
              show tc ((Z.map Prod.fst).set i (some (V.ref a))) H2 _
              rw [e1]
              refine (hc F2 H2).run _ (T.map convP) H2 (· = false) _ ⟨F2, rM⟩ (by rw [e2]; exact g1) fun bb hb H3 r3 => ?_
              subst hb
              show tc2 _ H3 _
              refine (hc2 F2 H2).run _ (T.map convP) H3 (· = true) _ r3 (by rw [e2]; exact g2) fun bb hb H4 r4 => ?_
              subst hb
              obtain ⟨F4, r4⟩ := r4
              have s24 : Same H2 H4 := r4.ent
              have ha4 := s24 _ _ ha2
              have hb4 := s24 _ _ hb2
              have hi : (Z1.map Prod.fst)[i]? = some (some (V.ref a)) := by
                rw [← e1, List.getElem?_set_self (by rw [List.length_map]; exact hiZ)]
              show ∃ v, (Z1.map Prod.fst)[i]? = some (some v) ∧ _
              refine ⟨.ref a, hi, ?_⟩
              refine ⟨a, [.int n, .ref b], 1, .ref b, rfl, rfl, SqT.of ha4, rfl, .inl ⟨rfl, _, SqL.of hb4⟩, ?_⟩
              refine ⟨b, ws, .int 0, rfl, rfl, hb4, by rw [q8.length]; exact hlen, ?_⟩
              have s14 : Same H1 H4 := bk.ent.trans s24
              have s15 : Same H1 (upd H4 b (.lst (ws ++ [.int 0]))) := fun x o e => by
                rw [upd_ne (fun z => by rw [z, nb] at e; cases e)]; exact s14 _ _ e
              have rE : Rep F0 H0 F1 (upd H4 b (.lst (ws ++ [.int 0]))) (Z ++ T) := rZ.both (Same.refl _) (rZ.low.trans s15) s15 fun _ h _ => h
              have rS : Rep F0 H0 F1 (upd H4 b (.lst (ws ++ [.int 0]))) (Z.set i (some (.ref a), none) ++ T) := by
                refine ⟨rE.base, rE.low, rE.ent, rE.apart, fun p hp => ?_, ?_⟩
                · rcases List.mem_append.mp hp with z | z
                  · rcases List.mem_or_eq_of_mem_set z with z | z
                    · exact rE.ok p (List.mem_append_left _ z)
                    · subst z; exact fun sv e => by cases e
                  · exact rE.ok p (List.mem_append_right _ z)
                · have hT := rE.dist
                  rw [List.pairwise_append] at hT ⊢
                  have noZ : ∀ p ∈ Z.set i (some (V.ref a), (none : Option SV)), ∀ es', p.2 ≠ some (.own es') := fun p hp es' e => by
                    rcases List.mem_or_eq_of_mem_set hp with z | z
                    · have := List.all_eq_true.mp nOwn p.2 (List.mem_map.mpr ⟨_, z, rfl⟩)
                      rw [e] at this; cases this
                    · subst z; cases e
                  refine ⟨List.Pairwise.imp_of_mem (S := Apart) (fun {p q} hp hq _ a' es' fs' _ e _ _ => noZ p hp es' e) (all_pw (R := fun _ _ => True) (fun _ _ => trivial) _), hT.2.1, fun p hp q hq a' es' fs' _ e _ _ => noZ p hp es' e⟩
              have := l.nx (Z.set i (some (.ref a), none)) _ ⟨⟨F1, rS⟩, fun p hp => by
                rcases List.mem_append.mp hp with z | z
                · rcases List.mem_or_eq_of_mem_set z with z | z
                  · exact r.2 p (List.mem_append_left _ z)
                  · subst z; intro es' e; cases e
                · exact r.2 p (List.mem_append_right _ z)⟩ (by rw [map_set_snd]; exact g3)
              rw [map_set_fst] at this
              rw [← e1]
              exact this
/-- e.index(f) of a list of numbers -/
def dIdx (f fe : DX) : DX := fun σ P => f σ fun x => ∃ ns : List Int, x.items? = some (LI ns) ∧ fe σ fun y => ∃ (k : Int) (j : Nat), y.int? = some k ∧ ns[j]? = some k ∧ (∀ m, m < j → ns[m]? ≠ some k) ∧ P (.val (.int (j : Int)))
instance {to te : TE} {f fe : DX} [ho : DE F0 H0 to f] [he : DE F0 H0 te fe] : DE F0 H0 (tBM K "list" (rIndex K) to (tCons te tNil)) (dIdx f fe) where
  run Z T H P Q := fun hr h q => ho.run Z T H _ _ hr h fun x ⟨ns, e1, hx⟩ v H1 ⟨F1, r1⟩ => by
    have isL : ∃ a vs, v = .ref a ∧ H1 a = some (.lst vs) := by
      obtain ⟨b, ws, eb, hb, _⟩ := (one_tmp r1).2.items r1.low e1
      exact ⟨b, ws, eb, hb⟩
    obtain ⟨a, vs, rfl, hv⟩ := isL
    refine ⟨.inl ⟨rfl, _, SqL.of hv⟩, he.run Z (T ++ [(some (.ref a), some x)]) H1 _ _ ⟨F1, r1⟩ hx fun y hy u H2 ⟨F2, r2⟩ => ?_⟩
    obtain ⟨k, j, e2, g1, g2, hp⟩ := hy
    obtain ⟨r0, ry⟩ := one_tmp r2
    obtain ⟨r00, rx⟩ := one_tmp r0
    have eu := ry.int e2
    subst eu
    obtain ⟨b, ws, eb, hb, hw⟩ := rx.items r0.low e1
    cases eb
    rw [all_ints hw] at hb
    refine ⟨a, ns.map V.int, .int k, j, .int k, rfl, rfl, SqL.of hb, rfl, ?_, by rw [List.getElem?_map, g1]; rfl, ?_, fun m z hm hz => ?_, q _ hp _ _ ⟨F2, put_tmp r00 (.int _)⟩⟩
    · rw [List.all_map]; exact List.all_eq_true.mpr fun _ _ => rfl
    · simp [eqV]
    · rw [List.getElem?_map] at hz
      obtain ⟨c, hc, rfl⟩ := Option.map_eq_some_iff.mp hz
      have : c ≠ k := fun e => g2 m hm (by rw [hc, e])
      simp [eqV, this]
/-! for x in range(a, b, c) -/
def dRng3 (fa : DAX) : SD → (List PyData → Bool → Prop) → Prop := fun σ P => fa σ fun xs => match xs with
  | [x, y, z] => ∃ i j c n, x.int? = some i ∧ y.int? = some j ∧ z.int? = some c ∧ RgC i j c n ∧ P (stepD i c n) true
  | _ => False
instance {ta : TA} {fa : DAX} [ha : DA F0 H0 ta fa] : DI F0 H0 (iRng3 ta) (dRng3 fa) where
  run Z T H P R := fun hr h q => ha.run Z T H _ _ hr h fun A h1 H1 ⟨F, r1⟩ => by
    match A, h1, r1 with
    | [(v, sv), (w, sw), (u, su)], h1, r1 =>
      obtain ⟨i, j, c, n, e1, e2, e3, hc, hp⟩ := h1
      have rv : ∀ p s, (some p, some s) ∈ Z ++ (T ++ [(some v, some sv), (some w, some sw), (some u, some su)]) → RV H0 F H1 p s := fun p s hm => by
        obtain ⟨p', e, rr⟩ := r1.ok _ hm _ rfl
        cases e; exact rr
      have a1 := (rv v sv (by simp)).int e1
      have a2 := (rv w sw (by simp)).int e2
      have a3 := (rv u su (by simp)).int e3
      refine ⟨i, j, c, n, by rw [← a1, ← a2, ← a3]; rfl, hc, q _ _ hp _ _ [] ⟨F, ?_⟩ (fun _ p hp => nomatch hp) (walk_stp i c n)⟩
      rw [List.append_nil]
      refine r1.sub ?_
      rw [← List.append_assoc]
      exact List.sublist_append_left _ _
end
end DL
/-! Data: for x in [a, e, ..], a a list of one's own that stays so behind the loop. -/
namespace DL
open PySem PySem.Spec PyProof.Rows L2 NB
def isFl : SV → Bool
  | .val d => flatD d
  | _ => false
def rawOf (v : Option V) (s : Option SV) : Option SV := match s with
  | none => none
  | some sv => if isFl sv then some sv else v.map SV.raw
def cvP (p : Option V × Option SV) : Option V × Option SV := (p.1, rawOf p.1 p.2)
def rawDs (f : Nat → V) : Nat → SD → SD
  | _, [] => []
  | c, s :: σ => rawOf (some (f c)) s :: rawDs f (c + 1) σ
theorem rawDs_get (f : Nat → V) : ∀ (c : Nat) (σ : SD) (k : Nat), (rawDs f c σ)[k]? = (σ[k]?).map (rawOf (some (f (c + k))))
  | _, [], k => by simp [rawDs]
  | c, s :: σ, 0 => by simp [rawDs]
  | c, s :: σ, k + 1 => by
    have := rawDs_get f (c + 1) σ k
    have e : c + 1 + k = c + (k + 1) := by omega
    rw [e] at this
    simpa [rawDs] using this
theorem rawDs_len (f : Nat → V) : ∀ (c : Nat) (σ : SD), (rawDs f c σ).length = σ.length
  | _, [] => rfl
  | c, s :: σ => by rw [rawDs, List.length_cons, rawDs_len f (c + 1) σ, List.length_cons]
def dForOwn (i x : Nat) (fa : DAX) (gb : Hp → DSX) : DSX := fun E σ => ∃ (j : Nat) (ds : List PyData), σ[i]? = some (some (.own ds)) ∧ ds.all flatD = true ∧ j ≠ x ∧ j < σ.length ∧ x < σ.length ∧ fa σ fun as => ∃ es : List (List PyData), as.map SV.frz = es.map (fun e => SV.val (.list e)) ∧ (∀ e ∈ es, e.all flatD = true) ∧ es.length + 1 ≤ sizeLine ∧
  (∀ (G : Hp) (f : Nat → V) (e : List PyData), e = ds ∨ e ∈ es → ∀ o : Option SV, gb G { nx := fun σ' => ∃ b : Bool, σ' = ((rawDs f 0 σ).set x (some (.val (.list e)))).set j (some (.val (.bool b))), rt := fun _ => False } (((rawDs f 0 σ).set x (some (.val (.list e)))).set j o)) ∧
  ∀ b : Bool, E.nx ((σ.set x none).set j (some (.val (.bool b))))
section
variable {F0 H0 F H : Hp} {K : PySem.W.Frag}
theorem Rep.mix {A B T : Zt} (r : Rep F0 H0 F H (A ++ T)) (hl : B.length = A.length) (h : ∀ (k : Nat) (p : Option V × Option SV), B[k]? = some p → A[k]? = some p ∨ (PairOk H0 F H p ∧ ∀ es, p.2 ≠ some (.own es))) : Rep F0 H0 F H (B ++ T) := by
  have dd := r.dist
  rw [List.pairwise_append] at dd
  obtain ⟨dA, dT, dAT⟩ := dd
  refine ⟨r.base, r.low, r.ent, r.apart, fun p hp => ?_, ?_⟩
  · rcases List.mem_append.mp hp with z | z
    · obtain ⟨k, hk⟩ := List.mem_iff_getElem?.mp z
      rcases h k p hk with y | y
      · exact r.ok p (List.mem_append_left _ (List.mem_of_getElem? y))
      · exact y.1
    · exact r.ok p (List.mem_append_right _ z)
  · rw [List.pairwise_append]
    refine ⟨?_, dT, fun p hp q hq => ?_⟩
    · rw [List.pairwise_iff_getElem]
      intro a b ha hb hab
      rcases h a _ (List.getElem?_eq_getElem ha) with y | y
      · rcases h b _ (List.getElem?_eq_getElem hb) with w | w
        · have h1 := (List.getElem?_eq_some_iff.mp y)
          have h2 := (List.getElem?_eq_some_iff.mp w)
          obtain ⟨l1, e1⟩ := h1
          obtain ⟨l2, e2⟩ := h2
          rw [← e1, ← e2]
          exact List.pairwise_iff_getElem.mp dA a b l1 l2 hab
        · exact fun c es fs _ _ _ e => w.2 fs e
      · exact fun c es fs _ e _ _ => y.2 es e
    · obtain ⟨k, hk⟩ := List.mem_iff_getElem?.mp hp
      rcases h k p hk with y | y
      · exact dAT p (List.mem_of_getElem? y) q hq
      · exact fun c es fs _ e _ _ => y.2 es e
theorem dForOwn_ds {i x : Nat} {ta : TA} {fa : DAX} {tb : TS} {gb : Hp → DSX} (ha : DA F0 H0 ta fa) (hb : ∀ G0 G1, DS G0 G1 tb (gb G0)) : DS F0 H0 (tFor (iList K (tLst (tCons (tVar i) ta))) (gName x) tb) (dForOwn i x fa gb) where
  run Z T H E D r h l := by
    obtain ⟨j, ds, hi, dfl, hjx, hj, hx, h1⟩ := h
    obtain ⟨⟨F, r0⟩, noA⟩ := r
    obtain ⟨b, ws0, z1, z2, z3, z4⟩ := own_slot r0 hi
    refine ⟨.ref b, z2, ha.run Z T H _ _ ⟨F, r0⟩ h1 fun A hA H1 ⟨F1, r1⟩ => ?_⟩
    obtain ⟨es, he, efl, hlen, hbody, hnx⟩ := hA
    have lA : A.length = es.length := by have := congrArg List.length he; simpa using this
    refine ⟨by rw [List.length_cons, List.length_map, lA]; omega, fun p np => ?_⟩
    obtain ⟨b', ws, q1, q2, q3, q4⟩ := own_slot (T := T ++ A.map pr) r1 hi
    rw [z1] at q1
    cases q1
    let xs : List V := .ref b :: A.map Prod.fst
    let HL : Hp := upd H1 p (.lst xs)
    have hLp : HL p = some (.lst xs) := upd_same
    have sL : Same H1 HL := fun c o e => by show upd H1 p (.lst xs) c = _; rw [upd_ne (ne_of_none e np)]; exact e
    have rZ1 : Rep F0 H0 F1 H1 (Z ++ T) := r1.sub (by rw [← List.append_assoc]; exact List.sublist_append_left _ _)
    have rL : Rep F0 H0 F1 HL (Z ++ T) := rZ1.grow np
    -- the elements
    have elem : ∀ (k : Nat) (v : V), xs[k]? = some v → ∃ (a : Addr) (e : List PyData) (us : List V), v = V.ref a ∧ (e = ds ∨ e ∈ es) ∧ HL a = some (.lst us) ∧ DvAll F1 us e ∧ (F1 a = none ∨ F1 a = some (.lst us)) := fun k v hk => by
      have own0 := (rZ1.ok _ (List.mem_append_left _ (List.mem_of_getElem? z1)) _ rfl)
      match k, hk with
      | 0, hk =>
        have : V.ref b = v := Option.some.inj hk
        subst this
        obtain ⟨w, e1, rv⟩ := own0
        cases e1
        obtain ⟨b2, us, e2, f1, f0, hh, hd⟩ := rv
        cases e2
        exact ⟨b, ds, us, rfl, .inl rfl, sL _ _ hh, hd, .inl f1⟩
      | k + 1, hk =>
        have hk' : (A.map Prod.fst)[k]? = some v := hk
        rw [List.getElem?_map] at hk'
        obtain ⟨⟨v', s⟩, hm, rfl⟩ := Option.map_eq_some_iff.mp hk'
        have hes : ∃ e, es[k]? = some e ∧ s.frz = .val (.list e) := by
          have := congrArg (fun l => l[k]?) he
          simp only [List.getElem?_map] at this
          rw [hm] at this
          cases g : es[k]? with
          | none => rw [g] at this; cases this
          | some e => rw [g] at this; exact ⟨e, rfl, Option.some.inj this⟩
        obtain ⟨e, g1, g2⟩ := hes
        have hmem : e ∈ es := List.mem_of_getElem? g1
        obtain ⟨w, e1, rv⟩ := r1.ok (some v', some s) (List.mem_append_right _ (List.mem_append_right _ (List.mem_map.mpr ⟨(v', s), List.mem_of_getElem? hm, rfl⟩))) _ rfl
        cases e1
        cases s with
        | val d =>
          cases g2
          cases rv with
          | @lst a us ds' k1 k2 => exact ⟨a, e, us, rfl, .inr hmem, sL _ _ (r1.low _ _ k1), k2, .inr k1⟩
        | own ds' => cases g2; obtain ⟨a, us, rfl, f1, _, hh, hd⟩ := rv; exact ⟨a, e, us, rfl, .inr hmem, sL _ _ hh, hd, .inl f1⟩
        | ali ds' =>
          cases g2
          obtain ⟨a, us, rfl, _, hh, hd⟩ := rv
          refine ⟨a, e, us, rfl, .inr hmem, sL _ _ hh, hd, ?_⟩
          cases g : F1 a with
          | none => exact .inl rfl
          | some o => have := r1.low _ _ g; rw [hh] at this; cases this; exact .inr rfl
        | raw u => cases g2
        | ent ds' => cases g2
    have eflat : ∀ e, e = ds ∨ e ∈ es → e.all flatD = true := fun e h => by
      rcases h with rfl | h
      · exact dfl
      · exact efl e h
    have nxs : xs.length = es.length + 1 := by show (A.map Prod.fst).length + 1 = _; rw [List.length_map, lA]
    refine ⟨p, rfl, ⟨xs, SqL.of hLp⟩, fun k m σ H' => m + k = xs.length ∧ Same HL H' ∧ ∃ Z' : Zt, Z'.map Prod.fst = σ ∧ Rep F0 H0 F1 H' (Z' ++ T) ∧ (∀ q ∈ Z' ++ T, NoAli q) ∧ ((k = 0 ∧ Z'.map Prod.snd = Z.map Prod.snd) ∨ ∃ bb : Bool, Z'.map Prod.snd = ((Z.map Prod.snd).set x none).set j (some (.val (.bool bb)))), ⟨xs.length, rfl, Same.refl _, Z, rfl, rL, noA, .inl ⟨rfl, rfl⟩⟩, ?_⟩
    rintro k m σ H' ⟨hmk, sH, Z', rfl, rp, nA, hz⟩
    have hLp' : H' p = some (.lst xs) := sH _ _ hLp
    by_cases hk : k < xs.length
    · refine .inr ⟨⟨xs, xs[k], SqL.of hLp', List.getElem?_eq_getElem hk⟩, fun σ' H2 => ∃ m', m' < m ∧ (m' + (k + 1) = xs.length ∧ Same HL H2 ∧ ∃ Z' : Zt, Z'.map Prod.fst = σ' ∧ Rep F0 H0 F1 H2 (Z' ++ T) ∧ (∀ q ∈ Z' ++ T, NoAli q) ∧ ((k + 1 = 0 ∧ Z'.map Prod.snd = Z.map Prod.snd) ∨ ∃ bb : Bool, Z'.map Prod.snd = ((Z.map Prod.snd).set x none).set j (some (.val (.bool bb))))), fun _ _ h => h, ?_⟩
      rintro v H3 ⟨e3, hv⟩
      rw [e3]
      have hv' := hv xs (SqL.of hLp')
      obtain ⟨a, e, us, rfl, hmem, ha1, hd1, hF⟩ := elem k v hv'
      have ha2 := sH _ _ ha1
      have eF := eflat e hmem
      -- the frame of this turn
      let Fi : Hp := fun c => if c = a then H' a else F1 c
      have Fia : Fi a = some (.lst us) := by show (if a = a then H' a else F1 a) = _; rw [if_pos rfl]; exact ha2
      have s1i : Same F1 Fi := fun c o g => by
        show (if c = a then H' a else F1 c) = _
        by_cases z : c = a
        · subst z
          rw [if_pos rfl]
          rcases hF with f | f
          · rw [f] at g; cases g
          · rw [f] at g; rw [ha2, ← g]
        · rw [if_neg z]; exact g
      have li : Same Fi H' := fun c o g => by
        by_cases z : c = a
        · subst z; rw [Fia] at g; rw [ha2]; exact g
        · have : Fi c = F1 c := if_neg z
          rw [this] at g; exact rp.low _ _ g
      have lZ : Z'.length = Z.length := by
        rcases hz with ⟨_, g⟩ | ⟨bb, g⟩
        · have := congrArg List.length g; simpa using this
        · have := congrArg List.length g; simpa using this
      have xZ : x < Z.length := by simpa using hx
      have jZ : j < Z.length := by simpa using hj
      let Zi : Zt := (Z'.map cvP).set x (some (.ref a), some (.val (.list e)))
      let f : Nat → V := fun k => match Z'[k]? with | some (some v, _) => v | _ => .non
      have cvok : ∀ q, q ∈ Z' ++ T → ∀ sv, q.2 = some sv → ∃ v, q.1 = some v ∧ RV H0 F1 H' v sv := fun q hq => rp.ok q hq
      have rM : Rep Fi H' Fi H' (Zi ++ T.map convP) := by
        refine ⟨Same.refl _, li, Same.refl _, fun c g _ => g, fun q hq => ?_, ?_⟩
        · rcases List.mem_append.mp hq with z | z
          · rcases List.mem_or_eq_of_mem_set z with z | z
            · obtain ⟨q', hq', rfl⟩ := List.mem_map.mp z
              intro sv esv
              obtain ⟨v?, s?⟩ := q'
              cases s? with
              | none => cases esv
              | some s =>
                obtain ⟨v, e1, rv⟩ := cvok _ (List.mem_append_left _ hq') s rfl
                have e1' : v? = some v := e1
                subst e1'
                show ∃ w, some v = some w ∧ _
                refine ⟨v, rfl, ?_⟩
                have esv' : (if isFl s then some s else (some v).map SV.raw) = some sv := esv
                by_cases c : isFl s = true
                · rw [if_pos c] at esv'
                  have es0 : s = sv := Option.some.inj esv'
                  subst es0
                  cases s with
                  | val d => exact Dv.flat rv c
                  | _ => cases c
                · rw [if_neg c] at esv'
                  cases esv'
                  rfl
            · subst z
              exact fun sv esv => by cases esv; exact ⟨_, rfl, .lst Fia (hd1.flat eF)⟩
          · obtain ⟨q', hq', rfl⟩ := List.mem_map.mp z
            intro sv esv
            obtain ⟨v?, s?⟩ := q'
            cases s? with
            | none => cases esv
            | some s =>
              obtain ⟨v, e1, rv⟩ := cvok _ (List.mem_append_right _ hq') s rfl
              refine ⟨v, e1, ?_⟩
              cases s with
              | val d => cases esv; exact rv.mono s1i
              | raw u => cases esv; exact rv
              | own ds => cases esv; obtain ⟨c, vs, q1, _, _, q4, q5⟩ := rv; exact ⟨c, vs, q1, q4, q4, q5.mono s1i⟩
              | ali ds => cases esv; obtain ⟨c, vs, q1, _, q4, q5⟩ := rv; exact ⟨c, vs, q1, q4, q4, q5.mono s1i⟩
              | ent ds => cases esv; obtain ⟨c, vs, q1, _, q4, q5⟩ := rv; exact ⟨c, vs, q1, q4, q4, q5.mono s1i⟩
        · refine List.Pairwise.imp_of_mem (S := Apart) (fun {q q2} hq hq2 _ a' es' fs' _ g _ _ => ?_) (all_pw (R := fun _ _ => True) (fun _ _ => trivial) _)
          rcases List.mem_append.mp hq with z | z
          · rcases List.mem_or_eq_of_mem_set z with z | z
            · obtain ⟨⟨v?, s?⟩, hq', rfl⟩ := List.mem_map.mp z
              cases s? with
              | none => cases g
              | some s =>
                have g' : (if isFl s then some s else v?.map SV.raw) = some (.own es') := g
                by_cases c : isFl s = true
                · rw [if_pos c] at g'; cases g'; cases c
                · rw [if_neg c] at g'; cases v? <;> cases g'
            · subst z; cases g
          · obtain ⟨⟨v?, s?⟩, hq', rfl⟩ := List.mem_map.mp z
            cases s? with
            | none => cases g
            | some s => cases s <;> cases g
      have noM : ∀ q ∈ Zi ++ T.map convP, NoAli q := fun q hq es' g => by
        rcases List.mem_append.mp hq with z | z
        · rcases List.mem_or_eq_of_mem_set z with z | z
          · obtain ⟨⟨v?, s?⟩, hq', rfl⟩ := List.mem_map.mp z
            cases s? with
            | none => cases g
            | some s =>
              have g' : (if isFl s then some s else v?.map SV.raw) = some (.ali es') := g
              by_cases c : isFl s = true
              · rw [if_pos c] at g'; cases g'; cases c
              · rw [if_neg c] at g'; cases v? <;> cases g'
          · subst z; cases g
        · obtain ⟨⟨v?, s?⟩, hq', rfl⟩ := List.mem_map.mp z
          cases s? with
          | none => cases g
          | some s => cases s <;> cases g
      have sndC : (Z'.map cvP).map Prod.snd = rawDs f 0 (Z'.map Prod.snd) := by
        refine List.ext_getElem? fun k => ?_
        rw [rawDs_get, List.getElem?_map, List.getElem?_map, List.getElem?_map, Nat.zero_add]
        cases g : Z'[k]? with
        | none => rfl
        | some q =>
          obtain ⟨v?, s?⟩ := q
          show some (rawOf v? s?) = some (rawOf (some (f k)) s?)
          cases s? with
          | none => rfl
          | some s =>
            obtain ⟨v, e1, _⟩ := cvok _ (List.mem_append_left _ (List.mem_of_getElem? g)) s rfl
            have e1' : v? = some v := e1
            subst e1'
            have : f k = v := by show (match Z'[k]? with | some (some v, _) => v | _ => V.non) = v; rw [g]
            rw [this]
      let σ0 := Z.map Prod.snd
      have lσ : σ0.length = Z.length := List.length_map _
      have sndI : ∃ o : Option SV, Zi.map Prod.snd = ((rawDs f 0 σ0).set x (some (.val (.list e)))).set j o := by
        have e0 : Zi.map Prod.snd = (rawDs f 0 (Z'.map Prod.snd)).set x (some (.val (.list e))) := by
          show ((Z'.map cvP).set x _).map Prod.snd = _
          rw [List.map_set, sndC]
        rw [e0]
        rcases hz with ⟨_, g⟩ | ⟨bb, g⟩
        · rw [g]
          refine ⟨((rawDs f 0 σ0).set x (some (.val (.list e))))[j]'(by rw [List.length_set, rawDs_len, lσ]; exact jZ), ?_⟩
          exact (List.set_getElem_self _).symm
        · rw [g]
          refine ⟨some (.val (.bool bb)), List.ext_getElem? fun k => ?_⟩
          by_cases c1 : k = j
          · subst c1
            rw [List.getElem?_set_self (by rw [List.length_set, rawDs_len, lσ]; exact jZ), List.getElem?_set_ne (Ne.symm hjx), rawDs_get, List.getElem?_set_self (by rw [List.length_set, lσ]; exact jZ)]
            rfl
          · rw [List.getElem?_set_ne (Ne.symm c1)]
            by_cases c2 : k = x
            · subst c2
              rw [List.getElem?_set_self (by rw [rawDs_len, List.length_set, List.length_set, lσ]; exact xZ), List.getElem?_set_self (by rw [rawDs_len, lσ]; exact xZ)]
            · rw [List.getElem?_set_ne (Ne.symm c2), List.getElem?_set_ne (Ne.symm c2), rawDs_get, rawDs_get, List.getElem?_set_ne (Ne.symm c1), List.getElem?_set_ne (Ne.symm c2)]
      obtain ⟨o, sndI⟩ := sndI
      have hgo := hbody Fi f e hmem o
      have fstI : (Z'.map Prod.fst).set x (some (V.ref a)) = Zi.map Prod.fst := by
        show _ = ((Z'.map cvP).set x _).map Prod.fst
        rw [List.map_set, List.map_map]; rfl
      show tb _ ((Z'.map Prod.fst).set x (some (V.ref a))) H'
      rw [fstI]
      refine (hb Fi H').run Zi (T.map convP) H' { nx := fun σ' => ∃ b : Bool, σ' = ((rawDs f 0 σ0).set x (some (.val (.list e)))).set j (some (.val (.bool b))), rt := fun _ => False } _ ⟨⟨Fi, rM⟩, noM⟩ (by rw [sndI]; exact hgo) ⟨fun Z2 H2 r2 h2 => ?_, fun _ _ _ w => w.elim, fun _ _ _ w => w.elim, fun _ _ _ w => w.elim⟩
      obtain ⟨bb, h2⟩ := h2
      obtain ⟨⟨F2, r2⟩, n2⟩ := r2
      have s22 : Same H' H2 := r2.ent
      have l2 : Z2.length = Z.length := by
        have h9 : Z2.length = σ0.length := by have := congrArg List.length h2; simpa [rawDs_len] using this
        exact h9.trans lσ
      refine ⟨m - 1, by omega, by omega, sH.trans s22, List.zip (Z2.map Prod.fst) ((σ0.set x none).set j (some (.val (.bool bb)))), ?_, ?_, ?_, .inr ⟨bb, ?_⟩⟩
      · rw [List.map_fst_zip (by rw [List.length_map, List.length_set, List.length_set, lσ, l2]; exact Nat.le_refl _)]
      · have rp2 : Rep F0 H0 F1 H2 (Z' ++ T) := rp.both (Same.refl _) (rp.low.trans s22) s22 fun _ g _ => g
        refine rp2.mix (by rw [List.length_zip, List.length_map, List.length_set, List.length_set, lσ, l2, lZ, Nat.min_self]) fun k q hq => ?_
        rw [List.getElem?_zip_eq_some] at hq
        obtain ⟨q1, q2⟩ := hq
        rw [List.getElem?_map] at q1
        obtain ⟨w2, hw2, ew2⟩ := Option.map_eq_some_iff.mp q1
        have hs2 : w2.2 = (((rawDs f 0 σ0).set x (some (.val (.list e)))).set j (some (.val (.bool bb))))[k]?.join := by
          have := congrArg (fun l => l[k]?) h2
          simp only [List.getElem?_map] at this
          rw [hw2] at this
          rw [← this]; rfl
        have ok2 := r2.ok w2 (List.mem_append_left _ (List.mem_of_getElem? hw2))
        obtain ⟨v?, s?⟩ := q
        have ew2' : w2.1 = v? := ew2
        by_cases c1 : k = j
        · subst c1
          rw [List.getElem?_set_self (by rw [List.length_set, lσ]; exact jZ)] at q2
          rw [List.getElem?_set_self (by rw [List.length_set, rawDs_len, lσ]; exact jZ)] at hs2
          cases q2
          refine .inr ⟨fun sv esv => ?_, fun es' g => by cases g⟩
          cases esv
          obtain ⟨v, e1, rv⟩ := ok2 _ hs2
          exact ⟨v, ew2'.symm.trans e1, Dv.flat rv rfl⟩
        · rw [List.getElem?_set_ne (Ne.symm c1)] at q2 hs2
          by_cases c2 : k = x
          · subst c2
            rw [List.getElem?_set_self (by rw [lσ]; exact xZ)] at q2
            cases q2
            exact .inr ⟨fun sv esv => (by cases esv), fun es' g => (by cases g)⟩
          · rw [List.getElem?_set_ne (Ne.symm c2)] at q2 hs2
            rw [rawDs_get, q2, Nat.zero_add] at hs2
            have hs2' : w2.2 = rawOf (some (f k)) s? := hs2
            cases s? with
            | none => exact .inr ⟨fun sv esv => (by cases esv), fun es' g => (by cases g)⟩
            | some s =>
              by_cases c : isFl s = true
              · have : w2.2 = some s := by rw [hs2']; show (if isFl s then some s else _) = _; rw [if_pos c]
                obtain ⟨v, e1, rv⟩ := ok2 _ this
                cases s with
                | val d => exact .inr ⟨fun sv esv => (by cases esv; exact ⟨v, ew2'.symm.trans e1, Dv.flat rv c⟩), fun es' g => (by cases g)⟩
                | _ => cases c
              · have : w2.2 = some (.raw (f k)) := by rw [hs2']; show (if isFl s then some s else _) = _; rw [if_neg c]; rfl
                obtain ⟨v, e1, rv⟩ := ok2 _ this
                cases rv
                -- it is the old one
                have zk : (Z'.map Prod.snd)[k]? = some (some s) := by
                  rcases hz with ⟨_, g⟩ | ⟨b3, g⟩
                  · rw [g]; exact q2
                  · rw [g, List.getElem?_set_ne (Ne.symm c1), List.getElem?_set_ne (Ne.symm c2)]; exact q2
                rw [List.getElem?_map] at zk
                obtain ⟨⟨y?, t?⟩, hy, et⟩ := Option.map_eq_some_iff.mp zk
                have et' : t? = some s := et
                subst et'
                obtain ⟨v0, e0, _⟩ := cvok _ (List.mem_append_left _ (List.mem_of_getElem? hy)) s rfl
                have e0' : y? = some v0 := e0
                subst e0'
                have fk : f k = v0 := by show (match Z'[k]? with | some (some v, _) => v | _ => V.non) = v0; rw [hy]
                refine .inl ?_
                rw [hy, ← ew2', e1, fk]
      · intro q hq es' g
        rcases List.mem_append.mp hq with z | z
        · obtain ⟨v?, s?⟩ := q
          have := (List.of_mem_zip z).2
          have g' : s? = some (.ali es') := g
          subst g'
          rcases List.mem_or_eq_of_mem_set this with w | w
          · rcases List.mem_or_eq_of_mem_set w with w | w
            · obtain ⟨q', hq', e1⟩ := List.mem_map.mp w
              exact noA q' (List.mem_append_left _ hq') es' e1
            · cases w
          · cases w
        · exact nA q (List.mem_append_right _ z) es' g
      · rw [List.map_snd_zip (by rw [List.length_map, List.length_set, List.length_set, lσ, l2]; exact Nat.le_refl _)]
    · refine .inl ⟨⟨xs, SqL.of hLp', by omega⟩, ?_⟩
      rcases hz with ⟨k0, _⟩ | ⟨bb, g⟩
      · omega
      · exact l.nx Z' H' ⟨⟨F1, rp⟩, nA⟩ (by rw [g]; exact hnx bb)
theorem dForOwn0 {i x : Nat} {ta : TA} {fa : DAX} {tb : TS} {gb : Hp → DSX} (ha : DA F0 H0 ta fa) (hb : ∀ G0 G1, DS G0 G1 tb (gb G0)) : DS0 F0 H0 (tFor (iList K (tLst (tCons (tVar i) ta))) (gName x) tb) (dForOwn i x fa gb) := by
  have h := dForOwn_ds (K := K) (i := i) (x := x) ha hb
  exact ⟨fun Z H E D r g l => h.run Z [] H E D r g l⟩
theorem cut_last (l : List PyData) (x : PyData) : DL.cutD (l ++ [x]) none (some (-1)) = l := by
  unfold DL.cutD
  have e : HT.sIx (l ++ [x]).length 0 none = 0 := by rfl
  rw [e, List.drop_zero, Nat.sub_zero]
  have e2 : HT.sIx (l ++ [x]).length (l ++ [x]).length (some (-1)) = l.length := by
    show (if (-1 : Int) < 0 then (-1 + ((l ++ [x]).length : Int)).toNat else min (-1 : Int).toNat (l ++ [x]).length) = _
    rw [if_pos (by decide), List.length_append, List.length_singleton]
    omega
  rw [e2]; simp
end
end DL
/-! Data: a, b, c = e, f, g. -/
namespace DL
open PySem PySem.Spec PyProof.Rows L2 NB
section
variable {P : Program} {w : World} {K : PySem.W.Frag} {mg : Str → Option Value} {base : Heap} {F0 H0 : Hp}
def dPar3 (i j k : Nat) (fa : DAX) : DSX := fun E σ => fa σ fun as => ∃ d e f, as = [.val d, .val e, .val f] ∧ E.nx (((σ.set i (some (.val d))).set j (some (.val e))).set k (some (.val f)))
instance {ta : TA} {fa : DAX} {i j k : Nat} [ha : DA F0 H0 ta fa] : DS F0 H0 (tPar3 i j k ta) (dPar3 i j k fa) where
  run Z T H E D r h l := ha.run Z T H _ _ r.1 h fun A ⟨d, e, f, hA, hn⟩ H1 ⟨F, r1⟩ => by
    match A, hA with
    | [(v, _), (w, _), (u, _)], hA =>
      cases hA
      refine ⟨v, w, u, rfl, ?_⟩
      have r2 : RepS F0 H0 H1 (Z.set i (some v, some (.val d)) ++ (T ++ [(some w, some (.val e)), (some u, some (.val f))])) := store_S (T := T ++ [(some w, some (.val e)), (some u, some (.val f))]) ⟨F, by
        have r1' : Rep F0 H0 F H1 (Z ++ (T ++ [(some v, some (.val d)), (some w, some (.val e)), (some u, some (.val f))])) := r1
        refine r1'.perm ?_
        refine List.Perm.append_left _ ?_
        rw [List.append_assoc]
        refine List.Perm.append_left _ ?_
        exact (List.Perm.swap _ _ _).trans (List.Perm.cons _ (List.Perm.swap _ _ _))⟩ (fun p hp es e => by
          rcases List.mem_append.mp hp with z | z
          · exact r.2 p (List.mem_append_left _ z) es e
          · rcases List.mem_append.mp z with z | z
            · exact r.2 p (List.mem_append_right _ z) es e
            · simp at z; rcases z with z | z <;> subst z <;> cases e) (by intro _ e; cases e)
      have r3 : RepS F0 H0 H1 ((Z.set i (some v, some (.val d))).set j (some w, some (.val e)) ++ (T ++ [(some u, some (.val f))])) := store_S (T := T ++ [(some u, some (.val f))]) (by
        obtain ⟨F, q⟩ := r2.1
        refine ⟨F, q.perm ?_⟩
        rw [List.append_assoc]
        refine List.Perm.append_left _ ?_
        exact List.Perm.append_left _ (List.Perm.swap _ _ _)) (fun p hp => r2.2 p (by
        rcases List.mem_append.mp hp with z | z
        · exact List.mem_append_left _ z
        · rcases List.mem_append.mp z with z | z
          · exact List.mem_append_right _ (List.mem_append_left _ z)
          · exact List.mem_append_right _ (List.mem_append_right _ (by simp at z; subst z; simp)))) (by intro _ e; cases e)
      have r4 : RepS F0 H0 H1 (((Z.set i (some v, some (.val d))).set j (some w, some (.val e))).set k (some u, some (.val f)) ++ T) := store_S (by
        obtain ⟨F, q⟩ := r3.1
        exact ⟨F, q⟩) (fun p hp => r3.2 p (by
        rcases List.mem_append.mp hp with z | z
        · exact List.mem_append_left _ z
        · exact List.mem_append_right _ (List.mem_append_left _ z))) (by intro _ e; cases e)
      have := l.nx _ _ r4 (by rw [map_set_snd, map_set_snd, map_set_snd]; exact hn)
      rw [map_set_fst, map_set_fst, map_set_fst] at this
      exact this
end
end DL
/-! Data: x[k] op= e, x a list of one's own. -/
namespace DL
open PySem PySem.Spec PyProof.Rows L2 NB
theorem get_list {X : Cx} : PGet X (rIxL X.K) := by
  intro pins s σ H x y v u Q I rx ry h
  obtain ⟨p, xs, i, z, rfl, rfl, hq, he, q⟩ := h
  cases rx
  obtain ⟨t, rfl⟩ := ry
  obtain ⟨its, r, pl, hz⟩ := I.list hq
  obtain ⟨j, h1, h2, h3, h4, h5⟩ := atI_get he
  obtain ⟨w, ew, rw'⟩ := r.get h2
  have hl := r.length
  have hn := line63
  have fin : EP X pins σ Q w s := ⟨z, H, I, rw', q⟩
  by_cases h0 : 0 ≤ i
  · have hj : i.toNat = j := by
      rw [seqIndex_of h0 h5] at h1
      exact Option.some.inj h1
    exact wpAny_getItem_list pl.isList h0 (by omega) (by rw [hj]; simpa using ew) fin
  · have hj : (i + (its.toArray.size : Int)).toNat = j := by
      rw [seqIndex_neg (by omega) h4] at h1
      rw [List.size_toArray, ← hl]
      exact Option.some.inj h1
    exact wpAny_getItem_list_neg pl.isList (by omega) (by rw [List.size_toArray] <;> omega) (by omega) (by rw [hj]; simpa using ew) fin
section
variable {P : Program} {w : World} {K : PySem.W.Frag} {mg : Str → Option Value} {base : Heap} {F0 H0 : Hp}
def dAugS (i : Nat) (fk fe : DX) (o : SV → SV → (SV → Prop) → Prop) : DSX := fun E σ => match σ[i]? with
  | some (some (.own ds)) => fk σ fun sk => match sk.int? with
    | some k => ∃ j d, ixN ds.length k = some j ∧ ds[j]? = some d ∧ fe σ fun sy => o (.val d) sy fun sv => match sv with
      | .val e => E.nx (σ.set i (some (.own (ds.set j e))))
      | _ => False
    | none => False
  | _ => False
instance {te tk : TE} {fe fk : DX} {i : Nat} {ti : TIp} {o : SV → SV → (SV → Prop) → Prop} [he : DE F0 H0 te fe] [hk : DE F0 H0 tk fk] [ho : OpD F0 H0 ti o] : DS F0 H0 (tAugS (tVar i) tk te (rIxL K) ti rSetL) (dAugS i fk fe o) where
  run Z T H E D r h l := by
    unfold dAugS at h
    cases e3 : (Z.map Prod.snd)[i]? with
    | none => rw [e3] at h; exact h.elim
    | some ov =>
      match ov, e3 with
      | none, e3 => rw [e3] at h; exact h.elim
      | some (.val _), e3 => rw [e3] at h; exact h.elim
      | some (.ali _), e3 => rw [e3] at h; exact h.elim
      | some (.raw _), e3 => rw [e3] at h; exact h.elim
      | some (.ent _), e3 => rw [e3] at h; exact h.elim
      | some (.own ds), e3 =>
        rw [e3] at h
        obtain ⟨F, r0⟩ := r.1
        obtain ⟨a, vs, z1, z2, _, _⟩ := own_slot r0 e3
        refine ⟨.ref a, z2, hk.run Z T H _ _ ⟨F, r0⟩ h fun sk hk' u H1 ⟨F1, r1⟩ => ?_⟩
        cases e4 : sk.int? with
        | none => rw [e4] at hk'; exact hk'.elim
        | some k =>
          rw [e4] at hk'
          obtain ⟨j, d, hj, hd, h2⟩ := hk'
          have r1b : Rep F0 H0 F1 H1 ((Z ++ T) ++ [(some u, some sk)]) := by rw [List.append_assoc]; exact r1
          have ru := r1b.last.int e4
          subst ru
          obtain ⟨a1, vs1, q1, q2, q3, q4⟩ := own_slot r1b.left e3
          rw [z1] at q1; cases q1
          obtain ⟨v, hv, dv⟩ := q4.get hd
          refine ⟨a, vs1, k, v, rfl, rfl, SqL.of q3, by unfold atI; rw [q4.length, hj]; exact hv, ?_⟩
          have r2 : Rep F0 H0 F1 H1 (Z ++ (T ++ [(some v, some (.val d))])) := by rw [← List.append_assoc]; exact r1b.left.pushV dv
          refine he.run Z (T ++ [(some v, some (.val d))]) H1 _ _ ⟨F1, r2⟩ h2 fun sy hy y H2 ⟨F2, r3⟩ => ?_
          refine ho.run (Z ++ T) v y (.val d) sy H2 _ _ ⟨F2, by simpa using r3⟩ hy fun sv hs x H3 ⟨F3, r4⟩ => ?_
          cases sv with
          | own _ => exact hs.elim
          | ali _ => exact hs.elim
          | raw _ => exact hs.elim
          | ent _ => exact hs.elim
          | val e =>
            have rv := r4.last
            obtain ⟨a', vs3, z3, z4, z5, z6⟩ := own_slot r4.left e3
            rw [z1] at z3; cases z3
            refine ⟨a, vs3, k, j, rfl, rfl, z5, by rw [z6.length]; exact hj, ?_⟩
            have r5 := own_put r4.left r.2 z1 (z6.set (show Dv F3 x e from rv) j)
            have := l.nx _ _ r5 (by rw [map_set_snd]; exact hs)
            rw [map_set_fst, set_self z2] at this
            exact this
end
end DL
/-! Data: enumerate(list, start=k). -/
namespace DL
open PySem PySem.Spec PyProof.Rows L2 NB
theorem callWith_typeK {M : Model} {A : Around} {E : Value → Shared → Prop} {s : Shared} {pos : Pos} {T : String} {args : List (Bool × Sem Value)} {keywords : List (Option Str × Sem Value)} {Q : Value → Shared → Prop}
    (hplain : args.any (·.1) = false) (hkw : keywords.any (·.1.isNone) = false)
    (h : wpAny M A (evalArgs (.type T) true args keywords) (fun a s₁ => wpAny M A (call (.type T) ([] ++ a.pos) a.kw) Q E s₁) E s) :
    wpAny M A (callWith pos (.type T) [] args keywords) Q E s := by
  unfold callWith
  refine wpAny_bind (wpAny_holding (wpAny_mono h (fun a s₁ h₁ => wpAny_bind (wpAny_standAt ?_)) fun _ _ x => x))
  simp only [hplain, hkw, Bool.or_false]
  refine wpAny_bind (wpAny_pure ?_)
  exact wpAny_bind (wpAny_mono h₁ (fun r s₂ hr => wpAny_bind (wpAny_holding (wpAny_point (wpAny_pure hr)))) fun _ _ x => x)
def ItS (K : PySem.W.Frag) (a : Addr) (k0 : Int) : It :=
  ⟨fun i H => ∃ (xs : List V) (x : V), SqL K H a xs ∧ xs[i]? = some x, fun i H v H' => ∃ T x, v = .ref T ∧ H T = none ∧ H' = upd H T (.tup [.int (k0 + (i : Nat)), x]) ∧ ∀ xs, SqL K H a xs → xs[i]? = some x, fun i H => ∃ xs : List V, SqL K H a xs ∧ xs.length ≤ i⟩
theorem turn_enumS {P : Program} {w : World} {K : PySem.W.Frag} {elts : List Expr} {kk : Nat} {tpos : Pos} (k0 : Int) (a e it : Addr) :
    Turn P w K (.Tuple elts kk tpos) (ItS K a k0) [e, it] e (fun i h => (∃ old, IsEnum h e it (k0 + (i : Nat)) old) ∧ h.IsListIter it a i ∧ e ≠ it) where
  mem := by simp
  obj := fun i h st b hb => by
    obtain ⟨⟨old, he⟩, ⟨o, ho, hc, hd⟩, _⟩ := st
    have e' : b = e ∨ b = it := by simpa using hb
    rcases e' with z | z
    · rw [z]; exact ⟨_, he, fun v q => nomatch q⟩
    · rw [z]; exact ⟨o, ho, fun v q => by rw [hd] at q; cases q⟩
  keep := fun i h h' st k => let ⟨⟨old, he⟩, hi, hne⟩ := st; ⟨⟨old, k e (by simp) _ he⟩, hi.at fun o q => k it (by simp) o q, hne⟩
  item := by
    intro X hP hw hK hc i pins s σ H E I hf st hg
    subst hP hw hK
    obtain ⟨⟨old, he⟩, hit, hne⟩ := st
    obtain ⟨xs, x, hq, hx⟩ := hg
    obtain ⟨its, rv, p, hz⟩ := I.list hq
    obtain ⟨u, hu, ru⟩ := rv.get hx
    have hel : e < s.heap.objs.size := Heap.lt_size he
    have hil : it < s.heap.objs.size := by obtain ⟨_, q, _⟩ := hit; exact Heap.lt_size q
    have ha : a ≠ it := fun z => by
      obtain ⟨o, ho, hc1, _⟩ := p.isList
      obtain ⟨o2, ho2, hc2, _⟩ := hit
      rw [z, ho2] at ho
      cases ho
      rw [hc1] at hc2
      exact absurd hc2 (by decide)
    have hae : e ≠ a := fun z => by
      obtain ⟨o, ho, hc1, _⟩ := p.isList
      have he' : s.heap.get? e = _ := he
      rw [z, ho] at he'
      cases he'
      exact absurd (show Value.type "enumerate" = Value.type "list" from hc1) (by decide)
    have hu' : its.toArray[i]? = some u := by simpa using hu
    refine wpAny_pyNext_enum_itemC (n := its.toArray.size) (Draws.list (A := X.A.in1) (I.ok.hd hc) it a ha its.toArray) he ⟨hit, p.isList⟩ (Array.getElem?_eq_some_iff.mp hu').1 hne (by simp [hne, hae]) fun y h' tk hy ho st' hT hsz hk => ?_
    rw [hu'] at hy
    cases hy
    obtain ⟨hit', _⟩ := st'
    refine ⟨_, rfl, wpAny_letOwnedTupleGo_enum (s := { s with heap := h', toks := tk + 1 }) ho fun h'' he' sb => ?_⟩
    have hT2 : h''.get? s.heap.objs.size = some { cls := .type "tuple", data := .seq #[.int (k0 + (i : Nat)) tk, u] } := (sb.2 _ (Nat.ne_of_gt hel)).trans hT
    have new : ObjOk X.prog X.w (upd H s.heap.objs.size (.tup [.int (k0 + (i : Nat)), x])) h'' s.heap.objs.size (.tup [.int (k0 + (i : Nat)), x]) :=
      ⟨by show 2 ≤ sizeLine; decide, [.int (k0 + (i : Nat)) tk, u], .cons ⟨_, rfl⟩ (.cons ru .nil), ⟨_, hT2, rfl, _, rfl⟩⟩
    have I1 : Inv X pins σ (upd H s.heap.objs.size (.tup [.int (k0 + (i : Nat)), x])) { s with heap := h'', toks := tk + 1 } :=
      I.turnedNew (ch := [e, it]) (fun b ob hb q => (sb.2 b (fun z => hb (by simp [z]))).trans (hk b ob (fun z => hb (by simp [z])) (fun z => hb (by simp [z])) q)) hf (Nat.le_refl _) new
    refine ⟨.ref s.heap.objs.size, _, I1, rfl, ⟨_, x, rfl, I.hok.fresh (Nat.le_refl _), rfl, fun ys hy => by rw [I.list_inj hy hq]; exact hx⟩, ⟨⟨u, ?_⟩, hit'.at fun o q => (sb.2 it (Ne.symm hne)).trans q, hne⟩, fun b hb => ?_⟩
    · have e1 : k0 + ((i + 1 : Nat) : Int) = k0 + (i : Int) + 1 := by omega
      rw [e1]; exact he'
    · have hb' : b < s.heap.objs.size := by
        have e' : b = e ∨ b = it := by simpa using hb
        rcases e' with z | z
        · rw [z]; exact hel
        · rw [z]; exact hil
      rw [upd_ne (Nat.ne_of_lt hb')]
      exact (hf b hb).1
  done := by
    intro X hP hw hK hc i pins s σ H E I hf st hg
    subst hP hw hK
    obtain ⟨⟨old, he⟩, hit, hne⟩ := st
    obtain ⟨xs, hq, hx⟩ := hg
    obtain ⟨its, rv, p, hz⟩ := I.list hq
    obtain ⟨f0, f1, f2, f3, f4, f5⟩ := hf it (by simp)
    have hl := rv.length
    have hT : s.TypeIs (.ref e) "enumerate" := ⟨_, he, rfl⟩
    unfold pyNext
    refine wpAny_bind (wpAny_attempt (wpAny_callSpecial?_slot (name := Str.ofString "__next__") hT F.slot_enumerate_next
      (wpAny_call_entry F.slot_enumerate_next hT F.entry_enumerate_next ?_ (F.args_enumerate_next_1 _))))
    show wpAny _ _ (field (.ref e) 2 >>= _) _ _ _
    refine wpAny_bind (wpAny_field he rfl (x := .ref it) rfl ?_)
    refine wpAny_bind (wpAny_nextOf_list_end (I.ok.hd hc) hit p.isList (by simp; omega) fun h' x he' hx' => ?_)
    obtain ⟨o, ho, hc'⟩ := hx'
    refine wpAny_bind (wpAny_isInstance (T := "StopIteration") (b := true) ⟨o, ho, hc'⟩ isSubtype_stop ?_)
    exact wpAny_pure ⟨rfl, I.turned (t' := s.toks) (fun b o hb q => he' b o hb q) f0 f1 f3 f4 f5⟩
  self := fun A i s Q E st h => let ⟨⟨_, he⟩, _⟩ := st; wpAny_pyIter_enum he h
def iEnumS (K : PySem.W.Frag) (ta tk : TA) : TI := fun σ H R => ta σ H fun vs H1 => tk σ H1 fun zs H2 => ∃ a xs k0, vs = [.ref a] ∧ zs = [.int k0] ∧ SqL K H2 a xs ∧ -(2 ^ 63) ≤ k0 ∧ k0 < 2 ^ 63 ∧ R (ItS K a k0) H2
theorem pi_enumS {X : Cx} {e f : Expr} {ta tk : TA} {p pos tpos kpos : Pos} {elts : List Expr} {kk : Nat} (hg : Gl X "enumerate") (hm : X.mg "enumerate" = none) (ha : PA X [e] ta) (hk : PK X [⟨some (Str.ofString "start"), f, kpos⟩] tk) (hs : starEach [e] X.env = [(false, eval e X.env)] := by rfl) :
    PI X (.Tuple elts kk tpos) (.Call (.Name "enumerate" p) [e] [⟨some (Str.ofString "start"), f, kpos⟩] pos) (iEnumS X.K ta tk) := by
  refine ⟨fun pins s σ H R I h => ?_⟩
  refine wpAny_Call_Name_kw (ld_blt I hg hm boot_enumerate (callWith_typeK (by rw [hs]; rfl) rfl (evalArgs_kw2 rfl (thn (ha.run pos pins s σ H _ I h) fun us s1 ⟨vs, H1, I1, r1, q1⟩ => ?_) hs)))
  refine thn (hk.run pos pins s1 σ H1 _ I1 q1) fun ws s2 ⟨zs, H2, I2, r2, q2⟩ => ?_
  obtain ⟨a, xs, k0, ex, ez, hq, k1, k2, q⟩ := q2
  subst ex ez
  cases r1 with
  | cons r rr =>
    cases rr
    cases r
    cases r2 with
    | cons rk rrk =>
      cases rrk
      obtain ⟨tk0, rfl⟩ := rk
      obtain ⟨its, rv, p', hz⟩ := I2.list hq
      show wpAny _ _ (call (.type "enumerate") [.ref a] [(Str.ofString "start", .int k0 tk0)]) _ _ s2
      refine enum_begins_start (begins_list a its.toArray) p'.isList k1 k2 fun h' he hit hsz hk' => wpAny_pyIter_enum he ?_
      have I3 : Inv X pins σ H2 { s2 with heap := h' } := I2.kept (t' := s2.toks) hk'
      refine ⟨s2.heap.objs.size + 1, [s2.heap.objs.size + 1, s2.heap.objs.size], _, _, H2, rfl, I3, turn_enumS k0 a (s2.heap.objs.size + 1) s2.heap.objs.size, ⟨⟨.none, by rw [show k0 + ((0 : Nat) : Int) = k0 from by omega]; exact he⟩, ⟨_, hit, rfl, rfl⟩, Nat.succ_ne_self _⟩, fun b hb => ?_, q⟩
      have e' : b = s2.heap.objs.size + 1 ∨ b = s2.heap.objs.size := by simpa using hb
      have hle : s2.heap.objs.size ≤ b := by
        rcases e' with z | z
        · rw [z]; exact Nat.le_add_right _ _
        · rw [z]; exact Nat.le_refl _
      exact I2.fpOk hle (I2.hok.fresh hle)
section
variable {F0 H0 F H : Hp} {K : PySem.W.Frag}
theorem enumS_go {H : Hp} {a : Addr} {xs : List V} {k0 : Int} {i : Nat} (hi : i < xs.length) (h : SqL K H a xs) : (ItS K a k0).go i H := ⟨xs, xs[i], h, List.getElem?_eq_getElem hi⟩
/-- enumerate from k0: pairs -/
def enumS (k0 : Int) (ds : List PyData) : List PyData := ds.mapIdx fun i d => .tuple [.int (k0 + (i : Nat)), d]
theorem enumS_len (k0 : Int) (ds : List PyData) : (enumS k0 ds).length = ds.length := by unfold enumS; simp
theorem enumS_at {k0 : Int} {ds : List PyData} {i : Nat} {d : PyData} (h : (enumS k0 ds)[i]? = some d) : ∃ e, ds[i]? = some e ∧ d = .tuple [.int (k0 + (i : Nat)), e] := by
  unfold enumS at h
  rw [List.getElem?_mapIdx] at h
  cases e : ds[i]? with
  | none => rw [e] at h; cases h
  | some x => rw [e] at h; exact ⟨x, rfl, (Option.some.inj h).symm⟩
theorem walk_enmS {v : V} {sv : SV} {ds : List PyData} {a : Addr} (k0 : Int) (ev : v = .ref a) (e : sv.items? = some ds) : DWalk F0 H0 (ItS K a k0) (enumS k0 ds) [(some v, some sv)] where
  goes i H F W hi r := by
    obtain ⟨a', vs, h1, h2, h3⟩ := r.last.items r.low e
    rw [ev] at h1; cases h1
    exact enumS_go (by rw [h3.length, ← enumS_len k0]; exact hi) (SqL.of h2)
  stops H F W r := by
    obtain ⟨a', vs, h1, h2, h3⟩ := r.last.items r.low e
    rw [ev] at h1; cases h1
    rw [enumS_len, ← h3.length]
    exact ⟨vs, SqL.of h2, Nat.le_refl _⟩
  yields i H x H' F W d hd r y := by
    obtain ⟨a', vs, h1, h2, h3⟩ := r.last.items r.low e
    rw [ev] at h1; cases h1
    obtain ⟨c, hc, rfl⟩ := enumS_at hd
    obtain ⟨T, x2, rfl, nT, rfl, e2⟩ := y
    obtain ⟨w, h4, h5⟩ := h3.get hc
    have e2' := e2 vs (SqL.of h2)
    rw [h4] at e2'; cases e2'
    exact ⟨_, r.pushT nT (.cons (.int _) (.cons h5 .nil))⟩
def dEnumS (fa fk : DAX) : SD → (List PyData → Bool → Prop) → Prop := fun σ P => fa σ fun xs => fk σ fun ks => match xs, ks with
  | [x], [k] => match x.items?, k.int? with | some ds, some k0 => -(2 ^ 63) ≤ k0 ∧ k0 < 2 ^ 63 ∧ P (enumS k0 ds) (!x.isAli) | _, _ => False
  | _, _ => False
instance {ta tk : TA} {fa fk : DAX} [ha : DA F0 H0 ta fa] [hk : DA F0 H0 tk fk] : DI F0 H0 (iEnumS K ta tk) (dEnumS fa fk) where
  run Z T H P R := fun hr h q => ha.run Z T H _ _ hr h fun A h1 H1 r1 => hk.run Z _ H1 _ _ r1 h1 fun B h2 H2 ⟨F, r2⟩ => by
    match A, B, h2, r2 with
    | [(v, sv)], [(u, su)], h2', r2 =>
      have h2 : (match sv.items?, su.int? with | some ds, some k0 => -(2 ^ 63) ≤ k0 ∧ k0 < 2 ^ 63 ∧ P (enumS k0 ds) (!sv.isAli) | _, _ => False) := h2'
      clear h2'
      cases e : sv.items? with
      | none => rw [e] at h2; exact h2.elim
      | some ds =>
        cases e2 : su.int? with
        | none => rw [e, e2] at h2; exact h2.elim
        | some k0 =>
          rw [e, e2] at h2
          have r3 : Rep F0 H0 F H2 (((Z ++ T) ++ [(some v, some sv)]) ++ [(some u, some su)]) := by simpa [pr] using r2
          have ru := r3.last.int e2
          obtain ⟨a, vs, rfl, h4, h5⟩ := r3.left.last.items r3.low e
          refine ⟨a, vs, k0, rfl, ?_, SqL.of h4, h2.1, h2.2.1, q _ _ h2.2.2 _ _ [(some (.ref a), some sv)] ⟨F, by rw [← List.append_assoc]; exact r3.left⟩ (fun z => noali_of z) (walk_enmS k0 rfl e)⟩
          show [u] = _
          rw [ru]
    | [], _, h2, r2 => exact h2.elim
    | _ :: _ :: _, _, h2, r2 => exact h2.elim
    | [_], [], h2, r2 => exact h2.elim
    | [_], _ :: _ :: _, h2, r2 => exact h2.elim
end
end DL
/-! Data: texts are compared; a cut with lists let go. -/
namespace DL
open PySem PySem.Spec PyProof.Rows L2 NB
theorem frz0 {F0 H0 : Hp} (is : List Nat) {t : TS} {g : DSX} (h : DS0 F0 H0 t g) : DS0 F0 H0 t (fun E σ => g E (frzL is σ)) where
  run Z H E D r hh l := by
    obtain ⟨Z0, e1, e2, r0⟩ := Rep.frzL is r
    rw [← e1]
    exact h.run Z0 H E D r0 (by rw [e2]; exact hh) l
def rNeS : R2 := rNe
def rEqS : R2 := rEq
theorem op_neS {X : Cx} : OpR X (compareOp .NotEq) rNeS := op_ne
theorem op_eqS {X : Cx} : OpR X (compareOp .Eq) rEqS := op_eq
def oS (neg : Bool) : SV → SV → (SV → Prop) → Prop := fun x y P => ∃ a b : Str, x = .val (.str a) ∧ y = .val (.str b) ∧ P (.val (.bool (if neg then !decide (a = b) else decide (a = b))))
theorem str_dec (a b : Str) : decide (V.str a = V.str b) = decide (a = b) := by by_cases h : a = b <;> simp [h]
instance {F0 H0 : Hp} : OpD F0 H0 rNeS (oS true) where
  run W x y sx sy H P Q := fun ⟨F, re⟩ ⟨a, b, e1, e2, h⟩ q => by
    subst e1 e2
    obtain ⟨r0, r1, r2⟩ := two re
    cases r1
    cases r2
    exact ⟨rfl, by rw [str_dec]; exact q _ h _ H ⟨F, r0.pushV (.bl _)⟩⟩
instance {F0 H0 : Hp} : OpD F0 H0 rEqS (oS false) where
  run W x y sx sy H P Q := fun ⟨F, re⟩ ⟨a, b, e1, e2, h⟩ q => by
    subst e1 e2
    obtain ⟨r0, r1, r2⟩ := two re
    cases r1
    cases r2
    exact ⟨rfl, by rw [str_dec]; exact q _ h _ H ⟨F, r0.pushV (.bl _)⟩⟩
theorem strNe {x : Str} {P : SV → Prop} (h : P (.val (.bool false))) : oS true (.val (.str x)) (.val (.str x)) P := ⟨x, x, rfl, rfl, by rw [if_pos rfl, decide_eq_true rfl]; exact h⟩
theorem strEq {x : Str} {P : SV → Prop} (h : P (.val (.bool true))) : oS false (.val (.str x)) (.val (.str x)) P := ⟨x, x, rfl, rfl, by rw [if_neg Bool.false_ne_true, decide_eq_true rfl]; exact h⟩
end DL
/-! Data: objects that change stand in a region of their own, which the rest takes for what stood at the entry. -/
namespace DL
open PySem PySem.Spec PyProof.Rows L2 NB
/-- what stood, but for fp, stands -/
def Frm (fp : List Addr) (H H' : Hp) : Prop := ∀ b o, H b = some o → b ∉ fp → H' b = some o
theorem Frm.refl (fp : List Addr) (H : Hp) : Frm fp H H := fun b o e _ => e
theorem Frm.new {fp : List Addr} {H H' : Hp} (h : Frm fp H H') {a : Addr} {o : HO} (n : H' a = none) : Frm fp H (upd H' a o) := fun b u e nb => by
  have := h b u e nb
  rw [upd_ne (fun z => by subst z; rw [n] at this; cases this)]; exact this
theorem Frm.put {fp : List Addr} {H H' : Hp} (h : Frm fp H H') {a : Addr} {o : HO} (n : a ∈ fp) : Frm fp H (upd H' a o) := fun b u e nb => by
  rw [upd_ne (fun z => by subst z; exact nb n)]; exact h b u e nb
theorem Frm.same {fp : List Addr} {H H' H2 : Hp} (h : Frm fp H H') (s : Same H' H2) : Frm fp H H2 := fun b u e nb => s _ _ (h b u e nb)
theorem Frm.trans {fp : List Addr} {H H' H2 : Hp} (h : Frm fp H H') (k : Frm fp H' H2) : Frm fp H H2 := fun b u e nb => k b u (h b u e nb) nb
theorem Frm.sub {fp gp : List Addr} {H H' : Hp} (h : Frm fp H H') (s : ∀ a ∈ fp, a ∈ gp) : Frm gp H H' := fun b u e nb => h b u e fun z => nb (s b z)
theorem Frm.of_same {fp : List Addr} {H H' : Hp} (s : Same H H') : Frm fp H H' := fun b u e _ => s _ _ e
/-- only what stood matters -/
theorem Frm.cut {fp gp : List Addr} {H H' : Hp} (h : Frm fp H H') (s : ∀ a ∈ fp, a ∉ gp → H a = none) : Frm gp H H' := fun b u e nb => h b u e fun z => by
  rw [s b z nb] at e; cases e
/-- the entry, and the region as it stands in H2 -/
def rg (H0 : Hp) (fp : List Addr) (H2 : Hp) : Hp := fun b => if b ∈ fp then H2 b else H0 b
theorem rg_in {H0 H2 : Hp} {fp : List Addr} {a : Addr} (h : a ∈ fp) : rg H0 fp H2 a = H2 a := if_pos h
theorem rg_out {H0 H2 : Hp} {fp : List Addr} {a : Addr} (h : a ∉ fp) : rg H0 fp H2 a = H0 a := if_neg h
section
variable {F0 H0 F H : Hp} {Z : Zt} {fp : List Addr}
theorem Rep.enter {H2 : Hp} (r : Rep F0 H0 F H Z) (s : Same H H2) (n : ∀ a ∈ fp, H a = none) : Rep F0 (rg H0 fp H2) F H2 Z where
  base := r.base
  low := r.low.trans s
  ent := fun b o e => by
    by_cases z : b ∈ fp
    · rw [rg_in z] at e; exact e
    · rw [rg_out z] at e; exact s _ _ (r.ent _ _ e)
  apart := fun b h0 h1 => by
    by_cases z : b ∈ fp
    · exact r.low.free (n b z)
    · rw [rg_out z] at h1; exact r.apart b h0 h1
  ok := fun p hp sv e => by
    obtain ⟨v, e1, rv⟩ := r.ok p hp sv e
    refine ⟨v, e1, ?_⟩
    cases sv with
    | val d => exact rv
    | raw u => exact rv
    | own ds =>
      obtain ⟨a, vs, q1, q2, q3, q4, q5⟩ := rv
      have z : a ∉ fp := fun z => by rw [n a z] at q4; cases q4
      exact ⟨a, vs, q1, q2, by rw [rg_out z]; exact q3, s _ _ q4, q5⟩
    | ali ds =>
      obtain ⟨a, vs, q1, q3, q4, q5⟩ := rv
      have z : a ∉ fp := fun z => by rw [n a z] at q4; cases q4
      exact ⟨a, vs, q1, by rw [rg_out z]; exact q3, s _ _ q4, q5⟩
    | ent ds =>
      obtain ⟨a, vs, q1, q3, q4, q5⟩ := rv
      have z : a ∉ fp := fun z => by rw [n a z] at q4; cases q4
      exact ⟨a, vs, q1, by rw [rg_out z]; exact q3, s _ _ q4, q5⟩
  dist := r.dist
/-- the region has changed: it is left -/
theorem Rep.leave {F' H2 H3 H4 : Hp} (r0 : Rep F0 H0 F H Z) (n : ∀ a ∈ fp, H a = none) (t : ∀ a ∈ fp, H2 a ≠ none) (r : Rep F0 (rg H0 fp H2) F' H3 Z) (f : Frm fp H3 H4) : Rep F0 H0 F' H4 Z := by
  have nH0 : ∀ a ∈ fp, H0 a = none := fun a z => r0.ent.free (n a z)
  have nF0 : ∀ a ∈ fp, F0 a = none := fun a z => (r0.base.trans r0.low).free (n a z)
  have nF : ∀ b o, F' b = some o → b ∉ fp := fun b o e z => by
    have := r.apart b (nF0 b z) (by rw [rg_in z]; exact t b z)
    rw [this] at e; cases e
  refine ⟨r.base, fun b o e => f b o (r.low _ _ e) (nF b o e), fun b o e => ?_, fun b h0 h1 => ?_, fun p hp sv e => ?_, r.dist⟩
  · have z : b ∉ fp := fun z => by rw [nH0 b z] at e; cases e
    exact f b o (r.ent _ _ (by rw [rg_out z]; exact e)) z
  · have z : b ∉ fp := fun z => h1 (nH0 b z)
    exact r.apart b h0 (by rw [rg_out z]; exact h1)
  · obtain ⟨v, e1, rv⟩ := r.ok p hp sv e
    obtain ⟨v0, e0, rv0⟩ := r0.ok p hp sv e
    have ev : v = v0 := Option.some.inj (e1.symm.trans e0)
    refine ⟨v, e1, ?_⟩
    cases sv with
    | val d => exact rv
    | raw u => exact rv
    | own ds =>
      obtain ⟨a, vs, q1, q2, q3, q4, q5⟩ := rv
      have z : a ∉ fp := fun z => by rw [rg_in z] at q3; exact t a z q3
      exact ⟨a, vs, q1, q2, by rw [rg_out z] at q3; exact q3, f _ _ q4 z, q5⟩
    | ali ds =>
      obtain ⟨a, vs, q1, q3, q4, q5⟩ := rv
      have z : a ∉ fp := fun z => by rw [rg_in z] at q3; exact t a z q3
      exact ⟨a, vs, q1, by rw [rg_out z] at q3; exact q3, f _ _ q4 z, q5⟩
    | ent ds =>
      obtain ⟨a, vs, q1, q3, q4, q5⟩ := rv
      obtain ⟨a0, vs0, w1, w3, w4, w5⟩ := rv0
      have ea : a = a0 := V.ref.inj (q1.symm.trans (ev.trans w1))
      have z : a ∉ fp := fun z => by have := n a z; rw [ea, w4] at this; cases this
      exact ⟨a, vs, q1, by rw [rg_out z] at q3; exact q3, f _ _ q4 z, q5⟩
end
/-- what a call by data tells, for the old contracts -/
theorem spF_int {R : RC} {vs : List V} {H : Hp} {Q : VK} {E : XK} (h : spF R vs H Q E) : ∃ (F : Hp) (A : List (V × SV)) (S : Rs → Prop), vs = A.map Prod.fst ∧ (∀ p ∈ A, ∀ i, p.2 = .val (.int i) → p.1 = .int i) ∧ R F (A.map Prod.snd) S ∧ (∀ v d H', Same H H' → S (.ok (.val d)) → Dv F v d → Q v H') ∧ (∀ C i, S (.er C i) → ∀ dd H', Same H H' → H' dd = none → E (.ref C) (some dd) (upd H' dd (.xd [("at", .int i)]))) := by
  obtain ⟨F, A, S, e, r, na, hR, hS⟩ := h
  refine ⟨F, A, S, e, fun p hp i e => ?_, hR, fun v d H' sm hs hd => ?_, fun C i hs => hS _ hs⟩
  · obtain ⟨w, e1, rv⟩ := r.ok (pr p) (List.mem_map.mpr ⟨p, hp, rfl⟩) _ rfl
    cases e1
    obtain ⟨v, s⟩ := p
    subst e
    cases rv
    rfl
  · refine hS _ hs v H' ⟨F, ⟨Same.refl _, r.low.trans sm, sm, fun b h _ => h, fun p hp => ?_, List.pairwise_singleton _ _⟩⟩
    rw [List.mem_singleton] at hp
    subst hp
    exact fun sv e => ⟨v, rfl, (Option.some.inj e) ▸ hd⟩
theorem one_val {A : List (V × SV)} {i : Int} (e : A.map Prod.snd = [.val (.int i)]) (h : ∀ p ∈ A, ∀ i, p.2 = .val (.int i) → p.1 = .int i) : A.map Prod.fst = [.int i] := by
  match A, e, h with
  | [(v, s)], e, h =>
    have e1 : s = .val (.int i) := (List.cons.inj e).1
    have := h (v, s) (by simp) i e1
    show [v] = _
    rw [show v = .int i from this]
theorem two_val {A : List (V × SV)} {i j : Int} (e : A.map Prod.snd = [.val (.int i), .val (.int j)]) (h : ∀ p ∈ A, ∀ i, p.2 = .val (.int i) → p.1 = .int i) : A.map Prod.fst = [.int i, .int j] := by
  match A, e, h with
  | [(v, s), (u, t)], e, h =>
    have e1 : s = .val (.int i) := (List.cons.inj e).1
    have e2 : t = .val (.int j) := (List.cons.inj (List.cons.inj e).2).1
    have h1 := h (v, s) (by simp) i e1
    have h2 := h (u, t) (by simp) j e2
    show [v, u] = _
    rw [show v = .int i from h1, show u = .int j from h2]
end DL
/-! Data: statements beside a region that changes. -/
namespace DL
open PySem PySem.Spec PyProof.Rows L2 NB
/-- what is no list of __init__'s arguments -/
def NoEnt (p : Option V × Option SV) : Prop := ∀ es, p.2 ≠ some (.ent es)
/-- a kind of region: what it holds, and where -/
structure Reg (γ : Type) where
  at_ : γ → Hp → List Addr → Prop
  loc : ∀ {c : γ} {H H' : Hp} {fp : List Addr}, at_ c H fp → (∀ a ∈ fp, H' a = H a) → at_ c H' fp
  has : ∀ {c : γ} {H : Hp} {fp : List Addr} {a : Addr}, at_ c H fp → a ∈ fp → H a ≠ none
structure StR {γ : Type} (R : Reg γ) (F0 Hb : Hp) (fp : List Addr) (F H : Hp) (W : Zt) (c : γ) : Prop where
  reg : R.at_ c H fp
  nb : ∀ a ∈ fp, Hb a = none
  nf : ∀ a ∈ fp, F0 a = none
  rep : Rep F0 (rg Hb fp H) F H W
def StN {γ : Type} (R : Reg γ) (F0 Hb H : Hp) (W : Zt) (c : γ) : Prop := (∃ fp F, StR R F0 Hb fp F H W c) ∧ ∀ p ∈ W, NoAli p
structure REnds (γ : Type) where
  nx : γ → SD → Prop
  rt : γ → SV → Prop
  bk : γ → SD → Prop := fun _ _ => False
  ct : γ → SD → Prop := fun _ _ => False
abbrev RX (γ : Type) := REnds γ → γ → SD → Prop
section
variable {γ : Type} {R : Reg γ} {F0 Hb F H : Hp} {W Z T : Zt} {c : γ} {fp : List Addr} {K : PySem.W.Frag}
structure LowR (R : Reg γ) (F0 Hb : Hp) (T : Zt) (E : REnds γ) (D : Ends) : Prop where
  nx : ∀ Z H c, StN R F0 Hb H (Z ++ T) c → E.nx c (Z.map Prod.snd) → D.nx (Z.map Prod.fst) H
  bk : ∀ Z H c, StN R F0 Hb H (Z ++ T) c → E.bk c (Z.map Prod.snd) → D.bk (Z.map Prod.fst) H
  ct : ∀ Z H c, StN R F0 Hb H (Z ++ T) c → E.ct c (Z.map Prod.snd) → D.ct (Z.map Prod.fst) H
  rt : ∀ sv v H c, E.rt c sv → (∃ fp F, StR R F0 Hb fp F H [(some v, some sv)] c) → D.rt v H
/-- a statement -/
structure DSR (R : Reg γ) (F0 Hb : Hp) (t : TS) (g : RX γ) : Prop where
  run : ∀ (Z T : Zt) (H : Hp) (c : γ) (E : REnds γ) (D : Ends), (∀ p ∈ T, NoEnt p) → StN R F0 Hb H (Z ++ T) c → g E c (Z.map Prod.snd) → LowR R F0 Hb T E D → t D (Z.map Prod.fst) H
/-- the rest has moved on, the region stands -/
theorem StR.stay {F' H' : Hp} {W' : Zt} (s : StR R F0 Hb fp F H W c) (r : Rep F0 (rg Hb fp H) F' H' W') : StR R F0 Hb fp F' H' W' c := by
  have same : ∀ a ∈ fp, H' a = H a := fun a ha => by
    cases e : H a with
    | none => exact absurd e (R.has s.reg ha)
    | some o => exact r.ent _ _ (by rw [rg_in ha]; exact e)
  have eg : rg Hb fp H' = rg Hb fp H := funext fun b => by
    by_cases z : b ∈ fp
    · rw [rg_in z, rg_in z]; exact same b z
    · rw [rg_out z, rg_out z]
  exact ⟨R.loc s.reg same, s.nb, s.nf, by rw [eg]; exact r⟩
theorem LowR.nx' {E : REnds γ} {D : Ends} (l : LowR R F0 Hb T E D) (f : L2.St → Hp → Prop) (p : γ → SD → Prop) (h : ∀ Z H c, StN R F0 Hb H (Z ++ T) c → p c (Z.map Prod.snd) → f (Z.map Prod.fst) H) : LowR R F0 Hb T { E with nx := p } { D with nx := f } := ⟨h, l.bk, l.ct, l.rt⟩
/-- a statement that leaves the region alone -/
def rLift (g : DSX) : RX γ := fun E c σ => g { nx := E.nx c, rt := E.rt c, bk := E.bk c, ct := E.ct c } σ
theorem DSR.lift {t : TS} {g : DSX} (h : ∀ H0, DS F0 H0 t g) : DSR R F0 Hb t (rLift g) where
  run Z T H c E D hT s hg l := by
    obtain ⟨⟨fp, F, s⟩, na⟩ := s
    exact (h (rg Hb fp H)).run Z T H _ D ⟨⟨F, s.rep⟩, na⟩ hg ⟨fun Z' H' ⟨⟨F', r'⟩, na'⟩ h' => l.nx Z' H' c ⟨⟨fp, F', s.stay r'⟩, na'⟩ h', fun Z' H' ⟨⟨F', r'⟩, na'⟩ h' => l.bk Z' H' c ⟨⟨fp, F', s.stay r'⟩, na'⟩ h', fun Z' H' ⟨⟨F', r'⟩, na'⟩ h' => l.ct Z' H' c ⟨⟨fp, F', s.stay r'⟩, na'⟩ h', fun sv v H' h' ⟨F', r'⟩ => l.rt sv v H' c h' ⟨fp, F', s.stay r'⟩⟩
def rSeq (g1 g2 : RX γ) : RX γ := fun E c σ => g1 { E with nx := g2 E } c σ
theorem DSR.seq {t u : TS} {g1 g2 : RX γ} (h1 : DSR R F0 Hb t g1) (h2 : DSR R F0 Hb u g2) : DSR R F0 Hb (tSeq t u) (rSeq g1 g2) where
  run Z T H c E D hT s hg l := h1.run Z T H c _ _ hT s hg (l.nx' _ _ fun Z' H' c' s' h' => h2.run Z' T H' c' E D hT s' h' l)
def rCut (g1 g2 : RX γ) : RX γ := fun E c σ => ∃ M : γ → SD → Prop, g1 { E with nx := M } c σ ∧ ∀ c' σ', M c' σ' → g2 E c' σ'
theorem DSR.cut {t u : TS} {g1 g2 : RX γ} (h1 : DSR R F0 Hb t g1) (h2 : DSR R F0 Hb u g2) : DSR R F0 Hb (C8.tCut t u) (rCut g1 g2) where
  run Z T H c E D hT s hg l := by
    obtain ⟨M, h, k⟩ := hg
    refine ⟨fun σ' H' => ∃ Z' c', Z'.map Prod.fst = σ' ∧ StN R F0 Hb H' (Z' ++ T) c' ∧ M c' (Z'.map Prod.snd), h1.run Z T H c _ _ hT s h (l.nx' _ _ fun Z' H' c' s' h' => ⟨Z', c', rfl, s', h'⟩), ?_⟩
    rintro σ' H' ⟨Z', c', rfl, s', h'⟩
    exact h2.run Z' T H' c' E D hT s' (k _ _ h') l
def rIf (fc : DTX) (g1 g2 : RX γ) : RX γ := fun E c σ => fc σ fun b => Br b (g1 E c σ) (g2 E c σ)
theorem DSR.ifS {cd : TT} {t u : TS} {fc : DTX} {g1 g2 : RX γ} (hc : ∀ H0, DT F0 H0 cd fc) (h1 : DSR R F0 Hb t g1) (h2 : DSR R F0 Hb u g2) : DSR R F0 Hb (tIfS cd t u) (rIf fc g1 g2) where
  run Z T H c E D hT s hg l := by
    obtain ⟨⟨fp, F, s⟩, na⟩ := s
    exact (hc (rg Hb fp H)).run Z T H _ _ ⟨F, s.rep⟩ hg fun b hb H1 ⟨F1, r1⟩ => by
      cases b with
      | true => exact iteT (h1.run Z T H1 c E D hT ⟨⟨fp, F1, s.stay r1⟩, na⟩ hb.t l)
      | false => exact iteF (h2.run Z T H1 c E D hT ⟨⟨fp, F1, s.stay r1⟩, na⟩ hb.f l)
def rWhile (fc : DTX) (g : RX γ) : RX γ := fun E c σ => ∃ (I : γ → SD → Prop) (μ : γ → SD → Nat), I c σ ∧ ∀ c σ, I c σ → fc σ fun b => Br b (g { E with nx := fun c' σ' => I c' σ' ∧ μ c' σ' < μ c σ, ct := fun c' σ' => I c' σ' ∧ μ c' σ' < μ c σ, bk := E.nx } c σ) (E.nx c σ)
theorem DSR.whileS {cd : TT} {t : TS} {fc : DTX} {g : RX γ} (hc : ∀ H0, DT F0 H0 cd fc) (hg : DSR R F0 Hb t g) : DSR R F0 Hb (tWhile cd t) (rWhile fc g) where
  run Z T H c E D hT s h l := by
    obtain ⟨I, μ, h0, hs⟩ := h
    refine ⟨fun m σ H => ∃ Z' c', Z'.map Prod.fst = σ ∧ StN R F0 Hb H (Z' ++ T) c' ∧ I c' (Z'.map Prod.snd) ∧ m = μ c' (Z'.map Prod.snd), ⟨_, Z, c, rfl, s, h0, rfl⟩, ?_⟩
    rintro m σ H' ⟨Z', c', rfl, ⟨⟨fp, F', s'⟩, na⟩, h', rfl⟩
    refine (hc (rg Hb fp H')).run Z' T H' _ _ ⟨F', s'.rep⟩ (hs _ _ h') fun b hb H1 ⟨F1, r1⟩ => ?_
    have s1 : StN R F0 Hb H1 (Z' ++ T) c' := ⟨⟨fp, F1, s'.stay r1⟩, na⟩
    cases b with
    | true =>
      refine iteT ⟨fun σ H => ∃ Z2 c2, Z2.map Prod.fst = σ ∧ StN R F0 Hb H (Z2 ++ T) c2 ∧ I c2 (Z2.map Prod.snd) ∧ μ c2 (Z2.map Prod.snd) < μ c' (Z'.map Prod.snd), fun σ' H' ⟨Z2, c2, a, b, cc, d⟩ => ⟨_, d, Z2, c2, a, b, cc, rfl⟩, ?_⟩
      exact hg.run Z' T H1 c' _ _ hT s1 hb.t ⟨fun Z2 H2 c2 q p => ⟨Z2, c2, rfl, q, p.1, p.2⟩, l.nx, fun Z2 H2 c2 q p => ⟨Z2, c2, rfl, q, p.1, p.2⟩, l.rt⟩
    | false => exact iteF (l.nx Z' H1 c' s1 hb.f)
/-! walks beside a region -/
theorem noent_of {v : V} {sv : SV} (h : sv.isEnt = false) : ∀ p ∈ [((some v, some sv) : Option V × Option SV)], NoEnt p := fun p hp es e => by
  rw [List.mem_singleton] at hp
  subst hp
  cases e
  cases h
class DIA (F0 : Hp) (w : TI) (f : outParam (SD → (List PyData → Bool → Prop) → Prop)) : Prop where
  run : ∀ (H0 : Hp) (Z T : Zt) (H : Hp) (P : List PyData → Bool → Prop) (R : It → Hp → Prop), (∃ F, Rep F0 H0 F H (Z ++ T)) → f (Z.map Prod.snd) P →
    (∀ items b, P items b → ∀ J H' A, (∃ F, Rep F0 H0 F H' (Z ++ (T ++ A))) → (b = true → ∀ p ∈ A, NoAli p ∧ NoEnt p) → (∀ H0', DWalk F0 H0' J items A) → R J H') → w (Z.map Prod.fst) H R
instance {ta : TE} {fa : DX} [ha : ∀ H0, DE F0 H0 ta fa] : DIA F0 (iList K ta) (fun σ P => fa σ fun sv => sv.isEnt = false ∧ match sv.items? with | some ds => P ds (!sv.isAli) | none => False) where
  run H0 Z T H P R := fun hr h q => (ha H0).run Z T H _ _ hr h fun sv ⟨ne, h1⟩ v H1 ⟨F, r1⟩ => by
    cases e : sv.items? with
    | none => rw [e] at h1; exact h1.elim
    | some ds =>
      rw [e] at h1
      obtain ⟨r0, rv⟩ := one_tmp r1
      obtain ⟨a, vs, rfl, h2, h3⟩ := rv.items r1.low e
      exact ⟨a, rfl, ⟨vs, SqL.of h2⟩, q ds _ h1 _ _ [(some (.ref a), some sv)] ⟨F, r1⟩ (fun z p hp => ⟨noali_of z p hp, noent_of ne p hp⟩) (fun H0' => walk_lst rfl e)⟩
theorem DIA.rng1 {ta : TA} {fa : DAX} (ha : ∀ H0, DA F0 H0 ta fa) : DIA F0 (iRng1 ta) (dRng1 fa) where
  run H0 Z T H P R := fun hr h q => (ha H0).run Z T H _ _ hr h fun A h1 H1 ⟨F, r1⟩ => by
    match A, h1, r1 with
    | [(v, sv)], h1, r1 =>
      cases e : sv.int? with
      | none => simp only [List.map_cons, List.map_nil] at h1; rw [e] at h1; exact h1.elim
      | some j =>
        simp only [List.map_cons, List.map_nil] at h1
        rw [e] at h1
        obtain ⟨r0, rv⟩ := one_tmp (v := v) (sv := sv) r1
        exact ⟨j, by rw [← rv.int e]; rfl, h1.1.1, h1.1.2, q _ _ h1.2 _ _ [] ⟨F, by simpa using r0⟩ (fun _ p hp => nomatch hp) (fun H0' => walk_rng 0 _)⟩
instance {ta : TA} {fa : DAX} [ha : ∀ H0, DA F0 H0 ta fa] : DIA F0 (iRng1 ta) (dRng1 fa) := DIA.rng1 ha
instance {ta : TA} {fa : DAX} [ha : ∀ H0, DA F0 H0 ta fa] : DIA F0 (iRng2 ta) (dRng2 fa) where
  run H0 Z T H P R := fun hr h q => (ha H0).run Z T H _ _ hr h fun A h1 H1 ⟨F, r1⟩ => by
    match A, h1, r1 with
    | [(v, sv), (w, sw)], h1, r1 =>
      simp only [List.map_cons, List.map_nil] at h1
      cases e : sv.int? with
      | none => rw [e] at h1; exact h1.elim
      | some i =>
        cases e2 : sw.int? with
        | none => rw [e, e2] at h1; exact h1.elim
        | some j =>
          rw [e, e2] at h1
          have r1' : Rep F0 H0 F H1 ((Z ++ T) ++ [(some v, some sv), (some w, some sw)]) := by simpa [pr] using r1
          obtain ⟨r0, rv, rw'⟩ := two r1'
          exact ⟨i, j, by rw [← rv.int e, ← rw'.int e2]; rfl, h1.1, q _ _ h1.2 _ _ [] ⟨F, by simpa using r0⟩ (fun _ p hp => nomatch hp) (fun H0' => walk_rng _ _)⟩
theorem DIA.enum {ta : TA} {fa : DAX} (ha : ∀ H0, DA F0 H0 ta fa) : DIA F0 (iEnum K ta) (fun σ P => fa σ fun as => match as with | [sv] => sv.isEnt = false ∧ (match sv.items? with | some ds => P (enumD ds) (!sv.isAli) | none => False) | _ => False) where
  run H0 Z T H P R := fun hr h q => (ha H0).run Z T H _ _ hr h fun A h1 H1 ⟨F, r1⟩ => by
    match A, h1, r1 with
    | [(v, sv)], h1, r1 =>
      simp only [List.map_cons, List.map_nil] at h1
      obtain ⟨ne, h1⟩ := h1
      cases e : sv.items? with
      | none => rw [e] at h1; exact h1.elim
      | some ds =>
        rw [e] at h1
        obtain ⟨r0, rv⟩ := one_tmp (v := v) (sv := sv) r1
        obtain ⟨a, vs, rfl, h2, h3⟩ := rv.items r1.low e
        exact ⟨a, vs, rfl, SqL.of h2, q _ _ h1 _ _ [(some (.ref a), some sv)] ⟨F, r1⟩ (fun z p hp => ⟨noali_of z p hp, noent_of ne p hp⟩) (fun H0' => walk_enm rfl e)⟩
instance {ta : TA} {fa : DAX} [ha : ∀ H0, DA F0 H0 ta fa] : DIA F0 (iEnum K ta) (fun σ P => fa σ fun as => match as with | [sv] => sv.isEnt = false ∧ (match sv.items? with | some ds => P (enumD ds) (!sv.isAli) | none => False) | _ => False) := DIA.enum ha
def rFor (fi : SD → (List PyData → Bool → Prop) → Prop) (g : DG1) (body : RX γ) : RX γ := fun E c σ => fi σ fun items b => b = true ∧ ∃ I : Nat → γ → SD → Prop, I 0 c σ ∧
  (∀ i d c σ, items[i]? = some d → I i c σ → g d σ fun σ' => body { E with nx := I (i + 1), ct := I (i + 1), bk := E.nx } c σ') ∧ ∀ c σ, I items.length c σ → E.nx c σ
theorem DSR.forS {wi : TI} {fi} {g : TG} {fg ix} {tb : TS} {gb : RX γ} (hi : DIA F0 wi fi) (hg : ∀ H0, DGt F0 H0 g fg ix) (hb : DSR R F0 Hb tb gb) : DSR R F0 Hb (tFor wi g tb) (rFor fi fg gb) where
  run Z T H c E D hT s h l := by
    obtain ⟨⟨fp, F, s⟩, na0⟩ := s
    refine hi.run (rg Hb fp H) Z T H _ _ ⟨F, s.rep⟩ h fun items b h1 J H1 A ⟨F1, r1⟩ na w => ?_
    obtain ⟨rfl, I, h0, hs, hk⟩ := h1
    have nA := na rfl
    have nTA : ∀ {Z' : Zt}, (∀ p ∈ Z' ++ T, NoAli p) → ∀ p ∈ Z' ++ (T ++ A), NoAli p := fun n p hp => by
      rw [← List.append_assoc] at hp
      rcases List.mem_append.mp hp with z | z
      · exact n p z
      · exact (nA p z).1
    have hTA : ∀ p ∈ T ++ A, NoEnt p := fun p hp => by
      rcases List.mem_append.mp hp with z | z
      · exact hT p z
      · exact (nA p z).2
    have back : ∀ {Z' : Zt} {H' : Hp} {c' : γ}, StN R F0 Hb H' (Z' ++ (T ++ A)) c' → StN R F0 Hb H' (Z' ++ T) c' := fun {Z' H' c'} q => by
      obtain ⟨⟨fp', F', q1⟩, q2⟩ := q
      rw [← List.append_assoc] at q2
      have q3 := q1.rep
      rw [← List.append_assoc] at q3
      exact ⟨⟨fp', F', q1.reg, q1.nb, q1.nf, q3.left⟩, noali_left q2⟩
    refine ⟨fun i m σ H => m = items.length - i ∧ i ≤ items.length ∧ ∃ Z' c', Z'.map Prod.fst = σ ∧ StN R F0 Hb H (Z' ++ (T ++ A)) c' ∧ I i c' (Z'.map Prod.snd), ⟨items.length, by simp, Nat.zero_le _, Z, c, rfl, ⟨⟨fp, F1, s.stay r1⟩, nTA na0⟩, h0⟩, ?_⟩
    rintro i m σ H' ⟨rfl, hle, Z', c', rfl, ⟨⟨fp', F', s'⟩, n'⟩, hI⟩
    have r2 : Rep F0 (rg Hb fp' H') F' H' ((Z' ++ T) ++ A) := by rw [List.append_assoc]; exact s'.rep
    by_cases hlt : i < items.length
    · refine .inr ⟨(w _).goes i H' F' _ hlt r2, fun σ H => ∃ Z' c', Z'.map Prod.fst = σ ∧ StN R F0 Hb H (Z' ++ (T ++ A)) c' ∧ I (i + 1) c' (Z'.map Prod.snd), fun σ2 H2 hn => ⟨items.length - (i + 1), by omega, rfl, hlt, hn⟩, fun x H2 y => ?_⟩
      have hd : items[i]? = some items[i] := List.getElem?_eq_getElem hlt
      obtain ⟨F2, r3⟩ := (w _).yields i H' x H2 F' _ _ hd r2 y
      refine (hg (rg Hb fp' H')).run Z' (T ++ A) H2 F2 x items[i] _ _ (by rw [← List.append_assoc]; exact r3.left) r3.last (hs i _ _ _ hd hI) fun Z3 p3 s3 => ?_
      refine hb.run Z3 (T ++ A) H2 c' _ _ hTA ⟨⟨fp', F2, s'.stay s3.rep⟩, fun p hp => ?_⟩ p3 ⟨fun Z4 H4 c4 q p => ⟨Z4, c4, rfl, q, p⟩, fun Z4 H4 c4 q p => l.nx Z4 H4 c4 (back q) p, fun Z4 H4 c4 q p => ⟨Z4, c4, rfl, q, p⟩, l.rt⟩
      rcases List.mem_append.mp hp with z | z
      · rcases s3.mem p z with z | ⟨d', z⟩
        · exact n' p (List.mem_append_left _ z)
        · exact fun es e => by rw [z] at e; cases e
      · exact n' p (List.mem_append_right _ z)
    · have e : i = items.length := by omega
      subst e
      exact .inl ⟨(w _).stops H' F' _ r2, l.nx Z' H' c' (back ⟨⟨fp', F', s'⟩, n'⟩) (hk _ _ hI)⟩
theorem Rep.drop (r : Rep F0 (rg Hb fp H) F H W) (nb : ∀ a ∈ fp, Hb a = none) (has : ∀ a ∈ fp, H a ≠ none) (ne : ∀ p ∈ W, NoEnt p) : Rep F0 Hb F H W where
  base := r.base
  low := r.low
  ent := fun b o e => r.ent b o (by rw [rg_out (fun z => by rw [nb b z] at e; cases e)]; exact e)
  apart := fun b h0 h1 => r.apart b h0 (by rw [rg_out (fun z => h1 (nb b z))]; exact h1)
  ok := fun p hp sv e => by
    obtain ⟨v, e1, rv⟩ := r.ok p hp sv e
    refine ⟨v, e1, ?_⟩
    cases sv with
    | val d => exact rv
    | raw u => exact rv
    | own ds =>
      obtain ⟨a, vs, q1, q2, q3, q4, q5⟩ := rv
      have z : a ∉ fp := fun z => by rw [rg_in z] at q3; exact has a z q3
      exact ⟨a, vs, q1, q2, by rw [rg_out z] at q3; exact q3, q4, q5⟩
    | ali ds =>
      obtain ⟨a, vs, q1, q3, q4, q5⟩ := rv
      have z : a ∉ fp := fun z => by rw [rg_in z] at q3; exact has a z q3
      exact ⟨a, vs, q1, by rw [rg_out z] at q3; exact q3, q4, q5⟩
    | ent ds => exact absurd e (ne p hp ds)
  dist := r.dist
/-- the region moves on; B is let go -/
theorem StR.step (s : StR R F0 Hb fp F H W c) {H' : Hp} {fp' : List Addr} {c' : γ} (B : List Addr) (ne : ∀ p ∈ W, NoEnt p) (fr : Frm fp H H') (hr : R.at_ c' H' fp') (hfp : ∀ a ∈ fp', a ∈ fp ∨ H a = none) (hB : ∀ b ∈ B, (H b = none ∨ b ∈ fp) ∧ b ∉ fp' ∧ H' b ≠ none) : StR R F0 Hb fp' (fun b => if b ∈ B then H' b else F b) H' W c' := by
  have nHb : ∀ a, a ∈ fp ∨ H a = none → Hb a = none := fun a h => by
    by_cases z : a ∈ fp
    · exact s.nb a z
    · rcases h with h | h
      · exact absurd h z
      · have := s.rep.ent.free h
        rw [rg_out z] at this; exact this
  have nF0 : ∀ a, a ∈ fp ∨ H a = none → F0 a = none := fun a h => by
    rcases h with h | h
    · exact s.nf a h
    · exact (s.rep.base.trans s.rep.low).free h
  have nFf : ∀ a ∈ fp, F a = none := fun a h => s.rep.apart a (s.nf a h) (by rw [rg_in h]; exact R.has s.reg h)
  have nF : ∀ a, a ∈ fp ∨ H a = none → F a = none := fun a h => by
    rcases h with h | h
    · exact nFf a h
    · exact s.rep.low.free h
  have sm : Same F (fun b => if b ∈ B then H' b else F b) := fun b o e => by
    show (if b ∈ B then H' b else F b) = some o
    split
    · rename_i hb
      rw [nF b (hB b hb).1.symm] at e; cases e
    · exact e
  refine ⟨hr, fun a ha => nHb a (hfp a ha), fun a ha => nF0 a (hfp a ha), s.rep.base.trans sm, fun b o e => ?_, fun b o e => ?_, fun b h0 h1 => ?_, fun p hp sv e => ?_, s.rep.dist⟩
  · have e : (if b ∈ B then H' b else F b) = some o := e
    split at e
    · exact e
    · exact fr b o (s.rep.low _ _ e) fun z => by rw [nFf b z] at e; cases e
  · by_cases z : b ∈ fp'
    · rw [rg_in z] at e; exact e
    · rw [rg_out z] at e
      have z2 : b ∉ fp := fun y => by rw [s.nb b y] at e; cases e
      exact fr b o (s.rep.ent _ _ (by rw [rg_out z2]; exact e)) z2
  · show (if b ∈ B then H' b else F b) = none
    by_cases z : b ∈ fp'
    · rw [if_neg fun y => (hB b y).2.1 z]
      exact nF b (hfp b z)
    · rw [rg_out z] at h1
      rw [if_neg fun y => h1 (nHb b (hB b y).1.symm)]
      have z2 : b ∉ fp := fun y => h1 (s.nb b y)
      exact s.rep.apart b h0 (by rw [rg_out z2]; exact h1)
  · obtain ⟨v, e1, rv⟩ := s.rep.ok p hp sv e
    refine ⟨v, e1, ?_⟩
    cases sv with
    | val d => exact Dv.mono sm rv
    | raw u => exact rv
    | own ds =>
      obtain ⟨a, vs, q1, q2, q3, q4, q5⟩ := rv
      have z : a ∉ fp := fun z => by rw [rg_in z] at q3; exact R.has s.reg z q3
      have zH : ¬ (a ∈ fp ∨ H a = none) := fun y => y.elim z fun y => by rw [y] at q4; cases q4
      refine ⟨a, vs, q1, ?_, ?_, fr _ _ q4 z, q5.mono sm⟩
      · show (if a ∈ B then H' a else F a) = none
        rw [if_neg fun y => zH (hB a y).1.symm]; exact q2
      · rw [rg_out fun y => zH (hfp a y)]
        rw [rg_out z] at q3; exact q3
    | ali ds =>
      obtain ⟨a, vs, q1, q3, q4, q5⟩ := rv
      have z : a ∉ fp := fun z => by rw [rg_in z] at q3; exact R.has s.reg z q3
      have zH : ¬ (a ∈ fp ∨ H a = none) := fun y => y.elim z fun y => by rw [y] at q4; cases q4
      refine ⟨a, vs, q1, ?_, fr _ _ q4 z, q5.mono sm⟩
      rw [rg_out fun y => zH (hfp a y)]
      rw [rg_out z] at q3; exact q3
    | ent ds => exact absurd e (ne p hp ds)
/-- a body beside a region that begins empty -/
theorem DSR.close {t : TS} {g : RX γ} (h : DSR R F0 Hb t g) (c0 : γ) (hc : ∀ H, R.at_ c0 H []) : DS0 F0 Hb t (fun E σ => g { nx := fun _ σ' => E.nx σ' ∧ ∀ x ∈ σ', ∀ es, x ≠ some (.ent es), rt := fun _ sv => E.rt sv ∧ ∀ es, sv ≠ .ent es } c0 σ) where
  run Z H E D r hg l := by
    obtain ⟨⟨F, r⟩, na⟩ := r
    have e0 : rg Hb [] H = Hb := funext fun b => if_neg List.not_mem_nil
    refine h.run Z [] H c0 _ D (fun p hp => absurd hp List.not_mem_nil) ⟨⟨[], F, hc H, fun a ha => absurd ha List.not_mem_nil, fun a ha => absurd ha List.not_mem_nil, by rw [e0]; exact r⟩, na⟩ hg ⟨fun Z' H' c' ⟨⟨fp, F', s⟩, na'⟩ ⟨h', ne⟩ => l.nx Z' H' ⟨⟨F', s.rep.drop s.nb (fun a ha => R.has s.reg ha) fun p hp es e => ?_⟩, na'⟩ h', fun _ _ _ _ h => h.elim, fun _ _ _ _ h => h.elim, fun sv v H' c' ⟨h', ne⟩ ⟨fp, F', s⟩ => l.rt sv v H' h' ⟨F', s.rep.drop s.nb (fun a ha => R.has s.reg ha) fun p hp es e => ?_⟩⟩
    · rw [List.append_nil] at hp
      exact ne p.2 (List.mem_map.mpr ⟨p, hp, rfl⟩) es e
    · rw [List.mem_singleton] at hp
      subst hp
      exact ne es (Option.some.inj e)
end
end DL
set_option synthInstance.maxSize 100000
set_option synthInstance.maxHeartbeats 0
namespace K60
open PySem PySem.Spec L2 NB ER MKX DL
def top (i : Nat) : Stmt := PySem.Challenge.pw_farhaul_k60_packets_written_and_read.main.body.getD i (.Pass ⟨0, 0, 0, 0⟩)
abbrev s__law_draws : Stmt := top 8
theorem sc__law_draws : FnScope ["script", "draws", "k", "rest", "turn", "mixed"] ["script"] (defScope s__law_draws) := ⟨rfl, rfl, rfl, by decide +kernel, rfl, by decide +kernel, by decide +kernel⟩
abbrev s__law_mix : Stmt := top 9
theorem sc__law_mix : FnScope ["draws", "k", "many", "value"] ["draws", "k", "many"] (defScope s__law_mix) := ⟨rfl, rfl, rfl, by decide +kernel, rfl, by decide +kernel, by decide +kernel⟩
section
variable {P : Program} {w : World} {K : PySem.W.Frag} {mg : Str → Option Value} {base : Heap}
theorem map_get_int {ns : List Int} {i : Nat} (h : i < ns.length) : atI (ns.map V.int) (i : Int) = some (.int ns[i]) := atI_nat (by rw [List.getElem?_map, List.getElem?_eq_getElem h]; rfl)
theorem map_snoc (xs : List Int) (z : Int) : xs.map V.int ++ [V.int z] = (xs ++ [z]).map V.int := by simp
theorem ok__law_draws {f : Addr} {fd : FuncData} (D : Df K mg "_law_draws" ["script"] s__law_draws f fd) (B : Bl mg) : FnOk P w K mg base CX0 1 f fd ["script"] (sp_draws K) := by
  refine D.F.ok sc__law_draws (fun vs H Q E h => ?_) (fun cdv A outer s H vs Q E hr h => ?_)
  · obtain ⟨a, ns, rfl, _⟩ := h; rfl
  · obtain ⟨a, ns, rfl, hS, hl, k⟩ := h
    refine ⟨_, (pss_cons (ps_set (i := 1) sc__law_draws.nd rfl (Or.inl rfl) (pe_lst pa_nil))
      (pss_cons (ps_for PassesOwn.never rfl (pi_range1 rfl B.range (pa_cons (pe_callB (call_min2 rfl) (by rfl) B.min (by decide +kernel) (pa_cons (pe_z 63) (pa_cons (pe_callB call_len_seq (by rfl) B.len PySem.boot_len (pa_cons (pv 0) pa_nil)) pa_nil))) pa_nil)) (pg_name (i := 2) sc__law_draws.nd rfl (Or.inl rfl) (Or.inr rfl))
        (pss_cons (ps_set (i := 3) sc__law_draws.nd rfl (Or.inl rfl) (pe_callB call_abs (by rfl) B.abs (by decide +kernel) (pa_cons (pe_ix ix_list (pv 0) (pv 2) (fun _ _ => rfl)) pa_nil)))
        (pss_one (ps_if (pt_cmpR op_ge (pv 3) (pe_op op_pow (pe_z 10) (pe_z 18)) (nomark _)) (pss_one (ps_for PassesOwn.never rfl (pi_range1 rfl B.range (pa_cons (pe_z 60) pa_nil)) (pg_name (i := 4) sc__law_draws.nd rfl (Or.inl rfl) (Or.inr rfl))
            (pss_one (ps_if (pt_cmpR op_gt (pv 3) (pe_z 0) (nomark _)) (pss_cons (ps_expr (pe_bm PySem.F.plainAttrs_list PySem.F.slot_list_append PySem.F.type_list_append mt_append (pv 1) (pa_cons (pe_op op_mod (pe_callTy call_int1 (by rfl) B.int (by decide +kernel) (pa_cons (pv 3) pa_nil)) (pe_z 65536)) pa_nil)))
              (pss_one (ps_set (i := 3) sc__law_draws.nd rfl (Or.inl rfl) (pe_op op_fdiv (pv 3) (pe_z 65536))))) pss_nil)))) (pss_cons (ps_set (i := 5) sc__law_draws.nd rfl (Or.inl rfl) (pe_op op_mod (pe_callTy call_int1 (by rfl) B.int (by decide +kernel) (pa_cons (pe_op op_add (pe_op op_mul (pv 3) (pe_z 48271)) (pe_op op_mul (pe_op op_add (pv 2) (pe_z 1)) (pe_z 69621))) pa_nil)) (pe_z 2147483647)))
          (pss_cons (ps_set (i := 5) sc__law_draws.nd rfl (Or.inl rfl) (pe_op op_mod (pe_callTy call_int1 (by rfl) B.int (by decide +kernel) (pa_cons (pe_op op_add (pe_op op_add (pe_op op_mul (pv 5) (pe_z 16807)) (pe_op op_mul (pe_z 11) (pv 2))) (pe_z 5)) pa_nil)) (pe_z 2147483629)))
          (pss_cons (ps_expr (pe_bm PySem.F.plainAttrs_list PySem.F.slot_list_append PySem.F.type_list_append mt_append (pv 1) (pa_cons (pe_op op_mod (pe_callTy call_int1 (by rfl) B.int (by decide +kernel) (pa_cons (pv 5) pa_nil)) (pe_z 65536)) pa_nil)))
          (pss_one (ps_expr (pe_bm PySem.F.plainAttrs_list PySem.F.slot_list_append PySem.F.type_list_append mt_append (pv 1) (pa_cons (pe_op op_mod (pe_callTy call_int1 (by rfl) B.int (by decide +kernel) (pa_cons (pe_op op_fdiv (pv 5) (pe_z 65536)) pa_nil)) (pe_z 32768)) pa_nil)))))))))))
      (pss_one (ps_ret (pv 1))))), ?_⟩
    have sl := sizeLine_eq
    refine ⟨Nat.zero_le _, fun l nl => ?_⟩
    have sm0 : Same H (upd H l (.lst [])) := same_upd nl
    refine ⟨_, rfl, a, _, rfl, .inl (sm0.seq hS), 63, _, rfl, _, rfl, by split <;> omega, by split <;> omega, ?_⟩
    have hn : ((if (((ns.map V.int).length : Nat) : Int) < 63 then (((ns.map V.int).length : Nat) : Int) else 63)).toNat = ns.length := by
      rw [List.length_map]; split <;> omega
    rw [hn]
    refine for_range (lo := 0) (n := ns.length) (fun i σ H' => ∃ (xs : List Int) (v2 v3 v4 v5 : Option V), σ = [some (.ref a), some (.ref l), v2, v3, v4, v5] ∧ H' l = some (.lst (xs.map V.int)) ∧ xs.length ≤ 60 * i ∧ Same H H')
      ⟨[], none, none, none, none, rfl, upd_same, by simp, sm0⟩ ?_ ?_
    · rintro i σ H' hi ⟨xs, v2, v3, v4, v5, rfl, h1, h2, sm⟩
      have push : ∀ {H2 : Hp} {ys : List Int} {z : Int}, Same H H2 → Same H (upd H2 l (.lst ((ys ++ [z]).map V.int))) := fun s => same_upd2 s nl
      refine ⟨_, rfl, _, rfl, a, _, _, _, rfl, rfl, sm.seq hS, by rw [Int.zero_add]; exact map_get_int hi, _, rfl, ?_⟩
      generalize (if ns[i] < 0 then -ns[i] else ns[i]) = rest0
      refine ⟨_, rfl, _, _, rfl, rfl, ⟨by decide, by decide, by decide⟩, _, _, rfl, rfl, _, rfl, iteD (fun c => ?_) (fun c => ?_)⟩
      · -- digits
        refine ⟨_, rfl, by decide, by decide, ?_⟩
        refine for_range (lo := 0) (n := 60) (fun j σ H' => ∃ (ys : List Int) (r : Int) (v4 : Option V), σ = [some (.ref a), some (.ref l), some (.int (0 + (i : Int))), some (.int r), v4, v5] ∧ H' l = some (.lst (ys.map V.int)) ∧ ys.length ≤ 60 * i + j ∧ Same H H')
          ⟨xs, rest0, v4, rfl, h1, by omega, sm⟩ ?_ ?_
        · rintro j σ H2 hj ⟨ys, r, v4', rfl, g1, g2, sm2⟩
          refine ⟨_, rfl, _, _, rfl, rfl, _, rfl, iteD (fun c2 => ?_) (fun c2 => ⟨ys, r, _, rfl, g1, by omega, sm2⟩)⟩
          refine ⟨_, rfl, .inl ⟨rfl, _, SqL.of g1⟩, _, rfl, .inl ⟨_, rfl, _, _, rfl, rfl, (show (0:Int) < 65536 by decide), l, _, _, rfl, rfl, g1, by rw [List.length_map]; omega, ?_⟩⟩
          rw [map_snoc]
          refine ⟨_, rfl, _, _, rfl, rfl, ⟨by decide, by decide⟩, ⟨ys ++ [r % 65536], r / 65536, _, rfl, upd_same, by rw [List.length_append, List.length_singleton]; omega, push sm2⟩⟩
        · rintro σ H2 ⟨ys, r, v4', rfl, g1, g2, sm2⟩
          exact ⟨ys, _, _, _, _, rfl, g1, by omega, sm2⟩
      · -- two mixed ones
        have c' : ¬ (10 : Int) ^ (18 : Int).toNat ≤ rest0 := c
        refine ⟨_, rfl, _, _, rfl, rfl, .inr (by decide), _, rfl, _, _, rfl, rfl, _, _, rfl, rfl, .inr (by decide), _, _, rfl, rfl, .inl ⟨_, rfl, _, _, rfl, rfl, (show (0:Int) < 2147483647 by decide), ?_⟩⟩
        refine ⟨_, rfl, _, _, rfl, rfl, .inr (by decide), _, rfl, _, _, rfl, rfl, .inl (by decide), _, _, rfl, rfl, _, _, rfl, rfl, .inl ⟨_, rfl, _, _, rfl, rfl, (show (0:Int) < 2147483629 by decide), ?_⟩⟩
        refine ⟨_, rfl, .inl ⟨rfl, _, SqL.of h1⟩, _, rfl, .inl ⟨_, rfl, _, _, rfl, rfl, (show (0:Int) < 65536 by decide), l, _, _, rfl, rfl, h1, by rw [List.length_map]; omega, ?_⟩⟩
        rw [map_snoc]
        refine ⟨_, rfl, .inl ⟨rfl, _, SqL.of upd_same⟩, _, rfl, _, _, rfl, rfl, ⟨by decide, by decide⟩, .inl ⟨_, rfl, _, _, rfl, rfl, (show (0:Int) < 32768 by decide), l, _, _, rfl, rfl, upd_same, by rw [List.length_map, List.length_append, List.length_singleton]; omega, ?_⟩⟩
        rw [map_snoc]
        exact ⟨_, _, _, _, _, rfl, upd_same, by simp only [List.length_append, List.length_singleton]; omega, same_upd2 (same_upd2 sm nl) nl⟩
    · rintro σ H' ⟨xs, v2, v3, v4, v5, rfl, h1, h2, sm⟩
      exact ⟨_, rfl, k l xs H' sm nl h1 (by omega)⟩
theorem ok__law_mix {f : Addr} {fd : FuncData} (D : Df K mg "_law_mix" ["draws", "k", "many"] s__law_mix f fd) (B : Bl mg) : FnOk P w K mg base CX0 1 f fd ["draws", "k", "many"] (spF rcMix) := by
  refine okF D.F sc__law_mix (fun F as S h => by obtain ⟨ds, k, many, rfl, _⟩ := h; rfl) (fun cdv A outer s H E hr => ⟨_, _, (pss_cons (ps_set (i := 3) sc__law_mix.nd rfl (Or.inl rfl) (pe_z 0))
      (C8.pss_cut (ps_if (pt_cmpR op_gt (pe_callB call_len_seq (by rfl) B.len PySem.boot_len (pa_cons (pv 0) pa_nil)) (pe_z 0) (nomark _)) (pss_one (ps_set (i := 3) sc__law_mix.nd rfl (Or.inl rfl) (pe_ix ix_list (pv 0) (pe_op op_mod (pe_callTy call_int1 (by rfl) B.int (by decide +kernel) (pa_cons (pv 1) pa_nil)) (pe_callB call_len_seq (by rfl) B.len PySem.boot_len (pa_cons (pv 0) pa_nil))) (fun _ _ => rfl)))) pss_nil)
      (pss_cons (ps_if (pt_cmpR op_lt (pv 1) (pe_callB call_len_seq (by rfl) B.len PySem.boot_len (pa_cons (pv 0) pa_nil)) (nomark _)) (pss_one (ps_ret (pe_op op_mod (pe_callTy call_int1 (by rfl) B.int (by decide +kernel) (pa_cons (pv 3) pa_nil)) (pv 2)))) pss_nil)
      (pss_one (ps_ret (pe_op op_mod (pe_callTy call_int1 (by rfl) B.int (by decide +kernel) (pa_cons (pe_op op_fdiv (pe_callTy call_int1 (by rfl) B.int (by decide +kernel) (pa_cons (pe_op op_add (pe_op op_mul (pv 3) (pe_z 7919)) (pe_op op_mul (pv 1) (pe_z 104729))) pa_nil)) (pe_z 3)) pa_nil)) (pv 2))))))), fun F0 => by infer_instance, fun F0 as S h => ?_⟩)
  obtain ⟨ds, k, many, rfl, hk, hk2, hm, hS⟩ := h
  refine ⟨fun σ => ∃ v : Int, σ = [some (.val (.list (LI ds))), some (.val (.int k)), some (.val (.int many)), some (.val (.int v))], ?_, ?_⟩
  · refine brD (fun c => ?_) (fun c => ⟨0, rfl⟩)
    have c' : (0 : Int) < (LI ds).length := c
    obtain ⟨z, _, hz⟩ := LI_at (ns := ds) (i := k % (LI ds).length) (Int.emod_nonneg _ (by omega)) (by rw [← LI_len]; exact Int.emod_lt_of_pos _ c')
    exact ⟨c', _, hz, z, rfl⟩
  · rintro σ ⟨v, rfl⟩
    refine brD (fun c => ⟨hm, ?_⟩) (fun c => ?_)
    · exact hS _ (Int.emod_nonneg _ (by omega)) (Int.emod_lt_of_pos _ hm)
    · refine ⟨.inr (by decide), .inr (by decide), ⟨by decide, by decide⟩, hm, ?_⟩
      exact hS _ (Int.emod_nonneg _ (by omega)) (Int.emod_lt_of_pos _ hm)
end
end K60
set_option synthInstance.maxSize 100000
set_option synthInstance.maxHeartbeats 0
namespace K60
open PySem PySem.Spec L2 NB ER MKX DL
section
variable {F0 H0 F H : Hp} {K : PySem.W.Frag}
theorem walk_tup {v : V} {sv : SV} {ds : List PyData} {a : Addr} (ev : v = .ref a) (e : sv.tup? = some ds) : DWalk F0 H0 (Itt K a) ds [(some v, some sv)] where
  goes i H F W hi r := by
    obtain ⟨a', vs, h1, h2, h3⟩ := r.last.tup r.low e
    rw [ev] at h1; cases h1
    exact ⟨vs, vs[i]'(by rw [h3.length]; exact hi), SqT.of h2, by simp⟩
  stops H F W r := by
    obtain ⟨a', vs, h1, h2, h3⟩ := r.last.tup r.low e
    rw [ev] at h1; cases h1
    exact ⟨vs, SqT.of h2, by rw [h3.length]; exact Nat.le_refl _⟩
  yields i H x H' F W d hd r y := by
    obtain ⟨a', vs, h1, h2, h3⟩ := r.last.tup r.low e
    rw [ev] at h1; cases h1
    obtain ⟨rfl, y⟩ := y
    obtain ⟨w, h4, h5⟩ := h3.get hd
    have := y vs (SqT.of h2)
    rw [h4] at this
    cases this
    exact ⟨F, r.pushV h5⟩
/-- for x in a tuple -/
def dItemsT (fa : DX) : SD → (List PyData → Bool → Prop) → Prop := fun σ P => fa σ fun sv => match sv.tup? with | some ds => P ds true | none => False
instance {ta : TE} {fa : DX} [ha : DE F0 H0 ta fa] : DI F0 H0 (iTup K ta) (dItemsT fa) where
  run Z T H P R := fun hr h q => ha.run Z T H _ _ hr h fun sv h1 v H1 ⟨F, r1⟩ => by
    cases e : sv.tup? with
    | none => rw [e] at h1; exact h1.elim
    | some ds =>
      rw [e] at h1
      obtain ⟨r0, rv⟩ := one_tmp r1
      obtain ⟨a, vs, rfl, h2, h3⟩ := rv.tup r1.low e
      exact ⟨a, rfl, ⟨vs, SqT.of h2⟩, q ds _ h1 _ _ [(some (.ref a), some sv)] ⟨F, r1⟩ (fun z p hp es e => by
        rw [List.mem_singleton] at hp
        subst hp
        cases e
        cases ‹SV.tup? _ = some ds›) (walk_tup rfl e)⟩
end
abbrev s__bytes_of : Stmt := top 5
theorem sc__bytes_of : FnScope ["number", "shift"] ["number"] (defScope s__bytes_of) := ⟨rfl, rfl, rfl, by decide +kernel, rfl, by decide +kernel, by decide +kernel⟩
abbrev s__number_of : Stmt := top 6
theorem sc__number_of : FnScope ["four", "k", "byte"] ["four"] (defScope s__number_of) := ⟨rfl, rfl, rfl, by decide +kernel, rfl, by decide +kernel, by decide +kernel⟩
abbrev s__law_bytes : Stmt := top 11
theorem sc__law_bytes : FnScope ["number", "k"] ["number"] (defScope s__law_bytes) := ⟨rfl, rfl, rfl, by decide +kernel, rfl, by decide +kernel, by decide +kernel⟩
abbrev s__law_value : Stmt := top 12
theorem sc__law_value : FnScope ["row", "k"] ["row"] (defScope s__law_value) := ⟨rfl, rfl, rfl, by decide +kernel, rfl, by decide +kernel, by decide +kernel⟩
section
variable {P : Program} {w : World} {K : PySem.W.Frag} {mg : Str → Option Value} {base : Heap}
/-- a number's four bytes, the lowest first -/
def byN (n : Nat) : List Int := (List.range 4).map fun k => ((n / 2 ^ (8 * k) % 256 : Nat) : Int)
theorem byN_len (n : Nat) : (byN n).length = 4 := by unfold byN; simp
def rcBy : RC := pur fun as S => ∃ n : Nat, as = [.val (.int (n : Int))] ∧ n < 2 ^ 32 ∧ S (.ok (.own (LI (byN n))))
instance : MonoR rcBy := inferInstanceAs (MonoR (pur _))
/-- what each byte counts for -/
def shL (us : List Int) : List Int := (List.range us.length).map fun k => us.getD k 0 * 2 ^ (8 * k)
def ByL (us : List Int) : Prop := ∀ b ∈ us, 0 ≤ b ∧ b < 256
def rcVal (m : Nat → Prop) : RC := pur fun as S => ∃ us : List Int, as = [.val (.list (LI us))] ∧ m us.length ∧ us.length ≤ 4 ∧ ByL us ∧ S (.ok (.val (.int (shL us).sum)))
instance {m} : MonoR (rcVal m) := inferInstanceAs (MonoR (pur _))
theorem byte_and (n k : Nat) (i : Int) (h : i.toNat = 8 * k) : Builtin.bitAnd ((n : Int) / 2 ^ i.toNat) 255 = ((n / 2 ^ (8 * k) % 256 : Nat) : Int) := by
  rw [h]
  have : (n : Int) / 2 ^ (8 * k) = ((n / 2 ^ (8 * k) : Nat) : Int) := by rw [Int.natCast_ediv, Int.natCast_pow]; rfl
  rw [this]
  show Builtin.bitAnd ((n / 2 ^ (8 * k) : Nat) : Int) ((255 : Nat) : Int) = _
  rw [and_nn, show (255 : Nat) = 2 ^ 8 - 1 from rfl, Nat.and_two_pow_sub_one_eq_mod]
theorem byN_take (n i : Nat) (h : i < 4) : (byN n).take i ++ [((n / 2 ^ (8 * i) % 256 : Nat) : Int)] = (byN n).take (i + 1) := by
  rw [List.take_succ]
  congr 1
  unfold byN
  rw [List.getElem?_map, List.getElem?_range h]; rfl
theorem shL_len (us : List Int) : (shL us).length = us.length := by unfold shL; simp
theorem shL_take {us : List Int} {i : Nat} {b : Int} (h : us[i]? = some b) : (shL us).take i ++ [b * 2 ^ (8 * i)] = (shL us).take (i + 1) := by
  rw [List.take_succ]
  congr 1
  have hi := (List.getElem?_eq_some_iff.mp h).1
  unfold shL
  rw [List.getElem?_map, List.getElem?_range hi, Option.map_some, List.getD_eq_getElem?_getD, h]; rfl
theorem two63 {b : Int} {k : Nat} (h : 0 ≤ b ∧ b < 256) (hk : k < 4) : b * 2 ^ (8 * k) < 2 ^ 62 ∧ 0 ≤ b * 2 ^ (8 * k) := by
  rcases (by omega : k = 0 ∨ k = 1 ∨ k = 2 ∨ k = 3) with rfl | rfl | rfl | rfl <;> omega
theorem ok__bytes_of {f : Addr} {fd : FuncData} (D : Df K mg "_bytes_of" ["number"] s__bytes_of f fd) (B : Bl mg) : FnOk P w K mg base CX0 1 f fd ["number"] (spF rcBy) := by
  refine okF D.F sc__bytes_of (fun F as S h => by obtain ⟨n, rfl, _⟩ := h; rfl) (fun cdv A outer s H E hr => ⟨_, _, (pss_one (ps_ret (pe_lc (own := [("shift", 1)]) rfl sc__bytes_of.nd (pi_tup (pe_tup (pa_cons (pe_z 0) (pa_cons (pe_z 8) (pa_cons (pe_z 16) (pa_cons (pe_z 24) pa_nil)))))) (blkOk_by (own := [("shift", 1)]) (N := ["number", "shift"]) (sc := defScope s__bytes_of) (by decide +kernel)) (fun _ _ _ _ _ => (pg_name (i := 1) sc__bytes_of.nd rfl (Or.inl rfl) (Or.inr rfl))) (fun _ _ _ _ _ => pts_nil) (fun _ _ _ _ _ => (pe_op op_and (pe_op op_shr (pv 0) (pv 1)) (pe_z 255)))))), fun F0 => by infer_instance, fun F0 as S h => ?_⟩)
  obtain ⟨n, rfl, hn, hS⟩ := h
  have sl := sizeLine_eq
  refine ⟨(show 4 ≤ sizeLine by omega), rfl, fun i acc => acc = LI ((byN n).take i), rfl, ?_, ?_⟩
  · rintro i d acc hd rfl
    have hi : i < 4 := (List.getElem?_eq_some_iff.mp hd).1
    have ed : d = .int ((8 * i : Nat) : Int) := by
      rcases (by omega : i = 0 ∨ i = 1 ∨ i = 2 ∨ i = 3) with rfl | rfl | rfl | rfl <;> exact (Option.some.inj hd).symm
    subst ed
    refine brT ⟨?_, ?_, ?_⟩
    · show (0 : Int) ≤ ((8 * i : Nat) : Int)
      omega
    · rw [LI_len, List.length_take, byN_len]; omega
    · show LI _ ++ [PyData.int (Builtin.bitAnd ((n : Int) / 2 ^ (((8 * i : Nat) : Int)).toNat) 255)] = LI _
      rw [byte_and n i _ (by omega), LI_snoc, byN_take n i hi]
  · rintro acc rfl
    exact hS
theorem ok__number_of {f : Addr} {fd : FuncData} (D : Df K mg "_number_of" ["four"] s__number_of f fd) (B : Bl mg) : FnOk P w K mg base CX0 1 f fd ["four"] (spF (rcVal fun _ => True)) := by
  refine okF D.F sc__number_of (fun F as S h => by obtain ⟨n, rfl, _⟩ := h; rfl) (fun cdv A outer s H E hr => ⟨_, _, (pss_one (ps_ret (pe_callB (cr_sum rfl) (by rfl) B.sum (by decide +kernel) (pa_cons (pe_lc (g := (gTup K 2 (gCons (gName 1) (gCons (gName 2) gNil)))) (own := [("k", 1), ("byte", 2)]) rfl sc__number_of.nd (pi_enum rfl B.enumerate (pa_cons (pv 0) pa_nil)) (blkOk_by (own := [("k", 1), ("byte", 2)]) (N := ["four", "k", "byte"]) (sc := defScope s__number_of) (by decide +kernel)) (fun _ _ _ _ _ => (pg_tup rfl (pgs_cons (pg_name (i := 1) sc__number_of.nd rfl (Or.inl rfl) (Or.inr rfl)) (pgs_cons (pg_name (i := 2) sc__number_of.nd rfl (Or.inl rfl) (Or.inr rfl)) pgs_nil)))) (fun _ _ _ _ _ => pts_nil) (fun _ _ _ _ _ => (pe_op op_shl (pv 2) (pe_op op_mul (pe_z 8) (pv 1))))) pa_nil)))), fun F0 => by infer_instance, fun F0 as S h => ?_⟩)
  obtain ⟨us, rfl, _, hl, hb, hS⟩ := h
  have sl := sizeLine_eq
  have la := LI_len us
  refine ⟨rfl, fun i acc => acc = LI ((shL us).take i), rfl, ?_, ?_⟩
  · rintro i d acc hd rfl
    obtain ⟨x, hx, rfl⟩ := enumD_at hd
    obtain ⟨b, hb1, rfl⟩ := LI_inv hx
    have hi : i < us.length := (List.getElem?_eq_some_iff.mp hb1).1
    have hbb := hb b (List.mem_of_getElem? hb1)
    refine ⟨rfl, brT ⟨?_, ?_, ?_, ?_⟩⟩
    · exact .inl (by decide)
    · exact ⟨by omega, by omega, by omega⟩
    · rw [LI_len, List.length_take, shL_len]; omega
    · show LI _ ++ [PyData.int (b * 2 ^ ((8 : Int) * (i : Int)).toNat)] = LI _
      rw [show ((8 : Int) * (i : Int)).toNat = 8 * i by omega, LI_snoc, shL_take hb1]
  · rintro acc rfl
    refine ⟨shL us, ?_, hS⟩
    show some (LI ((shL us).take (enumD (LI us)).length)) = _
    rw [enumD_len, la, List.take_of_length_le (by rw [shL_len]; exact Nat.le_refl _)]
theorem ok__law_bytes {f : Addr} {fd : FuncData} (D : Df K mg "_law_bytes" ["number"] s__law_bytes f fd) (B : Bl mg) : FnOk P w K mg base CX0 1 f fd ["number"] (spF rcBy) := by
  refine okF D.F sc__law_bytes (fun F as S h => by obtain ⟨n, rfl, _⟩ := h; rfl) (fun cdv A outer s H E hr => ⟨_, _, (pss_one (ps_ret (pe_lc (own := [("k", 1)]) rfl sc__law_bytes.nd (pi_range1 rfl B.range (pa_cons (pe_z 4) pa_nil)) (blkOk_by (own := [("k", 1)]) (N := ["number", "k"]) (sc := defScope s__law_bytes) (by decide +kernel)) (fun _ _ _ _ _ => (pg_name (i := 1) sc__law_bytes.nd rfl (Or.inl rfl) (Or.inr rfl))) (fun _ _ _ _ _ => pts_nil) (fun _ _ _ _ _ => (pe_op op_and (pe_op op_shr (pv 0) (pe_op op_mul (pe_z 8) (pv 1))) (pe_z 255)))))), fun F0 => by infer_instance, fun F0 as S h => ?_⟩)
  obtain ⟨n, rfl, hn, hS⟩ := h
  have sl := sizeLine_eq
  refine ⟨⟨by decide, by decide⟩, rfl, fun i acc => acc = LI ((byN n).take i), rfl, ?_, ?_⟩
  · rintro i d acc hd rfl
    obtain ⟨hi, rfl⟩ := rangeD_at hd
    have hi' : i < 4 := hi
    refine brT ⟨?_, ?_, ?_, ?_⟩
    · exact .inl (by decide)
    · show (0 : Int) ≤ 8 * (0 + (i : Int))
      omega
    · rw [LI_len, List.length_take, byN_len]; omega
    · show LI _ ++ [PyData.int (Builtin.bitAnd ((n : Int) / 2 ^ ((8 : Int) * (0 + (i : Int))).toNat) 255)] = LI _
      rw [byte_and n i _ (by omega), LI_snoc, byN_take n i hi']
  · rintro acc rfl
    exact hS
theorem ok__law_value {f : Addr} {fd : FuncData} (D : Df K mg "_law_value" ["row"] s__law_value f fd) (B : Bl mg) : FnOk P w K mg base CX0 1 f fd ["row"] (spF (rcVal fun n => n = 4)) := by
  refine okF D.F sc__law_value (fun F as S h => by obtain ⟨n, rfl, _⟩ := h; rfl) (fun cdv A outer s H E hr => ⟨_, _, (pss_one (ps_ret (pe_callB (cr_sum rfl) (by rfl) B.sum (by decide +kernel) (pa_cons (pe_lc (own := [("k", 1)]) rfl sc__law_value.nd (pi_range1 rfl B.range (pa_cons (pe_z 4) pa_nil)) (blkOk_by (own := [("k", 1)]) (N := ["row", "k"]) (sc := defScope s__law_value) (by decide +kernel)) (fun _ _ _ _ _ => (pg_name (i := 1) sc__law_value.nd rfl (Or.inl rfl) (Or.inr rfl))) (fun _ _ _ _ _ => pts_nil) (fun _ _ _ _ _ => (pe_op op_shl (pe_ix (ix_listK (K := K) rfl) (pv 0) (pv 1) (fun _ _ => rfl)) (pe_op op_mul (pe_z 8) (pv 1))))) pa_nil)))), fun F0 => by infer_instance, fun F0 as S h => ?_⟩)
  obtain ⟨us, rfl, h4, hl, hb, hS⟩ := h
  have sl := sizeLine_eq
  have la := LI_len us
  refine ⟨⟨by decide, by decide⟩, rfl, fun i acc => acc = LI ((shL us).take i), rfl, ?_, ?_⟩
  · rintro i d acc hd rfl
    obtain ⟨hi, rfl⟩ := rangeD_at hd
    have hi' : i < 4 := hi
    obtain ⟨b, hb1⟩ : ∃ b, us[i]? = some b := ⟨_, List.getElem?_eq_getElem (by omega)⟩
    have hbb := hb b (List.mem_of_getElem? hb1)
    refine brT ⟨.int b, ?_, ?_, ?_, ?_, ?_⟩
    · show atI (LI us) (0 + (i : Int)) = _
      rw [Int.zero_add]
      exact D_atN (LI_get hb1)
    · exact .inl (by decide)
    · exact ⟨by omega, by omega, by omega⟩
    · rw [LI_len, List.length_take, shL_len]; omega
    · show LI _ ++ [PyData.int (b * 2 ^ ((8 : Int) * (0 + (i : Int))).toNat)] = LI _
      rw [show ((8 : Int) * (0 + (i : Int))).toNat = 8 * i by omega, LI_snoc, shL_take hb1]
  · rintro acc rfl
    refine ⟨shL us, ?_, hS⟩
    show some (LI ((shL us).take 4)) = _
    rw [List.take_of_length_le (by rw [shL_len]; omega)]
end
end K60
set_option synthInstance.maxSize 100000
set_option synthInstance.maxHeartbeats 0
namespace K60
open PySem PySem.Spec L2 NB ER MKX DL
abbrev s__law_number : Stmt := top 10
theorem sc__law_number : FnScope ["draws", "k", "great"] ["draws", "k"] (defScope s__law_number) := ⟨rfl, rfl, rfl, by decide +kernel, rfl, by decide +kernel, by decide +kernel⟩
abbrev s__law_due : Stmt := top 13
theorem sc__law_due : FnScope ["row", "ack", "mask"] ["row"] (defScope s__law_due) := ⟨rfl, rfl, rfl, by decide +kernel, rfl, by decide +kernel, by decide +kernel⟩
abbrev s_write_packet : Stmt := top 3
theorem sc_write_packet : FnScope ["packet", "number", "data", "ack", "mask", "head"] ["packet"] (defScope s_write_packet) := ⟨rfl, rfl, rfl, by decide +kernel, rfl, by decide +kernel, by decide +kernel⟩
section
variable {P : Program} {w : World} {K : PySem.W.Frag} {mg : Str → Option Value} {base : Heap}
def rcNum : RC := pur fun as S => ∃ (ds : List Int) (k : Nat), as = [.val (.list (LI ds)), .val (.int (k : Int))] ∧ k ≤ 1000 ∧ ∀ n : Nat, n < 2 ^ 32 → S (.ok (.val (.int (n : Int))))
instance : MonoR rcNum := inferInstanceAs (MonoR (pur _))
/-- the number of the bytes from lo to hi -/
def numA (us : List Int) (lo hi : Nat) : Int := (shL ((us.drop lo).take (hi - lo))).sum
/-- the packet whose bytes these are, all of them bytes -/
def rdU (us : List Int) : PyData := if us.length < 9 ∨ 1 < us.getD 0 0 then .none else if us.getD 0 0 = 0 then (if 9 < us.length then .none else .tuple [.none, .none, .int (numA us 1 5), .int (numA us 5 9)]) else
  if us.length < 13 then .none else .tuple [.int (numA us 9 13), .list (LI (us.drop 13)), .int (numA us 1 5), .int (numA us 5 9)]
def rcDue : RC := pur fun as S => ∃ us : List Int, as = [.val (.list (LI us))] ∧ us.length ≤ 1000 ∧ ByL us ∧ S (.ok (.val (rdU us)))
instance : MonoR rcDue := inferInstanceAs (MonoR (pur _))
def packD : Option (Nat × List Int) → Nat → Nat → PyData
  | none, a, m => .tuple [.none, .none, .int (a : Int), .int (m : Int)]
  | some (n, ds), a, m => .tuple [.int (n : Int), .list (LI ds), .int (a : Int), .int (m : Int)]
def wrL : Option (Nat × List Int) → Nat → Nat → List Int
  | none, a, m => 0 :: (byN a ++ byN m)
  | some (n, ds), a, m => 1 :: (byN a ++ byN m ++ byN n ++ ds)
def rcWr : RC := pur fun as S => ∃ (o : Option (Nat × List Int)) (a m : Nat), as = [.val (packD o a m)] ∧ a < 2 ^ 32 ∧ m < 2 ^ 32 ∧ (∀ n ds, o = some (n, ds) → n < 2 ^ 32 ∧ ds.length ≤ 100) ∧ S (.ok (.own (LI (wrL o a m))))
instance : MonoR rcWr := inferInstanceAs (MonoR (pur _))
theorem by_go {F0 : Hp} {n : Nat} {al : SV → Bool} {P : SV → Prop} {ER : Addr → Int → Prop} (hn : n < 2 ^ 32) (h : P (.own (LI (byN n)))) : ∃ S, rcBy F0 [.val (.int (n : Int))] S ∧ ∀ r, S r → match r with
    | .ok sv => (al sv = true → sv.flat = true) ∧ P sv
    | .er C i => ER C i := by
  refine ⟨fun r => r = .ok (.own (LI (byN n))), ⟨n, rfl, hn, rfl⟩, ?_⟩
  rintro r rfl
  exact ⟨fun _ => LI_flatD _, h⟩
theorem cut_LI (us : List Int) (lo hi : Nat) : cutD (LI us) (some (lo : Int)) (some (hi : Int)) = LI ((us.drop lo).take (hi - lo)) := by
  rw [cutD_nat, LI_len, LI_drop, LI_take]
  congr 1
  by_cases h : lo ≤ us.length
  · rw [Nat.min_eq_left h, List.take_eq_take_iff, List.length_drop]
    omega
  · rw [List.drop_eq_nil_of_le (by omega), List.drop_eq_nil_of_le (by omega)]
    simp
theorem cut_by {us : List Int} (h : ByL us) (lo hi : Nat) : ByL ((us.drop lo).take (hi - lo)) := fun b hb => h b (List.mem_of_mem_drop (List.mem_of_mem_take hb))
theorem num_go {m : Nat → Prop} {F0 : Hp} {us : List Int} {x y : Int} (lo hi : Nat) {al : SV → Bool} {P : SV → Prop} {ER : Addr → Int → Prop} (hx : x = (lo : Int)) (hy : y = (hi : Int)) (h4 : hi - lo ≤ 4) (hb : ByL us) (hm : m ((us.drop lo).take (hi - lo)).length) (h : P (.val (.int (numA us lo hi)))) :
    ∃ S, rcVal m F0 [.val (.list (cutD (LI us) (some x) (some y)))] S ∧ ∀ r, S r → match r with
    | .ok sv => (al sv = true → sv.flat = true) ∧ P sv
    | .er C i => ER C i := by
  subst hx hy
  refine ⟨fun r => r = .ok (.val (.int (numA us lo hi))), ⟨(us.drop lo).take (hi - lo), by rw [cut_LI], hm, by rw [List.length_take]; omega, cut_by hb lo hi, rfl⟩, ?_⟩
  rintro r rfl
  exact ⟨fun _ => rfl, h⟩
theorem ok__law_number {f f__law_mix : Addr} {fd fd__law_mix : FuncData} (D : Df K mg "_law_number" ["draws", "k"] s__law_number f fd) (B : Bl mg)
    (D__law_mix : Df K mg "_law_mix" ["draws", "k", "many"] s__law_mix f__law_mix fd__law_mix) (G__law_mix : FnOk P w K mg base CX0 1 f__law_mix fd__law_mix ["draws", "k", "many"] (spF rcMix)) : FnOk P w K mg base CX0 3 f fd ["draws", "k"] (spF rcNum) := by
  refine okF D.F sc__law_number (fun F as S h => by obtain ⟨_, n, rfl, _⟩ := h; rfl) (fun cdv A outer s H E hr => ⟨_, _, (pss_cons (ps_set (i := 2) sc__law_number.nd rfl (Or.inl rfl) (pe_op op_add (pe_call G__law_mix (hr.mono (by decide)) rfl D__law_mix.g D__law_mix.F.kp D__law_mix.b .nil pass00 (pa_cons (pv 0) (pa_cons (pv 1) (pa_cons (pe_z 65536) pa_nil)))) (pe_op op_mul (pe_z 65536) (pe_call G__law_mix (hr.mono (by decide)) rfl D__law_mix.g D__law_mix.F.kp D__law_mix.b .nil pass00 (pa_cons (pv 0) (pa_cons (pe_op op_add (pv 1) (pe_z 1)) (pa_cons (pe_z 65536) pa_nil)))))))
      (pss_one (ps_ret (pe_ix ix_list (pe_lst (pa_cons (pe_call G__law_mix (hr.mono (by decide)) rfl D__law_mix.g D__law_mix.F.kp D__law_mix.b .nil pass00 (pa_cons (pv 0) (pa_cons (pv 1) (pa_cons (pe_z 300) pa_nil)))) (pa_cons (pv 2) pa_nil))) (pe_call G__law_mix (hr.mono (by decide)) rfl D__law_mix.g D__law_mix.F.kp D__law_mix.b .nil pass00 (pa_cons (pv 0) (pa_cons (pe_op op_add (pv 1) (pe_z 2)) (pa_cons (pe_z 2) pa_nil)))) (fun _ _ => rfl))))), fun F0 => by infer_instance, fun F0 as S h => ?_⟩)
  obtain ⟨ds, k, rfl, hk, hS⟩ := h
  have sl := sizeLine_eq
  refine mix_go (hk := by omega) (hk2 := by omega) fun v1 a1 a2 => ?_
  refine mix_go (hk := by omega) (hk2 := by omega) fun v2 b1 b2 => ⟨.inl (by decide), ?_⟩
  refine mix_go (hk := by omega) (hk2 := by omega) fun v3 c1 c2 => ⟨(show 2 ≤ sizeLine by omega), ?_⟩
  refine mix_go (hk := by omega) (hk2 := by omega) fun v4 d1 d2 => ?_
  have fin : ∀ z : Int, 0 ≤ z → z < 2 ^ 32 → S (.ok (.val (.int z))) := fun z h1 h2 => by
    obtain ⟨n, rfl⟩ := Int.eq_ofNat_of_zero_le h1
    exact hS n (by omega)
  rcases (by omega : v4 = 0 ∨ v4 = 1) with rfl | rfl
  · exact ⟨.int v3, rfl, fin _ (by omega) (by omega)⟩
  · exact ⟨.int (v1 + 65536 * v2), rfl, fin _ (by omega) (by omega)⟩
theorem ok__law_due {f f__law_value : Addr} {fd fd__law_value : FuncData} (D : Df K mg "_law_due" ["row"] s__law_due f fd) (B : Bl mg)
    (D__law_value : Df K mg "_law_value" ["row"] s__law_value f__law_value fd__law_value) (G__law_value : FnOk P w K mg base CX0 1 f__law_value fd__law_value ["row"] (spF (rcVal fun n => n = 4))) : FnOk P w K mg base CX0 3 f fd ["row"] (spF rcDue) := by
  refine okF D.F sc__law_due (fun F as S h => by obtain ⟨n, rfl, _⟩ := h; rfl) (fun cdv A outer s H E hr => ⟨_, _, (pss_cons (ps_if (PW.pt (pw_or (pt_cmpR op_lt (pe_callB call_len_seq (by rfl) B.len PySem.boot_len (pa_cons (pv 0) pa_nil)) (pe_z 9) (nomark _)) (pw_or1 (pt_cmpR op_gt (pe_ix ix_list (pv 0) (pe_z 0) (fun _ _ => rfl)) (pe_z 1) (nomark _))))) (pss_one (ps_ret pe_non)) pss_nil)
      (pss_cons (ps_set (i := 1) sc__law_due.nd rfl (Or.inl rfl) (pe_call G__law_value (hr.mono (by decide)) rfl D__law_value.g D__law_value.F.kp D__law_value.b .nil pass00 (pa_cons (pe_slice sl_list (pv 0) (po_some (pe_z 1)) (po_some (pe_z 5))) pa_nil)))
      (pss_cons (ps_set (i := 2) sc__law_due.nd rfl (Or.inl rfl) (pe_call G__law_value (hr.mono (by decide)) rfl D__law_value.g D__law_value.F.kp D__law_value.b .nil pass00 (pa_cons (pe_slice sl_list (pv 0) (po_some (pe_z 5)) (po_some (pe_z 9))) pa_nil)))
      (pss_cons (ps_if (pt_cmpR op_eq (pe_ix ix_list (pv 0) (pe_z 0) (fun _ _ => rfl)) (pe_z 0) (nomark _)) (pss_cons (ps_if (pt_cmpR op_gt (pe_callB call_len_seq (by rfl) B.len PySem.boot_len (pa_cons (pv 0) pa_nil)) (pe_z 9) (nomark _)) (pss_one (ps_ret pe_non)) pss_nil)
        (pss_one (ps_ret (pe_tup (pa_cons pe_non (pa_cons pe_non (pa_cons (pv 1) (pa_cons (pv 2) pa_nil)))))))) pss_nil)
      (pss_cons (ps_if (pt_cmpR op_lt (pe_callB call_len_seq (by rfl) B.len PySem.boot_len (pa_cons (pv 0) pa_nil)) (pe_z 13) (nomark _)) (pss_one (ps_ret pe_non)) pss_nil)
      (pss_one (ps_ret (pe_tup (pa_cons (pe_call G__law_value (hr.mono (by decide)) rfl D__law_value.g D__law_value.F.kp D__law_value.b .nil pass00 (pa_cons (pe_slice sl_list (pv 0) (po_some (pe_z 9)) (po_some (pe_z 13))) pa_nil)) (pa_cons (pe_slice sl_list (pv 0) (po_some (pe_z 13)) po_none) (pa_cons (pv 1) (pa_cons (pv 2) pa_nil)))))))))))), fun F0 => by infer_instance, fun F0 as S h => ?_⟩)
  obtain ⟨us, rfl, hl, hb, hS⟩ := h
  have sl := sizeLine_eq
  have la := LI_len us
  by_cases h9 : us.length < 9
  · refine brD (fun c1 => brT ?_) fun c1 => absurd (by rw [la]; omega) c1
    have e : rdU us = .none := by unfold rdU; rw [if_pos (.inl h9)]
    rw [e] at hS
    exact hS
  obtain ⟨u, r, rfl⟩ : ∃ u r, us = u :: r := by
    cases us with
    | nil => exact absurd (by simp) h9
    | cons u r => exact ⟨u, r, rfl⟩
  refine brX (by rw [la]; exact fun z => h9 (by omega)) ⟨.int u, (show atI (LI (u :: r)) ((0 : Nat) : Int) = some (.int u) from D_atN rfl), ?_⟩
  refine brD (fun c2 => ?_) fun c2 => ?_
  · have c2 : 1 < u := c2
    have e : rdU (u :: r) = .none := by unfold rdU; rw [if_pos (.inr c2)]
    rw [e] at hS
    exact hS
  · have c2 : ¬ 1 < u := c2
    refine num_go 1 5 rfl rfl (by decide) hb (by rw [List.length_take, List.length_drop]; omega) ?_
    refine num_go 5 9 rfl rfl (by decide) hb (by rw [List.length_take, List.length_drop]; omega) ?_
    refine ⟨.int u, (show atI (LI (u :: r)) ((0 : Nat) : Int) = some (.int u) from D_atN rfl), brD (fun c3 => ?_) fun c3 => ?_⟩
    · have c3 : (u :: r).getD 0 0 = 0 := c3
      refine brD (fun c4 => ?_) fun c4 => ?_
      · have e : rdU (u :: r) = .none := by unfold rdU; rw [if_neg (by rintro (h | h); exact h9 h; exact c2 h), if_pos c3, if_pos (by rw [la] at c4; omega)]
        rw [e] at hS
        exact hS
      · have e : rdU (u :: r) = .tuple [.none, .none, .int (numA (u :: r) 1 5), .int (numA (u :: r) 5 9)] := by unfold rdU; rw [if_neg (by rintro (h | h); exact h9 h; exact c2 h), if_pos c3, if_neg (by rw [la] at c4; omega)]
        rw [e] at hS
        exact ⟨(show 4 ≤ sizeLine by omega), hS⟩
    · have c3 : ¬ (u :: r).getD 0 0 = 0 := c3
      refine brD (fun c4 => ?_) fun c4 => ?_
      · have e : rdU (u :: r) = .none := by unfold rdU; rw [if_neg (by rintro (h | h); exact h9 h; exact c2 h), if_neg c3, if_pos (by rw [la] at c4; omega)]
        rw [e] at hS
        exact hS
      · have h13 : 13 ≤ (u :: r).length := by rw [la] at c4; omega
        have e : rdU (u :: r) = .tuple [.int (numA (u :: r) 9 13), .list (LI ((u :: r).drop 13)), .int (numA (u :: r) 1 5), .int (numA (u :: r) 5 9)] := by unfold rdU; rw [if_neg (by rintro (h | h); exact h9 h; exact c2 h), if_neg c3, if_neg (by omega)]
        refine num_go 9 13 rfl rfl (by decide) hb (by rw [List.length_take, List.length_drop]; omega) ?_
        refine ⟨(show 4 ≤ sizeLine by omega), ?_⟩
        rw [e] at hS
        show S (.ok (.val (.tuple [.int _, .list (cutD (LI (u :: r)) (some ((13 : Nat) : Int)) none), .int _, .int _])))
        rw [cutD_from, LI_drop]
        exact hS
theorem ok_write_packet {f f__bytes_of : Addr} {fd fd__bytes_of : FuncData} (D : Df K mg "write_packet" ["packet"] s_write_packet f fd) (B : Bl mg)
    (D__bytes_of : Df K mg "_bytes_of" ["number"] s__bytes_of f__bytes_of fd__bytes_of) (G__bytes_of : FnOk P w K mg base CX0 1 f__bytes_of fd__bytes_of ["number"] (spF rcBy)) : FnOk P w K mg base CX0 3 f fd ["packet"] (spF rcWr) := by
  refine okF D.F sc_write_packet (fun F as S h => by obtain ⟨o, a, m, rfl, _⟩ := h; rfl) (fun cdv A outer s H E hr => ⟨_, _, (pss_cons (ps_asg (pv 0) (pg_tup rfl (pgs_cons (pg_name (i := 1) sc_write_packet.nd rfl (Or.inl rfl) (Or.inr rfl)) (pgs_cons (pg_name (i := 2) sc_write_packet.nd rfl (Or.inl rfl) (Or.inr rfl)) (pgs_cons (pg_name (i := 3) sc_write_packet.nd rfl (Or.inl rfl) (Or.inr rfl)) (pgs_cons (pg_name (i := 4) sc_write_packet.nd rfl (Or.inl rfl) (Or.inr rfl)) pgs_nil))))))
      (pss_cons (ps_set (i := 5) sc_write_packet.nd rfl (Or.inl rfl) (pe_op op_cat (pe_call G__bytes_of (hr.mono (by decide)) rfl D__bytes_of.g D__bytes_of.F.kp D__bytes_of.b .nil pass00 (pa_cons (pv 3) pa_nil)) (pe_call G__bytes_of (hr.mono (by decide)) rfl D__bytes_of.g D__bytes_of.F.kp D__bytes_of.b .nil pass00 (pa_cons (pv 4) pa_nil))))
      (pss_cons (ps_if (pt_cmpR op_isN (pv 1) pe_non (nomark _)) (pss_one (ps_ret (pe_op op_cat (pe_lst (pa_cons (pe_z 0) pa_nil)) (pv 5)))) pss_nil)
      (pss_one (ps_ret (pe_op op_cat (pe_op op_cat (pe_op op_cat (pe_lst (pa_cons (pe_z 1) pa_nil)) (pv 5)) (pe_call G__bytes_of (hr.mono (by decide)) rfl D__bytes_of.g D__bytes_of.F.kp D__bytes_of.b .nil pass00 (pa_cons (pv 1) pa_nil))) (pv 2))))))), fun F0 => by infer_instance, fun F0 as S h => ?_⟩)
  obtain ⟨o, a, m, rfl, ha, hm, ho, hS⟩ := h
  have sl := sizeLine_eq
  have l1 := byN_len a
  have l2 := byN_len m
  cases o with
  | none =>
    refine ⟨rfl, ?_⟩
    refine by_go ha (by_go hm ?_)
    refine ⟨by rw [LI_len, LI_len, l1, l2]; omega, .inl ?_⟩
    refine brT ⟨(show 1 ≤ sizeLine by omega), ?_⟩
    have e : LI (wrL none a m) = [PyData.int 0] ++ (LI (byN a) ++ LI (byN m)) := by simp [LI, wrL]
    rw [e] at hS
    exact ⟨by simp only [List.length_append, List.length_singleton, LI_len, l1, l2]; omega, hS⟩
  | some nd =>
    obtain ⟨n, ds⟩ := nd
    obtain ⟨hn, hd⟩ := ho n ds rfl
    have l3 := byN_len n
    refine ⟨rfl, ?_⟩
    refine by_go ha (by_go hm ?_)
    refine ⟨by rw [LI_len, LI_len, l1, l2]; omega, .inl ?_⟩
    refine brF ⟨(show 1 ≤ sizeLine by omega), ?_⟩
    refine ⟨by simp only [List.length_append, List.length_singleton, LI_len, l1, l2]; omega, by_go hn ?_⟩
    refine ⟨by simp only [List.length_append, List.length_singleton, LI_len, l1, l2, l3]; omega, ?_⟩
    have e : LI (wrL (some (n, ds)) a m) = [PyData.int 1] ++ (LI (byN a) ++ LI (byN m)) ++ LI (byN n) ++ LI ds := by simp [LI, wrL]
    rw [e] at hS
    exact ⟨by simp only [List.length_append, List.length_singleton, LI_len, l1, l2, l3]; omega, hS⟩
end
end K60
/-! Data: statements beside a region that changes. -/
/-! Data: expressions beside a region that changes. -/
namespace DL
open PySem PySem.Spec PyProof.Rows L2 NB
abbrev RDX (γ : Type) := γ → SD → (γ → SV → Prop) → Prop
/-- an expression, which may move the region on -/
structure DER {γ : Type} (R : Reg γ) (F0 Hb : Hp) (t : TE) (g : RDX γ) : Prop where
  run : ∀ (Z T : Zt) (H : Hp) (c : γ) (P : γ → SV → Prop) (Q : VK), (∀ p ∈ Z ++ T, NoEnt p) → (∃ fp F, StR R F0 Hb fp F H (Z ++ T) c) → g c (Z.map Prod.snd) P →
    (∀ c' sv, P c' sv → sv.isEnt = false → ∀ v H', (∃ fp F, StR R F0 Hb fp F H' (Z ++ (T ++ [(some v, some sv)])) c') → Q v H') → t (Z.map Prod.fst) H Q
section
variable {γ : Type} {R : Reg γ} {F0 Hb : Hp} {K : PySem.W.Frag}
theorem DER.lift {t : TE} {f : DX} (h : ∀ H0, DE F0 H0 t f) : DER R F0 Hb t (fun c σ P => f σ fun sv => sv.isEnt = false ∧ P c sv) where
  run Z T H c P Q ne s hg k := by
    obtain ⟨fp, F, s⟩ := s
    exact (h (rg Hb fp H)).run Z T H _ _ ⟨F, s.rep⟩ hg fun sv hs v H' ⟨F', r'⟩ => k c sv hs.2 hs.1 v H' ⟨fp, F', s.stay r'⟩
theorem NoEnt.snoc {W : Zt} {v : V} {sv : SV} (h : ∀ p ∈ W, NoEnt p) (e : sv.isEnt = false) : ∀ p ∈ W ++ [(some v, some sv)], NoEnt p := fun p hp => by
  rcases List.mem_append.mp hp with z | z
  · exact h p z
  · exact noent_of e p z
theorem DER.op {ta tb : TE} {r : R2} {o : SV → SV → (SV → Prop) → Prop} {ga gb : RDX γ} (ha : DER R F0 Hb ta ga) (hb : DER R F0 Hb tb gb) (ho : ∀ H0, OpD F0 H0 r o) : DER R F0 Hb (tOp r ta tb) (fun c σ P => ga c σ fun c1 x => gb c1 σ fun c2 y => o x y fun z => z.isEnt = false ∧ P c2 z) where
  run Z T H c P Q ne s hg k := ha.run Z T H c _ _ ne s hg fun c1 x hx ex v H1 s1 => by
    have ne1 : ∀ p ∈ Z ++ (T ++ [(some v, some x)]), NoEnt p := by rw [← List.append_assoc]; exact NoEnt.snoc ne ex
    refine hb.run Z (T ++ [(some v, some x)]) H1 c1 _ _ ne1 s1 hx fun c2 y hy ey w H2 s2 => ?_
    obtain ⟨fp, F, s2⟩ := s2
    have e : Z ++ (T ++ [(some v, some x)] ++ [(some w, some y)]) = (Z ++ T) ++ [(some v, some x), (some w, some y)] := by simp
    have r2 := s2.rep
    rw [e] at r2
    refine (ho (rg Hb fp H2)).run (Z ++ T) v w x y H2 _ _ ⟨F, r2⟩ hy fun z hz u H3 ⟨F3, r3⟩ => k c2 z hz.2 hz.1 u H3 ⟨fp, F3, ?_⟩
    rw [List.append_assoc] at r3
    exact s2.stay r3
/-- x = e -/
def rSet (i : Nat) (g : RDX γ) : RX γ := fun E c σ => (∀ o ∈ σ, ∀ es, o ≠ some (.ent es)) ∧ g c σ fun c' sv => match sv with
  | .own ds => E.nx c' (σ.set i (some (.own ds)))
  | .ali _ => False
  | sv => E.nx c' (σ.set i (some sv))
theorem DSR.set {te : TE} {g : RDX γ} {i : Nat} (he : DER R F0 Hb te g) : DSR R F0 Hb (tAsg te (gName i)) (rSet i g) where
  run Z T H c E D hT s hg l := by
    obtain ⟨hne, hg⟩ := hg
    obtain ⟨s, na⟩ := s
    have ne : ∀ p ∈ Z ++ T, NoEnt p := fun p hp => by
      rcases List.mem_append.mp hp with z | z
      · exact hne p.2 (List.mem_map.mpr ⟨p, z, rfl⟩)
      · exact hT p z
    refine he.run Z T H c _ _ ne s hg fun c' sv hs es v H' s' => ?_
    obtain ⟨fp, F, s'⟩ := s'
    have put : (∀ es, sv ≠ .ali es) → StN R F0 Hb H' (Z.set i (some v, some sv) ++ T) c' := fun nal => by
      obtain ⟨⟨F2, r2⟩, n2⟩ := store_S (i := i) ⟨F, s'.rep⟩ na nal
      exact ⟨⟨fp, F2, s'.stay r2⟩, n2⟩
    have fin : (∀ es, sv ≠ .ali es) → E.nx c' ((Z.map Prod.snd).set i (some sv)) → D.nx ((Z.map Prod.fst).set i (some v)) H' := fun nal h => by
      have := l.nx _ _ c' (put nal) (by rw [map_set_snd]; exact h)
      rw [map_set_fst] at this
      exact this
    show D.nx ((Z.map Prod.fst).set i (some v)) H'
    cases sv with
    | val d => exact fin (fun _ e => nomatch e) hs
    | own d => exact fin (fun _ e => nomatch e) hs
    | raw u => exact fin (fun _ e => nomatch e) hs
    | ali d => exact hs.elim
    | ent d => cases es
/-- a test, which may move the region on -/
structure DTR (R : Reg γ) (F0 Hb : Hp) (t : TT) (g : γ → SD → (γ → Bool → Prop) → Prop) : Prop where
  run : ∀ (Z T : Zt) (H : Hp) (c : γ) (P : γ → Bool → Prop) (Q : Bool → Hp → Prop), (∀ p ∈ Z ++ T, NoEnt p) → (∃ fp F, StR R F0 Hb fp F H (Z ++ T) c) → g c (Z.map Prod.snd) P →
    (∀ c' b, P c' b → ∀ H', (∃ fp F, StR R F0 Hb fp F H' (Z ++ T) c') → Q b H') → t (Z.map Prod.fst) H Q
theorem DTR.of {t : TE} {g : RDX γ} (h : DER R F0 Hb t g) : DTR R F0 Hb (tTest t) (fun c σ P => g c σ fun c' x => match x.bool? with | some b => P c' b | none => False) where
  run Z T H c P Q ne s hg k := h.run Z T H c _ _ ne s hg fun c' x hx ex v H' ⟨fp, F, s'⟩ => by
    cases e : x.bool? with
    | none => rw [e] at hx; exact hx.elim
    | some b =>
      rw [e] at hx
      have r1 := s'.rep
      rw [← List.append_assoc] at r1
      obtain ⟨u, e1, rv⟩ := r1.ok (some v, some x) (List.mem_append_right _ (List.mem_singleton.mpr rfl)) _ rfl
      cases e1
      exact ⟨b, rv.bool e, k c' b hx H' ⟨fp, F, s'.stay r1.left⟩⟩
theorem DTR.lift {t : TT} {f : DTX} (h : ∀ H0, DT F0 H0 t f) : DTR R F0 Hb t (fun c σ P => f σ (P c)) where
  run Z T H c P Q ne s hg k := by
    obtain ⟨fp, F, s⟩ := s
    exact (h (rg Hb fp H)).run Z T H _ _ ⟨F, s.rep⟩ hg fun b hb H' ⟨F', r'⟩ => k c b hb H' ⟨fp, F', s.stay r'⟩
theorem DTR.or {t u : TT} {f g} (h1 : DTR R F0 Hb t f) (h2 : DTR R F0 Hb u g) : DTR R F0 Hb (tOr t u) (fun c σ P => f c σ fun c' b => Br b (P c' true) (g c' σ P)) where
  run Z T H c P Q ne s hg k := h1.run Z T H c _ _ ne s hg fun c' b hb H' s' => by
    cases b with
    | true => exact iteT (k c' true hb.t H' s')
    | false => exact iteF (h2.run Z T H' c' P Q ne s' hb.f k)
/-- if test: .. -/
def rIfR (f : γ → SD → (γ → Bool → Prop) → Prop) (g1 g2 : RX γ) : RX γ := fun E c σ => (∀ o ∈ σ, ∀ es, o ≠ some (.ent es)) ∧ f c σ fun c' b => Br b (g1 E c' σ) (g2 E c' σ)
theorem DSR.ifR {cd : TT} {t u : TS} {f} {g1 g2 : RX γ} (hc : DTR R F0 Hb cd f) (h1 : DSR R F0 Hb t g1) (h2 : DSR R F0 Hb u g2) : DSR R F0 Hb (tIfS cd t u) (rIfR f g1 g2) where
  run Z T H c E D hT s hg l := by
    obtain ⟨hne, hg⟩ := hg
    obtain ⟨s, na⟩ := s
    have ne : ∀ p ∈ Z ++ T, NoEnt p := fun p hp => by
      rcases List.mem_append.mp hp with z | z
      · exact hne p.2 (List.mem_map.mpr ⟨p, z, rfl⟩)
      · exact hT p z
    exact hc.run Z T H c _ _ ne s hg fun c' b hb H' s' => by
      cases b with
      | true => exact iteT (h1.run Z T H' c' E D hT ⟨s', na⟩ hb.t l)
      | false => exact iteF (h2.run Z T H' c' E D hT ⟨s', na⟩ hb.f l)
end
end DL
/-! Data: arguments beside a region, return, defs that get a region. -/
namespace DL
open PySem PySem.Spec PyProof.Rows L2 NB
def NoEo (o : Option SV) : Prop := ∀ es, o ≠ some (.ent es)
def NoE (σ : SD) : Prop := ∀ o ∈ σ, ∀ es, o ≠ some (.ent es)
theorem NoE_cons {a : Option SV} {σ : SD} (h : NoEo a) (k : NoE σ) : NoE (a :: σ) := fun o ho => by
  rcases List.mem_cons.mp ho with z | z
  · exact z ▸ h
  · exact k o z
theorem NoE_nil : NoE [] := fun o ho => absurd ho List.not_mem_nil
theorem NoE.all {Z T : Zt} (h : NoE (Z.map Prod.snd)) (hT : ∀ p ∈ T, NoEnt p) : ∀ p ∈ Z ++ T, NoEnt p := fun p hp => by
  rcases List.mem_append.mp hp with z | z
  · exact h p.2 (List.mem_map.mpr ⟨p, z, rfl⟩)
  · exact hT p z
theorem share3 {A S E : Prop} (h : E) (a : A) (k : E → S) : A ∧ S ∧ E := ⟨a, k h, h⟩
section
variable {γ : Type} {R : Reg γ} {F0 Hb F H : Hp} {K : PySem.W.Frag} {W : Zt} {c : γ} {fp : List Addr}
theorem lowR_set {Z T : Zt} {E : REnds γ} {D : Ends} {i : Nat} {v : V} {sv : SV} (l : LowR R F0 Hb T E D) (r : StN R F0 Hb H (Z.set i (some v, some sv) ++ T) c) (h : E.nx c ((Z.map Prod.snd).set i (some sv))) : D.nx ((Z.map Prod.fst).set i (some v)) H := by
  have := l.nx _ _ c r (by rw [map_set_snd]; exact h)
  rw [map_set_fst] at this
  exact this
/-- an expression that may look at the region -/
theorem DER.liftR {t : TE} {f : γ → DX} (h : ∀ (fp : List Addr) (F H : Hp) (W : Zt) (c : γ), StR R F0 Hb fp F H W c → DE F0 (rg Hb fp H) t (f c)) : DER R F0 Hb t (fun c σ P => f c σ fun sv => sv.isEnt = false ∧ P c sv) where
  run Z T H c P Q ne s hg k := by
    obtain ⟨fp, F, s⟩ := s
    exact (h fp F H _ c s).run Z T H _ _ ⟨F, s.rep⟩ hg fun sv hs v H' ⟨F', r'⟩ => k c sv hs.2 hs.1 v H' ⟨fp, F', s.stay r'⟩
theorem DTR.liftR {t : TT} {f : γ → DTX} (h : ∀ (fp : List Addr) (F H : Hp) (W : Zt) (c : γ), StR R F0 Hb fp F H W c → DT F0 (rg Hb fp H) t (f c)) : DTR R F0 Hb t (fun c σ P => f c σ (P c)) where
  run Z T H c P Q ne s hg k := by
    obtain ⟨fp, F, s⟩ := s
    exact (h fp F H _ c s).run Z T H _ _ ⟨F, s.rep⟩ hg fun b hb H' ⟨F', r'⟩ => k c b hb H' ⟨fp, F', s.stay r'⟩
theorem DTR.not {t : TT} {f} (h : DTR R F0 Hb t f) : DTR R F0 Hb (tNot t) (fun c σ P => f c σ fun c' b => P c' (!b)) where
  run Z T H c P Q ne s hg k := h.run Z T H c _ _ ne s hg fun c' b hb H' s' => k c' _ hb H' s'
theorem DTR.and {t u : TT} {f g} (h1 : DTR R F0 Hb t f) (h2 : DTR R F0 Hb u g) : DTR R F0 Hb (tAnd t u) (fun c σ P => f c σ fun c' b => Br b (g c' σ P) (P c' false)) where
  run Z T H c P Q ne s hg k := h1.run Z T H c _ _ ne s hg fun c' b hb H' s' => by
    cases b with
    | true => exact iteT (h2.run Z T H' c' P Q ne s' hb.t k)
    | false => exact iteF (k c' false hb.f H' s')
/-- a statement that may look at the region -/
theorem DSR.liftR {t : TS} {g : γ → DSX} (h : ∀ (fp : List Addr) (F H : Hp) (W : Zt) (c : γ), StR R F0 Hb fp F H W c → DS F0 (rg Hb fp H) t (g c)) : DSR R F0 Hb t (fun E c σ => rLift (g c) E c σ) where
  run Z T H c E D hT s hg l := by
    obtain ⟨⟨fp, F, s⟩, na⟩ := s
    exact (h fp F H _ c s).run Z T H _ D ⟨⟨F, s.rep⟩, na⟩ hg ⟨fun Z' H' ⟨⟨F', r'⟩, na'⟩ h' => l.nx Z' H' c ⟨⟨fp, F', s.stay r'⟩, na'⟩ h', fun Z' H' ⟨⟨F', r'⟩, na'⟩ h' => l.bk Z' H' c ⟨⟨fp, F', s.stay r'⟩, na'⟩ h', fun Z' H' ⟨⟨F', r'⟩, na'⟩ h' => l.ct Z' H' c ⟨⟨fp, F', s.stay r'⟩, na'⟩ h', fun sv v H' h' ⟨F', r'⟩ => l.rt sv v H' c h' ⟨fp, F', s.stay r'⟩⟩
/-- arguments, which may move the region on -/
abbrev RDAX (γ : Type) := γ → SD → (γ → List SV → Prop) → Prop
structure DAR (R : Reg γ) (F0 Hb : Hp) (t : TA) (g : RDAX γ) : Prop where
  run : ∀ (Z T : Zt) (H : Hp) (c : γ) (P : γ → List SV → Prop) (Q : List V → Hp → Prop), (∀ p ∈ Z ++ T, NoEnt p) → (∃ fp F, StR R F0 Hb fp F H (Z ++ T) c) → g c (Z.map Prod.snd) P →
    (∀ c' (A : List (V × SV)), P c' (A.map Prod.snd) → (∀ s ∈ A.map Prod.snd, s.isEnt = false) → ∀ H', (∃ fp F, StR R F0 Hb fp F H' (Z ++ (T ++ A.map pr)) c') → Q (A.map Prod.fst) H') → t (Z.map Prod.fst) H Q
theorem DAR.nil : DAR R F0 Hb tNil (fun c _ P => P c []) where
  run Z T H c P Q ne s hg k := k c [] hg (fun s hs => absurd hs List.not_mem_nil) H (by simpa using s)
theorem DAR.cons {ta : TE} {tr : TA} {fa : RDX γ} {fr : RDAX γ} (ha : DER R F0 Hb ta fa) (hb : DAR R F0 Hb tr fr) : DAR R F0 Hb (tCons ta tr) (fun c σ P => fa c σ fun c1 x => fr c1 σ fun c2 xs => P c2 (x :: xs)) where
  run Z T H c P Q ne s hg k := ha.run Z T H c _ _ ne s hg fun c1 x hx ex vx H1 s1 => by
    have ne1 : ∀ p ∈ Z ++ (T ++ [(some vx, some x)]), NoEnt p := by rw [← List.append_assoc]; exact NoEnt.snoc ne ex
    exact hb.run Z _ H1 c1 _ _ ne1 s1 hx fun c2 A hA eA H2 s2 => k c2 ((vx, x) :: A) hA (fun s hs => by
      rcases List.mem_cons.mp hs with z | z
      · rw [z]; exact ex
      · exact eA s z) H2 (by
      obtain ⟨fp, F, s2⟩ := s2
      refine ⟨fp, F, ?_⟩
      simpa [pr] using s2)
/-- return e -/
theorem DSR.ret {te : TE} {g : RDX γ} (he : DER R F0 Hb te g) : DSR R F0 Hb (tRet te) (fun E c σ => NoE σ ∧ g c σ fun c' sv => E.rt c' sv) where
  run Z T H c E D hT s hg l := by
    obtain ⟨hne, hg⟩ := hg
    obtain ⟨s, na⟩ := s
    exact he.run Z T H c _ _ (hne.all hT) s hg fun c' sv hs es v H' ⟨fp, F, s'⟩ => l.rt sv v H' c' hs ⟨fp, F, s'.stay (s'.rep.sub ((List.sublist_append_right _ _).trans (List.sublist_append_right _ _)))⟩
/-- a list that is told stands apart from the region -/
theorem StR.awayE (s : StR R F0 Hb fp F H W c) {v : V} {sv : SV} {ds : List PyData} (hp : (some v, some sv) ∈ W) (ne : sv.isEnt = false) (e : sv.items? = some ds) : ∃ a vs, v = .ref a ∧ H a = some (.lst vs) ∧ DvAll F vs ds ∧ a ∉ fp := by
  obtain ⟨u, e1, rv⟩ := s.rep.ok _ hp _ rfl
  cases e1
  obtain ⟨a, vs, rfl, ha, hd⟩ := rv.items s.rep.low e
  refine ⟨a, vs, rfl, ha, hd, fun z => ?_⟩
  have nF : F a = none := s.rep.apart a (s.nf a z) (by rw [rg_in z]; exact R.has s.reg z)
  cases sv with
  | val d =>
    have rv : Dv F (.ref a) d := rv
    cases d <;> simp only [SV.items?] at e <;> try cases e
    cases rv with
    | lst h _ => rw [nF] at h; cases h
  | own es =>
    obtain ⟨b, ws, q1, q2, q3, q4, q5⟩ := rv
    cases q1
    rw [rg_in z] at q3; exact R.has s.reg z q3
  | ali es =>
    obtain ⟨b, ws, q1, q3, q4, q5⟩ := rv
    cases q1
    rw [rg_in z] at q3; exact R.has s.reg z q3
  | ent es => cases ne
  | raw u => simp only [SV.items?] at e; cases e
/-- the heap without a region -/
def cutH (H : Hp) (fp : List Addr) : Hp := fun b => if b ∈ fp then none else H b
theorem rg_cut (H : Hp) (fp : List Addr) : rg (cutH H fp) fp H = H := funext fun b => by
  by_cases z : b ∈ fp
  · rw [rg_in z]
  · rw [rg_out z]; exact if_neg z
/-- a def that gets a region, and gives True -/
def spR (R : Reg γ) (RCR : γ → List SV → Prop) : Sp := fun vs H Q _ => ∃ (c : γ) (fp : List Addr) (F : Hp) (A : List (V × SV)), vs = A.map Prod.fst ∧ StR R F (cutH H fp) fp F H (A.map pr) c ∧ (∀ s ∈ A.map Prod.snd, s.isAli = false ∧ s.isEnt = false) ∧ RCR c (A.map Prod.snd) ∧ ∀ H', Frm fp H H' → Q (.bl true) H'
variable {P : Program} {w : World} {mg : Str → Option Value} {base : Heap}
theorem okFR {x qual : Str} {st : Stmt} {f : Addr} {fd : FuncData} {N ps : List Str} {k : Nat} {RCR : γ → List SV → Prop} (Fu : Fun K x qual st f fd) (S : FnScope N ps (defScope st)) (hlen : ∀ c as, RCR c as → as.length = ps.length)
    (body : ∀ (cdv : Value) (A : Around) (outer : List Env) (s : Shared) (H : Hp) (E : XK), Room k (A.deeper (envOfC qual (defScope st) s.heap.objs.size f cdv)) →
      ∃ (t : TS) (g : Hp → Hp → RX γ), PSs (cxOf CX0 P w K mg base N qual (defScope st) f cdv A outer s H E).nox (defBody st) t ∧ (∀ F0 Hb, DSR R F0 Hb t (g F0 Hb)) ∧
        ∀ F0 Hb c as, RCR c as → g F0 Hb { nx := fun _ _ => False, rt := fun _ sv => sv = .val (.bool true) } c (as.map some ++ List.replicate (N.length - ps.length) none)) : FnOk P w K mg base CX0 (k + 1) f fd ps (spR R RCR) := by
  refine Fu.ok S (fun vs H Q E h => ?_) (fun cdv A outer s H vs Q E hr h => ?_)
  · obtain ⟨c, fp, F, A, rfl, s, na, hR, hQ⟩ := h
    simpa using hlen _ _ hR
  · obtain ⟨t, g, h1, h2, h3⟩ := body cdv A outer s H E hr
    refine ⟨t, h1, ?_⟩
    obtain ⟨c, fp, F, A, rfl, s, na, hR, hQ⟩ := h
    have hl : A.length = ps.length := by have := hlen c _ hR; simpa using this
    have e1 : (A.map pr ++ List.replicate (N.length - ps.length) ((none : Option V), (none : Option SV))).map Prod.fst = L2.start N (A.map Prod.fst) := by
      unfold L2.start
      rw [List.map_append, List.map_map, List.map_replicate, List.length_map, hl, List.map_map]; rfl
    have e2 : (A.map pr ++ List.replicate (N.length - ps.length) ((none : Option V), (none : Option SV))).map Prod.snd = (A.map Prod.snd).map some ++ List.replicate (N.length - ps.length) none := by
      rw [List.map_append, List.map_map, List.map_map, List.map_replicate]; rfl
    have r := s.rep
    have rep : Rep F (rg (cutH H fp) fp H) F H (A.map pr ++ List.replicate (N.length - ps.length) ((none : Option V), (none : Option SV))) := by
      refine ⟨r.base, r.low, r.ent, r.apart, fun p hp => ?_, ?_⟩
      · rcases List.mem_append.mp hp with z | z
        · exact r.ok p z
        · rw [List.mem_replicate] at z
          rw [z.2]; intro sv e; cases e
      · rw [List.pairwise_append]
        refine ⟨r.dist, List.pairwise_replicate.mpr (.inr fun a es fs e => by cases e), fun p hp q hq a es fs _ _ e => ?_⟩
        rw [List.mem_replicate] at hq
        rw [hq.2] at e; cases e
    have noali : ∀ p ∈ A.map pr ++ List.replicate (N.length - ps.length) ((none : Option V), (none : Option SV)), NoAli p := fun p hp es e => by
      rcases List.mem_append.mp hp with z | z
      · obtain ⟨q, hq, rfl⟩ := List.mem_map.mp z
        have := (na q.2 (List.mem_map.mpr ⟨q, hq, rfl⟩)).1
        rw [Option.some.inj e] at this; cases this
      · rw [List.mem_replicate] at z
        rw [z.2] at e; cases e
    have := (h2 F (cutH H fp)).run _ [] H c { nx := fun _ _ => False, rt := fun _ sv => sv = .val (.bool true) } { nx := fun _ H' => Q .non H', rt := Q } (fun p hp => absurd hp List.not_mem_nil) ⟨⟨fp, F, by rw [List.append_nil]; exact s.stay rep⟩, by rw [List.append_nil]; exact noali⟩ (by rw [e2]; exact h3 F _ c _ hR) ⟨fun _ _ _ _ h => h.elim, fun _ _ _ _ h => h.elim, fun _ _ _ _ h => h.elim, fun sv v H' c' h' ⟨fp', F', s'⟩ => by
      subst h'
      obtain ⟨u, e, rv⟩ := s'.rep.ok _ (List.mem_singleton.mpr rfl) _ rfl
      cases e
      cases rv
      refine hQ H' fun b o eb nb => ?_
      have ec : cutH H fp b = some o := by unfold cutH; rw [if_neg nb]; exact eb
      by_cases z : b ∈ fp'
      · rw [s'.nb b z] at ec; cases ec
      · exact s'.rep.ent b o (by rw [rg_out z]; exact ec)⟩
    rw [e1] at this
    exact this
/-- a call that takes the region with it -/
theorem DTR.call {RCR : γ → List SV → Prop} {ta : TA} {fa : DAX} {c0 : γ} (h0 : ∀ H, R.at_ c0 H []) (ha : ∀ H0, DA F0 H0 ta fa) : DTR R F0 Hb (tTest (tCall (spR R RCR) [] (fun _ _ _ => False) ta)) (fun c σ P => fa σ fun as => (∀ s ∈ as, s.isEnt = false) ∧ (∃ c1, (∀ H fp, R.at_ c H fp → R.at_ c1 H fp) ∧ RCR c1 (as.map SV.frz)) ∧ P c0 true) where
  run Z T H c P Q ne s hg k := by
    obtain ⟨fp, F, s⟩ := s
    refine (ha (rg Hb fp H)).run Z T H _ _ ⟨F, s.rep⟩ hg fun A h1 H1 ⟨F1, r1⟩ => ?_
    obtain ⟨hE, ⟨c1, hw, hR⟩, hP⟩ := h1
    have s1 := s.stay r1
    have r2 : Rep F0 (rg Hb fp H1) F1 H1 ((Z ++ T) ++ A.map pr) := by rw [List.append_assoc]; exact s1.rep
    obtain ⟨k1, k2⟩ := keepArgs_at F1 H1 r2.low A
    show spR R RCR (A.map Prod.fst ++ []) H1 _ _
    rw [List.append_nil]
    refine ⟨c1, fp, keepArgs F1 H1 A, A.map (fun p => (p.1, p.2.frz)), by simp, ⟨hw _ _ s1.reg, fun a ha => if_pos ha, fun a ha => ?_, by rw [rg_cut]; exact args_ok r2⟩, fun s' hs' => ?_, by simpa [Function.comp_def] using hR, fun H' fr => ⟨true, rfl, k c0 true hP H' ⟨[], _, (s1.stay (W' := Z ++ T) r2.left).step (H' := H') (fp' := []) (c' := c0) [] ne fr (h0 H') (fun a ha => absurd ha List.not_mem_nil) fun b hb => absurd hb List.not_mem_nil⟩⟩⟩
    · have nF : F1 a = none := s1.rep.apart a (s1.nf a ha) (by rw [rg_in ha]; exact R.has s1.reg ha)
      by_cases z : keepArgs F1 H1 A a = F1 a
      · rw [z]; exact nF
      · obtain ⟨sv', hm, q⟩ := keepArgs_sub F1 H1 A a z
        obtain ⟨w', e3, rr⟩ := r2.ok (some (.ref a), some sv') (List.mem_append_right _ (List.mem_map.mpr ⟨_, hm, rfl⟩)) _ rfl
        cases e3
        exfalso
        rcases q with ⟨es, rfl⟩ | ⟨es, rfl⟩
        · obtain ⟨d, vs, e4, _, e6, _, _⟩ := rr
          cases e4
          rw [rg_in ha] at e6; exact R.has s1.reg ha e6
        · obtain ⟨d, vs, e4, e6, _, _⟩ := rr
          cases e4
          rw [rg_in ha] at e6; exact R.has s1.reg ha e6
    · obtain ⟨q, hq, rfl⟩ := List.mem_map.mp hs'
      obtain ⟨p, hp, rfl⟩ := List.mem_map.mp hq
      have := hE p.2 (List.mem_map.mpr ⟨p, hp, rfl⟩)
      obtain ⟨v, s0⟩ := p
      cases s0 <;> first | exact ⟨rfl, rfl⟩ | cases this
end
end DL
/-! all(test for x in e) over a list of numbers; the test may look at a name of the def. -/
namespace DL
open PySem PySem.Spec PyProof.Rows L2 GxR
/-- where the test may stand: in the generator's own scope, which sees the def's cells cl; at cc stands b -/
structure TestAt (scope : Scope) (x : Str) (cl : List (Str × Addr)) (cc : Addr) (b z : Int) (cenv : Env) (s : Shared) : Prop where
  sc : cenv.scope = scope
  ce : cenv.cells = cl
  var : ∃ (m : Str → Option Value) (t : Tok), s.heap.Ns cenv.locals m ∧ m x = some (.int z t)
  at_ : ∃ t : Tok, s.heap.IsCell cc (some (.int b t))
/-- the test answers tb z -/
def Tests (P : Program) (w : World) (scope : Scope) (x : Str) (e : Expr) (cl : List (Str × Addr)) (cc : Addr) (b : Int) (tb : Int → Bool) : Prop :=
  ∀ (A : Around) (cenv : Env) (z : Int) (s : Shared) (E : Value → Shared → Prop), TestAt scope x cl cc b z cenv s → wpAny (model P w) A (eval e cenv) (fun y s' => y = .bool (tb z) ∧ Keeps s s') E s
theorem tests_between {P : Program} {w : World} {scope : Scope} {x y : Str} {i : Int} {j : Nat} {q1 q2 q3 q4 : Pos} {cl : List (Str × Addr)} {cc : Addr} {b : Int} (fn : scope.kind = .function) (own : scope.names.lookup x = some .local) (seen : scope.names.lookup y = some .free) (at_ : cl.lookup y = some cc)
    (marks : lastMarks [.LtE, .Lt] [.Name x q2, .Name y q3] = false := by with_unfolding_all rfl) (d1 : (x == ("__debug__" : Str)) = false := by decide) (d2 : (y == ("__debug__" : Str)) = false := by decide) (d3 : (y == ("__classdict__" : Str)) = false := by decide) :
    Tests P w scope x (.Compare (.Constant (.int i) j q1) [.LtE, .Lt] [.Name x q2, .Name y q3] q4) cl cc b fun z => decide (i ≤ z) && decide (z < b) := by
  rintro A cenv z s E ⟨rfl, rfl, ⟨m, t, hm, hx⟩, tb, hc⟩
  refine Compare_chain (wpAny_Constant_int (chain_link (wpAny_Name (wpAny_loadName_local fn own hm hx (PySem.P.le_int (wpAny_truthy_bool ?_))) d1))) marks
  cases e : decide (i ≤ z) with
  | false => exact ite_ff ⟨by simp [e], keeps_tok _ _⟩
  | true => exact ite_tt (chain_last (wpAny_Name (wpAny_loadName_free fn seen at_ hc (PySem.P.lt_int ⟨by simp [e], keeps_tok _ _⟩) d3) d2))
/-- the truth at each place -/
def truths (tb : Int → Bool) (us : List Int) (j : Nat) : Bool := ((us[j]?).map tb).getD false
theorem truths_at {tb : Int → Bool} {us : List Int} {j : Nat} {z : Int} (h : us[j]? = some z) : truths tb us j = tb z := by simp [truths, h]
theorem truths_all (tb : Int → Bool) (us : List Int) : (List.range us.length).all (truths tb us) = us.all tb := by
  have e : us.all tb = (List.range us.length).all fun j => truths tb us j := by
    induction us with
    | nil => rfl
    | cons u us ih =>
      rw [List.all_cons, List.length_cons, List.range_succ_eq_map, List.all_cons, List.all_map, ih]
      rfl
  exact e.symm
theorem ints_at {us : List Int} {its : List Value} (h : Vals (us.map V.int) its) {i : Nat} {v : Value} (e : its[i]? = some v) : ∃ (z : Int) (t : Tok), us[i]? = some z ∧ v = .int z t := by
  induction us generalizing its i with
  | nil =>
    cases h
    cases e
  | cons u us ih =>
    cases h with
    | cons r rs =>
      cases i with
      | zero =>
        obtain ⟨t, rfl⟩ := r
        cases e
        exact ⟨u, t, rfl, rfl⟩
      | succ i =>
        obtain ⟨z, t, h1, h2⟩ := ih rs (i := i) (by simpa using e)
        exact ⟨z, t, by simpa using h1, h2⟩
section
variable {X : Cx} {pins : List (Addr × Obj)} {σ : L2.St} {H : Hp} {s : Shared} {c P : Addr}
/-- the code object of a generator expression is found in the table, or put there -/
theorem code_step {env : Env} {gpos : Pos} {qn : Str} {scope : Scope} {A : Around} {pr : Program} {w : World} {h : Heap} {tk : Nat} {ps : Array Value} {Q E : Value → Shared → Prop} (hcode : env.code = .ref c) (cd : PySem.W.CodeHd h c P) (at_ : h.get? P = some { cls := .none, data := .fields ps }) (ok : TriplesOk ps.toList)
    (k : ∀ (code : Value) (h' : Heap) (tk' : Nat) (more : Array Value), Heap.ExtBut P h h' → h.objs.size ≤ h'.objs.size → h'.get? P = some { cls := .none, data := .fields (ps ++ more) } → TriplesOk (ps ++ more).toList → Q code { s with heap := h', toks := tk' }) :
    wpAny (model pr w) A (genexprCode env gpos qn scope) Q E { s with heap := h, toks := tk } := by
  have ic := cd.code at_ ok
  match e : codeAmong gpos ps.toList with
  | some cv => exact wpAny_genexprCode_hit hcode ic e (k cv h tk #[] (Heap.ExtBut.refl _ _) (Nat.le_refl _) (by rw [Array.append_empty]; exact at_) (by rw [Array.append_empty]; exact ok))
  | none =>
    refine wpAny_genexprCodeX hcode ic (cd.tab at_) e fun c2 h2 tk2 ext low below isC rec tab new => k _ h2 tk2 _ ext (Nat.le_trans (show h.objs.size ≤ c2 from low) (Nat.le_of_lt below)) tab.2 ?_
    obtain ⟨_, _, _, _, _, _, _, _, _, _, _, _, _, _, _, _, _, _, _, tr, _⟩ := isC
    exact tr
/-- the built-ins, beside a table that has grown -/
theorem blt_step (TB : TabB X.base X.mg c P) (I : Inv X pins σ H s) {h : Heap} {tk : Nat} {Q : Addr → Shared → Prop} {E : Value → Shared → Prop} {A : Around} (keep : ∀ b o, b ≠ P → s.heap.get? b = some o → h.get? b = some o) (k : Q builtinsNs { s with heap := h, toks := tk }) :
    wpAny (model X.prog X.w) A (builtinsFor X.env.globals X.env.builtins) Q E { s with heap := h, toks := tk } := by
  obtain ⟨bm, ob, n1, n2, n3, n4, n5, n6, n7, n8⟩ := TB.bm
  obtain ⟨go, es, ep, g1, g2, g3⟩ := I.mod.glob.keeps I.bk
  refine wpAny_builtinsFor (m := X.mg) ?_ n1 n2 (keep _ _ n4 (I.bk _ _ n5)) n6 n7 n8 k
  rw [I.ok.glob]
  exact ⟨go, es, ep, keep _ _ TB.gP g1, g2, g3⟩
/-- what a walk over the generator g needs; H1: what was held before -/
structure ReadyZ (X : Cx) (pins : List (Addr × Obj)) (σ : L2.St) (H1 : Hp) (P : Addr) (us : List Int) (tb : Int → Bool) (g : Addr) (s5 : Shared) : Prop where
  ex : ∃ (fp wr : List Addr) (G : Array GenState → Array GenState → Prop) (F : Nat → Value → Prop) (St : Nat → Shared → Prop), WalksS X.prog X.w X.A.in1 g fp wr G us.length F St ∧ St 0 s5 ∧ TruthOf X.prog X.w X.A.in1 F (truths tb us) ∧
    ∀ s', Moved wr G s5 s' → ∃ H2, Tabbed P H1 H2 ∧ Inv X pins σ H2 s'
theorem gen_ints {e iter : Expr} {x : Str} {px gpos : Pos} {scope : Scope} {cc : Addr} {b : Int} {tb : Int → Bool} {te : TE} {k : Nat} {Q' : Value → Shared → Prop} {R : List Int → Hp → Prop}
    (hr : Room k X.A) (TB : TabB X.base X.mg c P) (hcode : X.env.code = .ref c) (S : GenS X.env scope x) (hi : PE X iter te) (hel : Tests X.prog X.w scope x e (cloFrom X.env.cells scope.names []) cc b tb)
    (fold : ∀ v, genFold iter X.env v = pure v) (cell : ∀ H1 s1, Inv X pins σ H1 s1 → ∃ t, s1.heap.IsCell cc (some (.int b t))) (I : Inv X pins σ H s)
    (h : te σ H fun v H1 => ∃ (a : Addr) (us : List Int), v = .ref a ∧ H1 a = some (.lst (us.map V.int)) ∧ TabG H1 P ∧ R us H1)
    (fin : ∀ us H1 g s5, R us H1 → ReadyZ X pins σ H1 P us tb g s5 → Q' (.ref g) s5) :
    wpAny (model X.prog X.w) X.A (eval (.GeneratorExp e [⟨.Name x px, iter, [], 0⟩] scope gpos) X.env) Q' X.xe s := by
  refine wpAny_GeneratorExp_walksQ hr.hd S.co (closure_ok S.free) S.cell S.dot S.loc S.kind (by have := hr.dp; omega) ?_ fold
  refine thn (hi.run pins s σ H _ I h) ?_
  rintro xv s1 ⟨_, H1, I1, rv, a, us, rfl, ha, ⟨ps, hP, ok⟩, hR⟩
  cases rv
  obtain ⟨its, vals, isl, _⟩ := I1.list (SqL.of ha)
  replace isl := isl.isList
  have szI : its.toArray.size = us.length := by rw [List.size_toArray, ← vals.length, List.length_map]
  -- where things stand
  obtain ⟨ol, gl, cl1, cl2⟩ := _root_.id isl
  obtain ⟨tc, oc, gc, dc⟩ := cell H1 s1 I1
  have gP := I1.hok P _ hP
  have nPa : a ≠ P := by
    rintro rfl
    rw [gP] at gl
    cases gl
    cases cl1
  have nPc : cc ≠ P := by
    rintro rfl
    rw [gP] at gc
    cases gc
    cases dc
  have lA := Heap.lt_size gl
  have lP := Heap.lt_size gP
  have lC := Heap.lt_size gc
  obtain ⟨sm, ⟨so, ses, sep, gS, dS, rS⟩, _⟩ := _root_.id I1.nolimit
  have nPs : cStatics ≠ P := by
    intro z
    rw [z, gP] at gS
    cases gS
    cases dS
  have lS := Heap.lt_size gS
  -- the walk over the list begins
  refine wpAny_pyIter_list isl ⟨I1.nolimit.push _, ?_⟩
  generalize hh : s1.heap.push { cls := .type "list_iterator", data := .fields #[.ref a, .int 0 0] } = hI
  have up : ∀ d u, s1.heap.get? d = some u → hI.get? d = some u := fun d u z => hh ▸ Heap.get?_push_of_some _ z
  have szh : hI.objs.size = s1.heap.objs.size + 1 := hh ▸ Heap.size_push ..
  refine code_step (s := s1) (tk := s1.toks) hcode (TB.code.keeps fun d u z => up d u (I1.bk d u z)) (up _ _ gP) ok fun code h3 tk more ext grow gP3 ok3 => ?_
  have l1 : s1.heap.objs.size < h3.objs.size := Nat.lt_of_lt_of_le (szh ▸ Nat.lt_succ_self _) grow
  have up3 : ∀ d u, d ≠ P → s1.heap.get? d = some u → h3.get? d = some u := fun d u n z => ext d u n (up d u z)
  refine blt_step TB I1 up3 ?_
  have W : ∀ A' : Around, A'.handled = none → Walks X.prog X.w A' s1.heap.objs.size [s1.heap.objs.size, a] [s1.heap.objs.size] its.toArray.size (fun i v => its.toArray[i]? = some v) (fun i h => h.IsListIter s1.heap.objs.size a i ∧ h.IsList a its.toArray) := fun _ z => Walks.list z _ _ (Nat.ne_of_lt lA) _
  have isI : hI.get? s1.heap.objs.size = some { cls := .type "list_iterator", data := .fields #[.ref a, .int 0 0] } := hh ▸ Heap.get?_push_size _ rfl
  have only : ∀ d, d ∈ [s1.heap.objs.size, a] → d = s1.heap.objs.size ∨ d = a := fun d z => by simpa using z
  refine ⟨_, _, _, _, _, _, fun _ => true, fun i y => ∃ z, us[i]? = some z ∧ y = .bool (tb z), rfl, W, ⟨⟨_, ext _ _ (Nat.ne_of_gt lP) isI, rfl, rfl⟩, ol, up3 _ _ nPa gl, cl1, cl2⟩, fun d z => ?_, ⟨sm, ⟨so, ses, sep, up3 _ _ nPs gS, dS, rS⟩, by assumption⟩, fun z => absurd (List.mem_singleton.mp z) (Nat.ne_of_lt lS), fun href keep => ⟨fun A' E' i v s2 m2 hA at_ hn hm hk => ?_, fun A' E' i v s2 m2 hA at_ hp hn hm hk => ?_⟩, fun g h5 tk5 gs bare low sz5 keep5 W5 st5 => ?_⟩
  · show d < h3.objs.size
    rcases only d z with rfl | rfl
    · exact l1
    · exact Nat.lt_trans lA l1
  · rw [List.forIn_nil]
    exact wpAny_pure ⟨rfl, keeps_refl _⟩
  · rw [List.getElem?_toArray] at at_
    obtain ⟨z, t, uz, rfl⟩ := ints_at vals at_
    have gc2 := up3 _ _ nPc gc
    have nw : cc ∉ [s1.heap.objs.size] := fun z => absurd (List.mem_singleton.mp z) (Nat.ne_of_lt lC)
    exact wpAny_mono (hel A' _ z s2 E' ⟨rfl, rfl, ⟨m2, t, hn, hm⟩, tc, oc, hk cc (List.mem_range.mpr (Heap.lt_size gc2)) nw oc (keep _ _ gc2), dc⟩) (fun y s3 r => ⟨⟨z, uz, r.1⟩, r.2⟩) fun _ _ z => z
  · rw [GxR.passing_true, List.length_range, szI] at W5
    rw [szI] at st5
    simp only [GxR.passing_true] at W5
    refine fin us H1 g _ hR ⟨_, _, _, _, _, W5.in4_1, st5, fun j y sj Qj Ej yj q => ?_, fun s' mv => ?_⟩
    · obtain ⟨i, ij, z, uz, rfl⟩ := yj
      have ei : i = j := by
        obtain ⟨lt, el⟩ := List.getElem?_eq_some_iff.mp ij
        rw [List.getElem_range] at el
        exact el.symm
      subst ei
      refine wpAny_truthy_bool ?_
      rw [truths_at uz] at q
      exact q
    · have still : ∀ d u, s1.heap.get? d = some u → d ∉ h3.objs.size :: [s1.heap.objs.size] := fun d u z m => by
        have lt := Heap.lt_size z
        simp only [List.mem_cons, List.not_mem_nil, or_false] at m
        rcases m with e | e
        · exact Nat.lt_irrefl _ (Nat.lt_trans (e ▸ lt) l1)
        · exact Nat.lt_irrefl _ (e ▸ lt)
      have J := inv_tab (more := more) (h' := s'.heap) (g' := s'.gens) (d' := s'.drawn) (t' := s'.toks) I1 hP (fun d u n z => mv.heap _ _ (still d u z) (keep5 _ _ (up3 d u n z))) (mv.heap _ _ (still _ _ gP) (keep5 _ _ gP3)) ((I1.bare.push bare).movedS mv)
      exact ⟨_, ⟨⟨_, upd_same, ok3⟩, fun d n => upd_ne n⟩, sh_eta s1 s' mv.os ▸ J⟩
/-- the cell of a name that a slot holds -/
theorem cell_at {i : Nat} {y : Str} {b : Int} (hN : X.N[i]? = some y) (hk : X.env.scope.names.lookup y = some .cell) (hσ : σ[i]? = some (some (.int b))) (I : Inv X pins σ H s) : ∃ cc, X.env.cells.lookup y = some cc ∧ ∃ t, s.heap.IsCell cc (some (.int b t)) := by
  obtain ⟨m, _, all⟩ := I.loc
  obtain ⟨u, ru, look⟩ := all i y _ hN hσ (.inr (.inl hk))
  obtain ⟨t, rfl⟩ := ru
  rcases look with ⟨z, _⟩ | ⟨_, cc, e1, e2⟩
  · exact absurd (hk.symm.trans z) (by simp)
  · exact ⟨cc, e1, t, e2⟩
/-- all(i <= x < y for x in e), e a list of numbers, y (slot n) a number -/
def tAllZ (P : Addr) (n : Nat) (i : Int) (te : TE) : TE := fun σ H Q => ∃ b : Int, σ[n]? = some (some (.int b)) ∧ te σ H fun v H1 => ∃ (a : Addr) (us : List Int), v = .ref a ∧ H1 a = some (.lst (us.map V.int)) ∧ TabG H1 P ∧ ∀ H2, Tabbed P H1 H2 → Q (.bl (us.all fun z => decide (i ≤ z) && decide (z < b))) H2
theorem pe_allZ {iter : Expr} {x y : Str} {i : Int} {j n : Nat} {q1 q2 q3 q4 px p pos gpos : Pos} {scope : Scope} {te : TE} {k : Nat}
    (hr : Room k X.A) (hg : Gl X "all") (hm : X.mg "all" = none) (hb : bootBuiltins "all" = some (.builtin "all")) (TB : TabB X.base X.mg c P) (hcode : X.env.code = .ref c) (S : GenS X.env scope x) (hi : PE X iter te)
    (seen : scope.names.lookup y = some .free) (clo : ∀ cc, X.env.cells.lookup y = some cc → (cloFrom X.env.cells scope.names []).lookup y = some cc) (hN : X.N[n]? = some y) (hyc : X.env.scope.names.lookup y = some .cell)
    (fold : ∀ v, genFold iter X.env v = pure v)
    (st : starEach [.GeneratorExp (.Compare (.Constant (.int i) j q1) [.LtE, .Lt] [.Name x q2, .Name y q3] q4) [⟨.Name x px, iter, [], 0⟩] scope gpos] X.env = [(false, eval (.GeneratorExp (.Compare (.Constant (.int i) j q1) [.LtE, .Lt] [.Name x q2, .Name y q3] q4) [⟨.Name x px, iter, [], 0⟩] scope gpos) X.env)] := by rfl)
    (marks : lastMarks [.LtE, .Lt] [.Name x q2, .Name y q3] = false := by with_unfolding_all rfl) (d1 : (x == ("__debug__" : Str)) = false := by decide) (d2 : (y == ("__debug__" : Str)) = false := by decide) (d3 : (y == ("__classdict__" : Str)) = false := by decide) :
    PE X (.Call (.Name "all" p) [.GeneratorExp (.Compare (.Constant (.int i) j q1) [.LtE, .Lt] [.Name x q2, .Name y q3] q4) [⟨.Name x px, iter, [], 0⟩] scope gpos] [] pos) (tAllZ P n i te) where
  run pins s σ H Q I := fun ⟨b, hσ, h⟩ => by
    obtain ⟨cc, hcc, _⟩ := cell_at hN hyc hσ I
    have cell : ∀ H1 s1, Inv X pins σ H1 s1 → ∃ t, s1.heap.IsCell cc (some (.int b t)) := fun H1 s1 I1 => by
      obtain ⟨c2, e2, t⟩ := cell_at hN hyc hσ I1
      cases hcc.symm.trans e2
      exact t
    refine wpAny_Call_Name_kw (ld_blt I hg hm hb (PyProof.Rows.callWith_builtin1 ?_ st (by rfl)))
    rw [st]
    refine Calls.spliced_cons (gen_ints hr TB hcode S hi (tests_between S.kind S.loc seen (clo _ hcc) marks d1 d2 d3) fold cell I h ?_)
    rintro us H1 g s5 hR ⟨fp, wr, G, F, St, W, st0, tr, mv⟩
    refine Calls.spliced_nil (call_all_walkS (W.self 0 _ _ _ st0 ⟨g, fp, wr, G, _, F, St, _, rfl, W, st0, tr, fun s' m => ?_⟩))
    obtain ⟨H2, T, J⟩ := mv s' m
    exact ⟨.bl _, H2, J, by rw [truths_all]; rfl, hR H2 T⟩
end
end DL
/-! Data: a table that grows is a region. -/
namespace DL
open PySem PySem.Spec PyProof.Rows L2 NB GxR
def RT (P : Addr) : Reg Unit where
  at_ _ H fp := fp = [P] ∧ TabG H P
  loc := fun {c H H' fp} h k => by
    obtain ⟨rfl, ps, e, t⟩ := h
    exact ⟨rfl, ps, by rw [k P (by simp)]; exact e, t⟩
  has := fun {c H fp a} h ha => by
    obtain ⟨rfl, ps, e, t⟩ := h
    rw [List.mem_singleton.mp ha, e]; simp
theorem frm_tab {P : Addr} {H H2 : Hp} (T : Tabbed P H H2) : Frm [P] H H2 := fun b o e n => by rw [T.2 b (by simpa using n)]; exact e
/-- are all numbers of a list in bounds? -/
def spBelow (P : Addr) : Sp := fun vs H Q _ => ∃ (a : Addr) (us : List Int) (b : Int), vs = [.ref a, .int b] ∧ H a = some (.lst (us.map V.int)) ∧ TabG H P ∧ ∀ H2, Tabbed P H H2 → Q (.bl (us.all fun z => decide (0 ≤ z) && decide (z < b))) H2
/-- a def of a list of numbers, which gives rd of it, made of new things -/
def spNew (P : Addr) (rd : List Int → PyData) : Sp := fun vs H Q _ => ∃ (a : Addr) (us : List Int), vs = [.ref a] ∧ H a = some (.lst (us.map V.int)) ∧ us.length ≤ 1000 ∧ TabG H P ∧
  ∀ v H' (B : List Addr), Frm [P] H H' → TabG H' P → (∀ b ∈ B, H b = none ∧ H' b ≠ none) → Dv (fun b => if b ∈ B then H' b else none) v (rd us) → Q v H'
section
variable {F0 Hb F H : Hp} {P : Addr} {W : Zt} {fp : List Addr} {K : PySem.W.Frag}
theorem StR.ints (s : StR (RT P) F0 Hb fp F H W ()) {v : V} {sv : SV} {us : List Int} (hp : (some v, some sv) ∈ W) (ne : sv.isEnt = false) (e : sv.items? = some (LI us)) : ∃ a, v = .ref a ∧ H a = some (.lst (us.map V.int)) := by
  obtain ⟨a, vs, rfl, ha, hd, _⟩ := s.awayE hp ne e
  exact ⟨a, rfl, by rw [ha, all_ints hd]⟩
theorem StR.tab (s : StR (RT P) F0 Hb fp F H W ()) : fp = [P] ∧ TabG H P := s.reg
theorem DTR.below {ta : TA} {fa : DAX} (ha : ∀ H0, DA F0 H0 ta fa) : DTR (RT P) F0 Hb (tTest (tCall (spBelow P) [] (fun _ _ _ => False) ta))
    (fun c σ Q => fa σ fun as => ∃ sv sw us b, as = [sv, sw] ∧ sv.isEnt = false ∧ sv.items? = some (LI us) ∧ sw.int? = some b ∧ Q c (us.all fun z => decide (0 ≤ z) && decide (z < b))) where
  run Z T H c Q' Q ne s hg k := by
    obtain ⟨fp, F, s⟩ := s
    refine (ha (rg Hb fp H)).run Z T H _ _ ⟨F, s.rep⟩ hg fun A h1 H1 ⟨F1, r1⟩ => ?_
    obtain ⟨sv, sw, us, b, e, he, hi, hb, hP⟩ := h1
    have s1 := s.stay r1
    match A, e with
    | [(v, x), (w, y)], e =>
      cases e
      obtain ⟨a, rfl, ha1⟩ := s1.ints (v := v) (sv := x) (by simp [pr]) he hi
      obtain ⟨u, e1, rw1⟩ := r1.ok (some w, some y) (by simp [pr]) _ rfl
      cases e1
      have ew := rw1.int hb
      subst ew
      obtain ⟨efp, tg⟩ := s1.tab
      subst efp
      refine ⟨a, us, b, rfl, ha1, tg, fun H2 T2 => ⟨_, rfl, k c _ hP H2 ⟨[P], _, (s1.stay (W' := Z ++ T) (s1.rep.sub (by rw [← List.append_assoc]; exact List.sublist_append_left _ _))).step (H' := H2) (fp' := [P]) (c' := ()) [] ne (frm_tab T2) ⟨rfl, T2.1⟩ (fun a ha => .inl ha) fun b hb => absurd hb List.not_mem_nil⟩⟩⟩
theorem keep_new {H1 H' : Hp} {F1 : Hp} {B : List Addr} (l : Same F1 H1) (hB : ∀ b ∈ B, H1 b = none ∧ H' b ≠ none) : Same (fun b => if b ∈ B then H' b else none) (fun b => if b ∈ B then H' b else F1 b) := fun b o e => by
  have e : (if b ∈ B then H' b else none) = some o := e
  show (if b ∈ B then H' b else F1 b) = some o
  by_cases z : b ∈ B
  · rw [if_pos z] at e ⊢; exact e
  · rw [if_neg z] at e; cases e
theorem StR.news {c : Unit} (s : StR (RT P) F0 Hb fp F H W c) {H' : Hp} {B : List Addr} (ne : ∀ p ∈ W, NoEnt p) (fr : Frm [P] H H') (tg : TabG H' P) (hB : ∀ b ∈ B, H b = none ∧ H' b ≠ none) : StR (RT P) F0 Hb [P] (fun b => if b ∈ B then H' b else F b) H' W () := by
  obtain ⟨efp, ps, e, _⟩ := s.tab
  subst efp
  refine s.step B ne fr ⟨rfl, tg⟩ (fun a ha => .inl ha) fun b hb => ⟨.inl (hB b hb).1, fun z => ?_, (hB b hb).2⟩
  rw [List.mem_singleton] at z
  have := (hB b hb).1
  rw [z, e] at this; cases this
theorem DER.callNew {rd : List Int → PyData} {ta : TA} {fa : DAX} (ha : ∀ H0, DA F0 H0 ta fa) : DER (RT P) F0 Hb (tCall (spNew P rd) [] (fun _ _ _ => False) ta)
    (fun c σ Q => fa σ fun as => ∃ sv us, as = [sv] ∧ sv.isEnt = false ∧ sv.items? = some (LI us) ∧ us.length ≤ 1000 ∧ Q c (.val (rd us))) where
  run Z T H c Q' Q ne s hg k := by
    obtain ⟨fp, F, s⟩ := s
    refine (ha (rg Hb fp H)).run Z T H _ _ ⟨F, s.rep⟩ hg fun A h1 H1 ⟨F1, r1⟩ => ?_
    obtain ⟨sv, us, e, he, hi, hl, hP⟩ := h1
    have s1 := s.stay r1
    match A, e with
    | [(v, x)], e =>
      cases e
      obtain ⟨a, rfl, ha1⟩ := s1.ints (v := v) (sv := x) (by simp [pr]) he hi
      have s2 := s1.stay (W' := Z ++ T) (s1.rep.sub (by rw [← List.append_assoc]; exact List.sublist_append_left _ _))
      refine ⟨a, us, rfl, ha1, hl, s1.tab.2, fun u H2 B fr tg hB dv => k c _ hP rfl u H2 ⟨[P], (fun b => if b ∈ B then H2 b else F1 b), ?_⟩⟩
      have s3 := s2.news ne fr tg hB
      have r3 := s3.rep.pushV (dv.mono (keep_new r1.low hB))
      rw [List.append_assoc] at r3
      exact s3.stay r3
theorem apart_none : ∀ {Z : Zt} (i : Nat) (v : Option V), Z.Pairwise Apart → (Z.set i (v, none)).Pairwise Apart
  | [], _, _, _ => List.Pairwise.nil
  | p :: Z, 0, v, h => List.pairwise_cons.mpr ⟨fun q _ a es fs _ e => (nomatch e), (List.pairwise_cons.mp h).2⟩
  | p :: Z, i + 1, v, h => by
    obtain ⟨h1, h2⟩ := List.pairwise_cons.mp h
    refine List.pairwise_cons.mpr ⟨fun q hq => ?_, apart_none i v h2⟩
    rcases List.mem_or_eq_of_mem_set hq with z | z
    · exact h1 q z
    · subst z; exact fun a es fs _ _ _ e => nomatch e
theorem Rep.forget {H0 : Hp} {Z T : Zt} {i : Nat} {v : Option V} (r : Rep F0 H0 F H (Z ++ T)) : Rep F0 H0 F H (Z.set i (v, none) ++ T) := by
  refine ⟨r.base, r.low, r.ent, r.apart, fun p hp => ?_, ?_⟩
  · rcases List.mem_append.mp hp with z | z
    · rcases List.mem_or_eq_of_mem_set z with z | z
      · exact r.ok p (List.mem_append_left _ z)
      · subst z; exact fun sv e => nomatch e
    · exact r.ok p (List.mem_append_right _ z)
  · have d := r.dist
    rw [List.pairwise_append] at d ⊢
    refine ⟨apart_none i v d.1, d.2.1, fun p hp q hq => ?_⟩
    rcases List.mem_or_eq_of_mem_set hp with z | z
    · exact d.2.2 p z q hq
    · subst z; exact fun a es fs _ e => nomatch e
/-- plain values only -/
def vOnly (o : Option SV) : Option SV := match o with
  | some (.val d) => some (.val d)
  | _ => none
theorem vOnly_val {o : Option SV} {s : SV} (h : vOnly o = some s) : ∃ d, o = some (.val d) ∧ s = .val d := by
  unfold vOnly at h
  split at h
  · exact ⟨_, rfl, (Option.some.inj h).symm⟩
  · cases h
/-- x = f(..); if c: return ..; if c2: x[1].append(1); x is looked at no more -/
def rFound (i : Nat) (rd : List Int → PyData) (fa : DAX) (fc fc2 : DTX) : RX Unit := fun E c σ => NoE σ ∧ i < σ.length ∧ fa σ fun as => ∃ sv us, as = [sv] ∧ sv.isEnt = false ∧ sv.items? = some (LI us) ∧ us.length ≤ 1000 ∧
  fc ((σ.map vOnly).set i (some (.val (rd us)))) (· = false) ∧ (fc2 ((σ.map vOnly).set i (some (.val (rd us)))) (· = false) ∨ (fc2 ((σ.map vOnly).set i (some (.val (rd us)))) (· = true) ∧ ∃ n ds a b, rd us = .tuple [.int n, .list ds, .int a, .int b] ∧ ds.length < sizeLine)) ∧
  E.nx c (σ.set i none)
theorem DSR.found {rd : List Int → PyData} {ta : TA} {fa : DAX} {i : Nat} {tc tc2 : TT} {fc fc2 : DTX} {tv : TE} (ha : ∀ H0, DA F0 H0 ta fa) (hc : ∀ G0 G1, DT G0 G1 tc fc) (hc2 : ∀ G0 G1, DT G0 G1 tc2 fc2) :
    DSR (RT P) F0 Hb (tSeq (tAsg (tCall (spNew P rd) [] (fun _ _ _ => False) ta) (gName i)) (tSeq (tIfS tc (tRet tv) tNext) (tIfS tc2 (tDrop (tBM K "list" rAppend (tOp (rIxT K) (tVar i) (tC (.int 1))) (tCons (tC (.int 1)) tNil))) tNext))) (rFound i rd fa fc fc2) where
  run Z T H c E D hT s hg l := by
    obtain ⟨hne, hi, hg⟩ := hg
    obtain ⟨⟨fp, F, s⟩, na⟩ := s
    have ne := hne.all hT
    refine (ha (rg Hb fp H)).run Z T H _ _ ⟨F, s.rep⟩ hg fun A h1 H1 ⟨F1, r1⟩ => ?_
    obtain ⟨sv, us, e, he, hit, hl, g1, g2, g3⟩ := h1
    have s1 := s.stay r1
    match A, e with
    | [(v, x)], e =>
      cases e
      obtain ⟨a, rfl, ha1⟩ := s1.ints (v := v) (sv := x) (by simp [pr]) he hit
      have s2 := s1.stay (W' := Z ++ T) (s1.rep.sub (by rw [← List.append_assoc]; exact List.sublist_append_left _ _))
      refine ⟨a, us, rfl, ha1, hl, s1.tab.2, fun u H2 B fr tg hB dv => ?_⟩
      have s3 := s2.news ne fr tg hB
      let G : Hp := fun b => if b ∈ B then H2 b else F1 b
      have dvG : Dv G u (rd us) := dv.mono (keep_new r1.low hB)
      let Zm : Zt := (Z.map fun p => (p.1, vOnly p.2)).set i (some u, some (.val (rd us)))
      have e1 : Zm.map Prod.fst = (Z.map Prod.fst).set i (some u) := by
        show (List.set _ _ _).map Prod.fst = _
        rw [map_set_fst, List.map_map]; rfl
      have e2 : Zm.map Prod.snd = ((Z.map Prod.snd).map vOnly).set i (some (.val (rd us))) := by
        show (List.set _ _ _).map Prod.snd = _
        rw [map_set_snd, List.map_map, List.map_map]; rfl
      have rM : Rep G H2 G H2 (Zm ++ []) := by
        rw [List.append_nil]
        have isV : ∀ p ∈ Zm, ∀ s, p.2 = some s → ∃ w d, p.1 = some w ∧ s = .val d ∧ Dv G w d := fun p hp s e => by
          rcases List.mem_or_eq_of_mem_set hp with z | z
          · obtain ⟨q, hq, rfl⟩ := List.mem_map.mp z
            obtain ⟨d, e3, e4⟩ := vOnly_val e
            obtain ⟨w, e5, rv⟩ := s3.rep.ok q (List.mem_append_left _ hq) _ e3
            exact ⟨w, d, e5, e4, rv⟩
          · subst z; cases e; exact ⟨u, _, rfl, rfl, dvG⟩
        refine ⟨Same.refl _, s3.rep.low, Same.refl _, fun b h _ => h, fun p hp s e => ?_, ?_⟩
        · obtain ⟨w, d, e3, rfl, q⟩ := isV p hp s e
          exact ⟨w, e3, q⟩
        · refine List.Pairwise.imp_of_mem (S := Apart) (fun {p q} hp hq _ a' es' fs' _ e _ _ => ?_) (all_pw (R := fun _ _ => True) (fun _ _ => trivial) _)
          obtain ⟨w, d, e3, e4, q⟩ := isV p hp _ e
          cases e4
      -- what comes last: the heap is H4, in which all but the table stands as in H1
      have fin : ∀ H4, Frm [P] H1 H4 → TabG H4 P → D.nx ((Z.map Prod.fst).set i (some u)) H4 := fun H4 fr4 tg4 => by
        have s4 := s2.news (B := []) ne fr4 tg4 (fun b hb => absurd hb List.not_mem_nil)
        have := l.nx (Z.set i (some u, none)) H4 () ⟨⟨[P], _, s4.stay s4.rep.forget⟩, fun p hp => by
          rcases List.mem_append.mp hp with z | z
          · rcases List.mem_or_eq_of_mem_set z with z | z
            · exact na p (List.mem_append_left _ z)
            · subst z; intro es' e; cases e
          · exact na p (List.mem_append_right _ z)⟩ (by rw [map_set_snd]; exact g3)
        rw [map_set_fst] at this
        exact this
      have tabS : ∀ {H3 : Hp}, Same H2 H3 → TabG H3 P := fun sm => by
        obtain ⟨ps, e, t⟩ := tg
        exact ⟨ps, sm _ _ e, t⟩
      show tc ((Z.map Prod.fst).set i (some u)) H2 _
      rw [← e1]
      refine (hc G H2).run Zm [] H2 (· = false) _ ⟨G, rM⟩ (by rw [e2]; exact g1) fun bb hb H3 r3 => ?_
      subst hb
      refine iteF ?_
      rcases g2 with g2 | ⟨g2, n, ds, a1, b1, er, hlen⟩
      · refine (hc2 G H2).run Zm [] H3 (· = false) _ r3 (by rw [e2]; exact g2) fun bb hb H4 ⟨F4, r4⟩ => ?_
        subst hb
        refine iteF ?_
        show D.nx (Zm.map Prod.fst) H4
        rw [e1]
        exact fin H4 (fr.same r4.ent) (tabS r4.ent)
      · refine (hc2 G H2).run Zm [] H3 (· = true) _ r3 (by rw [e2]; exact g2) fun bb hb H4 ⟨F4, r4⟩ => ?_
        subst hb
        refine iteT ?_
        rw [er] at dv
        cases dv with
        | @tup t xs _ q1 q2 =>
          cases q2 with
          | cons q3 q4 =>
            cases q3
            cases q4 with
            | cons q5 q6 =>
              cases q6 with
              | cons q9 q10 =>
              cases q9
              cases q10 with
              | cons q11 q12 =>
              cases q11
              cases q12
              cases q5 with
              | @lst b ws _ q7 q8 =>
                have bB : b ∈ B := by
                  by_cases z : b ∈ B
                  · exact z
                  · rw [if_neg z] at q7; cases q7
                have tB : t ∈ B := by
                  by_cases z : t ∈ B
                  · exact z
                  · rw [if_neg z] at q1; cases q1
                rw [if_pos bB] at q7
                rw [if_pos tB] at q1
                have hi2 : (Zm.map Prod.fst)[i]? = some (some (V.ref t)) := by
                  rw [e1, List.getElem?_set_self (by rw [List.length_map]; simpa using hi)]
                refine ⟨.ref t, hi2, t, _, 1, .ref b, rfl, rfl, SqT.of (r4.ent _ _ q1), rfl, .inl ⟨rfl, _, SqL.of (r4.ent _ _ q7)⟩, b, ws, .int 1, rfl, rfl, r4.ent _ _ q7, by rw [q8.length]; exact hlen, ?_⟩
                show D.nx (Zm.map Prod.fst) _
                rw [e1]
                have nb : H1 b = none := (hB b bB).1
                refine fin _ (fun x o e nx => ?_) ?_
                · rw [upd_ne (fun z => by rw [z, nb] at e; cases e)]
                  exact fr.same r4.ent x o e nx
                · obtain ⟨ps, e, t⟩ := tabS r4.ent
                  obtain ⟨_, ps1, e1, _⟩ := s2.tab
                  exact ⟨ps, by rw [upd_ne (fun z => by rw [z, nb] at e1; cases e1)]; exact e, t⟩
end
section
variable {p : Program} {w : World} {mg : Str → Option Value} {base : Heap} {K : PySem.W.Frag} {P c : Addr}
/-- a def whose code object is at c -/
theorem Fun.okAt {x qual : Str} {st : Stmt} {f : Addr} {fd : FuncData} {N ps : List Str} {k : Nat} {sp : Sp} (Fu : Fun K x qual st f fd) (at_ : fd.code = .ref c) (S : FnScope N ps (defScope st)) (len : ∀ vs H Q E, sp vs H Q E → vs.length = ps.length)
    (body : ∀ (A : Around) (outer : List Env) (s : Shared) (H : Hp) (vs : List V) (Q : VK) (E : XK), Room k (A.deeper (envOfC qual (defScope st) s.heap.objs.size f (.ref c))) → sp vs H Q E →
      ∃ t, PSs (cxOf CX0 p w K mg base N qual (defScope st) f (.ref c) A outer s H E).nox (defBody st) t ∧ t { nx := fun _ H' => Q .non H', rt := Q } (start N vs) H) : FnOk p w K mg base CX0 (k + 1) f fd ps sp := by
  obtain ⟨_, _, _, _, _, _, cd, _, _, e, look, ok⟩ := Fu.ex
  subst e
  obtain rfl : cd = .ref c := at_
  exact fn_of look ok S len fun A outer s H vs Q E room pre => (body A outer s H vs Q E room pre).imp fun t h => ⟨h.1.nox, h.2⟩
/-- what read tells is None, or a tuple of numbers, of None, or with one list that is shorter than what is read -/
def ShapeOk (us : List Int) (d : PyData) : Prop := d = .none ∨ (∃ a b, d = .tuple [.none, .none, .int a, .int b]) ∨ ∃ n ds a b, d = .tuple [.int n, .list (LI ds), .int a, .int b] ∧ ds.length < us.length
theorem okNew {rd : List Int → PyData} {x qual y : Str} {st : Stmt} {f : Addr} {fd : FuncData} {N : List Str} {k : Nat} (Fu : Fun K x qual st f fd) (S : FnScope N [y] (defScope st)) (hrd : ∀ us, ShapeOk us (rd us))
    (body : ∀ (cdv : Value) (A : Around) (outer : List Env) (s : Shared) (H : Hp) (E : XK), Room k (A.deeper (envOfC qual (defScope st) s.heap.objs.size f cdv)) →
      ∃ (t : TS) (g : Hp → Hp → RX Unit), PSs (cxOf CX0 p w K mg base N qual (defScope st) f cdv A outer s H E).nox (defBody st) t ∧ (∀ F0 Hb, DSR (RT P) F0 Hb t (g F0 Hb)) ∧
        ∀ F0 Hb us, us.length ≤ 1000 → g F0 Hb { nx := fun _ _ => False, rt := fun _ sv => sv = .val (rd us) } () (some (.val (.list (LI us))) :: List.replicate (N.length - 1) none)) : FnOk p w K mg base CX0 (k + 1) f fd [y] (spNew P rd) := by
  refine Fu.ok S (fun vs H Q E h => ?_) (fun cdv A outer s H vs Q E hr h => ?_)
  · obtain ⟨a, us, rfl, _⟩ := h; rfl
  · obtain ⟨t, g, h1, h2, h3⟩ := body cdv A outer s H E hr
    refine ⟨t, h1, ?_⟩
    obtain ⟨a, us, rfl, ha, hl, tg, hQ⟩ := h
    have aP : a ≠ P := fun z => by
      obtain ⟨ps, e, _⟩ := tg
      rw [← z, ha] at e; cases e
    let F : Hp := fun b => if b = a then H b else none
    have Fa : F a = some (.lst (us.map V.int)) := by show (if a = a then H a else none) = _; rw [if_pos rfl, ha]
    have Fo : ∀ {b}, b ≠ a → F b = none := fun h => if_neg h
    have sF : Same F H := fun b o e => by
      by_cases z : b = a
      · have : F b = H b := if_pos z
        rw [this] at e; exact e
      · rw [Fo z] at e; cases e
    let Z : Zt := (some (.ref a), some (.val (.list (LI us)))) :: List.replicate (N.length - 1) (none, none)
    have e1 : Z.map Prod.fst = L2.start N [V.ref a] := by
      show some (V.ref a) :: (List.replicate _ _).map _ = [some (V.ref a)] ++ List.replicate (N.length - 1) none
      rw [List.map_replicate]; rfl
    have e2 : Z.map Prod.snd = some (.val (.list (LI us))) :: List.replicate (N.length - 1) none := by
      show some (SV.val _) :: (List.replicate _ _).map _ = _
      rw [List.map_replicate]
    have isV : ∀ q ∈ Z, ∀ s, q.2 = some s → q = (some (.ref a), some (.val (.list (LI us)))) := fun q hq s e => by
      rcases List.mem_cons.mp hq with z | z
      · exact z
      · rw [List.mem_replicate] at z
        rw [z.2] at e; cases e
    have s0 : StR (RT P) F (cutH H [P]) [P] F H Z () := by
      refine ⟨⟨rfl, tg⟩, fun b hb => if_pos hb, fun b hb => ?_, ?_⟩
      · rw [List.mem_singleton] at hb
        exact Fo fun z => aP (z.symm.trans hb)
      · rw [rg_cut]
        refine ⟨Same.refl _, sF, Same.refl _, fun b h _ => h, fun q hq s e => ?_, ?_⟩
        · have := isV q hq s e
          subst this
          cases e
          exact ⟨_, rfl, dv_ints F Fa⟩
        · refine List.Pairwise.imp_of_mem (S := Apart) (fun {p q} hp hq _ a' es' fs' _ e _ _ => ?_) (all_pw (R := fun _ _ => True) (fun _ _ => trivial) _)
          have := isV p hp _ e
          subst this; cases e
    have := (h2 F (cutH H [P])).run Z [] H () { nx := fun _ _ => False, rt := fun _ sv => sv = .val (rd us) } { nx := fun _ H' => Q .non H', rt := Q } (fun p hp => absurd hp List.not_mem_nil) ⟨⟨[P], F, by rw [List.append_nil]; exact s0⟩, fun q hq es e => by
        rw [List.append_nil] at hq
        have := isV q hq _ e
        subst this; cases e⟩ (by rw [e2]; exact h3 F _ us hl) ⟨fun _ _ _ _ h => h.elim, fun _ _ _ _ h => h.elim, fun _ _ _ _ h => h.elim, fun sv v H' c' h' ⟨fp', F', s'⟩ => ?_⟩
    · rw [e1] at this
      exact this
    · subst h'
      obtain ⟨efp, tg'⟩ := s'.tab
      subst efp
      obtain ⟨u, e, rv⟩ := s'.rep.ok _ (List.mem_singleton.mpr rfl) _ rfl
      cases e
      have rv : Dv F' v (rd us) := rv
      have fr : Frm [P] H H' := fun b o eb nb => by
        have ec : cutH H [P] b = some o := by unfold cutH; rw [if_neg nb]; exact eb
        exact s'.rep.ent b o (by rw [rg_out nb]; exact ec)
      have new : ∀ {b o}, F' b = some o → b ≠ a → H b = none ∧ H' b ≠ none := fun {b o} e n => by
        refine ⟨?_, by rw [s'.rep.low _ _ e]; simp⟩
        cases q : H b with
        | none => rfl
        | some u =>
          have ap := s'.rep.apart b (Fo n)
          by_cases z : b ∈ [P]
          · have := ap (by rw [rg_in z, List.mem_singleton.mp z]; obtain ⟨ps, ep, _⟩ := tg'; rw [ep]; simp)
            rw [this] at e; cases e
          · have := ap (by rw [rg_out z]; unfold cutH; rw [if_neg z, q]; simp)
            rw [this] at e; cases e
      have Fa' : F' a = some (.lst (us.map V.int)) := s'.rep.base _ _ Fa
      have go : ∀ B : List Addr, (∀ b ∈ B, ∃ o, F' b = some o ∧ b ≠ a) → Dv (fun b => if b ∈ B then H' b else none) v (rd us) → Q v H' := fun B hB dv => hQ v H' B fr tg' (fun b hb => by
        obtain ⟨o, e, n⟩ := hB b hb
        exact new e n) dv
      rcases hrd us with ed | ⟨m, n, ed⟩ | ⟨n, ds, m, m2, ed, hlt⟩
      · rw [ed] at rv
        cases rv
        exact go [] (fun b hb => absurd hb List.not_mem_nil) (by rw [ed]; exact .non)
      · rw [ed] at rv
        cases rv with
        | @tup t xs _ q1 q2 =>
          refine go [t] (fun b hb => ?_) ?_
          · rw [List.mem_singleton.mp hb]
            exact ⟨_, q1, fun z => by rw [z, Fa'] at q1; cases q1⟩
          · rw [ed]
            exact .tup (by rw [if_pos (List.mem_singleton.mpr rfl)]; exact s'.rep.low _ _ q1) (q2.flat rfl)
      · rw [ed] at rv
        cases rv with
        | @tup t xs _ q1 q2 =>
          cases q2 with
          | cons q3 q4 =>
            cases q4 with
            | cons q5 q6 =>
              cases q5 with
              | @lst b ws _ q7 q8 =>
                have ew := all_ints q8
                refine go [t, b] (fun d hd => ?_) ?_
                · rcases List.mem_cons.mp hd with z | z
                  · rw [z]; exact ⟨_, q1, fun z => by rw [z, Fa'] at q1; cases q1⟩
                  · rw [List.mem_singleton.mp z]
                    refine ⟨_, q7, fun z => ?_⟩
                    rw [z, Fa'] at q7
                    cases q7
                    have : us.length = ds.length := by
                      have := congrArg List.length ew
                      simpa using this
                    omega
                · rw [ed]
                  refine .tup (by rw [if_pos (by simp)]; exact s'.rep.low _ _ q1) (.cons (q3.flat rfl) (.cons (.lst (by rw [if_pos (by simp)]; exact s'.rep.low _ _ q7) (q8.flat ?_)) (q6.flat rfl)))
                  unfold LI
                  rw [List.all_map]; exact List.all_eq_true.mpr fun _ _ => rfl
end
end DL
/-! Data: a law that prints, and calls a def whose table grows; the end of such a law. -/
namespace DL
open PySem PySem.Spec PyProof.Rows L2 NB GxR
/-- a list of numbers alone is followed, beside the table -/
theorem start_tab {H : Hp} {P a : Addr} {us : List Int} {Z : Zt} (ha : H a = some (.lst (us.map V.int))) (tg : TabG H P) (hz : ∀ q ∈ Z, ∀ s, q.2 = some s → q = (some (.ref a), some (.val (.list (LI us))))) :
    StN (RT P) (fun b => if b = a then H b else none) (cutH H [P]) H (Z ++ []) () := by
  have aP : a ≠ P := fun z => by
    obtain ⟨ps, e, _⟩ := tg
    rw [← z, ha] at e; cases e
  let F : Hp := fun b => if b = a then H b else none
  have Fa : F a = some (.lst (us.map V.int)) := by show (if a = a then H a else none) = _; rw [if_pos rfl, ha]
  have Fo : ∀ {b}, b ≠ a → F b = none := fun h => if_neg h
  have sF : Same F H := fun b o e => by
    by_cases z : b = a
    · have : F b = H b := if_pos z
      rw [this] at e; exact e
    · rw [Fo z] at e; cases e
  rw [List.append_nil]
  refine ⟨⟨[P], F, ⟨rfl, tg⟩, fun b hb => if_pos hb, fun b hb => ?_, ?_⟩, fun q hq es e => ?_⟩
  · rw [List.mem_singleton] at hb
    exact Fo fun z => aP (z.symm.trans hb)
  · rw [rg_cut]
    refine ⟨Same.refl _, sF, Same.refl _, fun b h _ => h, fun q hq s e => ?_, ?_⟩
    · have := hz q hq s e
      subst this
      cases e
      exact ⟨_, rfl, dv_ints F Fa⟩
    · refine List.Pairwise.imp_of_mem (S := Apart) (fun {p q} hp hq _ a' es' fs' _ e _ _ => ?_) (all_pw (R := fun _ _ => True) (fun _ _ => trivial) _)
      have := hz p hp _ e
      subst this; cases e
  · have := hz q hq _ e
    subst this; cases e
def sp_lawT (K : PySem.W.Frag) (P : Addr) : Sp := fun vs H Q _ => ∃ (a : Addr) (ns : List Int), vs = [.ref a] ∧ SqL K H a (ns.map V.int) ∧ ns.length ≤ 63 ∧ TabG H P ∧ ∀ H', Q (.bl true) H'
section
variable {p : Program} {w : World} {K : PySem.W.Frag} {mg : Str → Option Value} {base : Heap} {P : Addr}
theorem okLawT {x qual : Str} {st : Stmt} {f : Addr} {fd : FuncData} {N : List Str} {k : Nat} (Fu : Fun K x qual st f fd) (S : FnScope N ["script"] (defScope st)) (hN : 2 ≤ N.length)
    (body : ∀ (cdv : Value) (A : Around) (outer : List Env) (s : Shared) (H : Hp) (E : XK), (A.deeper (envOfC qual (defScope st) s.heap.objs.size f cdv)).guards = some [] → Room k (A.deeper (envOfC qual (defScope st) s.heap.objs.size f cdv)) →
      ∃ (t : TS) (g : Hp → Hp → RX Unit), PSs (cxOf CX0 p w K mg base N qual (defScope st) f cdv A outer s H E).nox (defBody st) (tSeq (tAsg (tCall (sp_draws K) [] (fun _ _ _ => False) (tCons (tVar 0) tNil)) (gName 1)) t) ∧ (∀ F0 Hb, DSR (RT P) F0 Hb t (g F0 Hb)) ∧
        ∀ F0 Hb (xs : List Int), xs.length ≤ 4000 → g F0 Hb { nx := fun _ _ => False, rt := fun _ sv => sv = .val (.bool true) } () (none :: some (.val (.list (LI xs))) :: List.replicate (N.length - 2) none)) : GR.FnG p w K mg base CX0 (k + 1) f fd ["script"] (sp_lawT K P) := by
  refine GR.Fun.okG Fu S (fun vs H Q E h => ?_) (fun cdv A outer s H vs Q E gd hr h => ?_)
  · obtain ⟨a, ns, rfl, _⟩ := h; rfl
  · obtain ⟨a, ns, rfl, hS, hl, tg, hQ⟩ := h
    obtain ⟨t, g, h1, h2, h3⟩ := body cdv A outer s H E gd hr
    refine ⟨_, h1, .ref a, rfl, a, ns, rfl, hS, hl, fun l xs H1 s1 nl hx hlen => ?_⟩
    have e : L2.start N [V.ref a] = some (.ref a) :: none :: List.replicate (N.length - 2) none := by
      obtain ⟨m, hm⟩ : ∃ m, N.length = m + 2 := ⟨N.length - 2, by omega⟩
      unfold L2.start
      rw [hm]
      show some (V.ref a) :: List.replicate (m + 2 - 1) none = some (V.ref a) :: none :: List.replicate (m + 2 - 2) none
      rw [show m + 2 - 1 = m + 1 by omega, List.replicate_succ]; rfl
    show t _ ((L2.start N [V.ref a]).set 1 (some (.ref l))) H1
    rw [e]
    have tg1 : TabG H1 P := by
      obtain ⟨ps, e, t⟩ := tg
      exact ⟨ps, s1 _ _ e, t⟩
    let Z : Zt := (some (.ref a), none) :: (some (.ref l), some (.val (.list (LI xs)))) :: List.replicate (N.length - 2) (none, none)
    have := (h2 (fun b => if b = l then H1 b else none) (cutH H1 [P])).run Z [] H1 () { nx := fun _ _ => False, rt := fun _ sv => sv = .val (.bool true) } { nx := fun _ H' => Q .non H', rt := Q } (fun p hp => absurd hp List.not_mem_nil) (start_tab hx tg1 fun q hq s e => ?_) (by
      simp only [Z, List.map_cons, List.map_replicate]
      exact h3 _ _ xs hlen) ⟨fun _ _ _ _ h => h.elim, fun _ _ _ _ h => h.elim, fun _ _ _ _ h => h.elim, fun sv v H' c' h' ⟨fp', F', s'⟩ => ?_⟩
    · simpa [Z] using this
    · rcases List.mem_cons.mp hq with z | hq
      · subst z; cases e
      · rcases List.mem_cons.mp hq with z | hq
        · exact z
        · rw [List.mem_replicate] at hq
          rw [hq.2] at e; cases e
    · subst h'
      obtain ⟨u, e, rv⟩ := s'.rep.ok _ (List.mem_singleton.mpr rfl) _ rfl
      cases e
      cases rv
      exact hQ H'
end
end DL
namespace GR
open PySem PySem.Spec PyProof.Rows L2 NB GxR
section
variable {P : Program} {w : World} {K : PySem.W.Frag} {mg mb : Str → Option Value} {CX : CXT} {k : Nat} {fa a c t : Addr} {fd : FuncData} {x : Str} {sp : Sp} {s0 : Shared} {vs : List Value} {ns : List Int}
/-- the world as the law is entered: only the script and one table may be followed -/
theorem entryT (KX : K.In s0.heap) (hm : s0.heap.Ns mainGlobals mg) (hb : s0.heap.Ns builtinsNs mb) (hbb : ∀ x : Str, x ≠ "__name__" → mb x = bootBuiltins x) (hl : s0.heap.NoLimit) (hg : s0.gens = #[])
    (ht : s0.heap.get? t = some { cls := .none, data := .fields #[] }) (nt : K.lookup t = none) (cd : PySem.W.CodeHd s0.heap c t) (bmn : ∃ (bm : Addr) (ob : Obj), mg "__builtins__" = some (.ref bm) ∧ bm ≠ builtinsNs ∧ s0.heap.get? bm = some ob ∧ ob.cls = .type "module" ∧ ob.dict = some builtinsNs ∧ ob.data = .plain)
    (ha : s0.heap.get? a = some { cls := .type "list", data := .seq vs.toArray }) {H : Hp} (hok : HOk P w H s0.heap) (one : ∀ b u, H b = some u → b = a ∨ b = t) (out : ∀ u, H a = some u → K.lookup a = none) :
    K.In (hidT s0.heap H) ∧ (hidT s0.heap H).Ns mainGlobals mg ∧ TabB (hidT s0.heap H) mg c t ∧ Env0 P w K mg (hidT s0.heap H) callerA [] s0 H := by
  have stays : ∀ {b : Addr} {o : Obj}, s0.heap.get? b = some o → o.cls ≠ .type "list" → o.data ≠ .fields #[] → (hidT s0.heap H).get? b = some o := fun {b o} e n1 n2 => by
    refine hidT_get e ?_
    cases q : H b with
    | none => rfl
    | some u =>
      rcases one b u q with rfl | rfl
      · rw [ha] at e; cases e; exact absurd rfl n1
      · rw [ht] at e; cases e; exact absurd rfl n2
  have names : ∀ {b : Addr} {m : Str → Option Value}, s0.heap.Ns b m → (hidT s0.heap H).Ns b m := fun {b m} n => by
    obtain ⟨o, es, ep, e, d, r⟩ := n
    refine ⟨o, es, ep, hidT_get e ?_, d, r⟩
    cases q : H b with
    | none => rfl
    | some u =>
      rcases one b u q with rfl | rfl
      · rw [ha] at e; cases e; cases d
      · rw [ht] at e; cases e; cases d
  have kin : K.In (hidT s0.heap H) := fun b o e => by
    refine hidT_get (KX b o e) ?_
    cases q : H b with
    | none => rfl
    | some u =>
      rcases one b u q with rfl | rfl
      · rw [out u q] at e; cases e
      · rw [nt] at e; cases e
  obtain ⟨mc, c1, c2⟩ := hl
  refine ⟨kin, names hm, ⟨?_, ?_, fun z => ?_⟩, rfl, ⟨kin, names hm, ⟨mb, names hb, hbb⟩, mc, names c1, c2⟩, fun b o e => of_hidT e, Nat.le_of_eq (hidT_size _ _), trivial, fun b hb => absurd (show b ∈ ([] : List Addr) from hb) List.not_mem_nil, hok, .of_eq hg⟩
  · obtain ⟨o, us, f1, f2, f3, f4, f5, f6, f7, g1, g2, g3, more⟩ := cd
    refine ⟨o, us, f1, f2, f3, f4, f5, f6, f7, stays g1 (fun z => ?_) (fun z => ?_), g2, g3, more⟩
    · rw [g2] at z; exact absurd z (by simp)
    · rw [g3] at z
      cases z
      have := more.1
      simp at this
  · obtain ⟨bm, ob, b1, b2, b3, b4, b5, b6⟩ := bmn
    refine ⟨bm, ob, b1, b2, fun z => ?_, fun z => ?_, stays b3 (fun z => ?_) (fun z => ?_), b4, b5, b6⟩
    · obtain ⟨o, es, ep, e, d, _⟩ := hm
      rw [z, e] at b3; cases b3
      rw [d] at b6; cases b6
    · rw [z, ht] at b3; cases b3; cases b6
    · rw [b4] at z; exact absurd z (by simp)
    · rw [b6] at z; cases z
  · obtain ⟨o, es, ep, e, d, _⟩ := hm
    rw [z, ht] at e; cases e; cases d
theorem law_callGT (KX : K.In s0.heap) (hm : s0.heap.Ns mainGlobals mg) (hb : s0.heap.Ns builtinsNs mb) (hbb : ∀ x : Str, x ≠ "__name__" → mb x = bootBuiltins x) (hl : s0.heap.NoLimit) (hg : s0.gens = #[])
    (ht : s0.heap.get? t = some { cls := .none, data := .fields #[] }) (nt : K.lookup t = none) (cd : PySem.W.CodeHd s0.heap c t) (bmn : ∃ (bm : Addr) (ob : Obj), mg "__builtins__" = some (.ref bm) ∧ bm ≠ builtinsNs ∧ s0.heap.get? bm = some ob ∧ ob.cls = .type "module" ∧ ob.dict = some builtinsNs ∧ ob.data = .plain)
    (ha : s0.heap.get? a = some { cls := .type "list", data := .seq vs.toArray }) (hi : IntsAre vs ns) (hz : ns.length ≤ sizeLine) (room : Room k callerA)
    (F : ∀ base : Heap, K.In base → base.Ns mainGlobals mg → TabB base mg c t → FnG P w K mg base CX k fa fd [x] sp) (bind : ∀ (s : Shared) (u : Value), BindsTo s fd ⟨[u], []⟩ [(x, u)])
    (wish : ∀ H : Hp, H t = some (.tbl #[]) → SqL K H a (ns.map V.int) → sp [.ref a] H (fun v _ => v = .bl true) fun _ _ _ => False) (no : ∀ H e s', CX [] H s0 (fun _ _ _ => False) e s' → False) :
    codeAny (model P w) callerA (.call (.ref fa) ⟨[.ref a], []⟩) (fun r s' => r = .ok (.ret (.bool true)) ∧ OldK s0.heap s'.heap ∧ s'.os = s0.os ∧ AllBare s'.gens) s0 := by
  have rv := vals_ints hi
  have nv := hi.length
  have at_ : a ≠ t := fun z => by rw [z, ht] at ha; cases ha
  have go : ∀ H : Hp, H t = some (.tbl #[]) → (∀ b u, H b = some u → b ≠ t → b = a ∧ ∃ o xs, u = .frz o (.lst xs)) → SqL K H a (ns.map V.int) → HOk P w H s0.heap → (∀ u, H a = some u → K.lookup a = none) →
      codeAny (model P w) callerA (.call (.ref fa) ⟨[.ref a], []⟩) (fun r s' => r = .ok (.ret (.bool true)) ∧ OldK s0.heap s'.heap ∧ s'.os = s0.os ∧ AllBare s'.gens) s0 := fun H hH hO hS hok out => by
    obtain ⟨kin, nsb, tb, env⟩ := entryT KX hm hb hbb hl hg ht nt cd bmn ha hok (fun b u e => by
      by_cases z : b = t
      · exact .inr z
      · exact .inl (hO b u e z).1) out
    refine codeAny_mono (F _ kin nsb tb callerA [] s0 H ⟨[.ref a], []⟩ [.ref a] [.ref a] _ _ rfl room env (bind s0 (.ref a)) (.cons rfl .nil) (wish H hH hS)) fun r s' done => ?_
    match r, done with
    | .error e, done => exact (no H e s' done).elim
    | .ok .next, done => exact done.elim
    | .ok .brk, done => exact done.elim
    | .ok .cont, done => exact done.elim
    | .ok (.ret u), ⟨v, H', os, bare, un, hok2, rv2, ev⟩ =>
      have ev2 : v = .bl true := ev
      subst ev2
      have eu : u = Value.bool true := rv2
      subst eu
      obtain ⟨more, em⟩ := un.tbls t #[] hH
      have grown := hok2 t _ em
      have kept : ∀ b o, b ≠ t → s0.heap.get? b = some o → s'.heap.get? b = some o := fun b o n e => by
        cases z : H b with
        | none => exact un.keep b o e z (fun z2 => absurd (show b ∈ ([] : List Addr) from z2) List.not_mem_nil) List.not_mem_nil
        | some u =>
          obtain ⟨_, ob, xs, rfl⟩ := hO b u z n
          obtain ⟨e1, _⟩ := hok b _ z
          obtain ⟨e2, _⟩ := hok2 b _ (un.frzs b ob _ z)
          rw [e] at e1
          cases e1
          exact e2
      refine ⟨rfl, ⟨fun b o e => ?_, fun b o e => ?_⟩, os, bare⟩
      · by_cases z : b = t
        · subst z
          rw [ht] at e
          cases e
          exact .inr (.inl ⟨(cd.tab ht).isCodeTable, rfl, #[], more, rfl, by rw [Array.empty_append]; rw [Array.empty_append] at grown; exact grown⟩)
        · exact .inl (kept b o z e)
      · by_cases z : b = t
        · subst z
          exact ⟨_, grown⟩
        · exact ⟨o, kept b o z e⟩
  cases q : K.lookup a with
  | none =>
    let H : Hp := fun b => if b = t then some (.tbl #[]) else if b = a then some (.frz { cls := .type "list", data := .seq vs.toArray } (.lst (ns.map V.int))) else none
    have Ht : H t = some (.tbl #[]) := if_pos rfl
    have Ha : H a = some (.frz { cls := .type "list", data := .seq vs.toArray } (.lst (ns.map V.int))) := by
      show (if a = t then _ else if a = a then _ else none) = _
      rw [if_neg at_, if_pos rfl]
    have Ho : ∀ b u, H b = some u → b ≠ t → b = a ∧ u = .frz { cls := .type "list", data := .seq vs.toArray } (.lst (ns.map V.int)) := fun b u e n => by
      have e : (if b = t then some (HO.tbl #[]) else if b = a then some (HO.frz { cls := .type "list", data := .seq vs.toArray } (.lst (ns.map V.int))) else none) = some u := e
      rw [if_neg n] at e
      by_cases z : b = a
      · rw [if_pos z] at e; exact ⟨z, (Option.some.inj e).symm⟩
      · rw [if_neg z] at e; cases e
    refine go H Ht (fun b u e n => ⟨(Ho b u e n).1, _, _, (Ho b u e n).2⟩) (.inl (.inr ⟨_, Ha⟩)) (fun b u e => ?_) fun _ _ => q
    by_cases z : b = t
    · subst z
      rw [Ht] at e; cases e
      exact ht
    · obtain ⟨rfl, rfl⟩ := Ho b u e z
      exact ⟨ha, by rw [List.length_map]; exact hz, vs, _, rv, ha⟩
  | some o =>
    have e := KX a o q
    rw [ha] at e
    cases e
    refine go (fun b => if b = t then some (.tbl #[]) else none) (if_pos rfl) (fun b u e n => ?_) (.inr ⟨_, vs.toArray, _, q, rfl, rfl, rfl, by rw [List.size_toArray, nv]; exact hz, by simpa using rv⟩) (fun b u e => ?_) fun u e => ?_
    · have e : (if b = t then some (HO.tbl #[]) else none) = some u := e
      rw [if_neg n] at e; cases e
    · have e : (if b = t then some (HO.tbl #[]) else none) = some u := e
      by_cases z : b = t
      · rw [if_pos z] at e; cases e; subst z; exact ht
      · rw [if_neg z] at e; cases e
    · have e : (if a = t then some (HO.tbl #[]) else none) = some u := e
      rw [if_neg at_] at e; cases e
end
/-- the end of a law that prints, with the table of the def y -/
theorem walkGT {l : PySem.W.OpenLaw} {n k : Nat} {q : Program} {loose : List Str} {XP : (Str → Option Value) → Heap → Prop} {YP : World → Heap → Prop} {d : DefRec} {K : Params → PySem.W.Frag} {CX : World → CXT} {sp : World → Addr → Sp} {x y : Str}
    (most : l.most = some n) (small : n ≤ sizeLine) (plain : d.params.defaults = []) (room : Room k callerA) (known : ∀ (w : World) (h : Heap), YP w h → (K w.params).In h) (told : ((recsOf q).find? (fun e => e.name == y)).isSome = true)
    (F : ∀ (w : World) (mg : Str → Option Value) (fa : Addr) (h : Heap), (K w.params).In h → h.Ns mainGlobals mg → mg d.name = some (.ref fa) →
      ∃ (fd : FuncData) (c t : Addr), PySem.W.tabIn (K w.params) y = some (c, t) ∧ (K w.params).lookup t = none ∧ (∀ (s : Shared) (u : Value), BindsTo s fd ⟨[u], []⟩ [(x, u)]) ∧ ∀ base : Heap, (K w.params).In base → base.Ns mainGlobals mg → TabB base mg c t → FnG l.prog w (K w.params) mg base (CX w) k fa fd [x] (sp w t))
    (wish : ∀ (w : World) (H : Hp) (t a : Addr) (ns : List Int), ns.length ≤ n → H t = some (.tbl #[]) → SqL (K w.params) H a (ns.map V.int) → sp w t [.ref a] H (fun v _ => v = .bl true) fun _ _ _ => False)
    (no : ∀ (w : World) (H : Hp) (s : Shared) (e : Value) (s' : Shared), CX w [] H s (fun _ _ _ => False) e s' → False) : PySem.W.WalkO q loose XP YP l.row.toRowW d [] (fun f vs => PySem.call f vs) := by
  refine Att.attach_call most plain fun w t0 t1 mg mb fa o pm cd doc a vs ns G Y ho hd hcd hmg hobj hints hlen hg => ?_
  have kin := known w _ Y
  obtain ⟨fd, c, t, ht, nt, bind, run⟩ := F w mg fa _ kin G.T.g hmg
  obtain ⟨d0, hd0⟩ := Option.isSome_iff_exists.mp told
  obtain ⟨ch, tab⟩ := PySem.W.tab_of G.T kin hd0 ht
  exact law_callGT kin G.T.g G.T.b G.T.builtins G.T.nolimit hg tab nt ch G.T.bmain hobj hints (Nat.le_trans hlen small) room run bind (fun H hH hS => wish w H t a ns hlen hH hS) fun H e s' => no w H t1 e s'
end GR
set_option synthInstance.maxSize 100000
set_option synthInstance.maxHeartbeats 0
namespace K60
open PySem PySem.Spec L2 NB ER MKX DL
abbrev s_read_packet : Stmt := top 4
theorem sc_read_packet : FnScope ["data", "ack", "mask"] ["data"] (defScope s_read_packet) := ⟨rfl, rfl, rfl, by decide +kernel, rfl, by decide +kernel, by decide +kernel⟩
abbrev s_all_below : Stmt := top 1
theorem sc_all_below : FnScope ["numbers", "bound"] ["numbers", "bound"] (defScope s_all_below) := ⟨rfl, rfl, rfl, by decide +kernel, rfl, by decide +kernel, by decide +kernel⟩
section
open GxR
variable {P : Program} {w : World} {K : PySem.W.Frag} {mg : Str → Option Value} {base : Heap} {c T : Addr}
theorem ok_all_below {f : Addr} {fd : FuncData} (D : Df K mg "all_below" ["numbers", "bound"] s_all_below f fd) (B : Bl mg) (TB : TabB base mg c T) (at_ : fd.code = .ref c) : FnOk P w K mg base CX0 1 f fd ["numbers", "bound"] (spBelow T) := by
  refine Fun.okAt D.F at_ sc_all_below (fun vs H Q E h => by obtain ⟨_, _, _, rfl, _⟩ := h; rfl) (fun A outer s H vs Q E hr h => ?_)
  obtain ⟨a, us, b, rfl, ha, tg, hQ⟩ := h
  refine ⟨_, pss_one (ps_ret (pe_allZ (n := 1) hr rfl B.all (by decide +kernel) TB rfl ⟨rfl, rfl, by decide +kernel, rfl, rfl, fun y hy e => ?_⟩ (pv 0) rfl (fun cc h => h) rfl rfl (fun _ => rfl))), ?_⟩
  · rcases List.mem_cons.mp hy with rfl | hy
    · cases e
    · rcases List.mem_cons.mp hy with rfl | hy
      · cases e
      · rcases List.mem_cons.mp hy with rfl | hy
        · exact ⟨_, rfl⟩
        · cases hy
  · exact ⟨b, rfl, .ref a, rfl, a, us, rfl, ha, tg, hQ⟩
def okB (us : List Int) : Bool := us.all fun z => decide (0 ≤ z) && decide (z < 256)
theorem okB_by {us : List Int} : okB us = true ↔ ByL us := by
  unfold okB ByL
  rw [List.all_eq_true]
  constructor
  · intro h b hb
    have := h b hb
    rw [Bool.and_eq_true] at this
    exact ⟨of_decide_eq_true this.1, of_decide_eq_true this.2⟩
  · intro h b hb
    rw [Bool.and_eq_true]
    exact ⟨decide_eq_true (h b hb).1, decide_eq_true (h b hb).2⟩
/-- the packet whose bytes these are, or None -/
def rdP (us : List Int) : PyData := if okB us = true then rdU us else .none
theorem rdP_of {us : List Int} (h : ByL us) : rdP us = rdU us := if_pos (okB_by.mpr h)
theorem rdP_shape (us : List Int) : ShapeOk us (rdP us) := by
  unfold rdP rdU
  split
  · split
    · exact .inl rfl
    · split
      · split
        · exact .inl rfl
        · exact .inr (.inl ⟨_, _, rfl⟩)
      · split
        · exact .inl rfl
        · exact .inr (.inr ⟨_, _, _, _, rfl, by rw [List.length_drop]; omega⟩)
  · exact .inl rfl
theorem one_eq {us : List Int} {v : Int} {sx sy : SV} {Q : SV → Prop} (e1 : sx.dat? = some (.list ((LI us).take 1))) (e2 : sy.dat? = some (.list [.int v])) (hp : Q (.val (.bool (decide (us.head? = some v))))) : oEqD false sx sy Q := by
  constructor
  rw [e1, e2]
  have f1 : flatN 1 (.list ((LI us).take 1)) = true := by rw [LI_take]; exact LI_flatN _
  refine ⟨shp f1, shp (n := 1) rfl, ?_⟩
  have e : PyData.eqv (.list ((LI us).take 1)) (.list [.int v]) = decide (us.head? = some v) := by
    cases us with
    | nil => simp [LI, PyData.eqv, PyData.eqvAll]
    | cons u us =>
      simp [LI, PyData.eqv, PyData.eqvAll]
      by_cases h : u = v <;> simp [h]
  rw [e]
  exact hp
theorem ok_read_packet {f f_all_below f__number_of : Addr} {fd fd_all_below fd__number_of : FuncData} (D : Df K mg "read_packet" ["data"] s_read_packet f fd) (B : Bl mg)
    (D_all_below : Df K mg "all_below" ["numbers", "bound"] s_all_below f_all_below fd_all_below) (G_all_below : FnOk P w K mg base CX0 1 f_all_below fd_all_below ["numbers", "bound"] (spBelow T))
    (D__number_of : Df K mg "_number_of" ["four"] s__number_of f__number_of fd__number_of) (G__number_of : FnOk P w K mg base CX0 1 f__number_of fd__number_of ["four"] (spF (rcVal fun _ => True))) : FnOk P w K mg base CX0 3 f fd ["data"] (spNew T rdP) := by
  refine okNew D.F sc_read_packet rdP_shape (fun cdv A outer s H E hr => ⟨_, _, (pss_cons (ps_if (pt_not (pt_val (pe_call G_all_below (hr.mono (by decide)) rfl D_all_below.g D_all_below.F.kp D_all_below.b .nil pass00 (pa_cons (pv 0) (pa_cons (pe_z 256) pa_nil))))) (pss_one (ps_ret pe_non)) pss_nil)
      (pss_cons (ps_par (i := 1) (j := 2) (by rfl) sc_read_packet.nd rfl rfl (by decide) rfl rfl (pa_cons (pe_call G__number_of (hr.mono (by decide)) rfl D__number_of.g D__number_of.F.kp D__number_of.b .nil pass00 (pa_cons (pe_slice sl_list (pv 0) (po_some (pe_z 1)) (po_some (pe_z 5))) pa_nil)) (pa_cons (pe_call G__number_of (hr.mono (by decide)) rfl D__number_of.g D__number_of.F.kp D__number_of.b .nil pass00 (pa_cons (pe_slice sl_list (pv 0) (po_some (pe_z 5)) (po_some (pe_z 9))) pa_nil)) pa_nil)) (by rfl))
      (pss_cons (ps_if (PW.pt (pw_and (pt_cmpR (op_eqD hr.units) (pe_slice sl_list (pv 0) po_none (po_some (pe_z 1))) (pe_lst (pa_cons (pe_z 1) pa_nil)) (nomark _)) (pw_and1 (pt_cmpR op_ge (pe_callB call_len_seq (by rfl) B.len PySem.boot_len (pa_cons (pv 0) pa_nil)) (pe_z 13) (nomark _))))) (pss_one (ps_ret (pe_tup (pa_cons (pe_call G__number_of (hr.mono (by decide)) rfl D__number_of.g D__number_of.F.kp D__number_of.b .nil pass00 (pa_cons (pe_slice sl_list (pv 0) (po_some (pe_z 9)) (po_some (pe_z 13))) pa_nil)) (pa_cons (pe_slice sl_list (pv 0) (po_some (pe_z 13)) po_none) (pa_cons (pv 1) (pa_cons (pv 2) pa_nil))))))) pss_nil)
      (pss_cons (ps_if (PW.pt (pw_and (pt_cmpR (op_eqD hr.units) (pe_slice sl_list (pv 0) po_none (po_some (pe_z 1))) (pe_lst (pa_cons (pe_z 0) pa_nil)) (nomark _)) (pw_and1 (pt_cmpR op_eq (pe_callB call_len_seq (by rfl) B.len PySem.boot_len (pa_cons (pv 0) pa_nil)) (pe_z 9) (nomark _))))) (pss_one (ps_ret (pe_tup (pa_cons pe_non (pa_cons pe_non (pa_cons (pv 1) (pa_cons (pv 2) pa_nil))))))) pss_nil)
      (pss_one (ps_ret pe_non)))))), fun F0 Hb => DSR.seq (DSR.ifR (DTR.not (DTR.below (fun _ => by infer_instance))) (DSR.ret (DER.lift fun _ => by infer_instance)) (DSR.lift fun _ => by infer_instance)) (DSR.lift fun _ => by infer_instance), fun F0 Hb us hl => ?_⟩)
  have sl := sizeLine_eq
  have la := LI_len us
  change rSeq _ _ _ _ (some (.val (.list (LI us))) :: [none, none])
  refine ⟨by repeat (first | exact NoE_nil | refine NoE_cons (fun es e => nomatch e) ?_), _, _, us, 256, rfl, rfl, rfl, rfl, ?_⟩
  cases hb : (us.all fun z => decide (0 ≤ z) && decide (z < 256)) with
  | false =>
    refine brT ⟨by repeat (first | exact NoE_nil | refine NoE_cons (fun es e => nomatch e) ?_), rfl, ?_⟩
    show SV.val .none = .val (rdP us)
    unfold rdP
    rw [if_neg (by unfold okB; rw [hb]; simp)]
  | true =>
    have hby : ByL us := okB_by.mp hb
    have er := rdP_of hby
    refine brF ?_
    have cut1 : some (PyData.list (cutD (LI us) none (some ((1 : Nat) : Int)))) = some (.list ((LI us).take 1)) := by rw [cutD_to]
    refine num_go 1 5 rfl rfl (by decide) hby trivial ?_
    refine num_go 5 9 rfl rfl (by decide) hby trivial ?_
    refine ⟨_, _, rfl, ?_⟩
    refine ⟨(show 1 ≤ sizeLine by omega), one_eq (us := us) (v := 1) cut1 rfl ?_⟩
    have none_of : ¬ (us.head? = some 1 ∧ 13 ≤ us.length) → ¬ (us.head? = some 0 ∧ us.length = 9) → rdU us = .none := fun h1 h0 => by
      unfold rdU
      by_cases z : us.length < 9 ∨ 1 < us.getD 0 0
      · rw [if_pos z]
      · rw [if_neg z]
        cases us with
        | nil => exact absurd (.inl (by simp)) z
        | cons u r =>
          have hu := hby u List.mem_cons_self
          have z1 : ¬ 1 < u := fun h => z (.inr h)
          have z2 : ¬ (u :: r).length < 9 := fun h => z (.inl h)
          show (if u = 0 then _ else _) = _
          by_cases y : u = 0
          · rw [if_pos y]
            by_cases x : 9 < (u :: r).length
            · rw [if_pos x]
            · exact absurd ⟨by rw [y]; rfl, by omega⟩ h0
          · have y1 : u = 1 := by omega
            rw [if_neg y]
            by_cases x : (u :: r).length < 13
            · rw [if_pos x]
            · exact absurd ⟨by rw [y1]; rfl, by omega⟩ h1
    have is0 : us.head? = some 0 → us.length = 9 → rdU us = .tuple [.none, .none, .int (numA us 1 5), .int (numA us 5 9)] := fun e l9 => by
      cases us with
      | nil => cases e
      | cons u r =>
        cases e
        unfold rdU
        rw [if_neg (by rintro (h | h); omega; exact absurd (show (1 : Int) < 0 from h) (by decide)), if_pos (show (0 :: r).getD 0 0 = 0 from rfl), if_neg (by omega)]
    have is1 : us.head? = some 1 → 13 ≤ us.length → rdU us = .tuple [.int (numA us 9 13), .list (LI (us.drop 13)), .int (numA us 1 5), .int (numA us 5 9)] := fun e l13 => by
      cases us with
      | nil => cases e
      | cons u r =>
        cases e
        unfold rdU
        rw [if_neg (by rintro (h | h); omega; exact absurd (show (1 : Int) < 1 from h) (by decide)), if_neg (show ¬ (1 :: r).getD 0 0 = 0 from show ¬ (1 : Int) = 0 from by decide), if_neg (by omega)]
    refine brD (fun c2 => brD (fun c3 => ?_) fun c3 => ?_) fun c2 => ?_
    · refine num_go 9 13 rfl rfl (by decide) hby trivial ?_
      refine ⟨(show 4 ≤ sizeLine by omega), ?_⟩
      show SV.val (.tuple [.int _, .list (cutD (LI us) (some ((13 : Nat) : Int)) none), .int _, .int _]) = _
      rw [cutD_from, LI_drop, er, is1 c2 (by omega)]
    · have h1 : ¬ (us.head? = some 1 ∧ 13 ≤ us.length) := fun h => c3 (by omega)
      refine ⟨(show 1 ≤ sizeLine by omega), one_eq (us := us) (v := 0) cut1 rfl ?_⟩
      refine brD (fun d2 => brD (fun d3 => ⟨(show 4 ≤ sizeLine by omega), ?_⟩) fun d3 => ?_) fun d2 => brF ?_
      · show SV.val _ = .val (rdP us)
        rw [er, is0 d2 (by omega)]
      · show SV.val _ = .val (rdP us)
        rw [er, none_of h1 fun h => d3 (by omega)]
      · show SV.val _ = .val (rdP us)
        rw [er, none_of h1 fun h => d2 h.1]
    · have h1 : ¬ (us.head? = some 1 ∧ 13 ≤ us.length) := fun h => c2 h.1
      refine brF ?_
      refine ⟨(show 1 ≤ sizeLine by omega), one_eq (us := us) (v := 0) cut1 rfl ?_⟩
      refine brD (fun d2 => brD (fun d3 => ⟨(show 4 ≤ sizeLine by omega), ?_⟩) fun d3 => ?_) fun d2 => brF ?_
      · show SV.val _ = .val (rdP us)
        rw [er, is0 d2 (by omega)]
      · show SV.val _ = .val (rdP us)
        rw [er, none_of h1 fun h => d3 (by omega)]
      · show SV.val _ = .val (rdP us)
        rw [er, none_of h1 fun h => d2 h.1]
end
end K60
set_option synthInstance.maxSize 100000
set_option synthInstance.maxHeartbeats 0
namespace K60
open PySem PySem.Spec L2 NB ER MKX DL
abbrev s_law : Stmt := top 14
theorem sc_law : FnScope ["script", "draws", "turn", "k", "ack", "mask", "data", "packet", "due", "kept", "again", "told", "found", "row", "j"] ["script"] (defScope s_law) := ⟨rfl, rfl, rfl, by decide +kernel, rfl, by decide +kernel, by decide +kernel⟩
section
variable {P : Program} {w : World} {K : PySem.W.Frag} {mg : Str → Option Value} {base : Heap} {T : Addr}
theorem dvar_go {i : Nat} {σ : SD} {sv : SV} {P : SV → Prop} (h : σ[i]? = some (some sv)) (hp : P sv.al) : dVar i σ P := by unfold dVar; rw [h]; exact hp
theorem val_by (n : Nat) (h : n < 2 ^ 32) : (shL (byN n)).sum = (n : Int) := by
  have e : byN n = [((n / 2 ^ (8 * 0) % 256 : Nat) : Int), ((n / 2 ^ (8 * 1) % 256 : Nat) : Int), ((n / 2 ^ (8 * 2) % 256 : Nat) : Int), ((n / 2 ^ (8 * 3) % 256 : Nat) : Int)] := rfl
  rw [e]
  show (((n / 2 ^ (8 * 0) % 256 : Nat) : Int) * 2 ^ (8 * 0) + (((n / 2 ^ (8 * 1) % 256 : Nat) : Int) * 2 ^ (8 * 1) + (((n / 2 ^ (8 * 2) % 256 : Nat) : Int) * 2 ^ (8 * 2) + (((n / 2 ^ (8 * 3) % 256 : Nat) : Int) * 2 ^ (8 * 3) + 0)))) = (n : Int)
  simp only [Nat.mul_zero, Nat.pow_zero, Nat.div_one, Nat.mul_one, Nat.reduceMul, Nat.reducePow, Int.reducePow]
  omega
theorem byN_by (n : Nat) : ByL (byN n) := fun b hb => by
  unfold byN at hb
  obtain ⟨k, _, rfl⟩ := List.mem_map.mp hb
  omega
theorem wr_by {o : Option (Nat × List Int)} {a m : Nat} (h : ∀ n ds, o = some (n, ds) → ByL ds) : ByL (wrL o a m) := fun b hb => by
  have hc : ∀ x ∈ byN a ++ byN m, 0 ≤ x ∧ x < 256 := fun x hx => by
    rcases List.mem_append.mp hx with z | z
    · exact byN_by a x z
    · exact byN_by m x z
  cases o with
  | none =>
    rcases List.mem_cons.mp hb with rfl | z
    · decide
    · exact hc b z
  | some nd =>
    obtain ⟨n, ds⟩ := nd
    rcases List.mem_cons.mp hb with rfl | z
    · decide
    · rcases List.mem_append.mp z with z | z
      · rcases List.mem_append.mp z with z | z
        · exact hc b z
        · exact byN_by n b z
      · exact h n ds rfl b z
theorem mid (x : Int) (p q r : List Int) (lo hi : Nat) (h1 : p.length + 1 = lo) (h2 : hi - lo = q.length) : numA (x :: (p ++ (q ++ r))) lo hi = (shL q).sum := by
  unfold numA
  subst h1
  rw [List.drop_succ_cons, List.drop_left, h2, List.take_left]
theorem rd_wr {o : Option (Nat × List Int)} {a m : Nat} (ha : a < 2 ^ 32) (hm : m < 2 ^ 32) (h : ∀ n ds, o = some (n, ds) → n < 2 ^ 32 ∧ ByL ds) : rdP (wrL o a m) = packD o a m := by
  rw [rdP_of (wr_by fun n ds e => (h n ds e).2)]
  have la := byN_len a
  have lm := byN_len m
  cases o with
  | none =>
    have e1 : numA (wrL none a m) 1 5 = (a : Int) := by
      show numA (0 :: ([] ++ (byN a ++ byN m))) 1 5 = _
      rw [mid 0 [] (byN a) (byN m) 1 5 rfl (by rw [la]), val_by a ha]
    have e2 : numA (wrL none a m) 5 9 = (m : Int) := by
      have : wrL none a m = 0 :: (byN a ++ (byN m ++ [])) := by simp [wrL]
      rw [this, mid 0 (byN a) (byN m) [] 5 9 (by rw [la]) (by rw [lm]), val_by m hm]
    have l : (wrL none a m).length = 9 := by simp [wrL, la, lm]
    unfold rdU
    rw [if_neg (by rintro (h | h); omega; exact absurd (show (1 : Int) < 0 from h) (by decide)), if_pos (show (wrL none a m).getD 0 0 = 0 from rfl), if_neg (by omega), e1, e2]
    rfl
  | some nd =>
    obtain ⟨n, ds⟩ := nd
    obtain ⟨hn, _⟩ := h n ds rfl
    have ln := byN_len n
    have e0 : wrL (some (n, ds)) a m = 1 :: (byN a ++ byN m ++ byN n ++ ds) := rfl
    have e1 : numA (wrL (some (n, ds)) a m) 1 5 = (a : Int) := by
      have : wrL (some (n, ds)) a m = 1 :: ([] ++ (byN a ++ (byN m ++ byN n ++ ds))) := by simp [wrL]
      rw [this, mid 1 [] (byN a) _ 1 5 rfl (by rw [la]), val_by a ha]
    have e2 : numA (wrL (some (n, ds)) a m) 5 9 = (m : Int) := by
      have : wrL (some (n, ds)) a m = 1 :: (byN a ++ (byN m ++ (byN n ++ ds))) := by simp [wrL]
      rw [this, mid 1 (byN a) (byN m) _ 5 9 (by rw [la]) (by rw [lm]), val_by m hm]
    have e3 : numA (wrL (some (n, ds)) a m) 9 13 = (n : Int) := by
      have : wrL (some (n, ds)) a m = 1 :: ((byN a ++ byN m) ++ (byN n ++ ds)) := by simp [wrL]
      rw [this, mid 1 (byN a ++ byN m) (byN n) _ 9 13 (by rw [List.length_append, la, lm]) (by rw [ln]), val_by n hn]
    have e4 : (wrL (some (n, ds)) a m).drop 13 = ds := by
      have : (byN a ++ byN m ++ byN n).length = 12 := by simp [la, lm, ln]
      rw [e0, List.drop_succ_cons, ← this, List.drop_left]
    have l : (wrL (some (n, ds)) a m).length = 13 + ds.length := by simp [wrL, la, lm, ln]; omega
    unfold rdU
    rw [if_neg (by rintro (h | h); omega; exact absurd (show (1 : Int) < 1 from h) (by decide)), if_neg (show ¬ (wrL (some (n, ds)) a m).getD 0 0 = 0 from show ¬ (1 : Int) = 0 from by decide), if_neg (by omega), e1, e2, e3, e4]
    rfl
theorem int32 {c : Nat} (h : c < 2 ^ 32) : Rp (.int (c : Int)) 40 1 := by
  have hl : (c : Int).natAbs.log2 < 33 := by
    rw [Int.natAbs_natCast]
    by_cases z : c = 0
    · rw [z]; decide
    · exact Nat.lt_of_lt_of_le ((Nat.log2_lt (k := 32) z).mpr h) (by decide)
  have hs : (PyData.shown (.int (c : Int))).length ≤ 13 := by
    have e := int_text_length_le10 (a := (c : Int)) (k := 10) (by decide) (by rw [Int.natAbs_natCast]; omega)
    show (Str.ofString (toString (c : Int))).length ≤ 13
    rw [PySem.ofString_length]
    omega
  refine ⟨?_, ?_, ?_, ?_, ?_⟩
  · simp only [PyData.intsShort]; exact decide_eq_true hs
  · simp only [PyData.weight]
    split <;> omega
  · simp only [PyData.showable]; exact decide_eq_true (by omega)
  · simp [PyData.canLay0]
  · simp [PyData.depth]
theorem rpNone : Rp .none 10 1 := ⟨by simp [PyData.intsShort], by simp [PyData.weight], by simp [PyData.showable], by simp [PyData.canLay0], by simp [PyData.depth]⟩
theorem pack_ok {o : Option (Nat × List Int)} {a m : Nat} (ha : a < 2 ^ 32) (hm : m < 2 ^ 32) (h : ∀ n ds, o = some (n, ds) → n < 2 ^ 32 ∧ ds.length ≤ 100 ∧ ByL ds) : ReprOk (packD o a m) := by
  have A := RpA.cons (int32 ha) (RpA.cons (int32 hm) (RpA.nil (n := 0) (b := 1)) (N := 41) (by omega)) (N := 82) (by omega)
  cases o with
  | none => exact ((RpA.cons rpNone (RpA.cons rpNone A (N := 93) (by omega)) (N := 104) (by omega)).tup).ok rfl (by decide) (by decide)
  | some nd =>
    obtain ⟨n, ds⟩ := nd
    obtain ⟨h1, h2, h3⟩ := h n ds rfl
    have b := ((RpA.ints h3).lst).mono (m := 1100) (c := 2) (by omega) (by decide)
    have A2 := RpA.cons ((int32 ha).mono (Nat.le_refl _) (show 1 ≤ 2 by decide)) (RpA.cons ((int32 hm).mono (Nat.le_refl _) (show 1 ≤ 2 by decide)) (RpA.nil (n := 0) (b := 2)) (N := 41) (by omega)) (N := 82) (by omega)
    exact ((RpA.cons ((int32 h1).mono (Nat.le_refl _) (show 1 ≤ 2 by decide)) (RpA.cons b A2 (N := 1183) (by omega)) (N := 1224) (by omega)).tup).ok rfl (by decide) (by decide)
theorem pack_flat (o : Option (Nat × List Int)) (a m : Nat) : flatN 2 (packD o a m) = true := by
  cases o with
  | none => rfl
  | some nd =>
    obtain ⟨n, ds⟩ := nd
    show ([PyData.int _, .list (LI ds), .int _, .int _].all (flatN 1)) = true
    rw [List.all_cons, List.all_cons, LI_flatN]; rfl
theorem rdU_flat (us : List Int) : flatN 2 (rdU us) = true := by
  unfold rdU
  split
  · rfl
  · split
    · split
      · rfl
      · rfl
    · split
      · rfl
      · show ([PyData.int _, .list (LI (us.drop 13)), .int _, .int _].all (flatN 1)) = true
        rw [List.all_cons, List.all_cons, LI_flatN]; rfl
theorem num2_go {F0 : Hp} {ds : List Int} {k : Nat} {z : Int} {al : SV → Bool} {P : SV → Prop} {ER : Addr → Int → Prop} (hz : z = (k : Int)) (hk : k ≤ 1000) (h : ∀ n : Nat, n < 2 ^ 32 → P (.val (.int (n : Int)))) : ∃ S, rcNum F0 [.val (.list (LI ds)), .val (.int z)] S ∧ ∀ r, S r → match r with
    | .ok sv => (al sv = true → sv.flat = true) ∧ P sv
    | .er C i => ER C i := by
  subst hz
  refine ⟨fun r => ∃ n : Nat, n < 2 ^ 32 ∧ r = .ok (.val (.int (n : Int))), ⟨ds, k, rfl, hk, fun n h => ⟨n, h, rfl⟩⟩, ?_⟩
  rintro r ⟨n, hn, rfl⟩
  exact ⟨fun _ => rfl, h n hn⟩
theorem wr_go {F0 : Hp} {o : Option (Nat × List Int)} {a m : Nat} {al : SV → Bool} {P : SV → Prop} {ER : Addr → Int → Prop} (ha : a < 2 ^ 32) (hm : m < 2 ^ 32) (ho : ∀ n ds, o = some (n, ds) → n < 2 ^ 32 ∧ ds.length ≤ 100) (h : P (.own (LI (wrL o a m)))) : ∃ S, rcWr F0 [.val (packD o a m)] S ∧ ∀ r, S r → match r with
    | .ok sv => (al sv = true → sv.flat = true) ∧ P sv
    | .er C i => ER C i := by
  refine ⟨fun r => r = .ok (.own (LI (wrL o a m))), ⟨o, a, m, rfl, ha, hm, ho, rfl⟩, ?_⟩
  rintro r rfl
  exact ⟨fun _ => LI_flatD _, h⟩
theorem due_go {F0 : Hp} {us : List Int} {al : SV → Bool} {P : SV → Prop} {ER : Addr → Int → Prop} (hl : us.length ≤ 1000) (hb : ByL us) (hal : al (.val (rdU us)) = false) (h : P (.val (rdU us))) : ∃ S, rcDue F0 [.val (.list (LI us))] S ∧ ∀ r, S r → match r with
    | .ok sv => (al sv = true → sv.flat = true) ∧ P sv
    | .er C i => ER C i := by
  refine ⟨fun r => r = .ok (.val (rdU us)), ⟨us, rfl, hl, hb, rfl⟩, ?_⟩
  rintro r rfl
  exact ⟨fun z => absurd (hal.symm.trans z) (by decide), h⟩
theorem wr_len {o : Option (Nat × List Int)} {a m : Nat} (ho : ∀ n ds, o = some (n, ds) → ds.length ≤ 100) : (wrL o a m).length ≤ 113 := by
  cases o with
  | none => simp [wrL, byN_len]
  | some nd =>
    obtain ⟨n, ds⟩ := nd
    have := ho n ds rfl
    simp only [wrL, List.length_cons, List.length_append, byN_len]; omega
/-- what holds of a packet -/
structure OkP (o : Option (Nat × List Int)) (a m : Nat) : Prop where
  a : a < 2 ^ 32
  m : m < 2 ^ 32
  o : ∀ n ds, o = some (n, ds) → n < 2 ^ 32 ∧ ds.length ≤ 100 ∧ ByL ds
theorem ok_law {f f__law_draws f__law_mix f__law_number f__law_bytes f__law_due f_write_packet f_read_packet : Addr} {fd fd__law_draws fd__law_mix fd__law_number fd__law_bytes fd__law_due fd_write_packet fd_read_packet : FuncData} (D : Df K mg "law" ["script"] s_law f fd) (B : Bl mg) (z_repr : mg "repr" = none)
    (D__law_draws : Df K mg "_law_draws" ["script"] s__law_draws f__law_draws fd__law_draws) (G__law_draws : FnOk P w K mg base CX0 1 f__law_draws fd__law_draws ["script"] (sp_draws K))
    (D__law_mix : Df K mg "_law_mix" ["draws", "k", "many"] s__law_mix f__law_mix fd__law_mix) (G__law_mix : FnOk P w K mg base CX0 1 f__law_mix fd__law_mix ["draws", "k", "many"] (spF rcMix))
    (D__law_number : Df K mg "_law_number" ["draws", "k"] s__law_number f__law_number fd__law_number) (G__law_number : FnOk P w K mg base CX0 3 f__law_number fd__law_number ["draws", "k"] (spF rcNum))
    (D__law_bytes : Df K mg "_law_bytes" ["number"] s__law_bytes f__law_bytes fd__law_bytes) (G__law_bytes : FnOk P w K mg base CX0 1 f__law_bytes fd__law_bytes ["number"] (spF rcBy))
    (D__law_due : Df K mg "_law_due" ["row"] s__law_due f__law_due fd__law_due) (G__law_due : FnOk P w K mg base CX0 3 f__law_due fd__law_due ["row"] (spF rcDue))
    (D_write_packet : Df K mg "write_packet" ["packet"] s_write_packet f_write_packet fd_write_packet) (G_write_packet : FnOk P w K mg base CX0 3 f_write_packet fd_write_packet ["packet"] (spF rcWr))
    (D_read_packet : Df K mg "read_packet" ["data"] s_read_packet f_read_packet fd_read_packet) (G_read_packet : FnOk P w K mg base CX0 3 f_read_packet fd_read_packet ["data"] (spNew T rdP)) :
    GR.FnG P w K mg base CX0 6 f fd ["script"] (sp_lawT K T) := by
  refine okLawT D.F sc_law (by decide) (fun cdv A outer s H E gd hr => ⟨_, _, (pss_cons (ps_set (i := 1) sc_law.nd rfl (Or.inr rfl) (pe_call G__law_draws (hr.mono (by decide)) rfl D__law_draws.g D__law_draws.F.kp D__law_draws.b .nil pass00 (pa_cons (pv 0) pa_nil)))
      (pss_cons (ps_for PassesOwn.never rfl (pi_range1 rfl B.range (pa_cons (pe_z 3) pa_nil)) (pg_name (i := 2) sc_law.nd rfl (Or.inl rfl) (Or.inr rfl))
        (pss_cons (ps_set (i := 3) sc_law.nd rfl (Or.inr rfl) (pe_op op_mul (pe_z 40) (pv 2)))
        (pss_cons (ps_set (i := 4) sc_law.nd rfl (Or.inl rfl) (pe_call G__law_number (hr.mono (by decide)) rfl D__law_number.g D__law_number.F.kp D__law_number.b .nil pass00 (pa_cons (pv 1) (pa_cons (pv 3) pa_nil))))
        (pss_cons (ps_set (i := 5) sc_law.nd rfl (Or.inl rfl) (pe_call G__law_number (hr.mono (by decide)) rfl D__law_number.g D__law_number.F.kp D__law_number.b .nil pass00 (pa_cons (pv 1) (pa_cons (pe_op op_add (pv 3) (pe_z 3)) pa_nil))))
        (pss_cons (ps_setLc (i := 6) (own := [("j", 14)]) rfl sc_law.nd rfl rfl (sw_true rfl rfl rfl (by decide +kernel)) (pi_range1 rfl B.range (pa_cons (pe_call G__law_mix (hr.mono (by decide)) rfl D__law_mix.g D__law_mix.F.kp D__law_mix.b .nil pass00 (pa_cons (pv 1) (pa_cons (pe_op op_add (pv 3) (pe_z 6)) (pa_cons (pe_z 13) pa_nil)))) pa_nil)) (blkOk_by (own := [("j", 14)]) (N := ["script", "draws", "turn", "k", "ack", "mask", "data", "packet", "due", "kept", "again", "told", "found", "row", "j"]) (sc := defScope s_law) (by decide +kernel)) (fun _ _ _ _ _ => (pg_name (i := 14) sc_law.nd rfl (Or.inl rfl) (Or.inr rfl))) (fun _ _ _ _ _ => pts_nil) (fun _ _ _ _ _ => (pe_call G__law_mix (hr.mono (by decide)) rfl D__law_mix.g D__law_mix.F.kp D__law_mix.b .nil pass00 (pa_cons (pv 1) (pa_cons (pe_op op_add (pe_op op_add (pv 3) (pe_z 10)) (pv 14)) (pa_cons (pe_z 256) pa_nil))))))
        (pss_cons (ps_set (i := 7) sc_law.nd rfl (Or.inl rfl) (pe_tup (pa_cons (pe_call G__law_number (hr.mono (by decide)) rfl D__law_number.g D__law_number.F.kp D__law_number.b .nil pass00 (pa_cons (pv 1) (pa_cons (pe_op op_add (pv 3) (pe_z 7)) pa_nil))) (pa_cons (pv 6) (pa_cons (pv 4) (pa_cons (pv 5) pa_nil))))))
        (pss_cons (ps_set (i := 8) sc_law.nd rfl (Or.inl rfl) (pe_op op_cat (pe_op op_cat (pe_op op_cat (pe_op op_cat (pe_lst (pa_cons (pe_z 1) pa_nil)) (pe_call G__law_bytes (hr.mono (by decide)) rfl D__law_bytes.g D__law_bytes.F.kp D__law_bytes.b .nil pass00 (pa_cons (pv 4) pa_nil))) (pe_call G__law_bytes (hr.mono (by decide)) rfl D__law_bytes.g D__law_bytes.F.kp D__law_bytes.b .nil pass00 (pa_cons (pv 5) pa_nil))) (pe_call G__law_bytes (hr.mono (by decide)) rfl D__law_bytes.g D__law_bytes.F.kp D__law_bytes.b .nil pass00 (pa_cons (pe_ix ix_tup (pv 7) (pe_z 0) (fun _ _ => rfl)) pa_nil))) (pv 6)))
        (C8.pss_cut (ps_if (pt_cmpR op_eq (pe_call G__law_mix (hr.mono (by decide)) rfl D__law_mix.g D__law_mix.F.kp D__law_mix.b .nil pass00 (pa_cons (pv 1) (pa_cons (pe_op op_add (pv 3) (pe_z 9)) (pa_cons (pe_z 3) pa_nil)))) (pe_z 1) (nomark _)) (pss_cons (ps_set (i := 7) sc_law.nd rfl (Or.inl rfl) (pe_tup (pa_cons pe_non (pa_cons pe_non (pa_cons (pv 4) (pa_cons (pv 5) pa_nil))))))
          (pss_one (ps_set (i := 8) sc_law.nd rfl (Or.inl rfl) (pe_op op_cat (pe_op op_cat (pe_lst (pa_cons (pe_z 0) pa_nil)) (pe_call G__law_bytes (hr.mono (by decide)) rfl D__law_bytes.g D__law_bytes.F.kp D__law_bytes.b .nil pass00 (pa_cons (pv 4) pa_nil))) (pe_call G__law_bytes (hr.mono (by decide)) rfl D__law_bytes.g D__law_bytes.F.kp D__law_bytes.b .nil pass00 (pa_cons (pv 5) pa_nil)))))) pss_nil)
        (pss_cons (ps_set (i := 9) sc_law.nd rfl (Or.inl rfl) (pe_callB (GR.call_reprD gd hr.units) (by rfl) z_repr (by decide +kernel) (pa_cons (pv 7) pa_nil)))
        (pss_cons (ps_for PassesOwn.never rfl (pi_range1 rfl B.range (pa_cons (pe_z 2) pa_nil)) (pg_name (i := 10) sc_law.nd rfl (Or.inl rfl) (Or.inr rfl))
          (pss_cons (ps_set (i := 11) sc_law.nd rfl (Or.inl rfl) (pe_call G_write_packet (hr.mono (by decide)) rfl D_write_packet.g D_write_packet.F.kp D_write_packet.b .nil pass00 (pa_cons (pv 7) pa_nil)))
          (pss_cons (ps_if (PW.pt (pw_or (pt_cmpR (op_neD hr.units) (pv 11) (pv 8) (nomark _)) (pw_or1 (pt_cmpR op_neS (pe_callB (GR.call_reprD gd hr.units) (by rfl) z_repr (by decide +kernel) (pa_cons (pv 7) pa_nil)) (pv 9) (nomark _))))) (pss_one (ps_ret pe_bl)) pss_nil)
          (pss_cons (ps_expr (pe_bm PySem.F.plainAttrs_list PySem.F.slot_list_append PySem.F.type_list_append mt_append (pv 11) (pa_cons (pe_z 1) pa_nil)))
          (pss_cons (ps_set (i := 12) sc_law.nd rfl (Or.inl rfl) (pe_call G_read_packet (hr.mono (by decide)) rfl D_read_packet.g D_read_packet.F.kp D_read_packet.b .nil pass00 (pa_cons (pv 8) pa_nil)))
          (pss_cons (ps_if (pt_cmpR (op_neD hr.units) (pv 12) (pv 7) (nomark _)) (pss_one (ps_ret pe_bl)) pss_nil)
          (pss_one (ps_if (pt_cmpR op_notN (pe_ix ix_tup (pv 12) (pe_z 1) (fun _ _ => rfl)) pe_non (nomark _)) (pss_one (ps_expr (pe_bm PySem.F.plainAttrs_list PySem.F.slot_list_append PySem.F.type_list_append mt_append (pe_ix ix_tup (pv 12) (pe_z 1) (fun _ _ => rfl)) (pa_cons (pe_z 1) pa_nil)))) pss_nil))))))))
        (pss_cons (ps_setLc (i := 13) (own := [("j", 14)]) rfl sc_law.nd rfl rfl (sw_true rfl rfl rfl (by decide +kernel)) (pi_range1 rfl B.range (pa_cons (pe_call G__law_mix (hr.mono (by decide)) rfl D__law_mix.g D__law_mix.F.kp D__law_mix.b .nil pass00 (pa_cons (pv 1) (pa_cons (pe_op op_add (pv 3) (pe_z 23)) (pa_cons (pe_z 21) pa_nil)))) pa_nil)) (blkOk_by (own := [("j", 14)]) (N := ["script", "draws", "turn", "k", "ack", "mask", "data", "packet", "due", "kept", "again", "told", "found", "row", "j"]) (sc := defScope s_law) (by decide +kernel)) (fun _ _ _ _ _ => (pg_name (i := 14) sc_law.nd rfl (Or.inl rfl) (Or.inr rfl))) (fun _ _ _ _ _ => pts_nil) (fun _ _ _ _ _ => (pe_call G__law_mix (hr.mono (by decide)) rfl D__law_mix.g D__law_mix.F.kp D__law_mix.b .nil pass00 (pa_cons (pv 1) (pa_cons (pe_op op_add (pe_op op_add (pv 3) (pe_z 24)) (pv 14)) (pa_cons (pe_z 256) pa_nil))))))
        (C8.pss_cut (ps_if (pt_cmpR op_gt (pe_callB call_len_seq (by rfl) B.len PySem.boot_len (pa_cons (pv 13) pa_nil)) (pe_z 0) (nomark _)) (pss_one (ps_asg (pe_ix ix_list (pe_lst (pa_cons (pe_z 0) (pa_cons (pe_z 1) (pa_cons (pe_z 1) (pa_cons (pe_z 2) (pa_cons (pe_ix ix_list (pv 13) (pe_z 0) (fun _ _ => rfl)) pa_nil)))))) (pe_call G__law_mix (hr.mono (by decide)) rfl D__law_mix.g D__law_mix.F.kp D__law_mix.b .nil pass00 (pa_cons (pv 1) (pa_cons (pe_op op_add (pv 3) (pe_z 22)) (pa_cons (pe_z 5) pa_nil)))) (fun _ _ => rfl)) (pg_sub (pv 13) (pe_z 0) set_list))) pss_nil)
        (pss_cons (ps_set (i := 9) sc_law.nd rfl (Or.inl rfl) (pe_callTy call_list_of (by rfl) B.list (by decide +kernel) (pa_cons (pv 13) pa_nil)))
        (pss_one (ps_if (PW.pt (pw_or (pt_cmpR (op_neD hr.units) (pe_call G_read_packet (hr.mono (by decide)) rfl D_read_packet.g D_read_packet.F.kp D_read_packet.b .nil pass00 (pa_cons (pv 13) pa_nil)) (pe_call G__law_due (hr.mono (by decide)) rfl D__law_due.g D__law_due.F.kp D__law_due.b .nil pass00 (pa_cons (pv 9) pa_nil)) (nomark _)) (pw_or1 (pt_cmpR (op_neD hr.units) (pv 13) (pv 9) (nomark _))))) (pss_one (ps_ret pe_bl)) pss_nil)))))))))))))))
      (pss_one (ps_ret (pe_cmpR op_isN (pe_call G_read_packet (hr.mono (by decide)) rfl D_read_packet.g D_read_packet.F.kp D_read_packet.b .nil pass00 (pa_cons (pe_lst pa_nil) pa_nil)) pe_non (nomark _)))))), fun F0 Hb => (DSR.seq (DSR.forS (DIA.rng1 (fun _ => by infer_instance)) (fun _ => by infer_instance) (DSR.seq (DSR.lift fun _ => by infer_instance) (DSR.seq (DSR.lift fun _ => by infer_instance) (DSR.seq (DSR.lift fun _ => by infer_instance) (DSR.seq (DSR.lift fun _ => by infer_instance) (DSR.seq (DSR.lift fun _ => by infer_instance) (DSR.seq (DSR.lift fun _ => by infer_instance) (DSR.cut (DSR.lift fun _ => by infer_instance) (DSR.seq (DSR.lift fun _ => by infer_instance) (DSR.seq (DSR.forS (DIA.rng1 (fun _ => by infer_instance)) (fun _ => by infer_instance) (DSR.seq (DSR.lift fun _ => by infer_instance) (DSR.seq (DSR.lift fun _ => by infer_instance) (DSR.seq (DSR.lift fun _ => by infer_instance) (DSR.found (fun _ => by infer_instance) (fun _ _ => by infer_instance) (fun _ _ => by infer_instance)))))) (DSR.seq (DSR.lift fun _ => by infer_instance) (DSR.cut (DSR.lift fun _ => by infer_instance) (DSR.seq (DSR.lift fun _ => by infer_instance) (DSR.ifR (DTR.or (DTR.of (DER.op (DER.callNew (fun _ => by infer_instance)) (DER.lift fun _ => by infer_instance) (fun _ => by infer_instance))) (DTR.lift (fun _ => by infer_instance))) (DSR.lift fun _ => by infer_instance) (DSR.lift fun _ => by infer_instance))))))))))))))) (DSR.ret (DER.op (DER.callNew (fun _ => by infer_instance)) (DER.lift fun _ => by infer_instance) (fun _ => by infer_instance)))), fun F0 Hb xs hxs => ?_⟩)
  have sl := sizeLine_eq
  change rSeq _ _ _ _ (none :: some _ :: [none, none, none, none, none, none, none, none, none, none, none, none, none])
  have na : ∀ {x : Bool}, false = true → x = true := fun z => Bool.noConfusion z
  refine ⟨⟨by decide, by decide⟩, rfl, fun i c σ => ∃ o2 o3 o4 o5 o6 o7 o8 o9 o10 o11 o12 o13 o14 : Option SV, NoE [o2, o3, o4, o5, o6, o7, o8, o9, o10, o11, o12, o13, o14] ∧ σ = [none, some (.val (.list (LI xs))), o2, o3, o4, o5, o6, o7, o8, o9, o10, o11, o12, o13, o14],
    ⟨none, none, none, none, none, none, none, none, none, none, none, none, none, by repeat (first | exact NoE_nil | refine NoE_cons (fun es e => nomatch e) ?_), rfl⟩, ?_, ?_⟩
  · rintro i d c σ hd ⟨o2, o3, o4, o5, o6, o7, o8, o9, o10, o11, o12, o13, o14, hne, rfl⟩
    obtain ⟨hi, rfl⟩ := rangeD_at hd
    have hi3 : i < 3 := hi
    have n9 : NoEo o9 := hne o9 (by simp)
    have n10 : NoEo o10 := hne o10 (by simp)
    have n11 : NoEo o11 := hne o11 (by simp)
    have n12 : NoEo o12 := hne o12 (by simp)
    have n13 : NoEo o13 := hne o13 (by simp)
    have n14 : NoEo o14 := hne o14 (by simp)
    refine ⟨.inl (by decide), ?_⟩
    dsimp only [List.set_cons_succ, List.set_cons_zero]
    refine num2_go (k := 40 * i) (by omega) (by omega) fun a ha => ?_
    dsimp only [List.set_cons_succ, List.set_cons_zero]
    refine num2_go (k := 40 * i + 3) (by omega) (by omega) fun m hm => ?_
    dsimp only [List.set_cons_succ, List.set_cons_zero]
    refine mix_go (hk := by omega) (hk2 := by omega) fun v0 v1 v2 => ?_
    refine ⟨⟨by omega, by omega⟩, rfl, fun j acc => ∃ q : List Int, acc = LI q ∧ q.length = j ∧ ByL q, ⟨[], rfl, rfl, fun b hb => absurd hb List.not_mem_nil⟩, ?_, ?_⟩
    · rintro j d acc hd ⟨q, rfl, h1, h2⟩
      obtain ⟨hj, rfl⟩ := rangeD_at hd
      refine brT (mix_go (hk := by omega) (hk2 := by omega) fun z f1 f2 => ⟨by rw [LI_len]; omega, q ++ [z], by rw [← LI_snoc], by simp [h1], fun b hb => ?_⟩)
      rcases List.mem_append.mp hb with y | y
      · exact h2 b y
      · rw [List.mem_singleton.mp y]; exact ⟨f1, f2⟩
    rintro acc ⟨ds, rfl, h1, hby⟩
    have hds : ds.length ≤ 100 := by rw [h1, rangeD_len]; omega
    refine .inr ?_
    dsimp only [List.set_cons_succ, List.set_cons_zero]
    refine num2_go (k := 40 * i + 7) (by omega) (by omega) fun n hn => ?_
    refine ⟨(show 4 ≤ sizeLine by omega), ?_⟩
    dsimp only [List.set_cons_succ, List.set_cons_zero]
    have la := byN_len a
    have lm := byN_len m
    have ln := byN_len n
    have e0 : LI (wrL none a m) = [PyData.int 0] ++ LI (byN a) ++ LI (byN m) := by simp [LI, wrL]
    have e1 : LI (wrL (some (n, ds)) a m) = [PyData.int 1] ++ LI (byN a) ++ LI (byN m) ++ LI (byN n) ++ LI ds := by simp [LI, wrL]
    refine ⟨(show 1 ≤ sizeLine by omega), by_go ha ⟨by simp only [List.length_append, List.length_singleton, LI_len, la, lm, ln]; omega, by_go hm ⟨by simp only [List.length_append, List.length_singleton, LI_len, la, lm, ln]; omega, ⟨.int (n : Int), rfl, by_go hn ⟨by simp only [List.length_append, List.length_singleton, LI_len, la, lm, ln]; omega, ⟨by simp only [List.length_append, List.length_singleton, LI_len, la, lm, ln]; omega, .inl ?_⟩⟩⟩⟩⟩⟩
    dsimp only [List.set_cons_succ, List.set_cons_zero]
    refine ⟨fun _ σ => ∃ o : Option (Nat × List Int), OkP o a m ∧ σ = [none, some (.val (.list (LI xs))), some (.val (.int (0 + (i : Int)))), some (.val (.int (40 * (0 + (i : Int))))), some (.val (.int (a : Int))), some (.val (.int (m : Int))), some (.val (.list (LI ds))), some (.val (packD o a m)), some (.own (LI (wrL o a m))), o9, o10, o11, o12, o13, o14], ?_, ?_⟩
    · refine mix_go (hk := by omega) (hk2 := by omega) fun w1 w2 w3 => brD (fun c1 => ?_) fun c1 => ?_
      · refine ⟨(show 4 ≤ sizeLine by omega), ?_⟩
        dsimp only [List.set_cons_succ, List.set_cons_zero]
        refine ⟨(show 1 ≤ sizeLine by omega), by_go ha ⟨by simp only [List.length_append, List.length_singleton, LI_len, la, lm, ln]; omega, by_go hm ⟨by simp only [List.length_append, List.length_singleton, LI_len, la, lm, ln]; omega, .inl ?_⟩⟩⟩
        exact ⟨none, ⟨ha, hm, fun _ _ e => nomatch e⟩, by rw [e0]; rfl⟩
      · exact ⟨some (n, ds), ⟨ha, hm, fun _ _ e => by cases e; exact ⟨hn, hds, hby⟩⟩, by rw [e1]; rfl⟩
    rintro c' σ' ⟨o, ok, rfl⟩
    have po : ReprOk (packD o a m) := pack_ok ok.a ok.m ok.o
    have ok2 : ∀ n ds, o = some (n, ds) → n < 2 ^ 32 ∧ ds.length ≤ 100 := fun n ds e => ⟨(ok.o n ds e).1, (ok.o n ds e).2.1⟩
    have wl : (wrL o a m).length ≤ 113 := wr_len fun n ds e => (ok2 n ds e).2
    have er : rdP (wrL o a m) = packD o a m := rd_wr ok.a ok.m fun n ds e => ⟨(ok.o n ds e).1, (ok.o n ds e).2.2⟩
    refine ⟨_, rfl, po, ?_⟩
    dsimp only [List.set_cons_succ, List.set_cons_zero]
    refine ⟨⟨by decide, by decide⟩, rfl, fun j c σ => ∃ p10 p11 p12 : Option SV, NoE [p10, p11, p12] ∧ σ = [none, some (.val (.list (LI xs))), some (.val (.int (0 + (i : Int)))), some (.val (.int (40 * (0 + (i : Int))))), some (.val (.int (a : Int))), some (.val (.int (m : Int))), some (.val (.list (LI ds))), some (.val (packD o a m)), some (.own (LI (wrL o a m))), some (.val (.str (packD o a m).shown)), p10, p11, p12, o13, o14],
      ⟨o10, o11, o12, NoE_cons n10 (NoE_cons n11 (NoE_cons n12 NoE_nil)), rfl⟩, ?_, ?_⟩
    · rintro j d c σ hd ⟨p10, p11, p12, hp, rfl⟩
      obtain ⟨hj, rfl⟩ := rangeD_at hd
      have m12 : NoEo p12 := hp p12 (by simp)
      dsimp only [List.set_cons_succ, List.set_cons_zero]
      refine wr_go ok.a ok.m ok2 (.inl ?_)
      dsimp only [List.set_cons_succ, List.set_cons_zero]
      refine neD1 (d := .list (LI (wrL o a m))) rfl rfl (LI_flatN _) (brF ?_)
      refine ⟨_, rfl, po, dvar_go rfl (strNe (brF ?_))⟩
      refine ⟨by rw [LI_len]; omega, ?_⟩
      dsimp only [List.set_cons_succ, List.set_cons_zero]
      refine ⟨by repeat (first | exact NoE_nil | refine NoE_cons (by first | assumption | exact fun es e => nomatch e) ?_), (show 12 < 15 by decide), _, wrL o a m, rfl, rfl, rfl, by omega, ?_⟩
      rw [er]
      refine ⟨neD2 (d := packD o a m) rfl rfl (pack_flat o a m) rfl, ?_, ?_⟩
      · cases o with
        | none => exact .inl ⟨.none, rfl, rfl⟩
        | some nd =>
          obtain ⟨n', ds'⟩ := nd
          exact .inr ⟨⟨.list (LI ds'), rfl, rfl⟩, n', LI ds', a, m, rfl, by rw [LI_len]; have := (ok2 n' ds' rfl).2; omega⟩
      · exact ⟨some (.val (.int (0 + (j : Int)))), some (.own (LI (wrL o a m) ++ [.int 1])), none, NoE_cons (fun es e => nomatch e) (NoE_cons (fun es e => nomatch e) (NoE_cons (fun es e => nomatch e) NoE_nil)), rfl⟩
    rintro c'' σ'' ⟨p10, p11, p12, hp, rfl⟩
    have m10 : NoEo p10 := hp p10 (by simp)
    have m11 : NoEo p11 := hp p11 (by simp)
    have m12 : NoEo p12 := hp p12 (by simp)
    refine mix_go (hk := by omega) (hk2 := by omega) fun u0 u1 u2 => ?_
    refine ⟨⟨by omega, by omega⟩, rfl, fun j acc => ∃ q : List Int, acc = LI q ∧ q.length = j ∧ ByL q, ⟨[], rfl, rfl, fun b hb => absurd hb List.not_mem_nil⟩, ?_, ?_⟩
    · rintro j d acc hd ⟨q, rfl, h1, h2⟩
      obtain ⟨hj, rfl⟩ := rangeD_at hd
      refine brT (mix_go (hk := by omega) (hk2 := by omega) fun z f1 f2 => ⟨by rw [LI_len]; omega, q ++ [z], by rw [← LI_snoc], by simp [h1], fun b hb => ?_⟩)
      rcases List.mem_append.mp hb with y | y
      · exact h2 b y
      · rw [List.mem_singleton.mp y]; exact ⟨f1, f2⟩
    rintro acc ⟨r0, rfl, k1, kby⟩
    have kl : r0.length ≤ 100 := by rw [k1, rangeD_len]; omega
    refine .inl ?_
    dsimp only [List.set_cons_succ, List.set_cons_zero]
    refine ⟨fun _ σ => ∃ r : List Int, r.length ≤ 100 ∧ ByL r ∧ σ = [none, some (.val (.list (LI xs))), some (.val (.int (0 + (i : Int)))), some (.val (.int (40 * (0 + (i : Int))))), some (.val (.int (a : Int))), some (.val (.int (m : Int))), some (.val (.list (LI ds))), some (.val (packD o a m)), some (.own (LI (wrL o a m))), some (.val (.str (packD o a m).shown)), p10, p11, p12, some (.own (LI r)), o14], ?_, ?_⟩
    · cases r0 with
      | nil => exact brX (show ¬ (0 : Int) < ((LI []).length : Int) by decide) ⟨[], Nat.zero_le _, fun b hb => absurd hb List.not_mem_nil, rfl⟩
      | cons u r =>
        refine brY (show (0 : Int) < ((LI (u :: r)).length : Int) by rw [LI_len, List.length_cons]; omega) ?_
        refine ⟨.int u, (show atI (LI (u :: r)) ((0 : Nat) : Int) = some (.int u) from D_atN rfl), (show 5 ≤ sizeLine by omega), mix_go (hk := by omega) (hk2 := by omega) fun x x1 x2 => ?_⟩
        have ub := kby u List.mem_cons_self
        obtain ⟨z, hz, zb⟩ : ∃ z : Int, atI [PyData.int 0, .int 1, .int 1, .int 2, .int u] x = some (.int z) ∧ 0 ≤ z ∧ z < 256 := by
          rcases (by omega : x = 0 ∨ x = 1 ∨ x = 2 ∨ x = 3 ∨ x = 4) with rfl | rfl | rfl | rfl | rfl
          · exact ⟨0, rfl, by decide, by decide⟩
          · exact ⟨1, rfl, by decide, by decide⟩
          · exact ⟨1, rfl, by decide, by decide⟩
          · exact ⟨2, rfl, by decide, by decide⟩
          · exact ⟨u, rfl, ub⟩
        refine ⟨.int z, hz, 0, ixN_pos (by decide) (by rw [LI_len, List.length_cons]; omega), z :: r, kl, fun b hb => ?_, rfl⟩
        rcases List.mem_cons.mp hb with rfl | y
        · exact zb
        · exact kby b (List.mem_cons_of_mem _ y)
    rintro c3 σ3 ⟨r, rl, rby, rfl⟩
    refine .inr ?_
    dsimp only [List.set_cons_succ, List.set_cons_zero]
    refine ⟨by repeat (first | exact NoE_nil | refine NoE_cons (by first | assumption | exact fun es e => nomatch e) ?_), _, r, rfl, rfl, rfl, by omega, ?_⟩
    rw [rdP_of rby]
    refine due_go (by omega) rby rfl ⟨rfl, neD2 (d := rdU r) rfl rfl (rdU_flat r) ⟨rfl, brF (neD1 (d := .list (LI r)) rfl rfl (LI_flatN _) (brF ?_))⟩⟩
    exact ⟨_, _, _, _, _, _, _, _, _, _, _, _, _, by repeat (first | exact NoE_nil | refine NoE_cons (by first | assumption | exact fun es e => nomatch e) ?_), rfl⟩
  · rintro c σ ⟨o2, o3, o4, o5, o6, o7, o8, o9, o10, o11, o12, o13, o14, hne, rfl⟩
    refine ⟨NoE_cons (fun es e => nomatch e) (NoE_cons (fun es e => nomatch e) hne), (show 0 ≤ sizeLine by omega), _, [], rfl, rfl, rfl, (by decide), rfl, ?_⟩
    exact ⟨rfl, rfl⟩
end
end K60
set_option synthInstance.maxSize 100000
set_option synthInstance.maxHeartbeats 0
namespace K60
open PySem PySem.Spec L2 NB ER MKX DL
/-- where the def's table stands -/
theorem tab_mk {K : PySem.W.Frag} {x : Str} {f c t : Addr} {fd : FuncData} {oc oc2 : Value} {od od2 : Option Addr} {sl sl2 : Array (Option Value)} {vs : Array Value} (a : PySem.W.nsIn K mainGlobals x = some (some (.ref f))) (l : K.lookup f = some ⟨oc, od, .func fd, sl⟩) (e : fd.code = .ref c)
    (l2 : K.lookup c = some ⟨oc2, od2, .fields vs, sl2⟩) (v : (vs[11]? : Option Value) = some (.ref t)) : PySem.W.tabIn K x = some (c, t) := by
  unfold PySem.W.tabIn
  rw [a]
  dsimp only
  rw [l]
  dsimp only
  rw [e]
  dsimp only
  rw [l2]
  dsimp only
  rw [v]
theorem all_mk {l : PySem.W.OpenLaw} {w : World} {K : PySem.W.Frag} {h : Heap} {mg : Str → Option Value} {fa : Addr} (X : K.In h) (G : h.Ns mainGlobals mg) (hfa : mg "law" = some (.ref fa))
    {f__law_draws : Addr} {od__law_draws an__law_draws : Option Addr} {sl__law_draws : Array (Option Value)} {oc__law_draws kV__law_draws dc__law_draws pm__law_draws cd__law_draws ct__law_draws : Value}
    {f__law_mix : Addr} {od__law_mix an__law_mix : Option Addr} {sl__law_mix : Array (Option Value)} {oc__law_mix kV__law_mix dc__law_mix pm__law_mix cd__law_mix ct__law_mix : Value}
    {f_all_below : Addr} {od_all_below an_all_below : Option Addr} {sl_all_below : Array (Option Value)} {oc_all_below kV_all_below dc_all_below pm_all_below cd_all_below ct_all_below : Value}
    {f__bytes_of : Addr} {od__bytes_of an__bytes_of : Option Addr} {sl__bytes_of : Array (Option Value)} {oc__bytes_of kV__bytes_of dc__bytes_of pm__bytes_of cd__bytes_of ct__bytes_of : Value}
    {f__number_of : Addr} {od__number_of an__number_of : Option Addr} {sl__number_of : Array (Option Value)} {oc__number_of kV__number_of dc__number_of pm__number_of cd__number_of ct__number_of : Value}
    {f__law_bytes : Addr} {od__law_bytes an__law_bytes : Option Addr} {sl__law_bytes : Array (Option Value)} {oc__law_bytes kV__law_bytes dc__law_bytes pm__law_bytes cd__law_bytes ct__law_bytes : Value}
    {f__law_value : Addr} {od__law_value an__law_value : Option Addr} {sl__law_value : Array (Option Value)} {oc__law_value kV__law_value dc__law_value pm__law_value cd__law_value ct__law_value : Value}
    {f__law_number : Addr} {od__law_number an__law_number : Option Addr} {sl__law_number : Array (Option Value)} {oc__law_number kV__law_number dc__law_number pm__law_number cd__law_number ct__law_number : Value}
    {f__law_due : Addr} {od__law_due an__law_due : Option Addr} {sl__law_due : Array (Option Value)} {oc__law_due kV__law_due dc__law_due pm__law_due cd__law_due ct__law_due : Value}
    {f_write_packet : Addr} {od_write_packet an_write_packet : Option Addr} {sl_write_packet : Array (Option Value)} {oc_write_packet kV_write_packet dc_write_packet pm_write_packet cd_write_packet ct_write_packet : Value}
    {f_read_packet : Addr} {od_read_packet an_read_packet : Option Addr} {sl_read_packet : Array (Option Value)} {oc_read_packet kV_read_packet dc_read_packet pm_read_packet cd_read_packet ct_read_packet : Value}
    {f_law : Addr} {od_law an_law : Option Addr} {sl_law : Array (Option Value)} {oc_law kV_law dc_law pm_law cd_law ct_law : Value}
    {c_tab t_tab : Addr} {oc_cd : Value} {od_cd : Option Addr} {vs_cd : Array Value} {sl_cd : Array (Option Value)}
    (a__law_draws : PySem.W.nsIn K mainGlobals "_law_draws" = some (some (.ref f__law_draws)))
    (l__law_draws : K.lookup f__law_draws = some ⟨oc__law_draws, od__law_draws, .func (PySem.W.fnOf "_law_draws" "_law_draws" (defArgs s__law_draws) (defBody s__law_draws) (defScope s__law_draws) .none kV__law_draws dc__law_draws pm__law_draws an__law_draws cd__law_draws ct__law_draws), sl__law_draws⟩)
    (c__law_draws : PySem.W.codeIn K cd__law_draws "_law_draws" = true)
    (k__law_draws : PySem.W.keepIn K (.ref f__law_draws) = true)
    (a__law_mix : PySem.W.nsIn K mainGlobals "_law_mix" = some (some (.ref f__law_mix)))
    (l__law_mix : K.lookup f__law_mix = some ⟨oc__law_mix, od__law_mix, .func (PySem.W.fnOf "_law_mix" "_law_mix" (defArgs s__law_mix) (defBody s__law_mix) (defScope s__law_mix) .none kV__law_mix dc__law_mix pm__law_mix an__law_mix cd__law_mix ct__law_mix), sl__law_mix⟩)
    (c__law_mix : PySem.W.codeIn K cd__law_mix "_law_mix" = true)
    (k__law_mix : PySem.W.keepIn K (.ref f__law_mix) = true)
    (a_all_below : PySem.W.nsIn K mainGlobals "all_below" = some (some (.ref f_all_below)))
    (l_all_below : K.lookup f_all_below = some ⟨oc_all_below, od_all_below, .func (PySem.W.fnOf "all_below" "all_below" (defArgs s_all_below) (defBody s_all_below) (defScope s_all_below) .none kV_all_below dc_all_below pm_all_below an_all_below cd_all_below ct_all_below), sl_all_below⟩)
    (c_all_below : PySem.W.codeIn K cd_all_below "all_below" = true)
    (k_all_below : PySem.W.keepIn K (.ref f_all_below) = true)
    (a__bytes_of : PySem.W.nsIn K mainGlobals "_bytes_of" = some (some (.ref f__bytes_of)))
    (l__bytes_of : K.lookup f__bytes_of = some ⟨oc__bytes_of, od__bytes_of, .func (PySem.W.fnOf "_bytes_of" "_bytes_of" (defArgs s__bytes_of) (defBody s__bytes_of) (defScope s__bytes_of) .none kV__bytes_of dc__bytes_of pm__bytes_of an__bytes_of cd__bytes_of ct__bytes_of), sl__bytes_of⟩)
    (c__bytes_of : PySem.W.codeIn K cd__bytes_of "_bytes_of" = true)
    (k__bytes_of : PySem.W.keepIn K (.ref f__bytes_of) = true)
    (a__number_of : PySem.W.nsIn K mainGlobals "_number_of" = some (some (.ref f__number_of)))
    (l__number_of : K.lookup f__number_of = some ⟨oc__number_of, od__number_of, .func (PySem.W.fnOf "_number_of" "_number_of" (defArgs s__number_of) (defBody s__number_of) (defScope s__number_of) .none kV__number_of dc__number_of pm__number_of an__number_of cd__number_of ct__number_of), sl__number_of⟩)
    (c__number_of : PySem.W.codeIn K cd__number_of "_number_of" = true)
    (k__number_of : PySem.W.keepIn K (.ref f__number_of) = true)
    (a__law_bytes : PySem.W.nsIn K mainGlobals "_law_bytes" = some (some (.ref f__law_bytes)))
    (l__law_bytes : K.lookup f__law_bytes = some ⟨oc__law_bytes, od__law_bytes, .func (PySem.W.fnOf "_law_bytes" "_law_bytes" (defArgs s__law_bytes) (defBody s__law_bytes) (defScope s__law_bytes) .none kV__law_bytes dc__law_bytes pm__law_bytes an__law_bytes cd__law_bytes ct__law_bytes), sl__law_bytes⟩)
    (c__law_bytes : PySem.W.codeIn K cd__law_bytes "_law_bytes" = true)
    (k__law_bytes : PySem.W.keepIn K (.ref f__law_bytes) = true)
    (a__law_value : PySem.W.nsIn K mainGlobals "_law_value" = some (some (.ref f__law_value)))
    (l__law_value : K.lookup f__law_value = some ⟨oc__law_value, od__law_value, .func (PySem.W.fnOf "_law_value" "_law_value" (defArgs s__law_value) (defBody s__law_value) (defScope s__law_value) .none kV__law_value dc__law_value pm__law_value an__law_value cd__law_value ct__law_value), sl__law_value⟩)
    (c__law_value : PySem.W.codeIn K cd__law_value "_law_value" = true)
    (k__law_value : PySem.W.keepIn K (.ref f__law_value) = true)
    (a__law_number : PySem.W.nsIn K mainGlobals "_law_number" = some (some (.ref f__law_number)))
    (l__law_number : K.lookup f__law_number = some ⟨oc__law_number, od__law_number, .func (PySem.W.fnOf "_law_number" "_law_number" (defArgs s__law_number) (defBody s__law_number) (defScope s__law_number) .none kV__law_number dc__law_number pm__law_number an__law_number cd__law_number ct__law_number), sl__law_number⟩)
    (c__law_number : PySem.W.codeIn K cd__law_number "_law_number" = true)
    (k__law_number : PySem.W.keepIn K (.ref f__law_number) = true)
    (a__law_due : PySem.W.nsIn K mainGlobals "_law_due" = some (some (.ref f__law_due)))
    (l__law_due : K.lookup f__law_due = some ⟨oc__law_due, od__law_due, .func (PySem.W.fnOf "_law_due" "_law_due" (defArgs s__law_due) (defBody s__law_due) (defScope s__law_due) .none kV__law_due dc__law_due pm__law_due an__law_due cd__law_due ct__law_due), sl__law_due⟩)
    (c__law_due : PySem.W.codeIn K cd__law_due "_law_due" = true)
    (k__law_due : PySem.W.keepIn K (.ref f__law_due) = true)
    (a_write_packet : PySem.W.nsIn K mainGlobals "write_packet" = some (some (.ref f_write_packet)))
    (l_write_packet : K.lookup f_write_packet = some ⟨oc_write_packet, od_write_packet, .func (PySem.W.fnOf "write_packet" "write_packet" (defArgs s_write_packet) (defBody s_write_packet) (defScope s_write_packet) .none kV_write_packet dc_write_packet pm_write_packet an_write_packet cd_write_packet ct_write_packet), sl_write_packet⟩)
    (c_write_packet : PySem.W.codeIn K cd_write_packet "write_packet" = true)
    (k_write_packet : PySem.W.keepIn K (.ref f_write_packet) = true)
    (a_read_packet : PySem.W.nsIn K mainGlobals "read_packet" = some (some (.ref f_read_packet)))
    (l_read_packet : K.lookup f_read_packet = some ⟨oc_read_packet, od_read_packet, .func (PySem.W.fnOf "read_packet" "read_packet" (defArgs s_read_packet) (defBody s_read_packet) (defScope s_read_packet) .none kV_read_packet dc_read_packet pm_read_packet an_read_packet cd_read_packet ct_read_packet), sl_read_packet⟩)
    (c_read_packet : PySem.W.codeIn K cd_read_packet "read_packet" = true)
    (k_read_packet : PySem.W.keepIn K (.ref f_read_packet) = true)
    (a_law : PySem.W.nsIn K mainGlobals "law" = some (some (.ref f_law)))
    (l_law : K.lookup f_law = some ⟨oc_law, od_law, .func (PySem.W.fnOf "law" "law" (defArgs s_law) (defBody s_law) (defScope s_law) .none kV_law dc_law pm_law an_law cd_law ct_law), sl_law⟩)
    (c_law : PySem.W.codeIn K cd_law "law" = true)
    (k_law : PySem.W.keepIn K (.ref f_law) = true)
    (e_cd : cd_all_below = .ref c_tab)
    (l_cd : K.lookup c_tab = some ⟨oc_cd, od_cd, .fields vs_cd, sl_cd⟩)
    (v_cd : (vs_cd[11]? : Option Value) = some (.ref t_tab))
    (nt_tab : K.lookup t_tab = none)
    (z_repr : PySem.W.nsIn K mainGlobals "repr" = some none)
    (z_range : PySem.W.nsIn K mainGlobals "range" = some none)
    (z_len : PySem.W.nsIn K mainGlobals "len" = some none)
    (z_abs : PySem.W.nsIn K mainGlobals "abs" = some none)
    (z_int : PySem.W.nsIn K mainGlobals "int" = some none)
    (z_max : PySem.W.nsIn K mainGlobals "max" = some none)
    (z_min : PySem.W.nsIn K mainGlobals "min" = some none)
    (z_sum : PySem.W.nsIn K mainGlobals "sum" = some none)
    (z_list : PySem.W.nsIn K mainGlobals "list" = some none)
    (z_isinstance : PySem.W.nsIn K mainGlobals "isinstance" = some none)
    (z_enumerate : PySem.W.nsIn K mainGlobals "enumerate" = some none)
    (z_zip : PySem.W.nsIn K mainGlobals "zip" = some none)
    (z_reversed : PySem.W.nsIn K mainGlobals "reversed" = some none)
    (z_any : PySem.W.nsIn K mainGlobals "any" = some none)
    (z_all : PySem.W.nsIn K mainGlobals "all" = some none)
    (z_ValueError : PySem.W.nsIn K mainGlobals "ValueError" = some none)
    : ∃ (fd : FuncData) (c T : Addr), PySem.W.tabIn K "all_below" = some (c, T) ∧ K.lookup T = none ∧ (∀ (s : Shared) (v : Value), BindsTo s fd ⟨[v], []⟩ [("script", v)]) ∧ ∀ base : Heap, K.In base → base.Ns mainGlobals mg → GxR.TabB base mg c T → GR.FnG l.prog w K mg base CX0 6 fa fd ["script"] (sp_lawT K T) := by
  have e := hfa.symm.trans (PySem.W.mg_of X G a_law)
  cases e
  have B : Bl mg := ⟨PySem.W.mg_none_of X G z_range, PySem.W.mg_none_of X G z_len, PySem.W.mg_none_of X G z_abs, PySem.W.mg_none_of X G z_int, PySem.W.mg_none_of X G z_max, PySem.W.mg_none_of X G z_min, PySem.W.mg_none_of X G z_sum, PySem.W.mg_none_of X G z_list, PySem.W.mg_none_of X G z_isinstance, PySem.W.mg_none_of X G z_enumerate, PySem.W.mg_none_of X G z_zip, PySem.W.mg_none_of X G z_reversed, PySem.W.mg_none_of X G z_any, PySem.W.mg_none_of X G z_all, PySem.W.mg_none_of X G z_ValueError⟩
  have F__law_draws := fun_mk (st := s__law_draws) l__law_draws c__law_draws k__law_draws
  have D__law_draws : Df K mg "_law_draws" ["script"] s__law_draws _ _ := ⟨F__law_draws, PySem.W.mg_of X G a__law_draws, F__law_draws.binds (ps := ["script"]) fun _ _ _ _ _ _ us hl => match us, hl with | [_], _ => rfl⟩
  have F__law_mix := fun_mk (st := s__law_mix) l__law_mix c__law_mix k__law_mix
  have D__law_mix : Df K mg "_law_mix" ["draws", "k", "many"] s__law_mix _ _ := ⟨F__law_mix, PySem.W.mg_of X G a__law_mix, F__law_mix.binds (ps := ["draws", "k", "many"]) fun _ _ _ _ _ _ us hl => match us, hl with | [_, _, _], _ => rfl⟩
  have F_all_below := fun_mk (st := s_all_below) l_all_below c_all_below k_all_below
  have D_all_below : Df K mg "all_below" ["numbers", "bound"] s_all_below _ _ := ⟨F_all_below, PySem.W.mg_of X G a_all_below, F_all_below.binds (ps := ["numbers", "bound"]) fun _ _ _ _ _ _ us hl => match us, hl with | [_, _], _ => rfl⟩
  have F__bytes_of := fun_mk (st := s__bytes_of) l__bytes_of c__bytes_of k__bytes_of
  have D__bytes_of : Df K mg "_bytes_of" ["number"] s__bytes_of _ _ := ⟨F__bytes_of, PySem.W.mg_of X G a__bytes_of, F__bytes_of.binds (ps := ["number"]) fun _ _ _ _ _ _ us hl => match us, hl with | [_], _ => rfl⟩
  have F__number_of := fun_mk (st := s__number_of) l__number_of c__number_of k__number_of
  have D__number_of : Df K mg "_number_of" ["four"] s__number_of _ _ := ⟨F__number_of, PySem.W.mg_of X G a__number_of, F__number_of.binds (ps := ["four"]) fun _ _ _ _ _ _ us hl => match us, hl with | [_], _ => rfl⟩
  have F__law_bytes := fun_mk (st := s__law_bytes) l__law_bytes c__law_bytes k__law_bytes
  have D__law_bytes : Df K mg "_law_bytes" ["number"] s__law_bytes _ _ := ⟨F__law_bytes, PySem.W.mg_of X G a__law_bytes, F__law_bytes.binds (ps := ["number"]) fun _ _ _ _ _ _ us hl => match us, hl with | [_], _ => rfl⟩
  have F__law_value := fun_mk (st := s__law_value) l__law_value c__law_value k__law_value
  have D__law_value : Df K mg "_law_value" ["row"] s__law_value _ _ := ⟨F__law_value, PySem.W.mg_of X G a__law_value, F__law_value.binds (ps := ["row"]) fun _ _ _ _ _ _ us hl => match us, hl with | [_], _ => rfl⟩
  have F__law_number := fun_mk (st := s__law_number) l__law_number c__law_number k__law_number
  have D__law_number : Df K mg "_law_number" ["draws", "k"] s__law_number _ _ := ⟨F__law_number, PySem.W.mg_of X G a__law_number, F__law_number.binds (ps := ["draws", "k"]) fun _ _ _ _ _ _ us hl => match us, hl with | [_, _], _ => rfl⟩
  have F__law_due := fun_mk (st := s__law_due) l__law_due c__law_due k__law_due
  have D__law_due : Df K mg "_law_due" ["row"] s__law_due _ _ := ⟨F__law_due, PySem.W.mg_of X G a__law_due, F__law_due.binds (ps := ["row"]) fun _ _ _ _ _ _ us hl => match us, hl with | [_], _ => rfl⟩
  have F_write_packet := fun_mk (st := s_write_packet) l_write_packet c_write_packet k_write_packet
  have D_write_packet : Df K mg "write_packet" ["packet"] s_write_packet _ _ := ⟨F_write_packet, PySem.W.mg_of X G a_write_packet, F_write_packet.binds (ps := ["packet"]) fun _ _ _ _ _ _ us hl => match us, hl with | [_], _ => rfl⟩
  have F_read_packet := fun_mk (st := s_read_packet) l_read_packet c_read_packet k_read_packet
  have D_read_packet : Df K mg "read_packet" ["data"] s_read_packet _ _ := ⟨F_read_packet, PySem.W.mg_of X G a_read_packet, F_read_packet.binds (ps := ["data"]) fun _ _ _ _ _ _ us hl => match us, hl with | [_], _ => rfl⟩
  have F_law := fun_mk (st := s_law) l_law c_law k_law
  have D_law : Df K mg "law" ["script"] s_law _ _ := ⟨F_law, PySem.W.mg_of X G a_law, F_law.binds (ps := ["script"]) fun _ _ _ _ _ _ us hl => match us, hl with | [_], _ => rfl⟩
  refine ⟨PySem.W.fnOf "law" "law" (defArgs s_law) (defBody s_law) (defScope s_law) .none kV_law dc_law pm_law an_law cd_law ct_law, c_tab, t_tab, tab_mk a_all_below l_all_below e_cd l_cd v_cd, nt_tab, fun s v => .of_eq rfl, fun base _ _ TB => ?_⟩
  have at_tab : (PySem.W.fnOf "all_below" "all_below" (defArgs s_all_below) (defBody s_all_below) (defScope s_all_below) .none kV_all_below dc_all_below pm_all_below an_all_below cd_all_below ct_all_below).code = .ref c_tab := e_cd
  have Z_repr := PySem.W.mg_none_of X G z_repr
  have G__law_draws := ok__law_draws (P := l.prog) (w := w) (base := base) (mg := mg) D__law_draws B
  have G__law_mix := ok__law_mix (P := l.prog) (w := w) (base := base) (mg := mg) D__law_mix B
  have G_all_below := ok_all_below (P := l.prog) (w := w) (base := base) (mg := mg) D_all_below B TB at_tab
  have G__bytes_of := ok__bytes_of (P := l.prog) (w := w) (base := base) (mg := mg) D__bytes_of B
  have G__number_of := ok__number_of (P := l.prog) (w := w) (base := base) (mg := mg) D__number_of B
  have G__law_bytes := ok__law_bytes (P := l.prog) (w := w) (base := base) (mg := mg) D__law_bytes B
  have G__law_value := ok__law_value (P := l.prog) (w := w) (base := base) (mg := mg) D__law_value B
  have G__law_number := ok__law_number (P := l.prog) (w := w) (base := base) (mg := mg) D__law_number B D__law_mix G__law_mix
  have G__law_due := ok__law_due (P := l.prog) (w := w) (base := base) (mg := mg) D__law_due B D__law_value G__law_value
  have G_write_packet := ok_write_packet (P := l.prog) (w := w) (base := base) (mg := mg) D_write_packet B D__bytes_of G__bytes_of
  have G_read_packet := ok_read_packet (P := l.prog) (w := w) (base := base) (mg := mg) D_read_packet B D_all_below G_all_below D__number_of G__number_of
  exact ok_law (P := l.prog) (w := w) (base := base) (mg := mg) D_law B Z_repr D__law_draws G__law_draws D__law_mix G__law_mix D__law_number G__law_number D__law_bytes G__law_bytes D__law_due G__law_due D_write_packet G_write_packet D_read_packet G_read_packet
end K60
open PySem PySem.W PyProof.Rows
set_option maxRecDepth 100000 in
set_option maxHeartbeats 0 in
theorem PySem.Challenge.cw_farhaul_k60_packets_written_and_read_holds : PySem.Challenge.rw_farhaul_k60_packets_written_and_read.Holds := by
  w_on; o_law; k_head; (case hw => w_witness2)
  k_fill
  refine GR.walkGT (l := PySem.Challenge.rw_farhaul_k60_packets_written_and_read) (n := 63) (k := 6) (x := "script") (y := "all_below") (CX := fun _ => L2.CX0) (sp := fun w T => DL.sp_lawT _ T) rfl (by decide) rfl ⟨rfl, by decide, by decide⟩ (fun w h Y => PySem.W.kIn_of Y) ?told ?F (fun _ H t a ns hl ht hS => ⟨a, ns, rfl, hS, hl, ⟨#[], ht, by first | trivial | rfl | simp [TriplesOk] | decide⟩, fun _ => rfl⟩) (fun _ _ _ _ _ h => h)
  case told => first | rfl | decide +kernel
  case F =>
    intro w mg fa h KX G hmg
    refine' K60.all_mk KX G hmg ?a__law_draws ?l__law_draws ?c__law_draws ?k__law_draws ?a__law_mix ?l__law_mix ?c__law_mix ?k__law_mix ?a_all_below ?l_all_below ?c_all_below ?k_all_below ?a__bytes_of ?l__bytes_of ?c__bytes_of ?k__bytes_of ?a__number_of ?l__number_of ?c__number_of ?k__number_of ?a__law_bytes ?l__law_bytes ?c__law_bytes ?k__law_bytes ?a__law_value ?l__law_value ?c__law_value ?k__law_value ?a__law_number ?l__law_number ?c__law_number ?k__law_number ?a__law_due ?l__law_due ?c__law_due ?k__law_due ?a_write_packet ?l_write_packet ?c_write_packet ?k_write_packet ?a_read_packet ?l_read_packet ?c_read_packet ?k_read_packet ?a_law ?l_law ?c_law ?k_law ?e_cd ?l_cd ?v_cd ?nt_tab ?z_repr ?z_range ?z_len ?z_abs ?z_int ?z_max ?z_min ?z_sum ?z_list ?z_isinstance ?z_enumerate ?z_zip ?z_reversed ?z_any ?z_all ?z_ValueError
    (case a__law_draws => k_is)
    (case l__law_draws => k_is)
    (case c__law_draws => k_is)
    (case k__law_draws => k_is)
    (case a__law_mix => k_is)
    (case l__law_mix => k_is)
    (case c__law_mix => k_is)
    (case k__law_mix => k_is)
    (case a_all_below => k_is)
    (case l_all_below => k_is)
    (case c_all_below => k_is)
    (case k_all_below => k_is)
    (case a__bytes_of => k_is)
    (case l__bytes_of => k_is)
    (case c__bytes_of => k_is)
    (case k__bytes_of => k_is)
    (case a__number_of => k_is)
    (case l__number_of => k_is)
    (case c__number_of => k_is)
    (case k__number_of => k_is)
    (case a__law_bytes => k_is)
    (case l__law_bytes => k_is)
    (case c__law_bytes => k_is)
    (case k__law_bytes => k_is)
    (case a__law_value => k_is)
    (case l__law_value => k_is)
    (case c__law_value => k_is)
    (case k__law_value => k_is)
    (case a__law_number => k_is)
    (case l__law_number => k_is)
    (case c__law_number => k_is)
    (case k__law_number => k_is)
    (case a__law_due => k_is)
    (case l__law_due => k_is)
    (case c__law_due => k_is)
    (case k__law_due => k_is)
    (case a_write_packet => k_is)
    (case l_write_packet => k_is)
    (case c_write_packet => k_is)
    (case k_write_packet => k_is)
    (case a_read_packet => k_is)
    (case l_read_packet => k_is)
    (case c_read_packet => k_is)
    (case k_read_packet => k_is)
    (case a_law => k_is)
    (case l_law => k_is)
    (case c_law => k_is)
    (case k_law => k_is)
    (case e_cd => rfl)
    (case l_cd => k_is)
    (case v_cd => rfl)
    (case nt_tab => first | rfl | decide +kernel)
    (case z_repr => k_is)
    (case z_range => k_is)
    (case z_len => k_is)
    (case z_abs => k_is)
    (case z_int => k_is)
    (case z_max => k_is)
    (case z_min => k_is)
    (case z_sum => k_is)
    (case z_list => k_is)
    (case z_isinstance => k_is)
    (case z_enumerate => k_is)
    (case z_zip => k_is)
    (case z_reversed => k_is)
    (case z_any => k_is)
    (case z_all => k_is)
    (case z_ValueError => k_is)
