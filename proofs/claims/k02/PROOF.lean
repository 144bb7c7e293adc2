import PyProof.Rows.All
import Wide.All
import OpenK.AllK
import Wide.FinOn
import HandS.ForMost
import HandS.WideBits
import HandS.Exc
import HandS.ExcInit
import HandS.ExcOwn
import HandS.ExcField
import HandS.ExcIs
import HandS.IsInst
import HandS.Flow
import HandS.Codes
import HandS.Style
import HandS.TryOnly
import HandS.WordsExc
import KE.KExcIs
import HandS.FStr
import HandS.CallSlots
import HandS.Walk
import HandS.Gcd
import PyProof.Rows.RegFStrParts
import PySem.Challenge.RW_farhaul_k02_polynomials
set_option Elab.async false
set_option linter.all false
set_option maxRecDepth 100000
set_option maxHeartbeats 4000000
/-! Operators on numbers that are not negative. -/
namespace NB
open PySem PySem.Spec PyProof.Rows L2
def rNN (g : Nat → Nat → V) : R2 := fun x y H Q => ∃ m n : Nat, x = .int m ∧ y = .int n ∧ Q (g m n) H
def rNNC (C : Nat → Nat → Prop) (g : Nat → Nat → V) : R2 := fun x y H Q => ∃ m n : Nat, x = .int m ∧ y = .int n ∧ C m n ∧ Q (g m n) H
theorem op_of {X : Cx} {f : Value → Value → Sem Value} {r r' : R2} (h : OpR X f r) (k : ∀ x y H Q, r' x y H Q → r x y H Q) : OpR X f r' := by
  intro pins s σ H x y u v Q I rx ry q
  exact h pins s σ H x y u v Q I rx ry (k _ _ _ _ q)
theorem xor_nn (m n : Nat) : Builtin.bitXor (m : Int) (n : Int) = ((m ^^^ n : Nat) : Int) := by
  rw [Bits.bitXor_pp (Int.natCast_nonneg _) (Int.natCast_nonneg _)]; simp
theorem or_nn (m n : Nat) : Builtin.bitOr (m : Int) (n : Int) = ((m ||| n : Nat) : Int) := by
  rw [Bits.bitOr_pp (Int.natCast_nonneg _) (Int.natCast_nonneg _)]; simp
theorem and_nn (m n : Nat) : Builtin.bitAnd (m : Int) (n : Int) = ((m &&& n : Nat) : Int) := by
  rw [bitAnd_pp (Int.natCast_nonneg _) (Int.natCast_nonneg _)]; simp
theorem shl_nn (m n : Nat) : (m : Int) * 2 ^ (n : Int).toNat = ((2 ^ n * m : Nat) : Int) := by
  rw [Int.toNat_natCast, L2.cast_parts]
theorem shr_nn (m n : Nat) : (m : Int) / 2 ^ (n : Int).toNat = ((m / 2 ^ n : Nat) : Int) := by
  rw [Int.toNat_natCast, Int.natCast_ediv, Int.natCast_pow]; rfl
abbrev rXorN : R2 := rNN fun m n => .int ((m ^^^ n : Nat) : Int)
abbrev rOrN : R2 := rNN fun m n => .int ((m ||| n : Nat) : Int)
abbrev rAndN : R2 := rNN fun m n => .int ((m &&& n : Nat) : Int)
abbrev rShlN : R2 := rNNC (fun m n => m < 2 ^ 64 ∧ n ≤ 1000000) fun m n => .int ((2 ^ n * m : Nat) : Int)
abbrev rShrN : R2 := rNN fun m n => .int ((m / 2 ^ n : Nat) : Int)
section
variable {X : Cx}
theorem of_xor {r : R2} (e : ∀ x y H Q, r x y H Q → (rI0 fun i j => .int (Builtin.bitXor i j)) x y H Q) : True := trivial
theorem k_xor : ∀ x y H Q, rXorN x y H Q → (rI0 fun i j => .int (Builtin.bitXor i j)) x y H Q := fun _ _ _ _ ⟨m, n, a, b, q⟩ => ⟨m, n, a, b, by show _; dsimp only; rw [xor_nn]; exact q⟩
theorem k_or : ∀ x y H Q, rOrN x y H Q → (rI0 fun i j => .int (Builtin.bitOr i j)) x y H Q := fun _ _ _ _ ⟨m, n, a, b, q⟩ => ⟨m, n, a, b, by dsimp only; rw [or_nn]; exact q⟩
theorem k_and : ∀ x y H Q, rAndN x y H Q → (rI0 fun i j => .int (Builtin.bitAnd i j)) x y H Q := fun _ _ _ _ ⟨m, n, a, b, q⟩ => ⟨m, n, a, b, by dsimp only; rw [and_nn]; exact q⟩
theorem k_shl : ∀ x y H Q, rShlN x y H Q → (rI CPow fun i j => .int (i * 2 ^ j.toNat)) x y H Q := fun _ _ _ _ ⟨m, n, a, b, ⟨c1, c2⟩, q⟩ =>
  ⟨m, n, a, b, ⟨by omega, by omega, by simpa using c1⟩, by dsimp only; rw [shl_nn]; exact q⟩
theorem k_shr : ∀ x y H Q, rShrN x y H Q → (rI (fun _ j => 0 ≤ j) fun i j => .int (i / 2 ^ j.toNat)) x y H Q := fun _ _ _ _ ⟨m, n, a, b, q⟩ =>
  ⟨m, n, a, b, by omega, by dsimp only; rw [shr_nn]; exact q⟩
theorem nb_xor : OpR X (binaryOp .BitXor) rXorN := op_of op_xor k_xor
theorem nb_or : OpR X (binaryOp .BitOr) rOrN := op_of op_or k_or
theorem nb_and : OpR X (binaryOp .BitAnd) rAndN := op_of op_and k_and
theorem nb_shl : OpR X (binaryOp .LShift) rShlN := op_of op_shl k_shl
theorem nb_shr : OpR X (binaryOp .RShift) rShrN := op_of op_shr k_shr
theorem nbi_xor : PIp X .BitXor rXorN := op_of iop_xor k_xor
theorem nbi_or : PIp X .BitOr rOrN := op_of iop_or k_or
theorem nbi_shr : PIp X .RShift rShrN := op_of iop_shr k_shr
/-- bit_length -/
def tBitsN (to : TE) : TE := fun σ H Q => to σ H fun x H1 => ∃ m : Nat, x = .int m ∧ Q (.int ((if m = 0 then 0 else m.log2 + 1 : Nat) : Int)) H1
theorem pe_of {e : Expr} {t t' : TE} (h : PE X e t) (k : ∀ σ H Q, t' σ H Q → t σ H Q) : PE X e t' := ⟨fun pins s σ H Q I q => h.run pins s σ H Q I (k σ H Q q)⟩
end


end NB
namespace NB
open PySem PySem.Spec PyProof.Rows L2
/-- the number of bits -/
def bits (m : Nat) : Nat := if m = 0 then 0 else m.log2 + 1
theorem intBits_nat (m : Nat) : Builtin.Int.intBits (m : Int) = bits m := by
  unfold Builtin.Int.intBits bits
  by_cases h : m = 0
  · subst h; rfl
  · have : ¬ ((m : Int) == 0) = true := by simp; omega
    rw [if_neg this, if_neg h]; simp
section
variable {X : Cx}
def tBitsM (to : TE) : TE := fun σ H Q => to σ H fun x H1 => ∃ m : Nat, x = .int m ∧ Q (.int ((bits m : Nat) : Int)) H1
theorem TE.mono_id {t : TE} {σ : L2.St} {H : Hp} {Q Q' : VK} (e : Q = Q') (h : t σ H Q) : t σ H Q' := e ▸ h
end
/-! numbers written in the text -/
theorem pe_nat {X : Cx} (n : Nat) {j pos} {i : Int} (h : i = (n : Int) := by rfl) : PE X (.Constant (.int i) j pos) (tC (.int (n : Int))) := by subst h; exact pe_int
def rLtN : R2 := rNN fun m n => .bl (decide (m < n))
/-- a for over range(n), n a number that is not negative -/
theorem for_rangeN {lo n : Nat} {g : TG} {tb : TS} {D : Ends} {σ : L2.St} {H : Hp} (Pv : Nat → L2.St → Hp → Prop) (h0 : Pv 0 σ H)
    (hs : ∀ i σ H, i < n → Pv i σ H → g (.int ((lo + i : Nat) : Int)) σ H fun σ2 H2 => tb { D with nx := Pv (i + 1), ct := Pv (i + 1), bk := D.nx } σ2 H2) (hd : ∀ σ H, Pv n σ H → D.nx σ H) :
    ∃ W : Nat → Nat → L2.St → Hp → Prop, (∃ m, W 0 m σ H) ∧ ∀ i m σ H, W i m σ H →
      ((Itr (lo : Int) n).stop i H ∧ D.nx σ H) ∨ ((Itr (lo : Int) n).go i H ∧ ∃ N : L2.St → Hp → Prop, (∀ σ' H', N σ' H' → ∃ m', m' < m ∧ W (i + 1) m' σ' H') ∧ ∀ x H', (Itr (lo : Int) n).yld i H x H' → g x σ H' fun σ2 H2 => tb { D with nx := N, ct := N, bk := D.nx } σ2 H2) :=
  for_range (lo := (lo : Int)) (n := n) Pv h0 (fun i σ H hi p => by
    have e : ((lo : Int) + (i : Int)) = ((lo + i : Nat) : Int) := by omega
    rw [e]
    exact hs i σ H hi p) hd
end NB
namespace NB
open PySem PySem.Spec PyProof.Rows L2
section
variable {X : Cx}
theorem nb_add : OpR X (binaryOp .Add) (rNN fun m n => .int ((m + n : Nat) : Int)) := op_of op_add fun _ _ _ _ ⟨m, n, a, b, q⟩ => ⟨m, n, a, b, by dsimp only; rw [← Int.natCast_add]; exact q⟩
theorem nbi_add : PIp X .Add (rNN fun m n => .int ((m + n : Nat) : Int)) := op_of iop_add fun _ _ _ _ ⟨m, n, a, b, q⟩ => ⟨m, n, a, b, by dsimp only; rw [← Int.natCast_add]; exact q⟩
theorem nb_sub : OpR X (binaryOp .Sub) (rNNC (fun m n => n ≤ m) fun m n => .int ((m - n : Nat) : Int)) := op_of op_sub fun _ _ _ _ ⟨m, n, a, b, c, q⟩ => ⟨m, n, a, b, by dsimp only; rw [← Int.natCast_sub c]; exact q⟩
theorem nb_mul : OpR X (binaryOp .Mult) (rNNC (fun m n => m < 2 ^ 64 ∨ n < 2 ^ 64) fun m n => .int ((m * n : Nat) : Int)) := op_of op_mul fun _ _ _ _ ⟨m, n, a, b, c, q⟩ => ⟨m, n, a, b, by
  rcases c with c | c
  · exact .inl ⟨by omega, by omega⟩
  · exact .inr ⟨by omega, by omega⟩, by dsimp only; rw [← Int.natCast_mul]; exact q⟩
theorem nb_mod : OpR X (binaryOp .Mod) (rNNC (fun _ n => 0 < n) fun m n => .int ((m % n : Nat) : Int)) := op_of op_mod fun _ _ _ _ ⟨m, n, a, b, c, q⟩ => ⟨m, n, a, b, by omega, by dsimp only; rw [← Int.natCast_emod]; exact q⟩
theorem nb_fdiv : OpR X (binaryOp .FloorDiv) (rNNC (fun _ n => 0 < n ∧ n < 1073741824) fun m n => .int ((m / n : Nat) : Int)) := op_of op_fdiv fun _ _ _ _ ⟨m, n, a, b, c, q⟩ => ⟨m, n, a, b, ⟨by omega, by omega⟩, by dsimp only; rw [← Int.natCast_ediv]; exact q⟩
theorem nb_pow : OpR X (binaryOp .Pow) (rNNC (fun m n => n ≤ 1000000 ∧ m < 2 ^ 64) fun m n => .int ((m ^ n : Nat) : Int)) := op_of op_pow fun _ _ _ _ ⟨m, n, a, b, c, q⟩ => ⟨m, n, a, b, ⟨by omega, by omega, by simpa using c.2⟩, by dsimp only; rw [Int.toNat_natCast, ← Int.natCast_pow]; exact q⟩
/-- an int's rest by a number -/
def rModI : R2 := fun x y H Q => ∃ (i : Int) (n : Nat), x = .int i ∧ y = .int n ∧ 0 < n ∧ Q (.int (((i % (n : Int)).toNat : Nat) : Int)) H
theorem nb_modI : OpR X (binaryOp .Mod) rModI := op_of op_mod fun _ _ _ _ ⟨m, n, a, b, c, q⟩ => ⟨m, n, a, b, by omega, by dsimp only; rw [Int.toNat_of_nonneg (Int.emod_nonneg _ (by omega))] at q; exact q⟩
theorem call_absN : CallR X (.builtin "abs") (fun xs H Q => ∃ i : Int, xs = [.int i] ∧ Q (.int ((i.natAbs : Nat) : Int)) H) := by
  intro pins s σ H xs us Q I r ⟨i, e, q⟩
  refine call_abs pins s σ H xs us Q I r ⟨i, e, ?_⟩
  have : (if i < 0 then -i else i) = ((i.natAbs : Nat) : Int) := by split <;> omega
  rw [this]; exact q
end
/-! ### lists of numbers -/
def NL (ns : List Nat) : List V := ns.map fun (n : Nat) => V.int ((n : Nat) : Int)
theorem NL_len (ns : List Nat) : (NL ns).length = ns.length := List.length_map _
theorem NL_get {ns : List Nat} {i n : Nat} (h : ns[i]? = some n) : (NL ns)[i]? = some (.int (n : Int)) := by unfold NL; rw [List.getElem?_map, h]; rfl
theorem NL_set (ns : List Nat) (i n : Nat) : (NL ns).set i (.int (n : Int)) = NL (ns.set i n) := by unfold NL; rw [List.map_set]
theorem NL_app (ns : List Nat) (n : Nat) : NL ns ++ [.int (n : Int)] = NL (ns ++ [n]) := by unfold NL; simp
theorem NL_app2 (ns ms : List Nat) : NL ns ++ NL ms = NL (ns ++ ms) := by unfold NL; simp
theorem NL_nil : NL [] = [] := rfl
theorem NL_cons (n : Nat) (ns : List Nat) : NL (n :: ns) = .int (n : Int) :: NL ns := rfl
theorem NL_at {ns : List Nat} {i : Nat} (h : i < ns.length) : atI (NL ns) (i : Int) = some (.int ((ns[i] : Nat) : Int)) := atI_nat (NL_get (List.getElem?_eq_getElem h))
theorem NL_at0 {ns : List Nat} {i n : Nat} (h : ns[i]? = some n) : atI (NL ns) (i : Int) = some (.int (n : Int)) := atI_nat (NL_get h)
theorem ixN_nat {n j : Nat} (h : j < n) : ixN n (j : Int) = some j := by
  unfold ixN
  rw [if_pos (by omega), if_pos (by omega)]; simp
theorem cut_to (xs : List V) (k : Nat) : cutV xs none (some (k : Int)) = xs.take k := by
  unfold cutV
  have e : HT.sIx xs.length 0 none = 0 := by rfl
  rw [e, HT.sIx_nat, List.drop_zero, Nat.sub_zero]
  by_cases h : k ≤ xs.length
  · rw [Nat.min_eq_left h]
  · rw [Nat.min_eq_right (by omega), List.take_of_length_le (by omega), List.take_of_length_le (by omega)]
theorem cut_last (xs : List V) : cutV xs none (some (-1)) = xs.dropLast := by
  unfold cutV
  have e : HT.sIx xs.length 0 none = 0 := by rfl
  have e2 : HT.sIx xs.length xs.length (some (-1)) = xs.length - 1 := by
    show (if (-1 : Int) < 0 then ((-1 : Int) + (xs.length : Int)).toNat else min (-1 : Int).toNat xs.length) = _
    rw [if_pos (by decide)]; omega
  rw [e, e2, List.drop_zero, List.dropLast_eq_take]
  rfl
end NB

namespace NB
open PySem PySem.Spec L2
/-- a def of the text: where it stands, how its arguments bind -/
structure Df (K : PySem.W.Frag) (mg : Str → Option Value) (x : Str) (ps : List Str) (st : Stmt) (f : Addr) (fd : FuncData) : Prop where
  F : Fun K x x st f fd
  g : mg x = some (.ref f)
  b : Binds K fd ps []
/-- built-in names that the top leaves alone -/
structure Bl (mg : Str → Option Value) : Prop where
  range : mg "range" = none
  len : mg "len" = none
  abs : mg "abs" = none
  int : mg "int" = none
  max : mg "max" = none
  min : mg "min" = none
  sum : mg "sum" = none
  list : mg "list" = none
  isinstance : mg "isinstance" = none
  enumerate : mg "enumerate" = none
  zip : mg "zip" = none
  reversed : mg "reversed" = none
  any : mg "any" = none
  all : mg "all" = none
  ValueError : mg "ValueError" = none
theorem iteD {c A B : Prop} [Decidable c] (h1 : c → A) (h2 : ¬ c → B) : if decide c = true then A else B := by
  by_cases h : c
  · rw [if_pos (decide_eq_true h)]; exact h1 h
  · rw [if_neg (by rw [decide_eq_false h]; exact Bool.false_ne_true)]; exact h2 h
theorem iteN {c A B : Prop} [Decidable c] (h1 : ¬ c → A) (h2 : c → B) : if (!decide c) = true then A else B := by
  by_cases h : c
  · rw [decide_eq_true h]; exact iteF (h2 h)
  · rw [decide_eq_false h]; exact iteT (h1 h)
theorem iteY {c A B : Prop} [Decidable c] (hc : c) (h : A) : if decide c = true then A else B := by rw [if_pos (decide_eq_true hc)]; exact h
theorem iteX {c A B : Prop} [Decidable c] (hc : ¬ c) (h : B) : if decide c = true then A else B := by rw [decide_eq_false hc]; exact iteF h
theorem iteB {b : Bool} {A B : Prop} (h1 : b = true → A) (h2 : b = false → B) : if b = true then A else B := by
  cases b with
  | true => exact iteT (h1 rfl)
  | false => exact iteF (h2 rfl)
/-- the truth of a number -/
theorem iteZ {n : Nat} {A B : Prop} (h1 : n ≠ 0 → A) (h2 : n = 0 → B) : if (((n : Nat) : Int) != 0) = true then A else B := by
  by_cases h : n = 0
  · subst h; exact iteF (h2 rfl)
  · have : (((n : Nat) : Int) != 0) = true := by simp; omega
    rw [if_pos this]; exact h1 h
theorem same_upd {H : Hp} {p : Addr} {o : HO} (h : H p = none) : Same H (upd H p o) := fun b u e => by rw [upd_ne (ne_of_none e h)]; exact e
theorem same_upd2 {H H' : Hp} {p : Addr} {o : HO} (e : Same H H') (h : H p = none) : Same H (upd H' p o) := fun b u ha => by rw [upd_ne (ne_of_none ha h)]; exact e b u ha
theorem same_new {H H' : Hp} {p : Addr} {o : HO} (e : Same H H') (h : H' p = none) : Same H (upd H' p o) := same_upd2 e (e.free h)
end NB
namespace NB
open PySem PySem.Spec L2
/-- a comprehension over range(lo, ..) of numbers -/
theorem lc_rangeN {lo n : Nat} {g : TG} {tt : TT} {te : TE} {vs : List Nat} {σ : L2.St} {H1 : Hp} {D : Addr} {Qd : Hp → Prop} (Pv : Nat → Hp → Prop) (h0 : Pv 0 (upd H1 D (.lst [])))
    (hs : ∀ i H, i < n → Pv i H → g (.int ((lo + i : Nat) : Int)) (wipe σ vs) H fun σ2 H2 => wipe σ2 vs = wipe σ vs ∧ tt σ2 H2 fun b H3 =>
      if b = true then te σ2 H3 fun y H4 => ∃ acc, H4 D = some (.lst acc) ∧ acc.length < sizeLine ∧ Pv (i + 1) (upd H4 D (.lst (acc ++ [y]))) else Pv (i + 1) H3) (hd : ∀ H, Pv n H → Qd H) :
    ∃ W : Nat → Nat → Hp → Prop, (∃ m, W 0 m (upd H1 D (.lst []))) ∧ ∀ i m H, W i m H →
      ((Itr (lo : Int) n).stop i H ∧ Qd H) ∨ ((Itr (lo : Int) n).go i H ∧ ∃ Nx : Hp → Prop, (∀ H', Nx H' → ∃ m', m' < m ∧ W (i + 1) m' H') ∧ ∀ x H', (Itr (lo : Int) n).yld i H x H' → g x (wipe σ vs) H' fun σ2 H2 => wipe σ2 vs = wipe σ vs ∧ tt σ2 H2 fun b H3 =>
        if b = true then te σ2 H3 fun y H4 => ∃ acc, H4 D = some (.lst acc) ∧ acc.length < sizeLine ∧ Nx (upd H4 D (.lst (acc ++ [y]))) else Nx H3) :=
  lc_range (lo := (lo : Int)) (n := n) Pv h0 (fun i H hi p => by
    have e : ((lo : Int) + (i : Int)) = ((lo + i : Nat) : Int) := by omega
    rw [e]
    exact hs i H hi p) hd
end NB
/-! Errors of the program: one class with an __init__, the others below it. -/
namespace ER
open PySem PySem.Spec PyProof.Rows L2 NB
/-- what the top says of an error class, named x, at C; its __init__ is the function at fI -/
structure XC (K : PySem.W.Frag) (mg : Str → Option Value) (x : Str) (C fI CH : Addr) : Prop where
  oex : OexC K C
  ga : PySem.W.findIn K (.ref C) "__getattribute__" = some (some (.builtin "BaseException.__getattribute__"))
  gg : PySem.W.findIn K (.ref C) "__getattr__" = some none
  hd : PySem.W.hasDictIn K C = true
  cl : PySem.W.findIn K (.ref C) "__class__" = some (some (.builtin "object.__class__"))
  sp : PySem.W.specialIn K (.builtin "object.__class__") "__get__" = some (some (.builtin "getset_descriptor.__get__"))
  tk : PySem.W.takesIn K (.builtin "object.__class__") = some true
  mo : PySem.W.mroIn K C (.type "object") = some true
  no : PySem.W.findIn K (.ref C) "at" = some none
  g : mg x = some (.ref C)
  iC : PySem.W.findIn K (.ref C) "__init__" = some (some (.ref fI))
  tI : PySem.W.typeIn K (.ref fI) = some (.type "function")
  te : PySem.W.exmOne K (.ref C) (.ref CH) = some true
def sp_init (K : PySem.W.Frag) : Sp := fun vs H Q _ => ∃ (a C : Addr) (i : Int), vs = [.ref a, .int i] ∧ (∃ mg x fI CH, XC K mg x C fI CH) ∧ H a = some (exo a C none) ∧ i.natAbs.log2 < 1920 ∧
  ∀ dx, H dx = none → dx ≠ a → Q .non (upd (upd H dx (exd dx [("at", .int i)])) a (exo a C (some dx)))
theorem len_app (a b : Str) : (a ++ b).length = a.length + b.length := by
  show (⟨a.cps ++ b.cps⟩ : Str).cps.size = _
  simp [Array.size_append]; rfl
theorem upd_raise {H : Hp} {a d C : Addr} {fs : List (Str × V)} {o : HO} (ha : H a = none) (hd : H d = none) (n : d ≠ a) :
    upd (L2.del (upd (upd (upd H a (exo a C none)) d (exd d fs)) a (exo a C (some d))) a) d o = upd H d o := by
  funext b
  by_cases h1 : b = d
  · subst h1; rw [upd_same, upd_same]
  · rw [upd_ne h1, upd_ne h1]
    by_cases h2 : b = a
    · subst h2; rw [del_same, ha]
    · rw [del_ne h2, upd_ne h2, upd_ne h1, upd_ne h2]
/-- raise x(e) -/
def tRaise (C : Addr) (W : WX) (ta : TA) : TS := fun _ σ H => ta σ H fun vs H1 => ∃ i : Int, vs = [.int i] ∧ i.natAbs.log2 < 1920 ∧ ∀ d, H1 d = none → W (.ref C) (some d) σ (upd H1 d (.xd [("at", .int i)]))
theorem ps_of {X : Cx} {st : Stmt} {t t' : TS} (h : PS X st t) (k : ∀ D σ H, t' D σ H → t D σ H) : PS X st t' := ⟨fun pins s σ H D I q => h.run pins s σ H D I (k D σ H q)⟩
def tMono (ta : TA) : TA := fun σ H Q => ∃ R : List V → Hp → Prop, ta σ H R ∧ ∀ vs H1, R vs H1 → Q vs H1
theorem pa_mono {X : Cx} {es : List Expr} {ta : TA} (h : PA X es ta) : PA X es (tMono ta) := ⟨fun pos pins s σ H Q I ⟨R, q, k⟩ =>
  thn (h.run pos pins s σ H R I q) fun us s1 ⟨vs, H1, I1, r, q1⟩ => ⟨vs, H1, I1, r, k _ _ q1⟩⟩
theorem ps_err {X : Cx} {CX : CXT} {x : Str} {C fI CH : Addr} {k : Nat} {fd : FuncData} {e : Expr} {ta : TA} {W : WX} {p pos pos2 : Pos} (hc : X.calm = true) (T : XC X.K X.mg x C fI CH)
    (G : FnOk X.prog X.w X.K X.mg X.base CX k fI fd ["self", "at"] (sp_init X.K)) (hr : Room (k + 1) X.A) (hb : Binds X.K fd ["self", "at"] []) (hx : Passes CX X (fun _ _ _ => False)) (tk : Takes X W) (ha : PA X [e] ta) (hg : Gl X x := by rfl)
    (hdb : (x == ("__debug__" : Str)) = false := by decide) (he : starEach (e :: []) X.env = (false, eval e X.env) :: starEach [] X.env := by rfl) (hpl : (backTo pos (starEach [] X.env)).any (·.1) = false := by rfl) :
    PS X (.Raise (some (.Call (.Name x p) [e] [] pos)) none pos2) (tRaise C W ta) := by
  refine ps_of (ps_raise hc tk (pmk_oex (dvs := []) T.oex T.iC T.tI G hr hb .nil hx hg T.g (pa_mono ha) hdb he hpl)) fun D σ H q => ?_
  refine ⟨_, q, fun vs H1 ⟨i, ev, hi, k⟩ => ?_⟩
  subst ev
  refine ⟨by simp, fun a na => ?_⟩
  refine ⟨a, C, i, rfl, ⟨_, _, _, _, T⟩, upd_same, hi, fun dx nx ne => ?_⟩
  rw [upd_ne ne] at nx
  refine ⟨rfl, dx, [("at", .int i)], upd_same, ?_, nx, ?_⟩
  · rw [upd_ne ne, upd_same]
  · rw [upd_raise na nx ne]
    exact k dx nx
/-! ### the caught error -/
/-- isinstance(e, c), e the error that the suite holds at a, of the class at D, its dict d -/
def rIsE (K : PySem.W.Frag) (a : Addr) (cls : Value) (d : Option Addr) : List V → Hp → VK → Prop := fun xs H Q => ∃ (D : Addr) (c : V) (cv : Value) (b : Bool) (dd : Addr) (fs : List (Str × V)), xs = [.ref a, c] ∧ cls = .ref D ∧ (∃ mg x fI CH, XC K mg x D fI CH) ∧ d = some dd ∧ H dd = some (.xd fs) ∧
  (∀ u, RelV c u → u = cv) ∧ PySem.W.kitOne K (.ref D) cv = some b ∧ Q (.bl b) H
theorem call_isE {X : Cx} {a : Addr} {oe : Obj} {cls : Value} {d : Option Addr} {pn : List (Addr × Obj)} (hz : Zc cls d oe) (hf : ∃ vs, oe.data = .fields vs) : CallR (X.suite a ((a, oe) :: pn)) (.builtin "isinstance") (rIsE X.K a cls d) := by
  intro pins s σ H xs us Q I r h
  obtain ⟨D, c, cv, b, dd, fs, rfl, rfl, ⟨mg, x, fI, CH, T⟩, rfl, hd, hcv, e, q⟩ := h
  cases r with
  | cons rx rr =>
    cases rr with
    | cons rt rr =>
      cases rr
      cases rx
      have ec := hcv _ rt
      subst ec
      obtain ⟨hget, _⟩ := I.pin (a, oe) (List.mem_append.mpr (.inl List.mem_cons_self))
      obtain ⟨vs, hv⟩ := hf
      have hx : ObjOk X.prog X.w H s.heap dd (.xd fs) := I.hok dd _ hd
      obtain ⟨mA, hns, hrel⟩ := hx
      obtain ⟨od, ho, hl⟩ := lookIn_ns hns
      have J : PySem.W.InstAt s.heap a oe D (some od) := ⟨hget, hz.1, by unfold PySem.W.notCls; rw [hv] <;> rfl, by rw [hz.2]; exact ho⟩
      have hcl : (PySem.W.clsIn X.K D).isSome = true := by
        obtain ⟨nm, q, N, bs, bm, sn, sub, ab, col, dd', k0, k1, k2, k3, k5, hC, hbm⟩ := T.oex.cls
        unfold PySem.W.clsIn; rw [hC] <;> rfl
      exact PySem.W.kia_one (PySem.W.kitx_exc hcl T.ga T.gg T.oex.exC T.cl T.sp T.tk T.mo) I.kIn J e (fun z => nomatch z) fun tk => ⟨.bl b, H, I.kept (t' := tk) fun _ _ z => z, rfl, q⟩
/-- e.at -/
def tAt (K : PySem.W.Frag) (a : Addr) (cls : Value) (d : Option Addr) (te : TE) : TE := fun σ H Q => te σ H fun x H1 => ∃ (C dd : Addr) (i : Int), x = .ref a ∧ cls = .ref C ∧ (∃ mg x fI CH, XC K mg x C fI CH) ∧ d = some dd ∧ H1 dd = some (.xd [("at", .int i)]) ∧ Q (.int i) H1
theorem pe_at {X : Cx} {a : Addr} {oe : Obj} {cls : Value} {d : Option Addr} {pn : List (Addr × Obj)} {e : Expr} {te : TE} {pos : Pos} (hz : Zc cls d oe) (hf : ∃ vs, oe.data = .fields vs) (he : PE (X.suite a ((a, oe) :: pn)) e te)
    (hb : attributeBase e "at" X.env (eval e X.env) = eval e X.env := by rfl) :
    PE (X.suite a ((a, oe) :: pn)) (.Attribute e "at" pos) (tAt X.K a cls d te) := by
  refine ⟨fun pins s σ H Q I h => ?_⟩
  refine attr_of hb (thn (he.run pins s σ H _ I h) fun u s1 hh => ?_)
  obtain ⟨x, H1, I1, rx, C, dd, i, ex, ec, ⟨mg, x', fI, CH, T⟩, ed, ea, q⟩ := hh
  subst ex
  obtain rfl : u = Value.ref a := rx
  subst ec
  subst ed
  obtain ⟨ha, _⟩ := I1.pin (a, oe) (List.mem_append_left _ List.mem_cons_self)
  obtain ⟨vs, hd⟩ := hf
  have hx : ObjOk X.prog X.w H1 s1.heap dd (.xd [("at", .int i)]) := I1.hok dd _ ea
  obtain ⟨mA, hns, hr⟩ := hx
  obtain ⟨od, ho, hl⟩ := lookIn_ns hns
  have l : List.lookup ("at" : Str) [(("at" : Str), V.int i)] = some (V.int i) := by simp [List.lookup]
  obtain ⟨u, hu, ru⟩ := RelO.some_of (v := V.int i) (o := mA "at") (by rw [← l]; exact hr "at")
  have J : PySem.W.InstAt s1.heap a oe C (some od) := ⟨ha, hz.1, by unfold PySem.W.notCls; rw [hd] <;> rfl, by rw [hz.2]; exact ho⟩
  exact HandSPX.exc_get I1.kIn J T.ga T.gg T.oex.exC (PySem.W.findObj_own T.hd T.no rfl (by rw [hl, hu])) (handed_of ru) ⟨V.int i, H1, I1.tok _, ru, q⟩
theorem at_len {i : Int} (hi : i.natAbs.log2 < 1920) : (Str.empty ++ Str.ofString "at " ++ Str.ofString (toString i)).length ≤ sizeLine := by
  have e := int_text_length_le (k := 1920) (by decide) hi
  rw [ER.len_app, ER.len_app, PySem.ofString_length (toString i), sizeLine_eq]
  have h1 : (Str.empty).length = 0 := by rfl
  have h2 : (Str.ofString "at ").length = 3 := by decide +kernel
  omega
/-- try: .. except x as n: .. -/
def tTry (K : PySem.W.Frag) (c : Value) (i : Nat) (tb : WX → TS) (ts : Addr → Value → Option Addr → TS) (Wout : WX) : TS := fun D σ H => tb (wAs K c i ts Wout D) D σ H
theorem ps_tryE {X : Cx} {x n : Str} {c : Value} {i : Nat} {body suite : List Stmt} {b0 : Stmt} {np pos pos' : Pos} {tb : WX → TS} {ts : Addr → Value → Option Addr → TS} {Wout : WX}
    (hs : X.stack = X.env :: X.outer) (hf : X.env.frame = some X.env.locals) (hN : X.N.Nodup) (hi : X.N[i]? = some n) (hln : X.env.kindOf n = some .local) (hc : Names X x c) (tk : Takes X Wout)
    (hb : ∀ (W : WX) (pn : List (Addr × Obj)) (xe : Value → Shared → Prop), Takes (X.tr pn xe) W → PassesOwn (model X.prog X.w) X.A X.env xe → PSs (X.tr pn xe) body (tb W))
    (hsu : ∀ (a : Addr) (oe : Obj) (cls : Value) (d : Option Addr) (pn : List (Addr × Obj)), Zc cls d oe → (∃ vs, oe.data = .fields vs) → PSs (X.suite a ((a, oe) :: pn)) (b0 :: suite) (ts a cls d)) :
    PS X (.Try body [.ExceptHandler (some (.Name x np)) (some n) (b0 :: suite) pos'] [] [] pos) (tTry X.K c i tb ts Wout) := ps_try_as hs hf hN hi hln hc tk hb hsu
end ER
/-! Objects that are made, and methods that are called, where an error is looked out for. -/
namespace MKX
open PySem PySem.Spec PyProof.Rows L2
def tMkS (C : Addr) (sp : Sp) (E : L2.St → XK) (t : TA) : TE := fun σ H Q => t σ H fun vs H1 => ∀ x dx, H1 x = none → H1 dx = none → dx ≠ x →
  sp (.ref x :: vs) (upd (upd H1 dx (.own x)) x (.ins C dx [])) (fun v H2 => v = .non ∧ Q (.ref x) H2) (E σ)
section
variable {X : Cx} {CX : CXT} {k : Nat} {f C : Addr} {fd : FuncData} {ps : List Str} {sp : Sp} {E : L2.St → XK} {x m : Str} {p pos apos : Pos} {e o : Expr} {es : List Expr} {ta : TE} {t : TA}
theorem go_mkS {pins : List (Addr × Obj)} {σ : L2.St} {H : Hp} {s : Shared} {Q : VK} {us : List Value} {vs : List V} (Z : Mk X.K C f) (G : FnOk X.prog X.w X.K X.mg X.base CX k f fd ps sp) (room : Room (k + 1) X.A) (bd : L2.Binds X.K fd ps [])
    (out : PassesAt CX X σ (E σ)) (J : Inv X pins σ H s) (rv : Vals vs us)
    (q : ∀ x dx, H x = none → H dx = none → dx ≠ x → sp (.ref x :: vs) (upd (upd H dx (.own x)) x (.ins C dx [])) (fun v H2 => v = .non ∧ Q (.ref x) H2) (E σ)) :
    wpAny (model X.prog X.w) X.A (call (.ref C) us) (EP X pins σ Q) X.xe s := by
  generalize hn : s.heap.objs.size = n
  have q0 := q (n + 1) n (J.hok.fresh (by rw [hn]; exact Nat.le_succ n)) (J.hok.fresh (Nat.le_of_eq hn)) (Nat.ne_of_lt (Nat.lt_succ_self n))
  have J2 := Inv.made (C := C) J
  rw [hn] at J2
  have rv2 : Vals (V.ref (n + 1) :: vs) (Value.ref (n + 1) :: us) := .cons rfl rv
  have len1 : (Value.ref (n + 1) :: us).length = ps.length := rv2.length.symm.trans (G.len _ _ _ _ q0)
  have bd1 := bd _ (Value.ref (n + 1) :: us) J2.kIn (by rw [List.append_nil]; exact len1)
  rw [List.append_nil] at bd1
  have body := G.run _ X.stack _ _ ⟨Value.ref (n + 1) :: us, []⟩ _ _ _ (E σ) (room.make C us []) (J2.env0.make C us []) bd1 rv2 q0
  refine wpAny_call (make_map (f := f) J.kIn Z.makes Z.init (beq_iff_eq.mp Z.fn) ?_)
  rw [hn]
  refine codeAny_mono body fun r s2 back => ?_
  match r, back with
  | .error e, back => exact out pins _ _ e s2 J2 back
  | .ok (.ret u), back =>
    obtain ⟨v, H2, J3, rv3, ev, q3⟩ := J2.after back
    subst ev
    exact ⟨rv3, V.ref (n + 1), H2, J3, rfl, q3⟩
  | .ok .next, back => exact back.elim
  | .ok .brk, back => exact back.elim
  | .ok .cont, back => exact back.elim
theorem pe_mkS (Z : Mk X.K C f) (G : FnOk X.prog X.w X.K X.mg X.base CX k f fd ps sp) (room : Room (k + 1) X.A) (hg : Gl X x) (hm : X.mg x = some (.ref C)) (bd : L2.Binds X.K fd ps []) (out : ∀ σ, PassesAt CX X σ (E σ))
    (ha : PA X (e :: es) t) (hdb : (x == ("__debug__" : Str)) = false := by decide) (he : starEach (e :: es) X.env = (false, eval e X.env) :: starEach es X.env := by rfl) (hpl : (backTo pos (starEach es X.env)).any (·.1) = false := by rfl) :
    PE X (.Call (.Name x p) (e :: es) [] pos) (tMkS C sp E t) := by
  constructor
  intro pins s σ H Q J q
  refine wpAny_Call_Name_kw (ld_glob J hg hm ?_ hdb)
  exact PySem.W.callWith_K (h₀ := X.base) J.ok.mod.kin Z.kp (thn (ha.run pos pins s σ H _ J q) fun us s1 ⟨vs, H1, J1, r, q1⟩ => ⟨J1.kIn, go_mkS Z G room bd (out σ) J1 r q1⟩) he hpl
def tMtS (C : Addr) (m : Str) (sp : Sp) (E : L2.St → XK) (ta : TE) (t : TA) : TE := fun σ H Q => ta σ H fun x H1 => ∃ a dx fs, x = .ref a ∧ H1 a = some (.ins C dx fs) ∧ fs.lookup m = none ∧ t σ H1 fun vs H2 => sp (x :: vs) H2 Q (E σ)
theorem pe_mtS {pl : Sem Bool} (ho : PE X o ta) (c : Cls X.K C) (hm : Meth X.K C m f) (G : FnOk X.prog X.w X.K X.mg X.base CX k f fd ps sp) (room : Room k X.A) (bd : L2.Binds X.K fd ps []) (out : ∀ σ, PassesAt CX X σ (E σ)) (ha : PA X (e :: es) t)
    (hst : starEach (e :: es) X.env = (false, eval e X.env) :: starEach es X.env := by rfl) (hpl : (backTo pos (starEach es X.env)).any (·.1) = false := by rfl)
    (ht : eval (.Call (.Attribute o m apos) (e :: es) [] pos) X.env = (do
      let ov ← eval o X.env; standAt apos.atName; let (f, first) ← holding [ov] (getMethod ov m pl); callWith pos f first (backTo pos (starEach (e :: es) X.env)) (backToKw pos (keywordEach [] X.env))) := by rfl) :
    PE X (.Call (.Attribute o m apos) (e :: es) [] pos) (tMtS C m sp E ta t) := by
  constructor
  intro pins s σ H Q J q
  refine PySem.W.methodCall_KW (pl := pl) (thn (ho.run pins s σ H _ J q) fun u s1 hu => ?_) ht
  obtain ⟨x, H1, J1, rx, a, dx, fs, ex, ea, nl, q1⟩ := hu
  subst ex
  cases rx
  refine getmeth_ok J1 ea c hm nl (PySem.W.callWith_K (first := [.ref a]) (h₀ := X.base) J.ok.mod.kin hm.kp (thn (ha.run pos pins s1 σ H1 _ J1 q1) fun us s2 ⟨vs, H2, J2, r, q2⟩ => ⟨J2.kIn, ?_⟩) hst hpl)
  exact run_fnS (us := .ref a :: us) (vs := .ref a :: vs) G room bd (out σ) J2 (.cons rfl r) q2
end
/-- for i, x in enumerate(xs) -/
theorem for_enumL {K : PySem.W.Frag} {a : Addr} {xs : List V} {g : TG} {tb : TS} {D : Ends} {σ : L2.St} {H : Hp} (Pv : Nat → L2.St → Hp → Prop) (h0 : Pv 0 σ H) (hl : ∀ i σ H, i ≤ xs.length → Pv i σ H → SqL K H a xs)
    (hs : ∀ (i : Nat) (x : V) (T : Addr) (σ : L2.St) (H : Hp), xs[i]? = some x → Pv i σ H → H T = none → g (.ref T) σ (upd H T (.tup [.int (i : Nat), x])) fun σ2 H2 => tb { D with nx := Pv (i + 1), ct := Pv (i + 1), bk := D.nx } σ2 H2) (hd : ∀ σ H, Pv xs.length σ H → D.nx σ H) :
    ∃ W : Nat → Nat → L2.St → Hp → Prop, (∃ m, W 0 m σ H) ∧ ∀ i m σ H, W i m σ H →
      ((Ite K a).stop i H ∧ D.nx σ H) ∨ ((Ite K a).go i H ∧ ∃ N : L2.St → Hp → Prop, (∀ σ' H', N σ' H' → ∃ m', m' < m ∧ W (i + 1) m' σ' H') ∧ ∀ x H', (Ite K a).yld i H x H' → g x σ H' fun σ2 H2 => tb { D with nx := N, ct := N, bk := D.nx } σ2 H2) :=
  for_it walk_enum Pv h0 hl (fun i x σ H H' _ p y => by
    obtain ⟨T, x1, x2, rfl, nT, rfl, e1, e2⟩ := y
    cases (Option.some.inj e1)
    exact hs i x2 T σ H e2 p nT) hd
end MKX
namespace GF
/-! # Polynomials over two elements, as natural numbers -/
theorem xor_mod2 (b c : Nat) : (b ^^^ c) % 2 = (b % 2 + c % 2) % 2 := by
  have := Nat.xor_mod_two_pow (a := b) (b := c) (n := 1)
  simp at this
  rw [this]
  rcases Nat.mod_two_eq_zero_or_one b with h | h <;> rcases Nat.mod_two_eq_zero_or_one c with g | g <;> rw [h, g] <;> rfl
theorem xor_div2 (b c : Nat) : (b ^^^ c) / 2 = (b / 2) ^^^ (c / 2) := by
  apply Nat.eq_of_testBit_eq
  intro i
  simp [Nat.testBit_div_two]
theorem two_mul_xor (b c : Nat) : 2 * (b ^^^ c) = (2 * b) ^^^ (2 * c) := by
  have := Nat.shiftLeft_xor_distrib (a := b) (b := c) (i := 1)
  simp only [Nat.shiftLeft_eq, Nat.pow_one] at this
  rw [Nat.mul_comm 2, Nat.mul_comm 2, Nat.mul_comm 2]
  exact this
theorem pow_mul_xor (i b c : Nat) : 2 ^ i * (b ^^^ c) = (2 ^ i * b) ^^^ (2 ^ i * c) := by
  have := Nat.shiftLeft_xor_distrib (a := b) (b := c) (i := i)
  simp only [Nat.shiftLeft_eq] at this
  rw [Nat.mul_comm (2 ^ i), Nat.mul_comm (2 ^ i), Nat.mul_comm (2 ^ i)]
  exact this
theorem split2 (b : Nat) : b = (b % 2) ^^^ (2 * (b / 2)) := by
  apply Nat.eq_of_testBit_eq
  intro i
  cases i with
  | zero => simp [Nat.testBit_zero, Nat.mod_mod]
  | succ i =>
    rw [Nat.testBit_xor, Nat.testBit_succ, Nat.testBit_succ, Nat.testBit_succ]
    have h : b % 2 / 2 = 0 := by omega
    have g : 2 * (b / 2) / 2 = b / 2 := by omega
    rw [h, g]; simp
/-- the product, by n bits of b -/
def pm : Nat → Nat → Nat → Nat
  | 0, _, _ => 0
  | n + 1, a, b => (if b % 2 = 1 then a else 0) ^^^ (2 * pm n a (b / 2))
def mul (a b : Nat) : Nat := pm (b.log2 + 1) a b
theorem pm_zero_right (n a : Nat) : pm n a 0 = 0 := by
  induction n with
  | zero => rfl
  | succ n ih => simp [pm, ih]
theorem pm_zero_left (n b : Nat) : pm n 0 b = 0 := by
  induction n generalizing b with
  | zero => rfl
  | succ n ih => simp [pm, ih]
theorem pm_stable (n : Nat) : ∀ {k a b : Nat}, b < 2 ^ n → n ≤ k → pm k a b = pm n a b := by
  induction n with
  | zero =>
    intro k a b h _
    have : b = 0 := by simpa using h
    subst this
    rw [pm_zero_right, pm_zero_right]
  | succ n ih =>
    intro k a b h hk
    obtain ⟨k, rfl⟩ : ∃ j, k = j + 1 := ⟨k - 1, by omega⟩
    simp only [pm]
    rw [ih (a := a) (b := b / 2) (k := k) (by rw [Nat.pow_succ] at h; omega) (by omega)]
theorem lt_log2 (b : Nat) : b < 2 ^ (b.log2 + 1) := Nat.lt_log2_self
theorem pm_eq {n a b : Nat} (h : b < 2 ^ n) : pm n a b = mul a b := by
  unfold mul
  by_cases hk : n ≤ b.log2 + 1
  · exact (pm_stable n h hk).symm
  · exact pm_stable (b.log2 + 1) (lt_log2 b) (by omega)
theorem mul_zero (a : Nat) : mul a 0 = 0 := pm_zero_right _ _
theorem zero_mul (b : Nat) : mul 0 b = 0 := pm_zero_left _ _
theorem mul_step (a b : Nat) : mul a b = (if b % 2 = 1 then a else 0) ^^^ (2 * mul a (b / 2)) := by
  have h1 : b < 2 ^ (b.log2 + 2) := Nat.lt_of_lt_of_le (lt_log2 b) (Nat.pow_le_pow_right (by decide) (by omega))
  rw [← pm_eq h1]
  show (if b % 2 = 1 then a else 0) ^^^ (2 * pm (b.log2 + 1) a (b / 2)) = _
  rw [pm_eq (n := b.log2 + 1)]
  have := lt_log2 b
  omega
/-- an induction by halves -/
theorem half_ind {P : Nat → Prop} (h0 : P 0) (h : ∀ b, b ≠ 0 → P (b / 2) → P b) (b : Nat) : P b := by
  induction b using Nat.strongRecOn with
  | ind b ih =>
    by_cases hb : b = 0
    · subst hb; exact h0
    · exact h b hb (ih _ (by omega))
theorem if_xor_left (p q r : Prop) [Decidable p] [Decidable q] [Decidable r] (a : Nat) (h : r ↔ ¬ (p ↔ q)) : (if r then a else 0) = (if p then a else 0) ^^^ (if q then a else 0) := by
  by_cases hp : p <;> by_cases hq : q <;> simp_all
theorem mul_xor (a b c : Nat) : mul a (b ^^^ c) = mul a b ^^^ mul a c := by
  induction b using half_ind generalizing c with
  | h0 => rw [mul_zero, Nat.zero_xor, Nat.zero_xor]
  | h b hb ih =>
    rw [mul_step a (b ^^^ c), mul_step a b, mul_step a c, xor_div2, ih, two_mul_xor,
      if_xor_left (b % 2 = 1) (c % 2 = 1) ((b ^^^ c) % 2 = 1) a (by rw [xor_mod2]; omega)]
    ac_rfl
theorem xor_mul (a d b : Nat) : mul (a ^^^ d) b = mul a b ^^^ mul d b := by
  induction b using half_ind with
  | h0 => simp [mul_zero]
  | h b hb ih =>
    rw [mul_step (a ^^^ d) b, mul_step a b, mul_step d b, ih, two_mul_xor]
    by_cases h : b % 2 = 1
    · simp only [h, if_true]; ac_rfl
    · simp only [h, if_false, Nat.zero_xor]
theorem two_mul (a b : Nat) : mul (2 * a) b = 2 * mul a b := by
  induction b using half_ind with
  | h0 => simp [mul_zero]
  | h b hb ih =>
    rw [mul_step (2 * a) b, mul_step a b, ih, two_mul_xor]
    by_cases h : b % 2 = 1 <;> simp [h]
theorem mul_two (a b : Nat) : mul a (2 * b) = 2 * mul a b := by
  rw [mul_step a (2 * b)]
  have h1 : 2 * b % 2 = 0 := by omega
  have h2 : 2 * b / 2 = b := by omega
  rw [h1, h2]; simp
theorem mul_one (a : Nat) : mul a 1 = a := by
  rw [mul_step]; simp [mul_zero]
theorem one_mul (b : Nat) : mul 1 b = b := by
  induction b using half_ind with
  | h0 => exact mul_zero 1
  | h b hb ih =>
    rw [mul_step, ih]
    have := split2 b
    by_cases h : b % 2 = 1
    · rw [if_pos h]; rw [h] at this; exact this.symm
    · have h0 : b % 2 = 0 := by omega
      rw [if_neg h]; rw [h0] at this; exact this.symm
theorem mul_comm (a b : Nat) : mul a b = mul b a := by
  induction b using half_ind generalizing a with
  | h0 => rw [mul_zero, zero_mul]
  | h b hb ih =>
    rw [mul_step]
    conv => rhs; rw [split2 b, xor_mul, two_mul, ← ih]
    congr 1
    by_cases h : b % 2 = 1
    · rw [if_pos h, h, one_mul]
    · have h0 : b % 2 = 0 := by omega
      rw [if_neg h, h0, zero_mul]
theorem mul_assoc (a b c : Nat) : mul (mul a b) c = mul a (mul b c) := by
  induction c using half_ind with
  | h0 => simp [mul_zero]
  | h c hc ih =>
    rw [mul_step (mul a b) c, mul_step b c, mul_xor, mul_two, ih]
    by_cases h : c % 2 = 1
    · simp [h]
    · simp [h, mul_zero]
theorem mul_pow (a i : Nat) : mul a (2 ^ i) = 2 ^ i * a := by
  induction i with
  | zero => simp [mul_one]
  | succ i ih => rw [Nat.pow_succ, Nat.mul_comm (2 ^ i) 2, mul_two, ih]; rw [Nat.mul_assoc]
theorem pow_mul (i b : Nat) : mul (2 ^ i) b = 2 ^ i * b := by rw [mul_comm, mul_pow]
theorem xor_self_cancel (a b : Nat) : a ^^^ (a ^^^ b) = b := by rw [← Nat.xor_assoc, Nat.xor_self, Nat.zero_xor]
theorem xor_eq_iff {a b c : Nat} : a ^^^ b = c ↔ b = a ^^^ c := by
  constructor
  · intro h; rw [← h, xor_self_cancel]
  · intro h; rw [h, xor_self_cancel]
theorem xor_eq_zero {a b : Nat} (h : a ^^^ b = 0) : a = b := by
  have := xor_eq_iff.mp h
  rw [Nat.xor_zero] at this
  exact this.symm
theorem xor_lt {a b n : Nat} (ha : a < 2 ^ n) (hb : b < 2 ^ n) : a ^^^ b < 2 ^ n := Nat.xor_lt_two_pow ha hb
/-! ## Degrees: a is of the degree n if 2 ^ n ≤ a < 2 ^ (n + 1) -/
def Deg (a n : Nat) : Prop := 2 ^ n ≤ a ∧ a < 2 ^ (n + 1)
theorem deg_log {a : Nat} (h : a ≠ 0) : Deg a a.log2 := ⟨Nat.log2_self_le h, Nat.lt_log2_self⟩
theorem Deg.ne {a n : Nat} (h : Deg a n) : a ≠ 0 := by
  have := Nat.two_pow_pos n
  have := h.1
  omega
theorem Deg.log {a n : Nat} (h : Deg a n) : a.log2 = n := (Nat.log2_eq_iff h.ne).mpr h
theorem deg_top {a n : Nat} (h : a < 2 ^ (n + 1)) : Deg a n ↔ a.testBit n = true := by
  constructor
  · intro d
    rw [Nat.testBit_eq_decide_div_mod_eq]
    have : a / 2 ^ n = 1 := by
      rw [Nat.div_eq_of_lt_le (k := 1)]
      · rw [Nat.one_mul]; exact d.1
      · rw [Nat.pow_succ] at h; omega
    simp [this]
  · intro t
    exact ⟨Nat.ge_two_pow_of_testBit t, h⟩
/-- the top bits cancel -/
theorem deg_xor {a b n : Nat} (ha : Deg a n) (hb : Deg b n) : a ^^^ b < 2 ^ n := by
  apply Nat.lt_pow_two_of_testBit
  intro i hi
  rw [Nat.testBit_xor]
  by_cases e : i = n
  · subst e
    rw [(deg_top ha.2).mp ha, (deg_top hb.2).mp hb]; rfl
  · have : n + 1 ≤ i := by omega
    rw [Nat.testBit_lt_two_pow (Nat.lt_of_lt_of_le ha.2 (Nat.pow_le_pow_right (by decide) this)),
      Nat.testBit_lt_two_pow (Nat.lt_of_lt_of_le hb.2 (Nat.pow_le_pow_right (by decide) this))]; rfl
theorem deg_xor_lt {a b n : Nat} (ha : Deg a n) (hb : b < 2 ^ n) : Deg (a ^^^ b) n := by
  have hb' : b < 2 ^ (n + 1) := by rw [Nat.pow_succ]; omega
  rw [deg_top (xor_lt ha.2 hb'), Nat.testBit_xor, (deg_top ha.2).mp ha, Nat.testBit_lt_two_pow hb]
  rfl
theorem deg_shift {a n : Nat} (h : Deg a n) (i : Nat) : Deg (2 ^ i * a) (i + n) := by
  refine ⟨?_, ?_⟩
  · rw [Nat.pow_add]; exact Nat.mul_le_mul_left _ h.1
  · have := Nat.mul_lt_mul_of_pos_left h.2 (Nat.two_pow_pos i)
    rw [Nat.add_assoc, Nat.pow_add]; exact this
theorem mul_deg {a n : Nat} (ha : Deg a n) : ∀ {b k : Nat}, Deg b k → Deg (mul a b) (n + k) := by
  intro b k
  induction k generalizing b with
  | zero =>
    intro hb
    have : b = 1 := by have := hb.1; have := hb.2; simp at *; omega
    subst this
    rw [mul_one]; exact ha
  | succ k ih =>
    intro hb
    have h2 : Deg (b / 2) k := by
      have h1 := hb.1
      have h3 := hb.2
      rw [Nat.pow_succ] at h1 h3
      exact ⟨by omega, by omega⟩
    have h3 := deg_shift (ih h2) 1
    rw [mul_step, Nat.xor_comm]
    have e : 1 + (n + k) = n + (k + 1) := by omega
    rw [e] at h3
    rw [Nat.pow_one] at h3
    refine deg_xor_lt h3 ?_
    have hl : a < 2 ^ (n + (k + 1)) := Nat.lt_of_lt_of_le ha.2 (Nat.pow_le_pow_right (by decide) (by omega))
    by_cases hh : b % 2 = 1
    · rw [if_pos hh]; exact hl
    · rw [if_neg hh]; exact Nat.two_pow_pos _
theorem mul_ne {a b : Nat} (ha : a ≠ 0) (hb : b ≠ 0) : mul a b ≠ 0 := (mul_deg (deg_log ha) (deg_log hb)).ne
theorem mul_log {a b : Nat} (ha : a ≠ 0) (hb : b ≠ 0) : (mul a b).log2 = a.log2 + b.log2 := (mul_deg (deg_log ha) (deg_log hb)).log
theorem mul_eq_zero {a b : Nat} (h : mul a b = 0) : a = 0 ∨ b = 0 := by
  by_cases ha : a = 0
  · exact .inl ha
  · by_cases hb : b = 0
    · exact .inr hb
    · exact absurd h (mul_ne ha hb)
theorem mul_cancel {a b c : Nat} (hc : c ≠ 0) (h : mul a c = mul b c) : a = b := by
  have e : mul (a ^^^ b) c = 0 := by rw [xor_mul, h, Nat.xor_self]
  rcases mul_eq_zero e with h | h
  · exact xor_eq_zero h
  · exact absurd h hc
/-! ## Division -/
theorem div_unique {q k k' r r' : Nat} (hq : q ≠ 0) (hr : r < 2 ^ q.log2) (hr' : r' < 2 ^ q.log2) (h : mul k q ^^^ r = mul k' q ^^^ r') : k = k' ∧ r = r' := by
  have e : mul (k ^^^ k') q = r ^^^ r' := by
    rw [xor_mul]
    have h2 : mul k q ^^^ r ^^^ (mul k' q ^^^ r) = mul k' q ^^^ r' ^^^ (mul k' q ^^^ r) := by rw [h]
    have l : mul k q ^^^ r ^^^ (mul k' q ^^^ r) = mul k q ^^^ mul k' q := by
      rw [Nat.xor_assoc, Nat.xor_comm r, Nat.xor_assoc, Nat.xor_self, Nat.xor_zero]
    have rr : mul k' q ^^^ r' ^^^ (mul k' q ^^^ r) = r ^^^ r' := by
      rw [Nat.xor_comm (mul k' q) r', Nat.xor_assoc, xor_self_cancel, Nat.xor_comm]
    rw [l, rr] at h2
    exact h2
  by_cases hk : k ^^^ k' = 0
  · have := xor_eq_zero hk
    subst this
    rw [hk, zero_mul] at e
    exact ⟨rfl, xor_eq_zero e.symm⟩
  · have d := mul_deg (deg_log hk) (deg_log hq)
    rw [e] at d
    have l := xor_lt hr hr'
    have := d.1
    have m : 2 ^ q.log2 ≤ 2 ^ ((k ^^^ k').log2 + q.log2) := Nat.pow_le_pow_right (by decide) (by omega)
    omega
/-- quotient and rest, by n turns -/
def dm : Nat → Nat → Nat → Nat × Nat
  | 0, _, r => (0, r)
  | n + 1, q, r => if r.testBit (n + q.log2) then
      let z := dm n q (r ^^^ 2 ^ n * q)
      (2 ^ n ^^^ z.1, z.2)
    else dm n q r
theorem dm_spec {q : Nat} (hq : q ≠ 0) : ∀ (n r : Nat), r < 2 ^ (n + q.log2) → r = mul (dm n q r).1 q ^^^ (dm n q r).2 ∧ (dm n q r).2 < 2 ^ q.log2 := by
  intro n
  induction n with
  | zero => intro r h; simp [dm, zero_mul]; simpa using h
  | succ n ih =>
    intro r h
    have h' : r < 2 ^ (n + q.log2 + 1) := by
      have : n + 1 + q.log2 = n + q.log2 + 1 := by omega
      rw [← this]; exact h
    simp only [dm]
    by_cases t : r.testBit (n + q.log2) = true
    · rw [if_pos t]
      have dr : Deg r (n + q.log2) := (deg_top h').mpr t
      have dq := deg_shift (deg_log hq) n
      obtain ⟨e1, e2⟩ := ih _ (deg_xor dr dq)
      refine ⟨?_, e2⟩
      simp only []
      rw [xor_mul, pow_mul, Nat.xor_assoc, ← e1, Nat.xor_comm r, xor_self_cancel]
    · rw [if_neg t]
      refine ih r ?_
      rcases Nat.lt_or_ge r (2 ^ (n + q.log2)) with l | g
      · exact l
      · exact absurd ((deg_top h').mp ⟨g, h'⟩) t
def pdiv (p q : Nat) : Nat := (dm (p.log2 + 1) q p).1
def pmod (p q : Nat) : Nat := (dm (p.log2 + 1) q p).2
theorem dm_room (p q : Nat) : p < 2 ^ (p.log2 + 1 + q.log2) := Nat.lt_of_lt_of_le (lt_log2 p) (Nat.pow_le_pow_right (by decide) (by omega))
theorem div_eq {p q : Nat} (hq : q ≠ 0) : p = mul (pdiv p q) q ^^^ pmod p q := (dm_spec hq _ p (dm_room p q)).1
theorem mod_lt {p q : Nat} (hq : q ≠ 0) : pmod p q < 2 ^ q.log2 := (dm_spec hq _ p (dm_room p q)).2
theorem mod_of {p q k r : Nat} (hq : q ≠ 0) (hr : r < 2 ^ q.log2) (h : p = mul k q ^^^ r) : pdiv p q = k ∧ pmod p q = r :=
  div_unique hq (mod_lt hq) hr ((div_eq hq).symm.trans h)
theorem mod_small {p q : Nat} (hq : q ≠ 0) (h : p < 2 ^ q.log2) : pmod p q = p := (mod_of (k := 0) hq h (by rw [zero_mul, Nat.zero_xor])).2
theorem mod_xor {a b q : Nat} (hq : q ≠ 0) : pmod (a ^^^ b) q = pmod a q ^^^ pmod b q := by
  refine (mod_of (k := pdiv a q ^^^ pdiv b q) hq (xor_lt (mod_lt hq) (mod_lt hq)) ?_).2
  rw [xor_mul]
  conv => lhs; rw [div_eq (p := a) hq, div_eq (p := b) hq]
  ac_rfl
theorem mod_mul_self {k q : Nat} (hq : q ≠ 0) : pmod (mul k q) q = 0 :=
  (mod_of (k := k) hq (Nat.two_pow_pos _) (by rw [Nat.xor_zero])).2
theorem mod_mod {p q : Nat} (hq : q ≠ 0) : pmod (pmod p q) q = pmod p q := mod_small hq (mod_lt hq)
theorem mod_mul_left {a b q : Nat} (hq : q ≠ 0) : pmod (mul (pmod a q) b) q = pmod (mul a b) q := by
  conv => rhs; rw [div_eq (p := a) hq, xor_mul, mod_xor hq, mul_assoc, mul_comm q b, ← mul_assoc, mod_mul_self hq, Nat.zero_xor]
theorem mod_mul_right {a b q : Nat} (hq : q ≠ 0) : pmod (mul a (pmod b q)) q = pmod (mul a b) q := by
  rw [mul_comm, mod_mul_left hq, mul_comm]
/-! ## Divisors -/
def Dvd (q p : Nat) : Prop := ∃ k, p = mul k q
theorem dvd_mod {q p : Nat} (hq : q ≠ 0) : Dvd q p ↔ pmod p q = 0 := by
  constructor
  · rintro ⟨k, rfl⟩; exact mod_mul_self hq
  · intro h
    exact ⟨pdiv p q, by have := div_eq (p := p) hq; rw [h, Nat.xor_zero] at this; exact this⟩
theorem Dvd.xor {q a b : Nat} (ha : Dvd q a) (hb : Dvd q b) : Dvd q (a ^^^ b) := by
  obtain ⟨k, rfl⟩ := ha
  obtain ⟨l, rfl⟩ := hb
  exact ⟨k ^^^ l, by rw [xor_mul]⟩
theorem Dvd.mul {q a : Nat} (c : Nat) (ha : Dvd q a) : Dvd q (GF.mul c a) := by
  obtain ⟨k, rfl⟩ := ha
  exact ⟨GF.mul c k, by rw [mul_assoc]⟩
theorem Dvd.trans {a b c : Nat} (h : Dvd a b) (g : Dvd b c) : Dvd a c := by
  obtain ⟨k, rfl⟩ := g
  exact h.mul k
theorem dvd_self (a : Nat) : Dvd a a := ⟨1, (one_mul a).symm⟩
theorem dvd_zero (a : Nat) : Dvd a 0 := ⟨0, (zero_mul a).symm⟩
theorem one_dvd (a : Nat) : Dvd 1 a := ⟨a, (mul_one a).symm⟩
theorem Dvd.le {q p : Nat} (h : Dvd q p) (hp : p ≠ 0) : q.log2 ≤ p.log2 ∧ q ≠ 0 := by
  obtain ⟨k, rfl⟩ := h
  have hk : k ≠ 0 := fun e => hp (by rw [e, zero_mul])
  have hq : q ≠ 0 := fun e => hp (by rw [e, mul_zero])
  rw [mul_log hk hq]
  exact ⟨by omega, hq⟩
theorem dvd_mod_iff {d p q : Nat} (hq : q ≠ 0) (hd : Dvd d q) : Dvd d (pmod p q) ↔ Dvd d p := by
  have e := div_eq (p := p) hq
  constructor
  · intro h
    rw [e]
    exact (hd.mul _).xor h
  · intro h
    have e2 : pmod p q = mul (pdiv p q) q ^^^ p := by rw [eq_comm, xor_eq_iff]; exact e
    rw [e2]
    exact (hd.mul _).xor h
/-! ## The common divisor -/
def gcdF : Nat → Nat → Nat → Nat
  | 0, a, _ => a
  | n + 1, a, b => if b = 0 then a else gcdF n b (pmod a b)
/-- the measure: one more than the degree, 0 for 0 -/
def siz (b : Nat) : Nat := if b = 0 then 0 else b.log2 + 1
theorem siz_le {b n : Nat} : siz b ≤ n ↔ b < 2 ^ n := by
  unfold siz
  by_cases h : b = 0
  · subst h; simp [Nat.two_pow_pos]
  · rw [if_neg h]
    constructor
    · intro k; exact Nat.lt_of_lt_of_le (lt_log2 b) (Nat.pow_le_pow_right (by decide) k)
    · intro k
      have := (Nat.log2_lt h).mpr k
      omega
theorem siz_mod {a b : Nat} (hb : b ≠ 0) : siz (pmod a b) < siz b := by
  have : siz (pmod a b) ≤ b.log2 := siz_le.mpr (mod_lt hb)
  unfold siz at *
  rw [if_neg hb]
  omega
def gcd (a b : Nat) : Nat := gcdF (siz b) a b
theorem gcdF_zero (n a : Nat) : gcdF n a 0 = a := by cases n <;> simp [gcdF]
theorem gcdF_stable : ∀ (n k a b : Nat), siz b ≤ n → siz b ≤ k → gcdF n a b = gcdF k a b := by
  intro n
  induction n with
  | zero =>
    intro k a b h _
    have : b = 0 := by simpa using siz_le.mp h
    subst this
    rw [gcdF_zero, gcdF_zero]
  | succ n ih =>
    intro k a b h hk
    by_cases hb : b = 0
    · subst hb; rw [gcdF_zero, gcdF_zero]
    · have hm := siz_mod (a := a) hb
      obtain ⟨k, rfl⟩ : ∃ j, k = j + 1 := ⟨k - 1, by omega⟩
      simp only [gcdF, if_neg hb]
      exact ih k _ _ (by omega) (by omega)
theorem gcd_zero (a : Nat) : gcd a 0 = a := gcdF_zero _ _
theorem gcd_step (a : Nat) {b : Nat} (hb : b ≠ 0) : gcd a b = gcd b (pmod a b) := by
  have hm := siz_mod (a := a) hb
  unfold gcd
  obtain ⟨n, e⟩ : ∃ n, siz b = n + 1 := ⟨siz b - 1, by omega⟩
  rw [e]
  simp only [gcdF, if_neg hb]
  exact gcdF_stable _ _ _ _ (by omega) (by omega)
theorem gcd_ind {P : Nat → Nat → Prop} (h0 : ∀ a, P a 0) (h : ∀ a b, b ≠ 0 → P b (pmod a b) → P a b) (a b : Nat) : P a b := by
  generalize e : siz b = n
  induction n using Nat.strongRecOn generalizing a b with
  | ind n ih =>
    by_cases hb : b = 0
    · subst hb; exact h0 a
    · exact h a b hb (ih _ (by have := siz_mod (a := a) hb; omega) _ _ rfl)
theorem gcd_dvd (a b : Nat) : Dvd (gcd a b) a ∧ Dvd (gcd a b) b := by
  induction a, b using gcd_ind with
  | h0 a => rw [gcd_zero]; exact ⟨dvd_self a, dvd_zero a⟩
  | h a b hb ih =>
    rw [gcd_step a hb]
    exact ⟨(dvd_mod_iff hb ih.1).mp ih.2, ih.1⟩
theorem dvd_gcd {d : Nat} (a b : Nat) : Dvd d a → Dvd d b → Dvd d (gcd a b) := by
  induction a, b using gcd_ind with
  | h0 a => intro h _; rw [gcd_zero]; exact h
  | h a b hb ih =>
    intro h1 h2
    rw [gcd_step a hb]
    exact ih h2 ((dvd_mod_iff hb h2).mpr h1)
theorem bezout (a b : Nat) : ∃ u v, gcd a b = mul u a ^^^ mul v b := by
  induction a, b using gcd_ind with
  | h0 a => exact ⟨1, 0, by rw [gcd_zero, one_mul, zero_mul, Nat.xor_zero]⟩
  | h a b hb ih =>
    obtain ⟨u, v, e⟩ := ih
    refine ⟨v, u ^^^ mul v (pdiv a b), ?_⟩
    rw [gcd_step a hb, e]
    have e2 : pmod a b = mul (pdiv a b) b ^^^ a := by rw [eq_comm, xor_eq_iff]; exact div_eq hb
    rw [e2, mul_xor, xor_mul, mul_assoc]
    ac_rfl
/-! ## Irreducible ones -/
/-- no divisor of a degree from 1 to half the degree -/
def Irr (p : Nat) : Prop := 2 ≤ p ∧ ∀ q, 2 ≤ q → q.log2 ≤ p.log2 / 2 → ¬ Dvd q p
theorem log_pos {q : Nat} (h : 2 ≤ q) : 1 ≤ q.log2 := by
  rw [Nat.le_log2 (by omega)]; omega
theorem Irr.only {p q : Nat} (h : Irr p) (hd : Dvd q p) : q = 1 ∨ q.log2 = p.log2 := by
  have hp : p ≠ 0 := by have := h.1; omega
  obtain ⟨hl, hq⟩ := hd.le hp
  by_cases h1 : q = 1
  · exact .inl h1
  · right
    obtain ⟨k, e⟩ := hd
    have hk : k ≠ 0 := fun z => hp (by rw [e, z, zero_mul])
    have el : p.log2 = k.log2 + q.log2 := by rw [e, mul_log hk hq]
    by_cases k1 : k = 1
    · subst k1; rw [one_mul] at e; rw [e]
    · exfalso
      by_cases hh : q.log2 ≤ p.log2 / 2
      · exact h.2 q (by omega) hh ⟨k, e⟩
      · exact h.2 k (by omega) (by omega) ⟨q, by rw [mul_comm]; exact e⟩
theorem dvd_same {p q : Nat} (hp : p ≠ 0) (hd : Dvd q p) (h : q.log2 = p.log2) : q = p := by
  obtain ⟨k, e⟩ := hd
  have hk : k ≠ 0 := fun z => hp (by rw [e, z, zero_mul])
  have hq : q ≠ 0 := fun z => hp (by rw [e, z, mul_zero])
  have el : p.log2 = k.log2 + q.log2 := by
    conv => lhs; rw [e]
    exact mul_log hk hq
  have : k.log2 = 0 := by omega
  have k1 : k = 1 := by
    have d := deg_log hk
    rw [this] at d
    have a := d.1; have b := d.2
    simp at a b
    omega
  rw [e, k1, one_mul]
theorem Irr.prime {p a b : Nat} (h : Irr p) (hd : Dvd p (mul a b)) : Dvd p a ∨ Dvd p b := by
  have hp : p ≠ 0 := by have := h.1; omega
  have g := gcd_dvd p a
  rcases h.only g.1 with e | e
  · right
    obtain ⟨u, v, z⟩ := bezout p a
    rw [e] at z
    have : b = mul (mul u b) p ^^^ mul v (mul a b) := by
      have : mul 1 b = mul (mul u p ^^^ mul v a) b := by rw [← z]
      rw [one_mul, xor_mul, mul_assoc, mul_assoc, mul_comm p b, ← mul_assoc] at this
      exact this
    rw [this]
    exact ((dvd_self p).mul _).xor (hd.mul _)
  · left
    have : gcd p a = p := dvd_same hp g.1 e
    rw [this] at g
    exact g.2
theorem irr_or {p : Nat} (h2 : 2 ≤ p) (h : ¬ Irr p) : ∃ q, 2 ≤ q ∧ q.log2 ≤ p.log2 / 2 ∧ Dvd q p ∧ Irr q := by
  -- the least divisor
  have ex : ∃ q, 2 ≤ q ∧ q.log2 ≤ p.log2 / 2 ∧ Dvd q p := by
    apply Classical.byContradiction
    intro n
    refine h ⟨h2, fun q h1 h3 h4 => n ⟨q, h1, h3, h4⟩⟩
  obtain ⟨q, h1, h3, h4⟩ := ex
  induction q using Nat.strongRecOn with
  | ind q ih =>
    by_cases hi : Irr q
    · exact ⟨q, h1, h3, h4, hi⟩
    · have ex2 : ∃ r, 2 ≤ r ∧ r.log2 ≤ q.log2 / 2 ∧ Dvd r q := by
        apply Classical.byContradiction
        intro n
        refine hi ⟨h1, fun q h1 h3 h4 => n ⟨q, h1, h3, h4⟩⟩
      obtain ⟨r, r1, r2, r3⟩ := ex2
      refine ih r ?_ r1 (by omega) (r3.trans h4)
      have hq1 := log_pos h1
      have : r < 2 ^ q.log2 := (Nat.log2_lt (by omega)).mp (by omega)
      have := Nat.log2_self_le (n := q) (by omega)
      omega
end GF
namespace GF
/-! # The test of irreducibility -/
def irrB (p : Nat) : Bool := decide (2 ≤ p) && (List.range (2 ^ (p.log2 / 2 + 1))).all fun q => decide (q < 2) || decide (pmod p q ≠ 0)
theorem irrB_iff {p : Nat} : irrB p = true ↔ Irr p := by
  unfold irrB Irr
  rw [Bool.and_eq_true, decide_eq_true_eq, List.all_eq_true]
  constructor
  · rintro ⟨h1, h2⟩
    refine ⟨h1, fun q hq hl hd => ?_⟩
    have hm : q ∈ List.range (2 ^ (p.log2 / 2 + 1)) := by
      rw [List.mem_range]
      exact (Nat.log2_lt (by omega)).mp (by omega)
    have := h2 q hm
    rw [Bool.or_eq_true, decide_eq_true_eq, decide_eq_true_eq] at this
    rcases this with h | h
    · omega
    · exact h ((dvd_mod (by omega)).mp hd)
  · rintro ⟨h1, h2⟩
    refine ⟨h1, fun q hq => ?_⟩
    rw [List.mem_range] at hq
    rw [Bool.or_eq_true, decide_eq_true_eq, decide_eq_true_eq]
    by_cases h : q < 2
    · exact .inl h
    · right
      intro e
      refine h2 q (by omega) ?_ ((dvd_mod (by omega)).mpr e)
      have := (Nat.log2_lt (n := q) (by omega)).mpr hq
      omega
/-- x ** (2 ** k) + x -/
def fk (k : Nat) : Nat := 2 ^ 2 ^ k ^^^ 2
theorem fact1 : (List.range 512).all (fun q => !irrB q || decide (pmod (fk q.log2) q = 0)) = true := by decide +kernel
def fs : Nat → List Nat
  | 1 => [2, 3]
  | 2 => [2, 3, 7]
  | 3 => [2, 3, 11, 13]
  | 4 => [2, 3, 7, 19, 25, 31]
  | 5 => [2, 3, 37, 41, 47, 55, 59, 61]
  | 6 => [2, 3, 7, 11, 13, 67, 73, 87, 91, 97, 103, 109, 115, 117]
  | 7 => [2, 3, 131, 137, 143, 145, 157, 167, 171, 185, 191, 193, 203, 211, 213, 229, 239, 241, 247, 253]
  | 8 => [2, 3, 7, 19, 25, 31, 283, 285, 299, 301, 313, 319, 333, 351, 355, 357, 361, 369, 375, 379, 391, 395, 397, 415, 419, 425, 433, 445, 451, 463, 471, 477, 487, 499, 501, 505]
  | _ => []
def prod (l : List Nat) : Nat := l.foldr mul 1
theorem fact2 : [1, 2, 3, 4, 5, 6, 7, 8].all (fun k => decide (prod (fs k) = fk k) && (fs k).all fun f => decide (2 ≤ f) && decide (f.log2 ≤ k)) = true := by decide +kernel
theorem Irr.prod {p : Nat} (h : Irr p) : ∀ {l : List Nat}, Dvd p (GF.prod l) → ∃ f ∈ l, Dvd p f
  | [], hd => by
    have := hd.le (show GF.prod [] ≠ 0 by decide)
    have h1 := log_pos h.1
    have h2 : (GF.prod []).log2 = 0 := by decide
    omega
  | f :: l, hd => by
    rcases h.prime (a := f) (b := GF.prod l) hd with g | g
    · exact ⟨f, List.mem_cons_self, g⟩
    · obtain ⟨f', m, d⟩ := h.prod g
      exact ⟨f', List.mem_cons_of_mem _ m, d⟩
/-- the powers of the test -/
def fr : Nat → Nat → Nat
  | 0, _ => 2
  | k + 1, p => pmod (mul (fr k p) (fr k p)) p
theorem fr_mod {p : Nat} (hp : p ≠ 0) (k : Nat) : pmod (fr k p) p = pmod (2 ^ 2 ^ k) p := by
  induction k with
  | zero => rfl
  | succ k ih =>
    have e : (2 : Nat) ^ 2 ^ (k + 1) = mul (2 ^ 2 ^ k) (2 ^ 2 ^ k) := by
      rw [mul_pow, ← Nat.pow_add]; congr 1; omega
    rw [e]
    show pmod (pmod (mul (fr k p) (fr k p)) p) p = _
    rw [mod_mod hp, ← mod_mul_left hp, ih, mod_mul_left hp, ← mod_mul_right hp, ih, mod_mul_right hp]
theorem dvd_fr {p d : Nat} (hp : p ≠ 0) (hd : Dvd d p) (k : Nat) : Dvd d (fr k p ^^^ 2) ↔ Dvd d (fk k) := by
  rw [← dvd_mod_iff hp hd, ← dvd_mod_iff (p := fk k) hp hd]
  unfold fk
  rw [mod_xor hp, mod_xor hp, fr_mod hp]
/-- what the test says -/
def Test (p : Nat) : Prop := ∀ k, 1 ≤ k → k ≤ p.log2 / 2 → gcd (fr k p ^^^ 2) p = 1
theorem test_of_irr {p : Nat} (h : Irr p) (hp : p < 131072) : Test p := by
  intro k k1 k2
  have hp0 : p ≠ 0 := by have := h.1; omega
  have hlog : p.log2 < 17 := (Nat.log2_lt hp0).mpr hp
  obtain ⟨g1, g2⟩ := gcd_dvd (fr k p ^^^ 2) p
  rcases h.only g2 with e | e
  · exact e
  · exfalso
    have e2 := dvd_same hp0 g2 e
    rw [e2, dvd_fr hp0 (dvd_self p)] at g1
    have f2 := List.all_eq_true.mp fact2 k (by
      have : k ≤ 8 := by omega
      simp; omega)
    rw [Bool.and_eq_true, decide_eq_true_eq, List.all_eq_true] at f2
    rw [← f2.1] at g1
    obtain ⟨f, hm, hd⟩ := h.prod g1
    have f3 := f2.2 f hm
    rw [Bool.and_eq_true, decide_eq_true_eq, decide_eq_true_eq] at f3
    have := (hd.le (by omega)).1
    have := log_pos h.1
    omega
theorem irr_of_test {p : Nat} (h2 : 2 ≤ p) (hp : p < 131072) (h : Test p) : Irr p := by
  apply Classical.byContradiction
  intro n
  obtain ⟨q, q2, ql, qd, qi⟩ := irr_or h2 n
  have hp0 : p ≠ 0 := by omega
  have hlog : p.log2 < 17 := (Nat.log2_lt hp0).mpr hp
  have hq : q < 512 := by
    have := (Nat.log2_lt (n := q) (k := 9) (by omega)).mp (by omega)
    omega
  have f1 := List.all_eq_true.mp fact1 q (List.mem_range.mpr hq)
  rw [irrB_iff.mpr qi] at f1
  simp only [Bool.not_true, Bool.false_or, decide_eq_true_eq] at f1
  have hd : Dvd q (fk q.log2) := (dvd_mod (by omega)).mpr f1
  have := h q.log2 (log_pos q2) ql
  have g := dvd_gcd (fr q.log2 p ^^^ 2) p ((dvd_fr hp0 qd _).mpr hd) qd
  rw [this] at g
  have := (g.le (by decide)).1
  have h1 : Nat.log2 1 = 0 := by decide
  have := log_pos q2
  omega
theorem test_iff {p : Nat} (h2 : 2 ≤ p) (hp : p < 131072) : Test p ↔ Irr p := ⟨irr_of_test h2 hp, fun h => test_of_irr h hp⟩
/-- one of each degree -/
def some_irr (m : Nat) : Nat := [2, 2, 7, 11, 19, 37, 67, 131, 283, 515, 1033, 2053, 4105, 8219, 16417, 32771, 65579].getD m 2
theorem fact3 : [1, 2, 3, 4, 5, 6, 7, 8, 9, 10, 11, 12, 13, 14, 15, 16].all (fun m => irrB (some_irr m) && decide (2 ^ m ≤ some_irr m) && decide (some_irr m < 2 ^ (m + 1))) = true := by decide +kernel
theorem irr_some {m : Nat} (h1 : 1 ≤ m) (h2 : m ≤ 16) : Irr (some_irr m) ∧ 2 ^ m ≤ some_irr m ∧ some_irr m < 2 ^ (m + 1) := by
  have f := List.all_eq_true.mp fact3 m (by simp; omega)
  rw [Bool.and_eq_true, Bool.and_eq_true, decide_eq_true_eq, decide_eq_true_eq] at f
  exact ⟨irrB_iff.mp f.1.1, f.1.2, f.2⟩
end GF
namespace FLD
open GF
def mulm (q a b : Nat) : Nat := pmod (GF.mul a b) q
def pw (q e : Nat) : Nat → Nat
  | 0 => 1
  | k + 1 => mulm q (pw q e k) e
/-- a field of 2 ^ m elements -/
structure Fd (m q : Nat) : Prop where
  h2 : 2 ≤ m
  h8 : m ≤ 8
  irr : Irr q
  lg : q.log2 = m
section
variable {m q : Nat} (F : Fd m q)
include F
theorem q0 : q ≠ 0 := by have := F.irr.1; omega
theorem q_lt : q < 2 ^ (m + 1) := by have := Nat.lt_log2_self (n := q); rw [F.lg] at this; exact this
theorem q_512 : q < 512 := Nat.lt_of_lt_of_le (q_lt F) (Nat.le_trans (Nat.pow_le_pow_right (by decide) (show m + 1 ≤ 9 by have := F.h8; omega)) (by decide))
theorem mulm_lt (a b : Nat) : mulm q a b < 2 ^ m := by have := mod_lt (p := GF.mul a b) (q0 F); rw [F.lg] at this; exact this
omit F in
theorem mulm_comm (a b : Nat) : mulm q a b = mulm q b a := by unfold mulm; rw [GF.mul_comm]
theorem mulm_assoc (a b c : Nat) : mulm q (mulm q a b) c = mulm q a (mulm q b c) := by
  unfold mulm; rw [mod_mul_left (q0 F), mod_mul_right (q0 F), GF.mul_assoc]
theorem mulm_xor (a b c : Nat) : mulm q a (b ^^^ c) = mulm q a b ^^^ mulm q a c := by unfold mulm; rw [GF.mul_xor, mod_xor (q0 F)]
theorem xor_mulm (a b c : Nat) : mulm q (a ^^^ b) c = mulm q a c ^^^ mulm q b c := by unfold mulm; rw [GF.xor_mul, mod_xor (q0 F)]
theorem mulm_small {a : Nat} (h : a < 2 ^ m) : pmod a q = a := mod_small (q0 F) (by rw [F.lg]; exact h)
theorem mulm_one {a : Nat} (h : a < 2 ^ m) : mulm q a 1 = a := by unfold mulm; rw [GF.mul_one, mulm_small F h]
theorem one_mulm {a : Nat} (h : a < 2 ^ m) : mulm q 1 a = a := by rw [mulm_comm, mulm_one F h]
theorem mulm_zero (a : Nat) : mulm q a 0 = 0 := by unfold mulm; rw [GF.mul_zero, mulm_small F (Nat.two_pow_pos _)]
theorem zero_mulm (a : Nat) : mulm q 0 a = 0 := by rw [mulm_comm, mulm_zero F]
theorem small_dvd {a : Nat} (h : a < 2 ^ m) (hd : Dvd q a) : a = 0 := by
  have := (dvd_mod (q0 F)).mp hd
  rw [mulm_small F h] at this; exact this
theorem mulm_eq_zero {a b : Nat} (ha : a < 2 ^ m) (hb : b < 2 ^ m) (h : mulm q a b = 0) : a = 0 ∨ b = 0 := by
  rcases F.irr.prime ((dvd_mod (q0 F)).mpr h) with d | d
  · exact .inl (small_dvd F ha d)
  · exact .inr (small_dvd F hb d)
theorem mulm_ne {a b : Nat} (ha : a < 2 ^ m) (hb : b < 2 ^ m) (ha0 : a ≠ 0) (hb0 : b ≠ 0) : mulm q a b ≠ 0 := fun h => by
  rcases mulm_eq_zero F ha hb h with d | d
  · exact ha0 d
  · exact hb0 d
theorem mulm_cancel {a b c : Nat} (ha : a < 2 ^ m) (hb : b < 2 ^ m) (hc : c < 2 ^ m) (hc0 : c ≠ 0) (h : mulm q a c = mulm q b c) : a = b := by
  have e : mulm q (a ^^^ b) c = 0 := by rw [xor_mulm F, h, Nat.xor_self]
  rcases mulm_eq_zero F (xor_lt ha hb) hc e with d | d
  · exact xor_eq_zero d
  · exact absurd d hc0
theorem one_lt : 1 < 2 ^ m := Nat.lt_of_lt_of_le (by decide) (Nat.pow_le_pow_right (by decide) F.h2)
theorem pw_lt (e k : Nat) : pw q e k < 2 ^ m := by
  cases k with
  | zero => exact one_lt F
  | succ k => exact mulm_lt F _ _
theorem pw_ne {e : Nat} (he : e < 2 ^ m) (h0 : e ≠ 0) (k : Nat) : pw q e k ≠ 0 := by
  induction k with
  | zero => exact Nat.one_ne_zero
  | succ k ih => exact mulm_ne F (pw_lt F e k) he ih h0
theorem pw_add (e i k : Nat) : pw q e (i + k) = mulm q (pw q e i) (pw q e k) := by
  induction k with
  | zero => exact (mulm_one F (pw_lt F e i)).symm
  | succ k ih =>
    show mulm q (pw q e (i + k)) e = mulm q (pw q e i) (mulm q (pw q e k) e)
    rw [ih, mulm_assoc F]
theorem pw_one (k : Nat) : pw q 1 k = 1 := by
  induction k with
  | zero => rfl
  | succ k ih => show mulm q (pw q 1 k) 1 = 1; rw [ih, mulm_one F (one_lt F)]
theorem pw_pw (e j k : Nat) : pw q (pw q e j) k = pw q e (j * k) := by
  induction k with
  | zero => rfl
  | succ k ih =>
    show mulm q (pw q (pw q e j) k) (pw q e j) = _
    rw [ih, Nat.mul_succ, pw_add F]
theorem pw_first {e : Nat} (he : e < 2 ^ m) : pw q e 1 = e := one_mulm F he
/-- r has just 2 ^ m - 1 different powers -/
structure IsRoot (m q r : Nat) : Prop where
  lt : r < 2 ^ m
  ge : 2 ≤ r
  one : pw q r (2 ^ m - 1) = 1
  no : ∀ k, 1 ≤ k → k < 2 ^ m - 1 → pw q r k ≠ 1
end
theorem nodup_bound : ∀ (n : Nat) (l : List Nat), l.Nodup → (∀ x ∈ l, 1 ≤ x ∧ x ≤ n) → l.length ≤ n
  | 0, l, _, h => by
    cases l with
    | nil => exact Nat.le_refl 0
    | cons x r => have := h x List.mem_cons_self; omega
  | n + 1, l, hn, h => by
    by_cases hm : (n + 1) ∈ l
    · have e := List.length_erase_of_mem hm
      have := nodup_bound n (l.erase (n + 1)) (hn.erase _) (fun x hx => by
        rw [hn.mem_erase_iff] at hx
        have := h x hx.2
        have := hx.1
        omega)
      omega
    · have := nodup_bound n l hn (fun x hx => by
        have := h x hx
        have : x ≠ n + 1 := fun e => hm (e ▸ hx)
        omega)
      omega
section
variable {m q r : Nat} (F : Fd m q) (R : IsRoot m q r)
include F R
theorem r0 : r ≠ 0 := by have := R.ge; omega
theorem pw_inj_lt {i j : Nat} (hij : i < j) (hj : j < 2 ^ m - 1) : pw q r i ≠ pw q r j := fun e => by
  have h1 : pw q r j = mulm q (pw q r (j - i)) (pw q r i) := by rw [mulm_comm, ← pw_add F]; congr 1; omega
  have h2 : mulm q 1 (pw q r i) = mulm q (pw q r (j - i)) (pw q r i) := by rw [one_mulm F (pw_lt F r i), ← h1, e]
  have h3 := mulm_cancel F (one_lt F) (pw_lt F r (j - i)) (pw_lt F r i) (pw_ne F R.lt (r0 F R) i) h2
  exact R.no (j - i) (by omega) (by omega) h3.symm
theorem pw_inj {i j : Nat} (hi : i < 2 ^ m - 1) (hj : j < 2 ^ m - 1) (h : pw q r i = pw q r j) : i = j := by
  rcases Nat.lt_trichotomy i j with l | e | g
  · exact absurd h (pw_inj_lt F R l hj)
  · exact e
  · exact absurd h.symm (pw_inj_lt F R g hi)
theorem pw_nodup : ((List.range (2 ^ m - 1)).map (pw q r)).Nodup := by
  refine List.pairwise_map.mpr (List.Pairwise.imp_of_mem (fun {a b} ha hb h => ?_) List.pairwise_lt_range)
  exact pw_inj_lt F R h (List.mem_range.mp hb)
theorem log_ex {e : Nat} (h0 : e ≠ 0) (h : e < 2 ^ m) : ∃ j, j < 2 ^ m - 1 ∧ pw q r j = e := by
  apply Classical.byContradiction
  intro n
  have hm : e ∉ (List.range (2 ^ m - 1)).map (pw q r) := fun z => by
    obtain ⟨j, hj, ej⟩ := List.mem_map.mp z
    exact n ⟨j, List.mem_range.mp hj, ej⟩
  have := nodup_bound (2 ^ m - 1) (e :: (List.range (2 ^ m - 1)).map (pw q r)) (List.nodup_cons.mpr ⟨hm, pw_nodup F R⟩) (fun x hx => by
    rcases List.mem_cons.mp hx with z | z
    · subst z; omega
    · obtain ⟨j, hj, ej⟩ := List.mem_map.mp z
      have h1 := pw_lt F r j
      have h2 := pw_ne F R.lt (r0 F R) j
      omega)
  rw [List.length_cons, List.length_map, List.length_range] at this
  omega
theorem pw_turn (k : Nat) : pw q r ((2 ^ m - 1) * k) = 1 := by rw [← pw_pw F, R.one, pw_one F]
theorem pw_mod (k : Nat) : pw q r k = pw q r (k % (2 ^ m - 1)) := by
  conv => lhs; rw [← Nat.div_add_mod k (2 ^ m - 1), pw_add F, pw_turn F R, one_mulm F (pw_lt F r _)]
theorem pw_one_iff (k : Nat) : pw q r k = 1 ↔ (2 ^ m - 1) ∣ k := by
  have hN : 0 < 2 ^ m - 1 := by have := one_lt F; omega
  constructor
  · intro h
    rw [pw_mod F R] at h
    by_cases z : k % (2 ^ m - 1) = 0
    · exact Nat.dvd_of_mod_eq_zero z
    · exact absurd h (R.no _ (by omega) (Nat.mod_lt _ hN))
  · rintro ⟨c, rfl⟩; exact pw_turn F R c
theorem pw_all {e : Nat} (h0 : e ≠ 0) (h : e < 2 ^ m) : pw q e (2 ^ m - 1) = 1 := by
  obtain ⟨j, hj, rfl⟩ := log_ex F R h0 h
  rw [pw_pw F, Nat.mul_comm, pw_turn F R]
/-- the order of a power of the root -/
theorem ord_iff (j k : Nat) : pw q (pw q r j) k = 1 ↔ ((2 ^ m - 1) / Nat.gcd (2 ^ m - 1) j) ∣ k := by
  have hN : 0 < 2 ^ m - 1 := by have := one_lt F; omega
  have hg : 0 < Nat.gcd (2 ^ m - 1) j := Nat.gcd_pos_of_pos_left _ hN
  rw [pw_pw F, pw_one_iff F R]
  obtain ⟨a, ha⟩ := Nat.gcd_dvd_left (2 ^ m - 1) j
  obtain ⟨b, hb⟩ := Nat.gcd_dvd_right (2 ^ m - 1) j
  have hc : Nat.Coprime ((2 ^ m - 1) / Nat.gcd (2 ^ m - 1) j) (j / Nat.gcd (2 ^ m - 1) j) := Nat.coprime_div_gcd_div_gcd hg
  have e1 : (2 ^ m - 1) / Nat.gcd (2 ^ m - 1) j = a := Nat.div_eq_of_eq_mul_right hg ha
  have e2 : j / Nat.gcd (2 ^ m - 1) j = b := Nat.div_eq_of_eq_mul_right hg hb
  rw [e1, e2] at hc
  rw [e1]
  generalize Nat.gcd (2 ^ m - 1) j = g at hg ha hb
  rw [ha, hb, Nat.mul_assoc, Nat.mul_dvd_mul_iff_left hg]
  exact ⟨fun h => hc.dvd_of_dvd_mul_left h, fun h => Nat.dvd_trans h (Nat.dvd_mul_left _ _)⟩
end
/-! ### there is a root -/
def ordL (q r : Nat) : Nat → Nat → Bool
  | 0, p => p == 1
  | n + 1, p => p != 1 && ordL q r n (mulm q p r)
theorem ordL_ok {q r : Nat} : ∀ (n k : Nat), ordL q r n (pw q r k) = true → pw q r (k + n) = 1 ∧ ∀ i, k ≤ i → i < k + n → pw q r i ≠ 1
  | 0, k, h => ⟨by simpa [ordL] using h, fun i h1 h2 => by omega⟩
  | n + 1, k, h => by
    simp only [ordL, Bool.and_eq_true, bne_iff_ne] at h
    obtain ⟨h1, h2⟩ := ordL_ok n (k + 1) h.2
    refine ⟨by rw [show k + (n + 1) = k + 1 + n by omega]; exact h1, fun i h3 h4 => ?_⟩
    by_cases e : i = k
    · subst e; exact h.1
    · exact h2 i (by omega) (by omega)
def rootTab : List (Nat × Nat) := [(7, 2), (11, 2), (13, 2), (19, 2), (25, 2), (31, 3), (37, 2), (41, 2), (47, 2), (55, 2), (59, 2), (61, 2), (67, 2), (73, 3), (87, 3), (91, 2), (97, 2), (103, 2), (109, 2), (115, 2), (117, 3), (131, 2), (137, 2), (143, 2), (145, 2), (157, 2), (167, 2), (171, 2), (185, 2), (191, 2), (193, 2), (203, 2), (211, 2), (213, 2), (229, 2), (239, 2), (241, 2), (247, 2), (253, 2), (283, 3), (285, 2), (299, 2), (301, 2), (313, 3), (319, 3), (333, 2), (351, 2), (355, 2), (357, 2), (361, 2), (369, 2), (375, 3), (379, 9), (391, 2), (395, 6), (397, 2), (415, 3), (419, 3), (425, 2), (433, 6), (445, 7), (451, 2), (463, 2), (471, 7), (477, 6), (487, 2), (499, 6), (501, 2), (505, 3)]
def rootB (q r : Nat) : Bool := decide (2 ≤ r) && decide (r < 2 ^ q.log2) && decide (pw q r 1 = r) && ordL q r (2 ^ q.log2 - 2) r
theorem rootB_ok {m q r : Nat} (F : Fd m q) (h : rootB q r = true) : IsRoot m q r := by
  unfold rootB at h
  simp only [Bool.and_eq_true, decide_eq_true_eq, F.lg] at h
  obtain ⟨⟨⟨h1, h2⟩, h3⟩, h4⟩ := h
  rw [← h3] at h4
  have h5 : ordL q r (2 ^ m - 2) (pw q r 1) = true := by
    rw [h3] at h4 ⊢
    exact h4
  obtain ⟨a, b⟩ := ordL_ok _ 1 h5
  have := one_lt F
  have hp : 2 ^ 2 ≤ 2 ^ m := Nat.pow_le_pow_right (by decide) F.h2
  refine ⟨h2, h1, ?_, fun k k1 k2 => b k k1 (by omega)⟩
  rw [show 2 ^ m - 1 = 1 + (2 ^ m - 2) by omega]; exact a
theorem fact4 : (List.range 512).all (fun q => !irrB q || decide (q.log2 < 2) || (match rootTab.lookup q with | some r => rootB q r | none => false)) = true := by decide +kernel
theorem root_ex {m q : Nat} (F : Fd m q) : ∃ r, IsRoot m q r := by
  have f := List.all_eq_true.mp fact4 q (List.mem_range.mpr (q_512 F))
  rw [irrB_iff.mpr F.irr] at f
  have h2 : ¬ q.log2 < 2 := by rw [F.lg]; have := F.h2; omega
  simp only [Bool.not_true, Bool.false_or, decide_eq_false h2] at f
  split at f
  · rename_i r _; exact ⟨r, rootB_ok F f⟩
  · cases f
theorem find_least (p : Nat → Prop) : ∀ n, p n → ∃ k, p k ∧ ∀ i, i < k → ¬ p i := fun n => by
  induction n using Nat.strongRecOn with
  | ind n ih =>
    intro h
    by_cases c : ∃ i, i < n ∧ p i
    · obtain ⟨i, h1, h2⟩ := c
      exact ih i h1 h2
    · exact ⟨n, h, fun i h1 h2 => c ⟨i, h1, h2⟩⟩
/-- the least root -/
def LeastRoot (m q r : Nat) : Prop := IsRoot m q r ∧ ∀ e, e < r → ¬ IsRoot m q e
theorem least_ex {m q : Nat} (F : Fd m q) : ∃ r, LeastRoot m q r := by
  obtain ⟨r, h⟩ := root_ex F
  exact find_least (IsRoot m q) r h
end FLD
/-! A def that the text calls by another name than its own. -/
namespace NB
open PySem PySem.Spec L2
structure Da (K : PySem.W.Frag) (mg : Str → Option Value) (x nm : Str) (ps : List Str) (st : Stmt) (f : Addr) (fd : FuncData) : Prop where
  F : Fun K nm nm st f fd
  g : mg x = some (.ref f)
  b : L2.Binds K fd ps []
end NB
namespace NB
open PySem PySem.Spec L2
/-- within a comprehension: the written part named from outside -/
theorem ix_listK {X : Cx} {K : PySem.W.Frag} (h : X.K = K) : IxR X (rIxL K) := h ▸ ix_list
theorem ix_tupK {X : Cx} {K : PySem.W.Frag} (h : X.K = K) : IxR X (rIxT K) := h ▸ ix_tup
end NB
namespace NB
open PySem PySem.Spec L2
theorem op_eqDK {X : Cx} {K : PySem.W.Frag} (h : X.K = K) (hu : X.A.units + 64 < cLine) : OpR X (compareOp .Eq) (rEqD K) := h ▸ op_eqD hu
theorem op_neDK {X : Cx} {K : PySem.W.Frag} (h : X.K = K) (hu : X.A.units + 64 < cLine) : OpR X (compareOp .NotEq) (rNeD K) := h ▸ op_neD hu
end NB
/-! Polynomials over a field GF(2^m): lists of elements, the least power first. -/
namespace PLY
open FLD
/-- the value at x -/
def ev (q x : Nat) : List Nat → Nat
  | [] => 0
  | c :: p => mulm q (ev q x p) x ^^^ c
theorem ev_nil {q x : Nat} : ev q x [] = 0 := rfl
theorem ev_cons {q x c : Nat} {p : List Nat} : ev q x (c :: p) = mulm q (ev q x p) x ^^^ c := rfl
theorem pw_zero {q x : Nat} : pw q x 0 = 1 := rfl
theorem pw_succ {q x k : Nat} : pw q x (k + 1) = mulm q (pw q x k) x := rfl
/-- how many elements are left when the zeros at the end go -/
def tl : List Nat → Nat
  | [] => 0
  | c :: p => if tl p = 0 then (if c = 0 then 0 else 1) else tl p + 1
def trim (p : List Nat) : List Nat := p.take (tl p)
theorem tl_le : ∀ p : List Nat, tl p ≤ p.length
  | [] => Nat.le_refl _
  | c :: p => by
    have := tl_le p
    show (if tl p = 0 then (if c = 0 then 0 else 1) else tl p + 1) ≤ p.length + 1
    split
    · split <;> omega
    · omega
theorem tl_zero : ∀ (p : List Nat) (i : Nat), tl p ≤ i → i < p.length → p[i]? = some 0
  | [], i, _, h => absurd h (Nat.not_lt_zero _)
  | c :: p, i, h, hi => by
    have h' : (if tl p = 0 then (if c = 0 then 0 else 1) else tl p + 1) ≤ i := h
    have hi' : i < p.length + 1 := hi
    cases i with
    | zero =>
      split at h'
      · split at h'
        · rename_i hc; subst hc; rfl
        · omega
      · omega
    | succ i =>
      rw [List.getElem?_cons_succ]
      refine tl_zero p i ?_ (by omega)
      split at h' <;> omega
theorem tl_last : ∀ p : List Nat, tl p = 0 ∨ ∃ c, p[tl p - 1]? = some c ∧ c ≠ 0
  | [] => .inl rfl
  | c :: p => by
    have e : tl (c :: p) = if tl p = 0 then (if c = 0 then 0 else 1) else tl p + 1 := rfl
    rcases tl_last p with h | ⟨d, h1, h2⟩
    · rw [h] at e
      by_cases hc : c = 0
      · left; rw [e, if_pos rfl, if_pos hc]
      · right; rw [e, if_pos rfl, if_neg hc]; exact ⟨c, rfl, hc⟩
    · by_cases hz : tl p = 0
      · rw [hz] at e
        by_cases hc : c = 0
        · left; rw [e, if_pos rfl, if_pos hc]
        · right; rw [e, if_pos rfl, if_neg hc]; exact ⟨c, rfl, hc⟩
      · right
        rw [e, if_neg hz]
        refine ⟨d, ?_, h2⟩
        rw [show tl p + 1 - 1 = (tl p - 1) + 1 by omega, List.getElem?_cons_succ]
        exact h1
theorem tl_only {p : List Nat} {s : Nat} (h1 : s ≤ p.length) (h2 : ∀ i, s ≤ i → i < p.length → p[i]? = some 0) (h3 : s = 0 ∨ ∃ c, p[s - 1]? = some c ∧ c ≠ 0) : s = tl p := by
  have g1 := tl_le p
  apply Classical.byContradiction
  intro n
  rcases Nat.lt_or_gt_of_ne n with h | h
  · rcases tl_last p with g | ⟨c, g2, g3⟩
    · omega
    · have := h2 (tl p - 1) (by omega) (by omega)
      rw [this] at g2
      exact g3 (Option.some.inj g2).symm
  · rcases h3 with g | ⟨c, g2, g3⟩
    · omega
    · have := tl_zero p (s - 1) (by omega) (by omega)
      rw [this] at g2
      exact g3 (Option.some.inj g2).symm
theorem trim_len (p : List Nat) : (trim p).length = tl p := by
  unfold trim; rw [List.length_take]; exact Nat.min_eq_left (tl_le p)
theorem trim_mem {p : List Nat} {c : Nat} (h : c ∈ trim p) : c ∈ p := List.mem_of_mem_take h
theorem trim_get {p : List Nat} {i : Nat} (h : i < tl p) : (trim p)[i]? = p[i]? := by unfold trim; rw [List.getElem?_take_of_lt h]
theorem trim_trim (p : List Nat) : trim (trim p) = trim p := by
  have e : tl p = tl (trim p) := by
    refine tl_only (by rw [trim_len]; exact Nat.le_refl _) (fun i h1 h2 => by rw [trim_len] at h2; omega) ?_
    rcases tl_last p with h | ⟨c, h1, h2⟩
    · exact .inl h
    · by_cases z : tl p = 0
      · exact .inl z
      · exact .inr ⟨c, by rw [trim_get (by omega)]; exact h1, h2⟩
  show (trim p).take (tl (trim p)) = trim p
  rw [← e, ← trim_len p, List.take_length]
theorem trim_cat (p : List Nat) : p = trim p ++ List.replicate (p.length - tl p) 0 := by
  apply List.ext_getElem?
  intro i
  have h := tl_le p
  by_cases h1 : i < tl p
  · rw [List.getElem?_append_left (by rw [trim_len]; exact h1), trim_get h1]
  · rw [List.getElem?_append_right (by rw [trim_len]; omega), trim_len]
    by_cases h2 : i < p.length
    · rw [tl_zero p i (by omega) h2, List.getElem?_replicate, if_pos (by omega)]
    · rw [List.getElem?_eq_none (by omega), List.getElem?_eq_none (by rw [List.length_replicate]; omega)]
section
variable {m q : Nat} (F : Fd m q)
include F
theorem ev_lt {x : Nat} : ∀ {p : List Nat}, (∀ c ∈ p, c < 2 ^ m) → ev q x p < 2 ^ m
  | [], _ => Nat.two_pow_pos _
  | c :: p, h => Nat.xor_lt_two_pow (mulm_lt F _ _) (h c List.mem_cons_self)
theorem ev_zeros {x : Nat} : ∀ n : Nat, ev q x (List.replicate n 0) = 0
  | 0 => rfl
  | n + 1 => by rw [List.replicate_succ, ev_cons, ev_zeros n, zero_mulm F, Nat.xor_self]
theorem ev_cat0 {x : Nat} (n : Nat) : ∀ p : List Nat, ev q x (p ++ List.replicate n 0) = ev q x p
  | [] => ev_zeros F n
  | c :: p => by rw [List.cons_append, ev_cons, ev_cons, ev_cat0 n p]
theorem ev_trim {x : Nat} (p : List Nat) : ev q x (trim p) = ev q x p := by
  conv => rhs; rw [trim_cat p]
  rw [ev_cat0 F]
theorem ev_zip {x : Nat} : ∀ {p r : List Nat}, p.length = r.length → ev q x (List.zipWith (· ^^^ ·) p r) = ev q x p ^^^ ev q x r
  | [], [], _ => by rw [List.zipWith_nil_left, ev_nil, Nat.xor_self]
  | c :: p, d :: r, h => by
    rw [List.zipWith_cons_cons, ev_cons, ev_cons, ev_cons, ev_zip (by simpa using h), xor_mulm F]
    ac_rfl
  | [], d :: r, h => by simp at h
  | c :: p, [], h => by simp at h
theorem ev_map {x : Nat} (e : Nat) : ∀ p : List Nat, ev q x (p.map (mulm q e)) = mulm q e (ev q x p)
  | [] => (mulm_zero F e).symm
  | c :: p => by rw [List.map_cons, ev_cons, ev_cons, ev_map e p, mulm_xor F, mulm_assoc F]
theorem ev_set {x c : Nat} (hc : c < 2 ^ m) : ∀ {t : List Nat} {k d : Nat}, t[k]? = some d → ev q x (t.set k (d ^^^ c)) = ev q x t ^^^ mulm q c (pw q x k)
  | [], k, d, h => by simp at h
  | a :: t, 0, d, h => by
    have e : a = d := by simpa using h
    subst e
    rw [List.set_cons_zero, ev_cons, ev_cons, pw_zero, mulm_one F hc]
    ac_rfl
  | a :: t, k + 1, d, h => by
    have h' : t[k]? = some d := by simpa using h
    rw [List.set_cons_succ, ev_cons, ev_cons, ev_set hc h', xor_mulm F, mulm_assoc F, pw_succ]
    ac_rfl
end
/-- a row of a product: e times the elements of Q, from the place k on -/
def row (q e : Nat) : List Nat → Nat → List Nat → List Nat
  | [], _, t => t
  | f :: Q, k, t => row q e Q (k + 1) (t.set k (t.getD k 0 ^^^ mulm q e f))
/-- the rows of a product -/
def rows (q : Nat) (Q : List Nat) : List Nat → Nat → List Nat → List Nat
  | [], _, t => t
  | e :: P, k, t => rows q Q P (k + 1) (row q e Q k t)
def conv (q : Nat) (P Q : List Nat) : List Nat := rows q Q P 0 (List.replicate (P.length + Q.length) 0)
theorem row_len (q e : Nat) : ∀ (Q : List Nat) (k : Nat) (t : List Nat), (row q e Q k t).length = t.length
  | [], _, _ => rfl
  | f :: Q, k, t => by
    show (row q e Q (k + 1) _).length = _
    rw [row_len q e Q, List.length_set]
theorem rows_len (q : Nat) (Q : List Nat) : ∀ (P : List Nat) (k : Nat) (t : List Nat), (rows q Q P k t).length = t.length
  | [], _, _ => rfl
  | e :: P, k, t => by
    show (rows q Q P (k + 1) _).length = _
    rw [rows_len q Q P, row_len]
theorem conv_len (q : Nat) (P Q : List Nat) : (conv q P Q).length = P.length + Q.length := by
  unfold conv; rw [rows_len, List.length_replicate]
theorem row_get (q e : Nat) : ∀ (Q : List Nat) (k : Nat) (t : List Nat) (j : Nat), k + Q.length ≤ j → (row q e Q k t)[j]? = t[j]?
  | [], _, _, _, _ => rfl
  | f :: Q, k, t, j, h => by
    have h' : k + (Q.length + 1) ≤ j := h
    show (row q e Q (k + 1) _)[j]? = _
    rw [row_get q e Q (k + 1) _ j (by omega), List.getElem?_set_ne (by omega)]
theorem rows_get (q : Nat) (Q : List Nat) : ∀ (P : List Nat) (k : Nat) (t : List Nat) (j : Nat), k + P.length + Q.length ≤ j + 1 → (rows q Q P k t)[j]? = t[j]?
  | [], _, _, _, _ => rfl
  | e :: P, k, t, j, h => by
    have h' : k + (P.length + 1) + Q.length ≤ j + 1 := h
    show (rows q Q P (k + 1) _)[j]? = _
    rw [rows_get q Q P (k + 1) _ j (by omega), row_get q e Q k t j (by omega)]
/-- a product has one element less -/
theorem conv_tl (q : Nat) (P Q : List Nat) (h : 0 < P.length + Q.length) : tl (conv q P Q) ≤ P.length + Q.length - 1 := by
  apply Classical.byContradiction
  intro n
  rcases tl_last (conv q P Q) with g | ⟨c, g1, g2⟩
  · omega
  · have hl := tl_le (conv q P Q)
    rw [conv_len] at hl
    have e : tl (conv q P Q) - 1 = P.length + Q.length - 1 := by omega
    rw [e] at g1
    unfold conv at g1
    rw [rows_get q Q P 0 _ _ (by omega), List.getElem?_replicate] at g1
    split at g1
    · exact g2 (Option.some.inj g1).symm
    · cases g1
section
variable {m q : Nat} (F : Fd m q)
include F
theorem row_mem {e : Nat} : ∀ {Q : List Nat} {k : Nat} {t : List Nat}, (∀ c ∈ t, c < 2 ^ m) → ∀ c ∈ row q e Q k t, c < 2 ^ m
  | [], _, _, h => h
  | f :: Q, k, t, h => by
    refine row_mem (Q := Q) (k := k + 1) fun c hc => ?_
    rcases List.mem_or_eq_of_mem_set hc with g | g
    · exact h c g
    · rw [g]
      refine Nat.xor_lt_two_pow ?_ (mulm_lt F _ _)
      rw [List.getD_eq_getElem?_getD]
      cases e2 : t[k]? with
      | none => exact Nat.two_pow_pos _
      | some d => exact h d (List.mem_of_getElem? e2)
theorem rows_mem {Q : List Nat} : ∀ {P : List Nat} {k : Nat} {t : List Nat}, (∀ c ∈ t, c < 2 ^ m) → ∀ c ∈ rows q Q P k t, c < 2 ^ m
  | [], _, _, h => h
  | e :: P, k, t, h => rows_mem (P := P) (k := k + 1) (row_mem F h)
theorem conv_mem (P Q : List Nat) : ∀ c ∈ conv q P Q, c < 2 ^ m := rows_mem F fun c hc => by
  rw [List.mem_replicate] at hc
  rw [hc.2]
  exact Nat.two_pow_pos _
theorem ev_row {x e : Nat} : ∀ {Q : List Nat} {k : Nat} {t : List Nat}, k + Q.length ≤ t.length → ev q x (row q e Q k t) = ev q x t ^^^ mulm q (mulm q e (ev q x Q)) (pw q x k)
  | [], k, t, _ => by
    show ev q x t = _
    rw [ev_nil, mulm_zero F, zero_mulm F, Nat.xor_zero]
  | f :: Q, k, t, h => by
    have h' : k + (Q.length + 1) ≤ t.length := h
    obtain ⟨d, hd⟩ : ∃ d, t[k]? = some d := ⟨_, List.getElem?_eq_getElem (by omega)⟩
    show ev q x (row q e Q (k + 1) (t.set k (t.getD k 0 ^^^ mulm q e f))) = _
    rw [ev_row (by rw [List.length_set]; omega), List.getD_eq_getElem?_getD, hd, Option.getD_some, ev_set F (mulm_lt F _ _) hd, ev_cons, mulm_xor F, xor_mulm F, pw_succ]
    have e3 : mulm q (mulm q e (ev q x Q)) (mulm q (pw q x k) x) = mulm q (mulm q e (mulm q (ev q x Q) x)) (pw q x k) := by
      rw [mulm_comm (pw q x k) x, ← mulm_assoc F, mulm_assoc F e]
    rw [e3]
    ac_rfl
theorem ev_rows {x : Nat} {Q : List Nat} : ∀ {P : List Nat} {k : Nat} {t : List Nat}, k + P.length + Q.length ≤ t.length + 1 → P.length + Q.length ≤ t.length → ev q x (rows q Q P k t) = ev q x t ^^^ mulm q (mulm q (ev q x P) (ev q x Q)) (pw q x k)
  | [], k, t, _, _ => by
    show ev q x t = _
    rw [ev_nil, zero_mulm F, zero_mulm F, Nat.xor_zero]
  | e :: P, k, t, h, h2 => by
    have h' : k + (P.length + 1) + Q.length ≤ t.length + 1 := h
    have h2' : P.length + 1 + Q.length ≤ t.length := h2
    show ev q x (rows q Q P (k + 1) (row q e Q k t)) = _
    rw [ev_rows (by rw [row_len]; omega) (by rw [row_len]; omega), ev_row F (by omega), ev_cons, xor_mulm F, xor_mulm F, pw_succ]
    have e3 : mulm q (mulm q (ev q x P) (ev q x Q)) (mulm q (pw q x k) x) = mulm q (mulm q (mulm q (ev q x P) x) (ev q x Q)) (pw q x k) := by
      rw [mulm_comm (pw q x k) x, ← mulm_assoc F, mulm_assoc F (ev q x P) (ev q x Q) x, mulm_comm (ev q x Q) x, ← mulm_assoc F]
    rw [e3]
    ac_rfl
theorem ev_conv {x : Nat} (P Q : List Nat) : ev q x (conv q P Q) = mulm q (ev q x P) (ev q x Q) := by
  have h : mulm q (ev q x P) (ev q x Q) < 2 ^ m := mulm_lt F _ _
  unfold conv
  rw [ev_rows F (by rw [List.length_replicate]; omega) (by rw [List.length_replicate]; omega), ev_zeros F, pw_zero, mulm_one F h, Nat.zero_xor]
end
end PLY
/-! Division of polynomials over a field, step by step. -/
namespace PLY
open FLD
theorem getD_of {p : List Nat} {i c : Nat} (h : p[i]? = some c) : p.getD i 0 = c := by rw [List.getD_eq_getElem?_getD, h]; rfl
theorem getD_out {p : List Nat} {i : Nat} (h : p.length ≤ i) : p.getD i 0 = 0 := by rw [List.getD_eq_getElem?_getD, List.getElem?_eq_none h]; rfl
theorem get_getD {p : List Nat} {i : Nat} (h : i < p.length) : p[i]? = some (p.getD i 0) := by rw [List.getD_eq_getElem?_getD, List.getElem?_eq_getElem h]; rfl
theorem tl_le_iff (p : List Nat) (s : Nat) : tl p ≤ s ↔ ∀ j, s ≤ j → p.getD j 0 = 0 := by
  constructor
  · intro h j hj
    by_cases g : j < p.length
    · exact getD_of (tl_zero p j (by omega) g)
    · exact getD_out (by omega)
  · intro h
    apply Classical.byContradiction
    intro n
    rcases tl_last p with g | ⟨c, g1, g2⟩
    · omega
    · have := h (tl p - 1) (by omega)
      rw [getD_of g1] at this
      exact g2 this
theorem trim_getD (p : List Nat) (j : Nat) : (trim p).getD j 0 = p.getD j 0 := by
  by_cases h : j < tl p
  · rw [List.getD_eq_getElem?_getD, List.getD_eq_getElem?_getD, trim_get h]
  · rw [getD_out (by rw [trim_len]; omega), (tl_le_iff p (tl p)).mp (Nat.le_refl _) j (by omega)]
theorem trim_ext {p r : List Nat} (h : ∀ j, p.getD j 0 = r.getD j 0) : trim p = trim r := by
  have e : tl p = tl r := Nat.le_antisymm ((tl_le_iff p _).mpr fun j hj => by rw [h]; exact (tl_le_iff r _).mp (Nat.le_refl _) j hj) ((tl_le_iff r _).mpr fun j hj => by rw [← h]; exact (tl_le_iff p _).mp (Nat.le_refl _) j hj)
  apply List.ext_getElem?
  intro i
  by_cases hi : i < tl p
  · rw [get_getD (by rw [trim_len]; exact hi), get_getD (by rw [trim_len, ← e]; exact hi), trim_getD, trim_getD, h]
  · rw [List.getElem?_eq_none (by rw [trim_len]; omega), List.getElem?_eq_none (by rw [trim_len, ← e]; omega)]
theorem set_getD {t : List Nat} {k c : Nat} (hk : k < t.length) (j : Nat) : (t.set k c).getD j 0 = if j = k then c else t.getD j 0 := by
  rw [List.getD_eq_getElem?_getD, List.getD_eq_getElem?_getD]
  by_cases e : j = k
  · subst e; rw [List.getElem?_set_self hk, if_pos rfl]; rfl
  · rw [List.getElem?_set_ne (fun z => e z.symm), if_neg e]
theorem row_getD (q e : Nat) : ∀ (Q : List Nat) (k : Nat) (t : List Nat) (j : Nat), k + Q.length ≤ t.length → (row q e Q k t).getD j 0 = t.getD j 0 ^^^ (if k ≤ j ∧ j < k + Q.length then mulm q e (Q.getD (j - k) 0) else 0)
  | [], k, t, j, _ => by
    show t.getD j 0 = _
    rw [if_neg (by simp), Nat.xor_zero]
  | f :: Q, k, t, j, h => by
    have h' : k + (Q.length + 1) ≤ t.length := h
    show (row q e Q (k + 1) (t.set k (t.getD k 0 ^^^ mulm q e f))).getD j 0 = _
    rw [row_getD q e Q (k + 1) _ j (by rw [List.length_set]; omega), set_getD (by omega)]
    by_cases e1 : j = k
    · subst e1
      rw [if_pos rfl, if_neg (by omega), Nat.xor_zero, if_pos (by constructor <;> simp), Nat.sub_self]
      rfl
    · rw [if_neg e1]
      by_cases e2 : k + 1 ≤ j ∧ j < k + 1 + Q.length
      · rw [if_pos e2, if_pos (by simp only [List.length_cons]; omega), show j - k = (j - (k + 1)) + 1 by omega]
        rfl
      · rw [if_neg e2, if_neg (by simp only [List.length_cons]; omega)]
theorem rows1_getD (q c : Nat) : ∀ (P : List Nat) (k : Nat) (t : List Nat) (j : Nat), k + P.length ≤ t.length → (rows q [c] P k t).getD j 0 = t.getD j 0 ^^^ (if k ≤ j ∧ j < k + P.length then mulm q (P.getD (j - k) 0) c else 0)
  | [], k, t, j, _ => by
    show t.getD j 0 = _
    rw [if_neg (by simp), Nat.xor_zero]
  | e :: P, k, t, j, h => by
    have h' : k + (P.length + 1) ≤ t.length := h
    show (rows q [c] P (k + 1) (t.set k (t.getD k 0 ^^^ mulm q e c))).getD j 0 = _
    rw [rows1_getD q c P (k + 1) _ j (by rw [List.length_set]; omega), set_getD (by omega)]
    by_cases e1 : j = k
    · subst e1
      rw [if_pos rfl, if_neg (by omega), Nat.xor_zero, if_pos (by constructor <;> simp), Nat.sub_self]
      rfl
    · rw [if_neg e1]
      by_cases e2 : k + 1 ≤ j ∧ j < k + 1 + P.length
      · rw [if_pos e2, if_pos (by simp only [List.length_cons]; omega), show j - k = (j - (k + 1)) + 1 by omega]
        rfl
      · rw [if_neg e2, if_neg (by simp only [List.length_cons]; omega)]
theorem rep_getD (n j : Nat) : (List.replicate n 0).getD j 0 = 0 := by
  rw [List.getD_eq_getElem?_getD, List.getElem?_replicate]
  split <;> rfl
theorem cat_getD (s : Nat) (L : List Nat) (j : Nat) : (List.replicate s 0 ++ L).getD j 0 = if j < s then 0 else L.getD (j - s) 0 := by
  rw [List.getD_eq_getElem?_getD]
  by_cases h : j < s
  · rw [if_pos h, List.getElem?_append_left (by rw [List.length_replicate]; exact h), List.getElem?_replicate, if_pos h]; rfl
  · rw [if_neg h, List.getElem?_append_right (by rw [List.length_replicate]; omega), List.length_replicate, ← List.getD_eq_getElem?_getD]
/-- the last element -/
def lastD (R : List Nat) : Nat := R.getD (R.length - 1) 0
def lead (q v : Nat) (R : List Nat) : Nat := mulm q (lastD R) v
/-- one step of the division by g, v the inverse of g's last element -/
def step (q v : Nat) (g R : List Nat) : List Nat := trim (row q (lead q v R) g (R.length - g.length) R)
theorem conv1_getD (q c : Nat) (g : List Nat) (i : Nat) : (conv q g [c]).getD i 0 = if i < g.length then mulm q (g.getD i 0) c else 0 := by
  unfold conv
  rw [rows1_getD q c g 0 _ i (by rw [List.length_replicate]; omega), rep_getD, Nat.zero_xor, Nat.sub_zero, Nat.zero_add]
  by_cases h : i < g.length
  · rw [if_pos ⟨Nat.zero_le _, h⟩, if_pos h]
  · rw [if_neg (fun z => h z.2), if_neg h]
theorem step_law {q v : Nat} {g R A : List Nat} (h : g.length ≤ R.length) (hA : ∀ j, A.getD j 0 = R.getD j 0 ^^^ (List.replicate (R.length - g.length) 0 ++ trim (conv q g [lead q v R])).getD j 0) : trim A = step q v g R := by
  refine trim_ext fun j => ?_
  rw [hA, cat_getD, row_getD q _ g _ R j (by omega)]
  congr 1
  by_cases h1 : j < R.length - g.length
  · rw [if_pos h1, if_neg (by omega)]
  · rw [if_neg h1, trim_getD, conv1_getD]
    by_cases h2 : j - (R.length - g.length) < g.length
    · rw [if_pos h2, if_pos (by omega), mulm_comm]
    · rw [if_neg h2, if_neg (by omega)]
section
variable {m q : Nat} (F : Fd m q)
include F
theorem lastD_lt {R : List Nat} (h : ∀ c ∈ R, c < 2 ^ m) : lastD R < 2 ^ m := by
  unfold lastD
  by_cases g : R.length - 1 < R.length
  · have := List.mem_of_getElem? (get_getD g)
    exact h _ this
  · rw [getD_out (by omega)]; exact Nat.two_pow_pos _
theorem step_lt {v : Nat} {g R : List Nat} (hv : mulm q v (lastD g) = 1) (h0 : 0 < g.length) (h : g.length ≤ R.length) (hE : ∀ c ∈ R, c < 2 ^ m) : (step q v g R).length < R.length := by
  unfold step
  rw [trim_len]
  have : tl (row q (lead q v R) g (R.length - g.length) R) ≤ R.length - 1 := by
    refine (tl_le_iff _ _).mpr fun j hj => ?_
    by_cases e : j = R.length - 1
    · subst e
      rw [row_getD q _ g _ R _ (by omega), if_pos (by omega), show R.length - 1 - (R.length - g.length) = g.length - 1 by omega]
      show lastD R ^^^ mulm q (mulm q (lastD R) v) (lastD g) = 0
      rw [mulm_assoc F, hv, mulm_one F (lastD_lt F hE), Nat.xor_self]
    · exact getD_out (by rw [row_len]; omega)
  omega
theorem step_El {v : Nat} {g R : List Nat} (hE : ∀ c ∈ R, c < 2 ^ m) : ∀ c ∈ step q v g R, c < 2 ^ m := fun c hc => row_mem F hE c (trim_mem hc)
end
/-- the division: what is left, and the quotient so far -/
def dv (q v : Nat) (g : List Nat) : Nat → List Nat → List Nat → List Nat × List Nat
  | 0, R, W => (R, W)
  | n + 1, R, W => if g.length ≤ R.length then dv q v g n (step q v g R) (W.set (R.length - g.length) (lead q v R)) else (R, W)
theorem dv_stop {q v : Nat} {g R W : List Nat} (h : ¬ g.length ≤ R.length) : ∀ n, dv q v g n R W = (R, W)
  | 0 => rfl
  | n + 1 => if_neg h
theorem dv_step {q v n : Nat} {g R W : List Nat} (h : g.length ≤ R.length) : dv q v g (n + 1) R W = dv q v g n (step q v g R) (W.set (R.length - g.length) (lead q v R)) := if_pos h
section
variable {m q : Nat} (F : Fd m q) {v : Nat} {g : List Nat} (hv : mulm q v (lastD g) = 1) (h0 : 0 < g.length)
include F hv h0
/-- zeros behind the quotient change nothing -/
theorem dv_app (Z : List Nat) : ∀ (n : Nat) (R W : List Nat), (∀ c ∈ R, c < 2 ^ m) → R.length < W.length + g.length → dv q v g n R (W ++ Z) = ((dv q v g n R W).1, (dv q v g n R W).2 ++ Z)
  | 0, _, _, _, _ => rfl
  | n + 1, R, W, hE, hl => by
    by_cases h : g.length ≤ R.length
    · have hs := step_lt F hv h0 h hE
      rw [dv_step h, dv_step h, List.set_append_left _ _ (by omega), dv_app Z n _ _ (step_El F hE) (by rw [List.length_set]; omega)]
    · rw [dv_stop h, dv_stop h]
/-- the quotient keeps what stands above -/
theorem dv_keep : ∀ (n : Nat) (R W : List Nat) (k : Nat), (∀ c ∈ R, c < 2 ^ m) → R.length < k + g.length → (dv q v g n R W).2[k]? = W[k]?
  | 0, _, _, _, _, _ => rfl
  | n + 1, R, W, k, hE, hl => by
    by_cases h : g.length ≤ R.length
    · have hs := step_lt F hv h0 h hE
      rw [dv_step h, dv_keep n _ _ k (step_El F hE) (by omega), List.getElem?_set_ne (by omega)]
    · rw [dv_stop h]
theorem dv_len : ∀ (n : Nat) (R W : List Nat), (dv q v g n R W).2.length = W.length
  | 0, _, _ => rfl
  | n + 1, R, W => by
    by_cases h : g.length ≤ R.length
    · rw [dv_step h, dv_len n, List.length_set]
    · rw [dv_stop h]
/-- with turns enough nothing more is done -/
theorem dv_done : ∀ (n : Nat) (R W : List Nat), (∀ c ∈ R, c < 2 ^ m) → R.length ≤ n → ¬ g.length ≤ (dv q v g n R W).1.length
  | 0, R, W, _, hl => by show ¬ g.length ≤ R.length; omega
  | n + 1, R, W, hE, hl => by
    by_cases h : g.length ≤ R.length
    · have hs := step_lt F hv h0 h hE
      rw [dv_step h]
      exact dv_done n _ _ (step_El F hE) (by omega)
    · rw [dv_stop h]; exact h
/-- the quotient has no zeros at its end -/
theorem dv_trim {n : Nat} {R : List Nat} (hE : ∀ c ∈ R, c < 2 ^ m) (hv2 : v < 2 ^ m) (hv0 : v ≠ 0) (ht : trim R = R) (hn : R.length ≤ n) : trim (dv q v g n R (List.replicate (R.length + 1 - g.length) 0)).2 = (dv q v g n R (List.replicate (R.length + 1 - g.length) 0)).2 := by
  have hlen := dv_len F hv h0 n R (List.replicate (R.length + 1 - g.length) 0)
  rw [List.length_replicate] at hlen
  by_cases h : g.length ≤ R.length
  · obtain ⟨n, rfl⟩ : ∃ k, n = k + 1 := ⟨n - 1, by omega⟩
    have hs := step_lt F hv h0 h hE
    have hl0 : lead q v R ≠ 0 := by
      refine mulm_ne F (lastD_lt F hE) hv2 (fun z => ?_) hv0
      have hR : tl R = R.length := by rw [← trim_len, ht]
      have := (tl_le_iff R (R.length - 1)).mpr fun j hj => by
        by_cases e : j = R.length - 1
        · rw [e]; exact z
        · exact getD_out (by omega)
      omega
    have htop : (dv q v g (n + 1) R (List.replicate (R.length + 1 - g.length) 0)).2[R.length - g.length]? = some (lead q v R) := by
      rw [dv_step h, dv_keep F hv h0 n _ _ _ (step_El F hE) (by omega), List.getElem?_set_self (by rw [List.length_replicate]; omega)]
    have e : (dv q v g (n + 1) R (List.replicate (R.length + 1 - g.length) 0)).2.length = tl (dv q v g (n + 1) R (List.replicate (R.length + 1 - g.length) 0)).2 :=
      tl_only (Nat.le_refl _) (fun i h1 h2 => by omega) (.inr ⟨_, by rw [hlen, show R.length + 1 - g.length - 1 = R.length - g.length by omega]; exact htop, hl0⟩)
    show List.take (tl _) _ = _
    rw [← e, List.take_length]
  · have : R.length + 1 - g.length = 0 := by omega
    rw [this] at hlen ⊢
    have e := List.length_eq_zero_iff.mp hlen
    rw [e]
    rfl
end
end PLY
/-! A def that is called where nothing is being printed: repr of lists. -/
namespace GR
open PySem PySem.Spec PyProof.Rows L2 NB
/-- repr of a list or tuple of plain things, where nothing is being printed -/
def rRepr (K : PySem.W.Frag) : List V → Hp → VK → Prop := fun xs H Q => ∃ (a : Addr) (d : PyData), xs = [.ref a] ∧ Dp K H (.ref a) d ∧ d.showable = true ∧ d.hasDict = false ∧ d.depth ≤ 60 ∧ d.shown.length ≤ sizeLine ∧ Q (.str d.shown) H
theorem call_reprD {X : Cx} (hg : X.A.guards = some []) (hu : X.A.units + 64 < cLine) : CallR X (.builtin "repr") (rRepr X.K) := by
  intro pins s σ H xs us Q I r h
  obtain ⟨a, d, rfl, hd, hs, hn, hp, hz, q⟩ := h
  obtain ⟨u, rfl, ru⟩ := vals1 r
  obtain rfl : u = Value.ref a := ru
  obtain ⟨as, rd⟩ := Dp.reads I d (.ref a) (.ref a) hd rfl
  refine repr_of_reads' rd hs (fun e => by rw [hn] at e; cases e) hg (by omega) (fun _ _ e => e) (fun h' u tk keep => ?_) hz
  exact ⟨.str d.shown, H, I.kept (t' := tk) (h' := h') keep, ⟨u, rfl⟩, q⟩
/-- the promise of a def where nothing is being printed -/
def FnG (P : Program) (w : World) (K : PySem.W.Frag) (mg : Str → Option Value) (base : Heap) (CX : CXT) (k : Nat) (f : Addr) (fd : FuncData) (ps : List Str) (sp : Sp) : Prop :=
  ∀ (A : Around) (outer : List Env) (s : Shared) (H : Hp) (args : Args) (us : List Value) (vs : List V) (Q : VK) (E : XK), A.guards = some [] → Room k A → Env0 P w K mg base A outer s H → BindsTo s fd args (ps.zip us) → Vals vs us → sp vs H Q E →
    codeAny (model P w) A (.call (.ref f) args) (CR CX outer P w H s Q E) s
section
variable {P : Program} {w : World} {K : PySem.W.Frag} {mg : Str → Option Value} {base : Heap}
theorem Fun.okG {x qual : Str} {st : Stmt} {f : Addr} {fd : FuncData} {N ps : List Str} {k : Nat} {sp : Sp} (F : Fun K x qual st f fd) (S : FnScope N ps (defScope st)) (len : ∀ vs H Q E, sp vs H Q E → vs.length = ps.length)
    (body : ∀ (cdv : Value) (A : Around) (outer : List Env) (s : Shared) (H : Hp) (vs : List V) (Q : VK) (E : XK), (A.deeper (envOfC qual (defScope st) s.heap.objs.size f cdv)).guards = some [] → Room k (A.deeper (envOfC qual (defScope st) s.heap.objs.size f cdv)) → sp vs H Q E →
      ∃ t, PSs (cxOf CX0 P w K mg base N qual (defScope st) f cdv A outer s H E).nox (defBody st) t ∧ t { nx := fun _ H' => Q .non H', rt := Q } (start N vs) H) : FnG P w K mg base CX0 (k + 1) f fd ps sp := by
  obtain ⟨oc, od, kV, doc, pm, an, cdv, ct, osl, rfl, lk, hcd⟩ := F.ex
  intro A outer s H args us vs Q E gd room env bind vals pre
  have n := len _ _ _ _ pre
  have kin : K.In s.heap := env.mod.kin.keeps fun b o z => (env.bs b o z).1
  have nolim : s.heap.NoLimit := env.mod.nolimit.keeps fun b o z => (env.bs b o z).1
  refine codeAny_call_function room.depth (kin _ _ lk) rfl S.co S.gen rfl (PySem.W.codeRec_of kin hcd) (bind _ _ _ _ ?_)
  refine wpAny_newFunctionEnv_cells S.kind (fun y hy => ?_) fun env' ee s1 lay => ?_
  · rcases S.par y.1 (List.of_mem_zip hy).1 with z | z
    · exact Or.inl z
    · exact Or.inr ⟨z, PySem.W.cellsFrom_some _ _ _ (Or.inl z)⟩
  subst ee
  refine ⟨nolim.keeps lay.toInCall.keep, codeAny_func ?_⟩
  obtain ⟨t, ht, wish⟩ := body cdv A outer s H vs Q E gd (room.deeper _) pre
  have J := inv_start (CX := CX0) (E := E) S room.hd env n vals lay
  refine wpAny_mono (ht.nox.run [] s1 (start N vs) H _ J wish) (fun fl s' done => ?_) fun e s' z => z
  match fl, done with
  | .ret u, ⟨v, σ', H', L, rv, z⟩ => exact ⟨v, H', L.os, L.bare, L.base, L.hok, rv, z⟩
  | .next, ⟨σ', H', L, z⟩ => exact ⟨V.non, H', L.os, L.bare, L.base, L.hok, rfl, z⟩
  | .brk, ⟨_, _, _, z⟩ => exact z.elim
  | .cont, ⟨_, _, _, z⟩ => exact z.elim
end
section
variable {P : Program} {w : World} {K : PySem.W.Frag} {mg mb : Str → Option Value} {CX : CXT} {k : Nat} {fa a : Addr} {fd : FuncData} {x : Str} {sp : Sp} {s0 : Shared} {vs : List Value} {ns : List Int}
/-- the world as the law is entered: only the script may be followed -/
theorem entry (KX : K.In s0.heap) (hm : s0.heap.Ns mainGlobals mg) (hb : s0.heap.Ns builtinsNs mb) (hbb : ∀ x : Str, x ≠ "__name__" → mb x = bootBuiltins x) (hl : s0.heap.NoLimit) (hg : s0.gens = #[])
    (ha : s0.heap.get? a = some { cls := .type "list", data := .seq vs.toArray }) {H : Hp} (hok : HOk P w H s0.heap) (one : ∀ b u, H b = some u → b = a) (out : ∀ u, H a = some u → K.lookup a = none) :
    K.In (hidT s0.heap H) ∧ (hidT s0.heap H).Ns mainGlobals mg ∧ Env0 P w K mg (hidT s0.heap H) callerA [] s0 H := by
  have kept : ∀ {b : Addr} {o : Obj} {es : Array DictEntry} {ep : Nat}, s0.heap.get? b = some o → o.data = .dict es ep → (hidT s0.heap H).get? b = some o := fun {b o es ep} e d => by
    refine hidT_get e ?_
    cases z : H b with
    | none => rfl
    | some u =>
      have := one b u z
      rw [this, ha] at e
      have e2 := congrArg Obj.data (Option.some.inj e)
      rw [d] at e2
      cases e2
  have names : ∀ {b : Addr} {m : Str → Option Value}, s0.heap.Ns b m → (hidT s0.heap H).Ns b m := fun {b m} n => by
    obtain ⟨o, es, ep, e, d, r⟩ := n
    exact ⟨o, es, ep, kept e d, d, r⟩
  have kin : K.In (hidT s0.heap H) := fun b o e => by
    refine hidT_get (KX b o e) ?_
    cases z : H b with
    | none => rfl
    | some u =>
      have eb := one b u z
      subst eb
      rw [out u z] at e
      cases e
  obtain ⟨mc, c1, c2⟩ := hl
  refine ⟨kin, names hm, ⟨rfl, ⟨kin, names hm, ⟨mb, names hb, hbb⟩, mc, names c1, c2⟩, fun b o e => of_hidT e, Nat.le_of_eq (hidT_size _ _), trivial, fun b hb => ?_, hok, .of_eq hg⟩⟩
  exact absurd (show b ∈ ([] : List Addr) from hb) List.not_mem_nil
theorem law_callG (KX : K.In s0.heap) (hm : s0.heap.Ns mainGlobals mg) (hb : s0.heap.Ns builtinsNs mb) (hbb : ∀ x : Str, x ≠ "__name__" → mb x = bootBuiltins x) (hl : s0.heap.NoLimit) (hg : s0.gens = #[])
    (ha : s0.heap.get? a = some { cls := .type "list", data := .seq vs.toArray }) (hi : IntsAre vs ns) (hz : ns.length ≤ sizeLine) (room : Room k callerA)
    (F : ∀ base : Heap, K.In base → base.Ns mainGlobals mg → FnG P w K mg base CX k fa fd [x] sp) (bind : ∀ (s : Shared) (u : Value), BindsTo s fd ⟨[u], []⟩ [(x, u)])
    (wish : ∀ H : Hp, Only H → SqL K H a (ns.map V.int) → sp [.ref a] H (fun v _ => v = .bl true) fun _ _ _ => False) (no : ∀ H e s', CX [] H s0 (fun _ _ _ => False) e s' → False) :
    codeAny (model P w) callerA (.call (.ref fa) ⟨[.ref a], []⟩) (fun r s' => r = .ok (.ret (.bool true)) ∧ OldK s0.heap s'.heap ∧ s'.os = s0.os ∧ AllBare s'.gens) s0 := by
  have rv := vals_ints hi
  have nv := hi.length
  have go : ∀ H : Hp, Only H → SqL K H a (ns.map V.int) → HOk P w H s0.heap → (∀ b u, H b = some u → b = a) → (∀ u, H a = some u → K.lookup a = none) →
      codeAny (model P w) callerA (.call (.ref fa) ⟨[.ref a], []⟩) (fun r s' => r = .ok (.ret (.bool true)) ∧ OldK s0.heap s'.heap ∧ s'.os = s0.os ∧ AllBare s'.gens) s0 := fun H hO hS hok one out => by
    obtain ⟨kin, nsb, env⟩ := entry KX hm hb hbb hl hg ha hok one out
    refine codeAny_mono (F _ kin nsb callerA [] s0 H ⟨[.ref a], []⟩ [.ref a] [.ref a] _ _ rfl room env (bind s0 (.ref a)) (.cons rfl .nil) (wish H hO hS)) fun r s' done => ?_
    match r, done with
    | .error e, done => exact (no H e s' done).elim
    | .ok .next, done => exact done.elim
    | .ok .brk, done => exact done.elim
    | .ok .cont, done => exact done.elim
    | .ok (.ret u), ⟨v, H', os, bare, un, hok2, rv2, ev⟩ =>
      have ev2 : v = .bl true := ev
      subst ev2
      have eu : u = Value.bool true := rv2
      subst eu
      refine ⟨rfl, OldK.of_keep fun b o e => ?_, os, bare⟩
      rcases hO b with z | ⟨ob, xs, z⟩
      · exact un.keep b o e z (fun z2 => absurd (show b ∈ ([] : List Addr) from z2) List.not_mem_nil) List.not_mem_nil
      · obtain ⟨e1, _⟩ := hok b _ z
        obtain ⟨e2, _⟩ := hok2 b _ (un.frzs b ob _ z)
        rw [e] at e1
        cases e1
        exact e2
  cases q : K.lookup a with
  | none =>
    have only : ∀ b u, (if b = a then some (HO.frz { cls := .type "list", data := .seq vs.toArray } (.lst (ns.map V.int))) else none) = some u → b = a ∧ u = .frz { cls := .type "list", data := .seq vs.toArray } (.lst (ns.map V.int)) := fun b u z => by
      by_cases e : b = a
      · rw [if_pos e] at z; exact ⟨e, (Option.some.inj z).symm⟩
      · rw [if_neg e] at z; cases z
    refine go (fun b => if b = a then some (.frz { cls := .type "list", data := .seq vs.toArray } (.lst (ns.map V.int))) else none) (fun b => ?_) (.inl (.inr ⟨{ cls := .type "list", data := .seq vs.toArray }, if_pos rfl⟩)) (fun b u z => ?_) (fun b u z => (only b u z).1) fun _ _ => q
    · by_cases e : b = a
      · exact .inr ⟨_, _, if_pos e⟩
      · exact .inl (if_neg e)
    · obtain ⟨rfl, rfl⟩ := only b u z
      exact ⟨ha, by rw [List.length_map]; exact hz, vs, _, rv, ha⟩
  | some o =>
    have e := KX a o q
    rw [ha] at e
    cases e
    exact go (fun _ => none) (fun _ => .inl rfl) (.inr ⟨_, vs.toArray, _, q, rfl, rfl, rfl, by rw [List.size_toArray, nv]; exact hz, by simpa using rv⟩) (fun b u z => nomatch z) (fun b u z => nomatch z) fun u z => nomatch z
end
theorem walkG {l : PySem.W.OpenLaw} {n k : Nat} {q : Program} {loose : List Str} {XP : (Str → Option Value) → Heap → Prop} {YP : World → Heap → Prop} {d : DefRec} {K : Params → PySem.W.Frag} {CX : World → CXT} {sp : World → Sp} {x : Str}
    (most : l.most = some n) (small : n ≤ sizeLine) (plain : d.params.defaults = []) (room : Room k callerA) (known : ∀ (w : World) (h : Heap), YP w h → (K w.params).In h)
    (F : ∀ (w : World) (mg : Str → Option Value) (fa : Addr) (h : Heap), (K w.params).In h → h.Ns mainGlobals mg → mg d.name = some (.ref fa) →
      ∃ fd : FuncData, (∀ (s : Shared) (u : Value), BindsTo s fd ⟨[u], []⟩ [(x, u)]) ∧ ∀ base : Heap, (K w.params).In base → base.Ns mainGlobals mg → FnG l.prog w (K w.params) mg base (CX w) k fa fd [x] (sp w))
    (wish : ∀ (w : World) (H : Hp) (a : Addr) (ns : List Int), ns.length ≤ n → Only H → SqL (K w.params) H a (ns.map V.int) → sp w [.ref a] H (fun v _ => v = .bl true) fun _ _ _ => False)
    (no : ∀ (w : World) (H : Hp) (s : Shared) (e : Value) (s' : Shared), CX w [] H s (fun _ _ _ => False) e s' → False) : PySem.W.WalkO q loose XP YP l.row.toRowW d [] (fun f vs => PySem.call f vs) := by
  refine Att.attach_call most plain fun w t0 t1 mg mb fa o pm cd doc a vs ns G Y ho hd hcd hmg hobj hints hlen hg => ?_
  have kin := known w _ Y
  obtain ⟨fd, bind, run⟩ := F w mg fa _ kin G.T.g hmg
  exact law_callG kin G.T.g G.T.b G.T.builtins G.T.nolimit hg hobj hints (Nat.le_trans hlen small) room run bind (fun H hO hS => wish w H a ns hlen hO hS) fun H e s' => no w H t1 e s'
end GR
namespace K02
open PySem PySem.Spec L2 NB ER MKX
def top (i : Nat) : Stmt := PySem.Challenge.pw_farhaul_k02_polynomials.main.body.getD i (.Pass ⟨0, 0, 0, 0⟩)
abbrev s_init : Stmt := inClass (top 3) 0
theorem sc_init : FnScope ["self", "at"] ["self", "at"] (defScope s_init) := ⟨rfl, rfl, rfl, by decide +kernel, rfl, by decide +kernel, by decide +kernel⟩
abbrev s_degree : Stmt := top 20
theorem sc_degree : FnScope ["p"] ["p"] (defScope s_degree) := ⟨rfl, rfl, rfl, by decide +kernel, rfl, by decide +kernel, by decide +kernel⟩
abbrev s_times_binary : Stmt := top 21
theorem sc_times_binary : FnScope ["p", "q", "total", "i"] ["p", "q"] (defScope s_times_binary) := ⟨rfl, rfl, rfl, by decide +kernel, rfl, by decide +kernel, by decide +kernel⟩
abbrev s_divide_binary : Stmt := top 23
theorem sc_divide_binary : FnScope ["p", "q", "quotient", "rest", "shift"] ["p", "q"] (defScope s_divide_binary) := ⟨rfl, rfl, rfl, by decide +kernel, rfl, by decide +kernel, by decide +kernel⟩
abbrev s_common : Stmt := top 25
theorem sc_common : FnScope ["p", "q", "last", "rest"] ["p", "q"] (defScope s_common) := ⟨rfl, rfl, rfl, by decide +kernel, rfl, by decide +kernel, by decide +kernel⟩
abbrev s_product_rest : Stmt := top 26
theorem sc_product_rest : FnScope ["p", "q", "modulus"] ["p", "q", "modulus"] (defScope s_product_rest) := ⟨rfl, rfl, rfl, by decide +kernel, rfl, by decide +kernel, by decide +kernel⟩
abbrev s_is_irreducible : Stmt := top 27
theorem sc_is_irreducible : FnScope ["p", "power", "_"] ["p"] (defScope s_is_irreducible) := ⟨rfl, rfl, rfl, by decide +kernel, rfl, by decide +kernel, by decide +kernel⟩
abbrev s__law_numbers : Stmt := top 33
theorem sc__law_numbers : FnScope ["script", "many", "rest", "mixed", "numbers", "k", "at", "cell"] ["script", "many"] (defScope s__law_numbers) := ⟨rfl, rfl, rfl, by decide +kernel, rfl, by decide +kernel, by decide +kernel⟩
abbrev s__law_degree : Stmt := top 34
theorem sc__law_degree : FnScope ["p", "top", "k"] ["p"] (defScope s__law_degree) := ⟨rfl, rfl, rfl, by decide +kernel, rfl, by decide +kernel, by decide +kernel⟩
abbrev s__law_times : Stmt := top 35
theorem sc__law_times : FnScope ["p", "q", "total", "k"] ["p", "q"] (defScope s__law_times) := ⟨rfl, rfl, rfl, by decide +kernel, rfl, by decide +kernel, by decide +kernel⟩
abbrev s__law_divided : Stmt := top 36
theorem sc__law_divided : FnScope ["p", "q", "size", "whole", "k", "shift"] ["p", "q"] (defScope s__law_divided) := ⟨rfl, rfl, rfl, by decide +kernel, rfl, by decide +kernel, by decide +kernel⟩
abbrev s__law_common : Stmt := top 37
theorem sc__law_common : FnScope ["p", "q", "turn"] ["p", "q"] (defScope s__law_common) := ⟨rfl, rfl, rfl, by decide +kernel, rfl, by decide +kernel, by decide +kernel⟩
abbrev s__law_irreducible : Stmt := top 38
theorem sc__law_irreducible : FnScope ["p", "top", "q"] ["p"] (defScope s__law_irreducible) := ⟨rfl, rfl, rfl, by decide +kernel, rfl, by decide +kernel, by decide +kernel⟩
abbrev s__powers_of : Stmt := top 31
theorem sc__powers_of : FnScope ["e", "modulus", "powers", "power"] ["e", "modulus"] (defScope s__powers_of) := ⟨rfl, rfl, rfl, by decide +kernel, rfl, by decide +kernel, by decide +kernel⟩
abbrev s__root_powers : Stmt := top 30
theorem sc__root_powers : FnScope ["turn", "modulus", "e", "powers"] ["turn", "modulus"] (defScope s__root_powers) := ⟨rfl, rfl, rfl, by decide +kernel, rfl, by decide +kernel, by decide +kernel⟩
abbrev s_Field___init__ : Stmt := inClass (top 29) 0
theorem sc_Field___init__ : FnScope ["self", "m", "modulus", "k", "e"] ["self", "m", "modulus"] (defScope s_Field___init__) := ⟨rfl, rfl, rfl, by decide +kernel, rfl, by decide +kernel, by decide +kernel⟩
abbrev s_Field_modulus : Stmt := inClass (top 29) 2
theorem sc_Field_modulus : FnScope ["self"] ["self"] (defScope s_Field_modulus) := ⟨rfl, rfl, rfl, by decide +kernel, rfl, by decide +kernel, by decide +kernel⟩
abbrev s_Field_size : Stmt := inClass (top 29) 3
theorem sc_Field_size : FnScope ["self"] ["self"] (defScope s_Field_size) := ⟨rfl, rfl, rfl, by decide +kernel, rfl, by decide +kernel, by decide +kernel⟩
abbrev s_Field_add : Stmt := inClass (top 29) 4
theorem sc_Field_add : FnScope ["self", "e", "f"] ["self", "e", "f"] (defScope s_Field_add) := ⟨rfl, rfl, rfl, by decide +kernel, rfl, by decide +kernel, by decide +kernel⟩
abbrev s_Field_times : Stmt := inClass (top 29) 5
theorem sc_Field_times : FnScope ["self", "e", "f"] ["self", "e", "f"] (defScope s_Field_times) := ⟨rfl, rfl, rfl, by decide +kernel, rfl, by decide +kernel, by decide +kernel⟩
abbrev s_Field_inverse : Stmt := inClass (top 29) 6
theorem sc_Field_inverse : FnScope ["self", "e"] ["self", "e"] (defScope s_Field_inverse) := ⟨rfl, rfl, rfl, by decide +kernel, rfl, by decide +kernel, by decide +kernel⟩
abbrev s_Field_power : Stmt := inClass (top 29) 7
theorem sc_Field_power : FnScope ["self", "e", "k"] ["self", "e", "k"] (defScope s_Field_power) := ⟨rfl, rfl, rfl, by decide +kernel, rfl, by decide +kernel, by decide +kernel⟩
abbrev s_Field_log : Stmt := inClass (top 29) 9
theorem sc_Field_log : FnScope ["self", "e"] ["self", "e"] (defScope s_Field_log) := ⟨rfl, rfl, rfl, by decide +kernel, rfl, by decide +kernel, by decide +kernel⟩
abbrev s_Field_root : Stmt := inClass (top 29) 10
theorem sc_Field_root : FnScope ["self"] ["self"] (defScope s_Field_root) := ⟨rfl, rfl, rfl, by decide +kernel, rfl, by decide +kernel, by decide +kernel⟩
/-! ### the mathematics of bits -/
theorem mod_pow_succ (q i : Nat) : q % 2 ^ (i + 1) = q % 2 ^ i ^^^ (if q / 2 ^ i % 2 = 1 then 2 ^ i else 0) := by
  apply Nat.eq_of_testBit_eq
  intro j
  rw [Nat.testBit_xor, Nat.testBit_mod_two_pow, Nat.testBit_mod_two_pow]
  by_cases e : j = i
  · subst e
    by_cases h : q / 2 ^ j % 2 = 1
    · rw [if_pos h, Nat.testBit_two_pow_self]; simp [Nat.testBit_eq_decide_div_mod_eq, h]
    · rw [if_neg h]; simp [Nat.testBit_eq_decide_div_mod_eq, h]
  · have e2 : (if q / 2 ^ i % 2 = 1 then 2 ^ i else 0).testBit j = false := by
      split
      · rw [Nat.testBit_two_pow]; simp; omega
      · simp
    rw [e2]
    by_cases h : j < i
    · simp [h]; omega
    · have : ¬ j < i + 1 := by omega
      simp [h, this]
theorem times_step (p q i : Nat) : GF.mul p (q % 2 ^ (i + 1)) = GF.mul p (q % 2 ^ i) ^^^ (if q / 2 ^ i % 2 = 1 then 2 ^ i * p else 0) := by
  rw [mod_pow_succ, GF.mul_xor]
  congr 1
  split
  · exact GF.mul_pow _ _
  · exact GF.mul_zero _
theorem bits_lt (q : Nat) : q < 2 ^ NB.bits q := by
  unfold NB.bits
  split
  · rename_i h; subst h; decide
  · exact Nat.lt_log2_self
theorem bits_le {q n : Nat} : NB.bits q ≤ n ↔ q < 2 ^ n := by
  unfold NB.bits
  split
  · rename_i h; subst h; simp [Nat.two_pow_pos]
  · rename_i h2
    exact Nat.log2_lt h2
theorem bits_pos {q : Nat} (h : q ≠ 0) : NB.bits q = q.log2 + 1 := by unfold NB.bits; rw [if_neg h]
theorem bits_deg {q : Nat} (h : q ≠ 0) : GF.Deg q (NB.bits q - 1) := by rw [bits_pos h]; exact GF.deg_log h
/-- the bit is not there -/
theorem or_xor {k s : Nat} (h : k % 2 ^ (s + 1) = 0) : k ||| 2 ^ s = k ^^^ 2 ^ s := by
  have hb : k.testBit s = false := by
    have := Nat.testBit_mod_two_pow k (s + 1) s
    rw [h] at this
    simp at this
    exact this
  apply Nat.eq_of_testBit_eq
  intro j
  rw [Nat.testBit_or, Nat.testBit_xor, Nat.testBit_two_pow]
  by_cases e : s = j
  · subst e; rw [hb]; simp
  · simp [e]
theorem xor_mod_zero {k s t : Nat} (h : k % 2 ^ (s + 1) = 0) (ht : t ≤ s) : (k ^^^ 2 ^ s) % 2 ^ t = 0 := by
  rw [Nat.xor_mod_two_pow]
  have d : 2 ^ t ∣ 2 ^ (s + 1) := Nat.pow_dvd_pow 2 (by omega)
  have d2 : 2 ^ t ∣ 2 ^ s := Nat.pow_dvd_pow 2 ht
  have h1 : k % 2 ^ t = 0 := Nat.mod_eq_zero_of_dvd (Nat.dvd_trans d (Nat.dvd_of_mod_eq_zero h))
  rw [h1, Nat.mod_eq_zero_of_dvd d2]; rfl
theorem div_step {r q s : Nat} (hq : q ≠ 0) (hs : NB.bits r = NB.bits q + s) : NB.bits (r ^^^ 2 ^ s * q) < NB.bits r := by
  have hb := bits_pos hq
  have hr : r ≠ 0 := by intro z; subst z; unfold NB.bits at hs; simp at hs; rw [if_neg hq] at hs; omega
  have dr := bits_deg hr
  have dq := GF.deg_shift (bits_deg hq) s
  have e : s + (NB.bits q - 1) = NB.bits r - 1 := by omega
  rw [e] at dq
  have := bits_le.mpr (GF.deg_xor dr dq)
  omega
theorem xor_swap (a b c : Nat) : a ^^^ c ^^^ (b ^^^ c) = a ^^^ b := by rw [Nat.xor_assoc a c, Nat.xor_comm b c, ← Nat.xor_assoc c c, Nat.xor_self, Nat.zero_xor]
section
variable {P : Program} {w : World} {K : PySem.W.Frag} {mg : Str → Option Value} {base : Heap}
theorem ok_init {f : Addr} {fd : FuncData} (F : Fun K "__init__" "HaulError.__init__" s_init f fd) (mv : mg "ValueError" = none) (vV : PySem.W.findCls K (.type "ValueError") (.type "type") "__init__" = some (.val (.builtin "ValueError.__init__"))) :
    FnOk P w K mg base CX0 1 f fd ["self", "at"] (sp_init K) := by
  refine F.ok sc_init (fun vs H Q E h => ?_) (fun cdv A outer s H vs Q E hr h => ?_)
  · obtain ⟨a, C, i, rfl, _⟩ := h; rfl
  · obtain ⟨a, C, i, rfl, ⟨mg', x, fI, CH, T⟩, ha, hi, k⟩ := h
    refine ⟨_, pss_cons (ps_expr (pe_veinit rfl mv vV (pa_cons (pv 0) (pa_cons (pe_joined (.cons pe_str (.cons (pe_fmt (pv 1)) .nil))) pa_nil))))
      (pss_one (ps_ost (pv 0) (pv 1))), ?_⟩
    refine ⟨_, rfl, _, rfl, ?_, _, rfl, .inr ⟨i, rfl, hi, _, rfl, at_len hi, a, C, _, rfl, by simp, T.oex, ha, ?_⟩⟩
    · decide +kernel
    · refine ⟨_, rfl, _, rfl, a, C, rfl, T.oex, T.no, .inl ⟨ha, fun dx nx ne => k dx nx ne⟩⟩
def sp_degree : Sp := fun vs H Q _ => ∃ p : Nat, vs = [.int p] ∧ Q (.int ((NB.bits p : Nat) - 1 : Int)) H
theorem ok_degree {f : Addr} {fd : FuncData} (D : Df K mg "degree" ["p"] s_degree f fd) : FnOk P w K mg base CX0 1 f fd ["p"] sp_degree := by
  refine D.F.ok sc_degree (fun vs H Q E h => ?_) (fun cdv A outer s H vs Q E hr h => ?_)
  · obtain ⟨p, rfl, _⟩ := h; rfl
  · obtain ⟨p, rfl, k⟩ := h
    refine ⟨_, pss_one (ps_ret (pe_op op_sub (pe_bits (pv 0)) pe_int)), ?_⟩
    refine ⟨_, rfl, _, rfl, _, _, rfl, rfl, ?_⟩
    rw [intBits_nat]
    exact k
def sp_times_binary : Sp := fun vs H Q _ => ∃ p q : Nat, vs = [.int p, .int q] ∧ p < 2 ^ 64 ∧ q < 2 ^ 64 ∧ Q (.int ((GF.mul p q : Nat) : Int)) H
theorem ok_times_binary {f : Addr} {fd : FuncData} (D : Da K mg "times_binary" "times" ["p", "q"] s_times_binary f fd) (B : Bl mg) : FnOk P w K mg base CX0 1 f fd ["p", "q"] sp_times_binary := by
  refine D.F.ok sc_times_binary (fun vs H Q E h => ?_) (fun cdv A outer s H vs Q E hr h => ?_)
  · obtain ⟨p, q, rfl, _⟩ := h; rfl
  · obtain ⟨p, q, rfl, hp, hq, k⟩ := h
    refine ⟨_, (pss_cons (ps_set (i := 2) sc_times_binary.nd rfl (Or.inl rfl) (pe_nat 0))
      (pss_cons (ps_for PassesOwn.never rfl (pi_range1 rfl B.range (pa_cons (pe_bits (pv 1)) pa_nil)) (pg_name (i := 3) sc_times_binary.nd rfl (Or.inl rfl) (Or.inr rfl))
        (pss_one (ps_if (pt_truth (pe_op nb_and (pe_op nb_shr (pv 1) (pv 3)) (pe_nat 1)) (by intro _; rfl)) (pss_one (ps_aug (i := 2) sc_times_binary.nd rfl (Or.inl rfl) (pe_op nb_shl (pv 0) (pv 3)) nbi_xor)) pss_nil)))
      (pss_one (ps_ret (pv 2))))), ?_⟩
    have hb := bits_le.mpr hq
    refine ⟨_, rfl, _, rfl, _, rfl, by omega, by rw [intBits_nat]; omega, ?_⟩
    rw [intBits_nat]
    refine for_rangeN (lo := 0) (n := NB.bits q) (fun i σ H' => ∃ v, σ = [some (.int p), some (.int q), some (.int ((GF.mul p (q % 2 ^ i) : Nat) : Int)), v] ∧ H' = H) ⟨none, ?_, rfl⟩ ?_ ?_
    · rw [Nat.pow_zero, Nat.mod_one, GF.mul_zero]; rfl
    · rintro i σ H' hi ⟨v, rfl, rfl⟩
      rw [Nat.zero_add]
      refine ⟨_, rfl, _, rfl, _, _, rfl, rfl, _, _, rfl, rfl, _, rfl, ?_⟩
      have key := times_step p q i
      rw [Nat.and_one_is_mod]
      refine iteZ (fun c => ?_) (fun c => ?_)
      · rw [if_pos (by omega)] at key
        refine ⟨_, rfl, _, rfl, _, rfl, _, _, rfl, rfl, ⟨hp, by omega⟩, _, _, rfl, rfl, some (.int i), ?_, rfl⟩
        rw [key]; rfl
      · rw [if_neg (by omega), Nat.xor_zero] at key
        refine ⟨some (.int i), ?_, rfl⟩
        rw [key]; rfl
    · rintro σ H' ⟨v, rfl, rfl⟩
      rw [Nat.mod_eq_of_lt (bits_lt q)]
      exact ⟨_, rfl, k⟩
def sp_divide_binary (C : Addr) : Sp := fun vs H Q E => ∃ p q : Nat, vs = [.int p, .int q] ∧ p < 2 ^ 64 ∧ q < 2 ^ 64 ∧
  (q = 0 → ∀ d, H d = none → E (.ref C) (some d) (upd H d (.xd [("at", .int 0)]))) ∧
  (q ≠ 0 → ∀ a, H a = none → Q (.ref a) (upd H a (.tup [.int ((GF.pdiv p q : Nat) : Int), .int ((GF.pmod p q : Nat) : Int)])))
theorem ok_divide_binary {f f_degree f_init C CH : Addr} {fd fd_degree fd_init : FuncData} (D : Da K mg "divide_binary" "divide" ["p", "q"] s_divide_binary f fd) (D_degree : Df K mg "degree" ["p"] s_degree f_degree fd_degree)
    (X_NoDivisor : XC K mg "NoDivisor" C f_init CH) (G_init : FnOk P w K mg base CX0 1 f_init fd_init ["self", "at"] (sp_init K)) (b_init : Binds K fd_init ["self", "at"] []) : FnOk P w K mg base (L2.CX P w) 3 f fd ["p", "q"] (sp_divide_binary C) := by
  have G_degree : FnOk P w K mg base CX0 1 f_degree fd_degree ["p"] sp_degree := ok_degree D_degree
  refine D.F.okX sc_divide_binary (fun vs H Q E h => ?_) (fun cdv A outer s H vs Q E hr h => ?_)
  · obtain ⟨p, q, rfl, _⟩ := h; rfl
  · obtain ⟨p, q, rfl, hp, hq, kE, kQ⟩ := h
    refine ⟨_, (pss_cons (ps_if (pt_cmpR op_eq (pv 1) (pe_nat 0) (nomark _)) (pss_one (ps_err rfl X_NoDivisor G_init (hr.mono (by decide)) b_init pass0 (takes_of rfl rfl rfl rfl) (pa_cons (pe_nat 0) pa_nil))) pss_nil)
      (pss_cons (ps_set (i := 2) sc_divide_binary.nd rfl (Or.inl rfl) (pe_nat 0))
      (pss_cons (ps_set (i := 3) sc_divide_binary.nd rfl (Or.inl rfl) (pv 0))
      (pss_cons (ps_set (i := 4) sc_divide_binary.nd rfl (Or.inl rfl) (pe_op op_sub (pe_call G_degree (hr.mono (by decide)) rfl D_degree.g D_degree.F.kp D_degree.b .nil pass0 (pa_cons (pv 3) pa_nil)) (pe_call G_degree (hr.mono (by decide)) rfl D_degree.g D_degree.F.kp D_degree.b .nil pass0 (pa_cons (pv 1) pa_nil))))
      (pss_cons (ps_while (passes_of rfl) (pt_cmpR op_ge (pv 4) (pe_nat 0) (nomark _))
        (pss_cons (ps_aug (i := 2) sc_divide_binary.nd rfl (Or.inl rfl) (pe_op nb_shl (pe_nat 1) (pv 4)) nbi_or)
        (pss_cons (ps_aug (i := 3) sc_divide_binary.nd rfl (Or.inl rfl) (pe_op nb_shl (pv 1) (pv 4)) nbi_xor)
        (pss_one (ps_set (i := 4) sc_divide_binary.nd rfl (Or.inl rfl) (pe_op op_sub (pe_call G_degree (hr.mono (by decide)) rfl D_degree.g D_degree.F.kp D_degree.b .nil pass0 (pa_cons (pv 3) pa_nil)) (pe_call G_degree (hr.mono (by decide)) rfl D_degree.g D_degree.F.kp D_degree.b .nil pass0 (pa_cons (pv 1) pa_nil))))))))
      (pss_one (ps_ret (pe_tup (pa_cons (pv 2) (pa_cons (pv 3) pa_nil)))))))))), ?_⟩
    refine ⟨_, rfl, rfl, _, rfl, iteD (fun c => ?_) (fun c => ?_)⟩
    · have q0 : q = 0 := by have := V.int.inj c; omega
      exact ⟨0, rfl, by decide, fun d hd => kE q0 d hd⟩
    · have q0 : q ≠ 0 := fun z => c (by rw [z])
      refine ⟨_, rfl, _, rfl, p, rfl, _, rfl, q, rfl, _, _, rfl, rfl, ?_⟩
      refine while_by (fun σ H' => H' = H ∧ ∃ (k r : Nat) (z : Int), σ = [some (.int p), some (.int q), some (.int (k : Int)), some (.int (r : Int)), some (.int z)] ∧ z = (NB.bits r : Int) - NB.bits q ∧ p = GF.mul k q ^^^ r ∧ k % 2 ^ (NB.bits r + 1 - NB.bits q) = 0 ∧ r < 2 ^ 64)
        (fun σ _ => match σ with | [_, _, _, some (.int r), _] => NB.bits r.toNat | _ => 0) ⟨rfl, 0, p, _, rfl, ?_, ?_, ?_, hp⟩ ?_ ?_
      · omega
      · rw [GF.zero_mul, Nat.zero_xor]
      · exact Nat.zero_mod _
      · rintro σ H' ⟨rfl, k, r, z, rfl, hz, hpk, hk, hr64⟩
        refine ⟨_, rfl, _, _, rfl, rfl, _, rfl, iteD (fun c => ?_) (fun c => ?_)⟩
        · have c' : 0 ≤ z := c
          obtain ⟨s, rfl⟩ := Int.eq_ofNat_of_zero_le c'
          have hs : NB.bits r = NB.bits q + s := by omega
          have hb64 := bits_le.mpr hr64
          have e1 : NB.bits r + 1 - NB.bits q = s + 1 := by omega
          rw [e1] at hk
          have hd := div_step q0 hs
          refine ⟨_, rfl, _, rfl, _, _, rfl, rfl, ⟨by decide, by omega⟩, _, _, rfl, rfl, _, rfl, _, rfl, _, rfl, _, _, rfl, rfl, ⟨hq, by omega⟩, _, _, rfl, rfl, _, rfl, _, rfl, _, rfl, q, rfl, _, _, rfl, rfl, ⟨rfl, k ^^^ 2 ^ s, r ^^^ 2 ^ s * q, (NB.bits (r ^^^ 2 ^ s * q) : Int) - 1 - ((NB.bits q : Int) - 1), ?_, ?_, ?_, ?_, ?_⟩, ?_⟩
          · rw [Nat.mul_one, ← or_xor hk]; rfl
          · omega
          · rw [GF.xor_mul, GF.pow_mul, hpk, xor_swap]
          · exact xor_mod_zero hk (by omega)
          · exact Nat.lt_of_lt_of_le (bits_lt _) (Nat.pow_le_pow_right (by decide) (by omega))
          · exact hd
        · have c' : z < 0 := by have : ¬ (0 : Int) ≤ z := c; omega
          have hb := bits_pos q0
          have hrl : r < 2 ^ q.log2 := bits_le.mp (by omega)
          obtain ⟨e1, e2⟩ := GF.mod_of q0 hrl hpk
          refine ⟨_, rfl, _, rfl, (by show 2 ≤ sizeLine; decide), fun a ha => ?_⟩
          have := kQ q0 a ha
          rw [e1, e2] at this
          exact this
      · rintro σ H' Q1 Q2 kk ⟨v, e, i, j, e1, e2, b, e3, qq⟩
        exact ⟨v, e, i, j, e1, e2, b, e3, kk _ _ qq⟩
def sp_common : Sp := fun vs H Q _ => ∃ p q : Nat, vs = [.int p, .int q] ∧ p < 2 ^ 64 ∧ q < 2 ^ 64 ∧ ∀ H', Same H H' → Q (.int ((GF.gcd p q : Nat) : Int)) H'
theorem ok_common {f f_divide_binary C : Addr} {fd fd_divide_binary : FuncData} (D : Df K mg "common" ["p", "q"] s_common f fd) (D_divide_binary : Da K mg "divide_binary" "divide" ["p", "q"] s_divide_binary f_divide_binary fd_divide_binary)
    (G_divide_binary : FnOk P w K mg base (L2.CX P w) 3 f_divide_binary fd_divide_binary ["p", "q"] (sp_divide_binary C)) : FnOk P w K mg base CX0 4 f fd ["p", "q"] sp_common := by
  refine D.F.ok sc_common (fun vs H Q E h => ?_) (fun cdv A outer s H vs Q E hr h => ?_)
  · obtain ⟨p, q, rfl, _⟩ := h; rfl
  · obtain ⟨p, q, rfl, hp, hq, k⟩ := h
    refine ⟨_, (pss_cons (ps_set (i := 2) sc_common.nd rfl (Or.inl rfl) (pv 0))
      (pss_cons (ps_set (i := 3) sc_common.nd rfl (Or.inl rfl) (pv 1))
      (pss_cons (ps_while PassesOwn.never (pt_cmpR op_ne (pv 3) (pe_nat 0) (nomark _))
        (pss_one (ps_par (i := 2) (j := 3) (by rfl) sc_common.nd rfl rfl (by decide) rfl rfl (pa_cons (pv 3) (pa_cons (pe_ix ix_tup (pe_call G_divide_binary (hr.mono (by decide)) rfl D_divide_binary.g D_divide_binary.F.kp D_divide_binary.b .nil passL (pa_cons (pv 2) (pa_cons (pv 3) pa_nil))) (pe_nat 1) (fun _ _ => rfl)) pa_nil)) (by rfl))))
      (pss_one (ps_ret (pv 2)))))), ?_⟩
    refine ⟨_, rfl, _, rfl, ?_⟩
    refine while_by (fun σ H' => ∃ a b : Nat, σ = [some (.int p), some (.int q), some (.int (a : Int)), some (.int (b : Int))] ∧ GF.gcd a b = GF.gcd p q ∧ a < 2 ^ 64 ∧ b < 2 ^ 64 ∧ Same H H')
      (fun σ _ => match σ with | [_, _, _, some (.int r)] => GF.siz r.toNat | _ => 0) ⟨p, q, rfl, rfl, hp, hq, Same.refl H⟩ ?_ ?_
    · rintro σ H' ⟨a, b, rfl, hg, ha, hb, sm⟩
      refine ⟨_, rfl, rfl, _, rfl, iteN (fun c => ?_) (fun c => ?_)⟩
      · have b0 : b ≠ 0 := fun z => c (by rw [z])
        refine ⟨_, rfl, _, rfl, _, rfl, a, b, rfl, ha, hb, fun z => absurd z b0, fun _ t ht => ?_⟩
        refine ⟨t, _, _, _, rfl, rfl, SqT.of upd_same, atI_nat (j := 1) rfl, _, _, rfl, ⟨b, GF.pmod a b, rfl, ?_, hb, ?_, same_new sm ht⟩, ?_⟩
        · rw [← hg, GF.gcd_step a b0]
        · exact Nat.lt_trans (GF.mod_lt b0) (Nat.pow_lt_pow_right (by decide) ((Nat.log2_lt b0).mpr hb))
        · exact GF.siz_mod b0
      · have b0 : b = 0 := by have := V.int.inj c; omega
        subst b0
        rw [GF.gcd_zero] at hg
        refine ⟨_, rfl, ?_⟩
        rw [hg]
        exact k _ sm
    · rintro σ H' Q1 Q2 kk ⟨v, e, hs, b, e3, qq⟩
      exact ⟨v, e, hs, b, e3, kk _ _ qq⟩
theorem mul_lt {p q i j : Nat} (hp : p < 2 ^ i) (hq : q < 2 ^ j) : GF.mul p q < 2 ^ (i + j) := by
  by_cases p0 : p = 0
  · subst p0; rw [GF.zero_mul]; exact Nat.two_pow_pos _
  · by_cases q0 : q = 0
    · subst q0; rw [GF.mul_zero]; exact Nat.two_pow_pos _
    · have h1 := (Nat.log2_lt p0).mpr hp
      have h2 := (Nat.log2_lt q0).mpr hq
      have := (GF.mul_deg (GF.deg_log p0) (GF.deg_log q0)).2
      exact Nat.lt_of_lt_of_le this (Nat.pow_le_pow_right (by decide) (by omega))
def sp_product_rest : Sp := fun vs H Q _ => ∃ p q n : Nat, vs = [.int p, .int q, .int n] ∧ p < 2 ^ 32 ∧ q < 2 ^ 32 ∧ n < 2 ^ 64 ∧ n ≠ 0 ∧ ∀ H', Same H H' → Q (.int ((GF.pmod (GF.mul p q) n : Nat) : Int)) H'
theorem ok_product_rest {f f_divide_binary f_times_binary C : Addr} {fd fd_divide_binary fd_times_binary : FuncData} (D : Df K mg "product_rest" ["p", "q", "modulus"] s_product_rest f fd) (D_divide_binary : Da K mg "divide_binary" "divide" ["p", "q"] s_divide_binary f_divide_binary fd_divide_binary)
    (G_divide_binary : FnOk P w K mg base (L2.CX P w) 3 f_divide_binary fd_divide_binary ["p", "q"] (sp_divide_binary C)) (D_times_binary : Da K mg "times_binary" "times" ["p", "q"] s_times_binary f_times_binary fd_times_binary)
    (G_times_binary : FnOk P w K mg base CX0 1 f_times_binary fd_times_binary ["p", "q"] sp_times_binary) : FnOk P w K mg base CX0 4 f fd ["p", "q", "modulus"] sp_product_rest := by
  refine D.F.ok sc_product_rest (fun vs H Q E h => ?_) (fun cdv A outer s H vs Q E hr h => ?_)
  · obtain ⟨p, q, n, rfl, _⟩ := h; rfl
  · obtain ⟨p, q, n, rfl, hp, hq, hn, n0, k⟩ := h
    refine ⟨_, (pss_one (ps_ret (pe_ix ix_tup (pe_call G_divide_binary (hr.mono (by decide)) rfl D_divide_binary.g D_divide_binary.F.kp D_divide_binary.b .nil passL (pa_cons (pe_call G_times_binary (hr.mono (by decide)) rfl D_times_binary.g D_times_binary.F.kp D_times_binary.b .nil pass0 (pa_cons (pv 0) (pa_cons (pv 1) pa_nil))) (pa_cons (pv 2) pa_nil))) (pe_nat 1) (fun _ _ => rfl)))), ?_⟩
    refine ⟨_, rfl, _, rfl, p, q, rfl, by omega, by omega, _, rfl, GF.mul p q, n, rfl, mul_lt hp hq, hn, fun z => absurd z n0, fun _ t ht => ?_⟩
    exact ⟨t, _, _, _, rfl, rfl, SqT.of upd_same, atI_nat (j := 1) rfl, k _ (same_upd ht)⟩
def sp_irr : Sp := fun vs H Q _ => ∃ p : Nat, vs = [.int p] ∧ p < 131072 ∧ ∀ (b : Bool) H', (b = true ↔ GF.Irr p) → Same H H' → Q (.bl b) H'
theorem fr_lt {p : Nat} (h2 : 2 ≤ p) (hp : p < 131072) (i : Nat) : GF.fr i p < 2 ^ 32 := by
  have h0 : p ≠ 0 := by omega
  cases i with
  | zero => show 2 < 2 ^ 32; decide
  | succ i =>
    have h1 : p.log2 < 17 := (Nat.log2_lt h0).mpr hp
    exact Nat.lt_trans (GF.mod_lt h0) (Nat.pow_lt_pow_right (by decide) (by omega))
theorem ok_is_irreducible {f f_degree f_product_rest f_common : Addr} {fd fd_degree fd_product_rest fd_common : FuncData} {tk : Tok} (D : Df K mg "is_irreducible" ["p"] s_is_irreducible f fd) (B : Bl mg) (c_X : mg "X" = some (.int 2 tk))
    (D_degree : Df K mg "degree" ["p"] s_degree f_degree fd_degree) (G_degree : FnOk P w K mg base CX0 1 f_degree fd_degree ["p"] sp_degree)
    (D_product_rest : Df K mg "product_rest" ["p", "q", "modulus"] s_product_rest f_product_rest fd_product_rest) (G_product_rest : FnOk P w K mg base CX0 4 f_product_rest fd_product_rest ["p", "q", "modulus"] sp_product_rest)
    (D_common : Df K mg "common" ["p", "q"] s_common f_common fd_common) (G_common : FnOk P w K mg base CX0 4 f_common fd_common ["p", "q"] sp_common) : FnOk P w K mg base CX0 5 f fd ["p"] sp_irr := by
  refine D.F.ok sc_is_irreducible (fun vs H Q E h => ?_) (fun cdv A outer s H vs Q E hr h => ?_)
  · obtain ⟨p, rfl, _⟩ := h; rfl
  · obtain ⟨p, rfl, hp, k⟩ := h
    refine ⟨_, (pss_cons (ps_if (pt_cmpR op_lt (pe_call G_degree (hr.mono (by decide)) rfl D_degree.g D_degree.F.kp D_degree.b .nil pass0 (pa_cons (pv 0) pa_nil)) (pe_nat 1) (nomark _)) (pss_one (ps_ret pe_bl)) pss_nil)
      (pss_cons (ps_set (i := 1) sc_is_irreducible.nd rfl (Or.inl rfl) (pe_glob (v := .int ((2 : Nat) : Int)) rfl c_X ⟨_, rfl⟩))
      (pss_cons (ps_for PassesOwn.never rfl (pi_range1 rfl B.range (pa_cons (pe_op op_fdiv (pe_call G_degree (hr.mono (by decide)) rfl D_degree.g D_degree.F.kp D_degree.b .nil pass0 (pa_cons (pv 0) pa_nil)) (pe_nat 2)) pa_nil)) (pg_name (i := 2) sc_is_irreducible.nd rfl (Or.inl rfl) (Or.inr rfl))
        (pss_cons (ps_set (i := 1) sc_is_irreducible.nd rfl (Or.inl rfl) (pe_call G_product_rest (hr.mono (by decide)) rfl D_product_rest.g D_product_rest.F.kp D_product_rest.b .nil pass0 (pa_cons (pv 1) (pa_cons (pv 1) (pa_cons (pv 0) pa_nil)))))
        (pss_one (ps_if (pt_cmpR op_ne (pe_call G_common (hr.mono (by decide)) rfl D_common.g D_common.F.kp D_common.b .nil pass0 (pa_cons (pe_op nb_xor (pv 1) (pe_glob (v := .int ((2 : Nat) : Int)) rfl c_X ⟨_, rfl⟩)) (pa_cons (pv 0) pa_nil))) (pe_nat 1) (nomark _)) (pss_one (ps_ret pe_bl)) pss_nil))))
      (pss_one (ps_ret pe_bl))))), ?_⟩
    have hb17 : NB.bits p ≤ 17 := bits_le.mpr hp
    refine ⟨_, rfl, p, rfl, _, _, rfl, rfl, _, rfl, iteD (fun c => ?_) (fun c => ?_)⟩
    · have c' : (NB.bits p : Int) - 1 < 1 := c
      have hp1 : p < 2 ^ 1 := bits_le.mp (by omega)
      exact k false H ⟨(fun z => nomatch z), fun z => by have := z.1; omega⟩ (Same.refl H)
    · have c' : ¬ (NB.bits p : Int) - 1 < 1 := c
      have h2 : 2 ≤ p := by
        apply Classical.byContradiction
        intro n
        have : NB.bits p ≤ 1 := bits_le.mpr (by omega)
        omega
      have hp0 : p ≠ 0 := by omega
      have hbp := bits_pos hp0
      refine ⟨_, rfl, p, rfl, _, _, rfl, rfl, ⟨by decide, by decide⟩, _, rfl, by omega, by omega, ?_⟩
      have en : (((NB.bits p : Int) - 1) / ((2 : Nat) : Int)).toNat = p.log2 / 2 := by omega
      rw [en]
      refine for_rangeN (lo := 0) (n := p.log2 / 2) (fun i σ H' => ∃ v, σ = [some (.int p), some (.int ((GF.fr i p : Nat) : Int)), v] ∧ Same H H' ∧ ∀ j, 1 ≤ j → j ≤ i → GF.gcd (GF.fr j p ^^^ 2) p = 1) ⟨none, rfl, Same.refl H, fun j h1 h2 => by omega⟩ ?_ ?_
      · rintro i σ H' hi ⟨v, rfl, sm, ht⟩
        have hf := fr_lt h2 hp i
        have hf2 := fr_lt h2 hp (i + 1)
        refine ⟨_, rfl, _, rfl, _, rfl, GF.fr i p, GF.fr i p, p, rfl, hf, hf, by omega, hp0, fun H1 s1 => ?_⟩
        refine ⟨_, rfl, _, _, rfl, rfl, _, rfl, GF.fr (i + 1) p ^^^ 2, p, rfl, ?_, by omega, fun H2 s2 => ?_⟩
        · exact GF.xor_lt (n := 64) (by omega) (by decide)
        · refine ⟨rfl, _, rfl, iteN (fun d => ?_) (fun d => ?_)⟩
          · refine k false H2 ⟨(fun z => nomatch z), fun z => ?_⟩ ((sm.trans s1).trans s2)
            exfalso
            apply d
            rw [GF.test_of_irr z hp (i + 1) (by omega) (by omega)]
          · have d' : GF.gcd (GF.fr (i + 1) p ^^^ 2) p = 1 := by have := V.int.inj d; omega
            refine ⟨some (.int ((0 + i : Nat) : Int)), rfl, (sm.trans s1).trans s2, fun j h1 h3 => ?_⟩
            by_cases e : j = i + 1
            · subst e; exact d'
            · exact ht j h1 (by omega)
      · rintro σ H' ⟨v, rfl, sm, ht⟩
        exact k true H' ⟨fun _ => GF.irr_of_test h2 hp ht, fun _ => rfl⟩ sm
end
theorem V_take_more {α : Type} : ∀ {l : List α} {i : Nat} {x : α}, l[i]? = some x → l.take (i + 1) = l.take i ++ [x] := fun {l i x} h => by rw [List.take_add_one, h]; rfl
theorem map_get_int {ns : List Int} {i : Nat} {x : V} (h : (ns.map V.int)[i]? = some x) : ∃ z, ns[i]? = some z ∧ x = .int z := by
  rw [List.getElem?_map] at h
  cases e : ns[i]? with
  | none => rw [e] at h; cases h
  | some z => rw [e] at h; exact ⟨z, rfl, (Option.some.inj h).symm⟩
theorem NL_get_inv {ns : List Nat} {i : Nat} {x : V} (h : (NL ns)[i]? = some x) : ∃ z : Nat, ns[i]? = some z ∧ x = .int (z : Int) := by
  unfold NL at h
  rw [List.getElem?_map] at h
  cases e : ns[i]? with
  | none => rw [e] at h; cases h
  | some z => rw [e] at h; exact ⟨z, rfl, (Option.some.inj h).symm⟩
section
variable {P : Program} {w : World} {K : PySem.W.Frag} {mg : Str → Option Value} {base : Heap}
def sp_numbers (K : PySem.W.Frag) : Sp := fun vs H Q _ => ∃ (a : Addr) (ns : List Int) (many : Nat), vs = [.ref a, .int (many : Int)] ∧ SqL K H a (ns.map V.int) ∧ ns.length ≤ 63 ∧ many ≤ 1000 ∧
  ∀ (l : Addr) (xs : List Nat) H', Same H H' → H l = none → H' l = some (.lst (NL xs)) → xs.length = many → (∀ x ∈ xs, x < 65536) → Q (.ref l) H'
theorem ok__law_numbers {f : Addr} {fd : FuncData} (D : Df K mg "_law_numbers" ["script", "many"] s__law_numbers f fd) (B : Bl mg) : FnOk P w K mg base CX0 1 f fd ["script", "many"] (sp_numbers K) := by
  refine D.F.ok sc__law_numbers (fun vs H Q E h => ?_) (fun cdv A outer s H vs Q E hr h => ?_)
  · obtain ⟨a, ns, many, rfl, _⟩ := h; rfl
  · obtain ⟨a, ns, many, rfl, hS, hl, hm, kQ⟩ := h
    refine ⟨_, (pss_cons (ps_set (i := 2) sc__law_numbers.nd rfl (Or.inl rfl) (pe_op op_cat (pe_lc (own := [("cell", 7)]) rfl sc__law_numbers.nd (pi_list (pe_slice sl_list (pv 0) po_none (po_some (pe_nat 63)))) (blkOk_by (own := [("cell", 7)]) (N := ["script", "many", "rest", "mixed", "numbers", "k", "at", "cell"]) (sc := defScope s__law_numbers) (by decide +kernel)) (fun _ _ _ _ _ => (pg_name (i := 7) sc__law_numbers.nd rfl (Or.inl rfl) (Or.inr rfl))) (fun _ _ _ _ _ => pts_nil) (fun _ _ _ _ _ => (pe_callB call_absN (by rfl) B.abs (by decide +kernel) (pa_cons (pv 7) pa_nil)))) (pe_lst (pa_cons (pe_nat 0) pa_nil))))
      (C8.pss_cut (ps_if (pt_cmpR op_gt (pe_callB call_len_seq (by rfl) B.len PySem.boot_len (pa_cons (pv 0) pa_nil)) (pe_nat 0) (nomark _)) (pss_one (ps_set (i := 2) sc__law_numbers.nd rfl (Or.inl rfl) (pe_slice sl_list (pv 2) po_none (po_some (pe_un un_neg (pe_nat 1)))))) pss_nil)
      (pss_cons (ps_setLc (i := 3) (own := [("cell", 7)]) rfl sc__law_numbers.nd rfl rfl (sw_true rfl rfl rfl (by decide +kernel)) (pi_list (pv 2)) (blkOk_by (own := [("cell", 7)]) (N := ["script", "many", "rest", "mixed", "numbers", "k", "at", "cell"]) (sc := defScope s__law_numbers) (by decide +kernel)) (fun _ _ _ _ _ => (pg_name (i := 7) sc__law_numbers.nd rfl (Or.inl rfl) (Or.inr rfl))) (fun _ _ _ _ _ => pts_nil) (fun _ _ _ _ _ => (pe_op nb_mod (pe_callTy call_int1 (by rfl) B.int (by decide +kernel) (pa_cons (pe_op nb_add (pe_op nb_mul (pv 7) (pe_nat 48271)) (pe_nat 11)) pa_nil)) (pe_nat 2147483647))))
      (pss_cons (ps_set (i := 4) sc__law_numbers.nd rfl (Or.inl rfl) (pe_lst pa_nil))
      (pss_cons (ps_for PassesOwn.never rfl (pi_range1 rfl B.range (pa_cons (pv 1) pa_nil)) (pg_name (i := 5) sc__law_numbers.nd rfl (Or.inl rfl) (Or.inr rfl))
        (pss_cons (ps_set (i := 6) sc__law_numbers.nd rfl (Or.inl rfl) (pe_op nb_mod (pe_callTy call_int1 (by rfl) B.int (by decide +kernel) (pa_cons (pv 5) pa_nil)) (pe_callB call_len_seq (by rfl) B.len PySem.boot_len (pa_cons (pv 2) pa_nil))))
        (pss_one (ps_if (pt_cmpR op_ge (pe_ix ix_list (pv 2) (pv 6) (fun _ _ => rfl)) (pe_op nb_pow (pe_nat 10) (pe_nat 18)) (nomark _)) (pss_cons (ps_expr (pe_bm PySem.F.plainAttrs_list PySem.F.slot_list_append PySem.F.type_list_append mt_append (pv 4) (pa_cons (pe_op nb_mod (pe_callTy call_int1 (by rfl) B.int (by decide +kernel) (pa_cons (pe_ix ix_list (pv 2) (pv 6) (fun _ _ => rfl)) pa_nil)) (pe_nat 65536)) pa_nil)))
          (pss_one (ps_asg (pe_op nb_fdiv (pe_ix ix_list (pv 2) (pv 6) (fun _ _ => rfl)) (pe_nat 65536)) (pg_sub (pv 2) (pv 6) set_list)))) (pss_cons (ps_asg (pe_op nb_mod (pe_callTy call_int1 (by rfl) B.int (by decide +kernel) (pa_cons (pe_op nb_add (pe_op nb_add (pe_op nb_mul (pe_ix ix_list (pv 3) (pv 6) (fun _ _ => rfl)) (pe_nat 16807)) (pe_nat 12345)) (pe_op nb_mul (pe_nat 7919) (pv 5))) pa_nil)) (pe_nat 2147483647)) (pg_sub (pv 3) (pv 6) set_list))
          (pss_one (ps_expr (pe_bm PySem.F.plainAttrs_list PySem.F.slot_list_append PySem.F.type_list_append mt_append (pv 4) (pa_cons (pe_op nb_mod (pe_callTy call_int1 (by rfl) B.int (by decide +kernel) (pa_cons (pe_op nb_add (pe_ix ix_list (pv 2) (pv 6) (fun _ _ => rfl)) (pe_op nb_fdiv (pe_ix ix_list (pv 3) (pv 6) (fun _ _ => rfl)) (pe_nat 5))) pa_nil)) (pe_nat 65536)) pa_nil)))))))))
      (pss_one (ps_ret (pv 4)))))))), ?_⟩
    -- rest
    refine ⟨_, rfl, 63, rfl, a, _, rfl, hS, fun c nc => ⟨c, rfl, ⟨_, SqL.of upd_same⟩, fun D0 nD => ?_⟩⟩
    have ecut : cutV (ns.map V.int) none (some ((63 : Nat) : Int)) = ns.map V.int := by
      rw [cut_to, List.take_of_length_le (by rw [List.length_map]; exact hl)]
    have ncD : c ≠ D0 := fun z => by rw [z, upd_same] at nD; cases nD
    have nD' : H D0 = none := by rw [upd_ne (Ne.symm ncD)] at nD; exact nD
    refine lc_list (K := K) (a := c) (xs := ns.map V.int) (fun i H' => H' c = some (.lst (ns.map V.int)) ∧ H' D0 = some (.lst (NL ((ns.take i).map Int.natAbs))) ∧ Same H H') ⟨?_, ?_, ?_⟩ (fun i H' _ h => SqL.of h.1) ?_ ?_
    · rw [upd_ne ncD, upd_same]; exact congrArg (fun l => some (HO.lst l)) ecut
    · rw [upd_same]; rfl
    · exact same_new (same_upd nc) nD
    · rintro i x H' hi ⟨h1, h2, sm⟩
      obtain ⟨z, hz, rfl⟩ := map_get_int hi
      have hil : i < ns.length := (List.getElem?_eq_some_iff.mp hz).1
      refine ⟨rfl, ?_⟩
      refine ⟨_, rfl, z, rfl, _, h2, ?_, ?_, ?_, ?_⟩
      · rw [NL_len, List.length_map, List.length_take]; exact Nat.lt_of_le_of_lt (Nat.min_le_left _ _) (small1000 (by omega))
      · rw [upd_ne ncD]; exact h1
      · rw [upd_same, NL_app, V_take_more hz, List.map_append]; rfl
      · exact same_upd2 sm nD'
    · rintro H1 ⟨h1, h2, sm⟩
      rw [List.length_map, List.take_length] at h2
      refine ⟨by show 1 ≤ sizeLine; decide, fun z nz => ?_⟩
      have nDz : D0 ≠ z := ne_of_none h2 nz
      refine ⟨D0, z, _, _, rfl, rfl, (by rw [upd_ne nDz]; exact h2), upd_same, ?_, fun r nr => ?_⟩
      · rw [NL_len, List.length_map]; exact Nat.le_of_lt (small1000 (by simp; omega))
      have e0 : NL (ns.map Int.natAbs) ++ [V.int ((0 : Nat) : Int)] = NL (ns.map Int.natAbs ++ [0]) := NL_app _ _
      have sm1 : Same H (upd H1 z (.lst [V.int ((0 : Nat) : Int)])) := same_new sm nz
      have sm2 : Same H (upd (upd H1 z (.lst [V.int ((0 : Nat) : Int)])) r (.lst (NL (ns.map Int.natAbs ++ [0])))) := same_new sm1 nr
      rw [e0]
      have nr0 : H r = none := sm1.free nr
      generalize hH2 : upd (upd H1 z (.lst [V.int ((0 : Nat) : Int)])) r (.lst (NL (ns.map Int.natAbs ++ [0]))) = H2 at sm2
      have hr2 : H2 r = some (.lst (NL (ns.map Int.natAbs ++ [0]))) := by rw [← hH2, upd_same]
      -- rest without the 0
      refine ⟨fun σ H3 => ∃ (r3 : Addr) (R : List Nat) (v : Option V), σ = [some (.ref a), some (.int (many : Int)), some (.ref r3), none, none, none, none, v] ∧ Same H H3 ∧ H r3 = none ∧ H3 r3 = some (.lst (NL R)) ∧ 0 < R.length ∧ R.length ≤ 64, ?_, ?_⟩
      · refine ⟨_, rfl, a, _, rfl, .inl (sm2.seq hS), _, _, rfl, rfl, _, rfl, iteD (fun c0 => ?_) (fun c0 => ?_)⟩
        · have c1 : (0 : Int) < ((ns.map V.int).length : Int) := c0
          rw [List.length_map] at c1
          refine ⟨_, rfl, 1, rfl, -1, rfl, r, _, rfl, SqL.of hr2, fun q nq => ⟨q, ns.map Int.natAbs, none, ?_, same_new sm2 nq, sm2.free nq, ?_, by rw [List.length_map]; omega, by rw [List.length_map]; omega⟩⟩
          · rfl
          · rw [upd_same, cut_last]
            unfold NL
            rw [← List.map_dropLast, List.dropLast_concat]
        · exact ⟨r, _, none, rfl, sm2, nr0, hr2, by simp, by simp; omega⟩
      · rintro σ H3 ⟨r3, R, v, rfl, sm3, n3, h3, hR0, hR1⟩
        -- mixed
        refine ⟨_, rfl, r3, rfl, ⟨_, SqL.of h3⟩, fun M0 nM => ?_⟩
        have nrM : r3 ≠ M0 := ne_of_none h3 nM
        have nM' : H M0 = none := sm3.free nM
        refine lc_list (K := K) (a := r3) (xs := NL R) (fun i H' => ∃ M : List Nat, H' r3 = some (.lst (NL R)) ∧ H' M0 = some (.lst (NL M)) ∧ M.length = i ∧ Same H H') ⟨[], ?_, ?_, rfl, ?_⟩ (fun i H' _ h => by obtain ⟨M, h1, _⟩ := h; exact SqL.of h1) ?_ ?_
        · rw [upd_ne nrM]; exact h3
        · rw [upd_same]; rfl
        · exact same_new sm3 nM
        · rintro i x H' hi ⟨M, h1, h2, hM, sm⟩
          obtain ⟨z, hz, rfl⟩ := NL_get_inv hi
          have hil : i < R.length := (List.getElem?_eq_some_iff.mp hz).1
          refine ⟨rfl, ?_⟩
          refine ⟨_, rfl, _, _, rfl, rfl, .inr (by decide), _, _, rfl, rfl, .inl ⟨_, rfl, _, _, rfl, rfl, Nat.succ_pos _, _, h2, ?_, M ++ [(z * 48271 + 11) % 2147483647], ?_, ?_, ?_, ?_⟩⟩
          · rw [NL_len]; exact small1000 (by omega)
          · rw [upd_ne nrM]; exact h1
          · rw [upd_same, ← NL_app]
          · rw [List.length_append, hM]; rfl
          · exact same_upd2 sm nM'
        · rintro H4 ⟨M, h1, h2, hM, sm4⟩
          rw [NL_len] at hM
          -- numbers
          refine ⟨Nat.zero_le _, fun l nl => ?_⟩
          have nrl : r3 ≠ l := ne_of_none h1 nl
          have nMl : M0 ≠ l := ne_of_none h2 nl
          have nl' : H l = none := sm4.free nl
          refine ⟨_, rfl, _, rfl, by omega, by omega, ?_⟩
          refine for_rangeN (lo := 0) (n := many) (fun i σ H' => ∃ (R' M' N : List Nat) (v5 v6 v7 : Option V), σ = [some (.ref a), some (.int (many : Int)), some (.ref r3), some (.ref M0), some (.ref l), v5, v6, v7] ∧ H' r3 = some (.lst (NL R')) ∧ H' M0 = some (.lst (NL M')) ∧ H' l = some (.lst (NL N)) ∧
            R'.length = R.length ∧ M'.length = R.length ∧ N.length = i ∧ (∀ x ∈ N, x < 65536) ∧ Same H H') ⟨R, M, [], none, none, v, rfl, ?_, ?_, ?_, rfl, hM, rfl, (fun x hx => nomatch hx), ?_⟩ ?_ ?_
          · rw [upd_ne nrl]; exact h1
          · rw [upd_ne nMl]; exact h2
          · rw [upd_same]; rfl
          · exact same_new sm4 nl
          · rintro i σ H' hi ⟨R', M', N, v5, v6, v7, rfl, g1, g2, g3, e1, e2, e3, hN, sm⟩
            have hat : i % R.length < R.length := Nat.mod_lt _ hR0
            obtain ⟨x, hx⟩ : ∃ x, R'[i % R.length]? = some x := ⟨_, List.getElem?_eq_getElem (by omega)⟩
            obtain ⟨y, hy⟩ : ∃ y, M'[i % R.length]? = some y := ⟨_, List.getElem?_eq_getElem (by omega)⟩
            have hN3 : (NL N).length < sizeLine := by rw [NL_len]; exact small1000 (by omega)
            rw [Nat.zero_add]
            refine ⟨_, rfl, .inl ⟨_, rfl, _, rfl, r3, _, rfl, .inl (SqL.of g1), i, _, rfl, rfl, by rw [NL_len]; omega, ?_⟩⟩
            rw [NL_len, e1]
            refine ⟨_, rfl, _, rfl, r3, _, _, _, rfl, rfl, SqL.of g1, NL_at0 hx, _, _, rfl, rfl, ⟨by decide, by decide⟩, _, _, rfl, rfl, _, rfl, iteD (fun c => ?_) (fun c => ?_)⟩
            · refine ⟨_, rfl, .inl ⟨rfl, _, SqL.of g3⟩, _, rfl, _, rfl, r3, _, _, _, rfl, rfl, SqL.of g1, NL_at0 hx, .inl ⟨_, rfl, _, _, rfl, rfl, Nat.succ_pos _, l, _, _, rfl, rfl, g3, hN3, ?_⟩⟩
              have g1' : (upd H' l (.lst (NL N ++ [V.int ((x % 65536 : Nat) : Int)]))) r3 = some (.lst (NL R')) := by rw [upd_ne nrl]; exact g1
              refine ⟨_, rfl, _, rfl, r3, _, _, _, rfl, rfl, SqL.of g1', NL_at0 hx, _, _, rfl, rfl, ⟨by decide, by decide⟩, _, rfl, _, rfl, r3, _, _, i % R.length, rfl, rfl, g1', ixN_nat (by rw [NL_len]; omega), ?_⟩
              refine ⟨R'.set (i % R.length) (x / 65536), M', N ++ [x % 65536], _, _, v7, rfl, ?_, ?_, ?_, ?_, e2, ?_, ?_, ?_⟩
              · rw [upd_same, NL_set]
              · rw [upd_ne (Ne.symm nrM), upd_ne nMl]; exact g2
              · rw [upd_ne (Ne.symm nrl), upd_same, NL_app]
              · rw [List.length_set]; exact e1
              · rw [List.length_append, e3]; rfl
              · intro z hz
                rcases List.mem_append.mp hz with h | h
                · exact hN z h
                · rw [List.mem_singleton] at h; subst h; exact Nat.mod_lt _ (by decide)
              · exact same_upd2 (same_upd2 sm nl') n3
            · refine ⟨_, rfl, _, rfl, M0, _, _, _, rfl, rfl, SqL.of g2, NL_at0 hy, _, _, rfl, rfl, .inr (by decide), _, _, rfl, rfl, _, rfl, _, _, rfl, rfl, .inl (by decide), _, _, rfl, rfl, .inl ⟨_, rfl, _, _, rfl, rfl, Nat.succ_pos _, _, rfl, _, rfl, M0, _, _, i % R.length, rfl, rfl, g2, ixN_nat (by rw [NL_len]; omega), ?_⟩⟩
              rw [NL_set]
              generalize hy2 : (y * 16807 + 12345 + 7919 * i) % 2147483647 = y2
              have g1' : (upd H' M0 (.lst (NL (M'.set (i % R.length) y2)))) r3 = some (.lst (NL R')) := by rw [upd_ne nrM]; exact g1
              have g3' : (upd H' M0 (.lst (NL (M'.set (i % R.length) y2)))) l = some (.lst (NL N)) := by rw [upd_ne (Ne.symm nMl)]; exact g3
              have hy3 : (M'.set (i % R.length) y2)[i % R.length]? = some y2 := List.getElem?_set_self (by omega)
              refine ⟨_, rfl, .inl ⟨rfl, _, SqL.of g3'⟩, _, rfl, _, rfl, r3, _, _, _, rfl, rfl, SqL.of g1', NL_at0 hx, _, rfl, _, rfl, M0, _, _, _, rfl, rfl, SqL.of upd_same, NL_at0 hy3, _, _, rfl, rfl, ⟨by decide, by decide⟩, _, _, rfl, rfl, .inl ⟨_, rfl, _, _, rfl, rfl, Nat.succ_pos _, l, _, _, rfl, rfl, g3', hN3, ?_⟩⟩
              refine ⟨R', M'.set (i % R.length) y2, N ++ [(x + y2 / 5) % 65536], _, _, v7, rfl, ?_, ?_, ?_, e1, ?_, ?_, ?_, ?_⟩
              · rw [upd_ne nrl]; exact g1'
              · rw [upd_ne nMl, upd_same]
              · rw [upd_same, NL_app]
              · rw [List.length_set]; exact e2
              · rw [List.length_append, e3]; rfl
              · intro z hz
                rcases List.mem_append.mp hz with h | h
                · exact hN z h
                · rw [List.mem_singleton] at h; subst h; exact Nat.mod_lt _ (by decide)
              · exact same_upd2 (same_upd2 sm nM') nl'
          · rintro σ H' ⟨R', M', N, v5, v6, v7, rfl, g1, g2, g3, e1, e2, e3, hN, sm⟩
            exact ⟨_, rfl, kQ l N H' sm nl' g3 e3 hN⟩
end
section
variable {P : Program} {w : World} {K : PySem.W.Frag} {mg : Str → Option Value} {base : Heap}
theorem shr_pos {p k : Nat} : 0 < p / 2 ^ k ↔ k < NB.bits p := by
  constructor
  · intro h
    apply Classical.byContradiction
    intro n
    have := bits_le.mp (show NB.bits p ≤ k by omega)
    rw [Nat.div_eq_of_lt this] at h
    omega
  · intro h
    apply Nat.div_pos _ (Nat.two_pow_pos k)
    apply Classical.byContradiction
    intro n
    have := bits_le.mpr (show p < 2 ^ k by omega)
    omega
theorem odd_of {x : Nat} (c : V.int ((x &&& 1 : Nat) : Int) = .int ((1 : Nat) : Int)) : x % 2 = 1 := by
  have := V.int.inj c
  rw [Nat.and_one_is_mod] at this; omega
theorem odd_mk {x : Nat} (c : x % 2 = 1) : V.int ((x &&& 1 : Nat) : Int) = .int ((1 : Nat) : Int) := by rw [Nat.and_one_is_mod, c]
def sp_ldegree : Sp := fun vs H Q _ => ∃ p : Nat, vs = [.int p] ∧ p < 2 ^ 70 ∧ Q (.int ((NB.bits p : Nat) - 1 : Int)) H
theorem ok__law_degree {f : Addr} {fd : FuncData} (D : Df K mg "_law_degree" ["p"] s__law_degree f fd) (B : Bl mg) : FnOk P w K mg base CX0 1 f fd ["p"] sp_ldegree := by
  refine D.F.ok sc__law_degree (fun vs H Q E h => ?_) (fun cdv A outer s H vs Q E hr h => ?_)
  · obtain ⟨p, rfl, _⟩ := h; rfl
  · obtain ⟨p, rfl, hp, k⟩ := h
    refine ⟨_, (pss_cons (ps_set (i := 1) sc__law_degree.nd rfl (Or.inl rfl) (pe_un un_neg (pe_nat 1)))
      (pss_cons (ps_for PassesOwn.never rfl (pi_range1 rfl B.range (pa_cons (pe_nat 70) pa_nil)) (pg_name (i := 2) sc__law_degree.nd rfl (Or.inl rfl) (Or.inr rfl))
        (pss_one (ps_if (pt_cmpR op_gt (pe_op nb_shr (pv 0) (pv 2)) (pe_nat 0) (nomark _)) (pss_one (ps_set (i := 1) sc__law_degree.nd rfl (Or.inl rfl) (pv 2))) pss_nil)))
      (pss_one (ps_ret (pv 1))))), ?_⟩
    have hb := bits_le.mpr hp
    refine ⟨1, rfl, _, rfl, by omega, by omega, ?_⟩
    refine for_rangeN (lo := 0) (n := 70) (fun i σ H' => ∃ v, σ = [some (.int p), some (.int ((Nat.min i (NB.bits p) : Nat) - 1 : Int)), v] ∧ H' = H) ⟨none, ?_, rfl⟩ ?_ ?_
    · rw [show Nat.min 0 (NB.bits p) = 0 from Nat.zero_min _]; rfl
    · rintro i σ H' hi ⟨v, rfl, rfl⟩
      rw [Nat.zero_add]
      refine ⟨_, rfl, _, rfl, _, _, rfl, rfl, _, _, rfl, rfl, _, rfl, iteD (fun c => ?_) (fun c => ?_)⟩
      · have c1 : i < NB.bits p := shr_pos.mp (by have : (0 : Int) < ((p / 2 ^ i : Nat) : Int) := c; omega)
        refine ⟨_, rfl, some (.int i), ?_, rfl⟩
        have e : ((Nat.min (i + 1) (NB.bits p) : Nat) - 1 : Int) = (i : Int) := by
          have : Nat.min (i + 1) (NB.bits p) = i + 1 := Nat.min_eq_left (by omega)
          rw [this]; omega
        rw [e]; rfl
      · have c1 : ¬ i < NB.bits p := fun z => c (by have := shr_pos.mpr z; show (0 : Int) < ((p / 2 ^ i : Nat) : Int); omega)
        refine ⟨some (.int i), ?_, rfl⟩
        have e : Nat.min (i + 1) (NB.bits p) = Nat.min i (NB.bits p) := by
          rw [show Nat.min (i + 1) (NB.bits p) = NB.bits p from Nat.min_eq_right (by omega), show Nat.min i (NB.bits p) = NB.bits p from Nat.min_eq_right (by omega)]
        rw [e]; rfl
    · rintro σ H' ⟨v, rfl, rfl⟩
      rw [show Nat.min 70 (NB.bits p) = NB.bits p from Nat.min_eq_right (by omega)]
      exact ⟨_, rfl, k⟩
def sp_ltimes : Sp := fun vs H Q _ => ∃ p q : Nat, vs = [.int p, .int q] ∧ p < 2 ^ 64 ∧ q < 2 ^ 36 ∧ Q (.int ((GF.mul p q : Nat) : Int)) H
theorem ok__law_times {f : Addr} {fd : FuncData} (D : Df K mg "_law_times" ["p", "q"] s__law_times f fd) (B : Bl mg) : FnOk P w K mg base CX0 1 f fd ["p", "q"] sp_ltimes := by
  refine D.F.ok sc__law_times (fun vs H Q E h => ?_) (fun cdv A outer s H vs Q E hr h => ?_)
  · obtain ⟨p, q, rfl, _⟩ := h; rfl
  · obtain ⟨p, q, rfl, hp, hq, k⟩ := h
    refine ⟨_, (pss_cons (ps_set (i := 2) sc__law_times.nd rfl (Or.inl rfl) (pe_nat 0))
      (pss_cons (ps_for PassesOwn.never rfl (pi_range1 rfl B.range (pa_cons (pe_nat 36) pa_nil)) (pg_name (i := 3) sc__law_times.nd rfl (Or.inl rfl) (Or.inr rfl))
        (pss_one (ps_if (pt_cmpR op_eq (pe_op nb_and (pe_op nb_shr (pv 1) (pv 3)) (pe_nat 1)) (pe_nat 1) (nomark _)) (pss_one (ps_set (i := 2) sc__law_times.nd rfl (Or.inl rfl) (pe_op nb_xor (pv 2) (pe_op nb_shl (pv 0) (pv 3))))) pss_nil)))
      (pss_one (ps_ret (pv 2))))), ?_⟩
    refine ⟨_, rfl, by omega, by omega, ?_⟩
    refine for_rangeN (lo := 0) (n := 36) (fun i σ H' => ∃ v, σ = [some (.int p), some (.int q), some (.int ((GF.mul p (q % 2 ^ i) : Nat) : Int)), v] ∧ H' = H) ⟨none, ?_, rfl⟩ ?_ ?_
    · rw [Nat.pow_zero, Nat.mod_one, GF.mul_zero]; rfl
    · rintro i σ H' hi ⟨v, rfl, rfl⟩
      rw [Nat.zero_add]
      have key := times_step p q i
      refine ⟨_, rfl, _, rfl, _, _, rfl, rfl, _, _, rfl, rfl, rfl, _, rfl, ?_⟩
      refine iteD (fun c => ?_) (fun c => ?_)
      · rw [if_pos (odd_of c)] at key
        refine ⟨_, rfl, _, rfl, _, rfl, _, _, rfl, rfl, ⟨hp, by omega⟩, _, _, rfl, rfl, some (.int i), ?_, rfl⟩
        rw [key]; rfl
      · rw [if_neg (fun z => c (odd_mk z)), Nat.xor_zero] at key
        refine ⟨some (.int i), ?_, rfl⟩
        rw [key]; rfl
    · rintro σ H' ⟨v, rfl, rfl⟩
      rw [Nat.mod_eq_of_lt hq]
      exact ⟨_, rfl, k⟩
def sp_ldivided : Sp := fun vs H Q _ => ∃ p q : Nat, vs = [.int p, .int q] ∧ p < 2 ^ 64 ∧ q < 2 ^ 64 ∧ q ≠ 0 ∧
  ∀ a, H a = none → Q (.ref a) (upd H a (.tup [.int ((GF.pdiv p q : Nat) : Int), .int ((GF.pmod p q : Nat) : Int)]))
theorem or_add {k s : Nat} (h : k % 2 ^ (s + 1) = 0) : k + 2 ^ s = k ^^^ 2 ^ s := by
  rw [← or_xor h]
  have e : k = 2 ^ (s + 1) * (k / 2 ^ (s + 1)) := by
    have := Nat.div_add_mod k (2 ^ (s + 1)); omega
  rw [e]
  exact Nat.two_pow_add_eq_or_of_lt (Nat.pow_lt_pow_right (by decide) (by omega)) _
theorem bit_test {p n : Nat} (h : p < 2 ^ (n + 1)) : p / 2 ^ n % 2 = 1 ↔ GF.Deg p n := by
  rw [GF.deg_top h, Nat.testBit_eq_decide_div_mod_eq, decide_eq_true_eq]
theorem ok__law_divided {f f__law_degree : Addr} {fd fd__law_degree : FuncData} (D : Df K mg "_law_divided" ["p", "q"] s__law_divided f fd) (B : Bl mg)
    (D__law_degree : Df K mg "_law_degree" ["p"] s__law_degree f__law_degree fd__law_degree) (G__law_degree : FnOk P w K mg base CX0 1 f__law_degree fd__law_degree ["p"] sp_ldegree) : FnOk P w K mg base CX0 2 f fd ["p", "q"] sp_ldivided := by
  refine D.F.ok sc__law_divided (fun vs H Q E h => ?_) (fun cdv A outer s H vs Q E hr h => ?_)
  · obtain ⟨p, q, rfl, _⟩ := h; rfl
  · obtain ⟨p, q, rfl, hp, hq, q0, k⟩ := h
    refine ⟨_, (pss_cons (ps_set (i := 2) sc__law_divided.nd rfl (Or.inl rfl) (pe_call G__law_degree (hr.mono (by decide)) rfl D__law_degree.g D__law_degree.F.kp D__law_degree.b .nil pass0 (pa_cons (pv 1) pa_nil)))
      (pss_cons (ps_set (i := 3) sc__law_divided.nd rfl (Or.inl rfl) (pe_nat 0))
      (pss_cons (ps_for PassesOwn.never rfl (pi_range1 rfl B.range (pa_cons (pe_nat 70) pa_nil)) (pg_name (i := 4) sc__law_divided.nd rfl (Or.inl rfl) (Or.inr rfl))
        (pss_cons (ps_set (i := 5) sc__law_divided.nd rfl (Or.inl rfl) (pe_op nb_sub (pe_nat 69) (pv 4)))
        (pss_one (ps_if (pt_cmpR op_eq (pe_op nb_and (pe_op nb_shr (pv 0) (pe_op nb_add (pv 5) (pv 2))) (pe_nat 1)) (pe_nat 1) (nomark _)) (pss_cons (ps_set (i := 0) sc__law_divided.nd rfl (Or.inl rfl) (pe_op nb_xor (pv 0) (pe_op nb_shl (pv 1) (pv 5))))
          (pss_one (ps_set (i := 3) sc__law_divided.nd rfl (Or.inl rfl) (pe_op nb_add (pv 3) (pe_op nb_shl (pe_nat 1) (pv 5)))))) pss_nil))))
      (pss_one (ps_ret (pe_tup (pa_cons (pv 3) (pa_cons (pv 0) pa_nil)))))))), ?_⟩
    have hb := bits_pos q0
    have hl64 : q.log2 < 64 := (Nat.log2_lt q0).mpr hq
    refine ⟨_, rfl, q, rfl, by omega, ?_⟩
    rw [show ((NB.bits q : Nat) - 1 : Int) = ((q.log2 : Nat) : Int) by omega]
    refine ⟨_, rfl, by omega, by omega, ?_⟩
    refine for_rangeN (lo := 0) (n := 70) (fun i σ H' => ∃ (r ww : Nat) (v5 v6 : Option V), σ = [some (.int (r : Int)), some (.int q), some (.int ((q.log2 : Nat) : Int)), some (.int (ww : Int)), v5, v6] ∧ H' = H ∧ p = GF.mul ww q ^^^ r ∧ r < 2 ^ (70 - i + q.log2) ∧ ww % 2 ^ (70 - i) = 0) ⟨p, 0, none, none, rfl, rfl, ?_, ?_, Nat.zero_mod _⟩ ?_ ?_
    · rw [GF.zero_mul, Nat.zero_xor]
    · exact Nat.lt_of_lt_of_le hp (Nat.pow_le_pow_right (by decide) (by omega))
    · rintro i σ H' hi ⟨r, ww, v5, v6, rfl, rfl, hpk, hr', hw⟩
      rw [Nat.zero_add]
      have e1 : 70 - i = (69 - i) + 1 := by omega
      have e2 : 70 - (i + 1) = 69 - i := by omega
      have e3 : 70 - i + q.log2 = (69 - i + q.log2) + 1 := by omega
      rw [e3] at hr'
      rw [e1] at hw
      refine ⟨_, rfl, _, _, rfl, rfl, by show i ≤ 69; omega, _, rfl, _, rfl, _, rfl, _, _, rfl, rfl, _, _, rfl, rfl, _, _, rfl, rfl, rfl, _, rfl, ?_⟩
      refine iteD (fun c => ?_) (fun c => ?_)
      · have dr := (bit_test hr').mp (odd_of c)
        have dq := GF.deg_shift (GF.deg_log q0) (69 - i)
        refine ⟨_, rfl, _, rfl, _, rfl, _, _, rfl, rfl, ⟨hq, by omega⟩, _, _, rfl, rfl, _, rfl, _, rfl, _, _, rfl, rfl, ⟨by decide, by omega⟩, _, _, rfl, rfl, r ^^^ 2 ^ (69 - i) * q, ww ^^^ 2 ^ (69 - i), some (.int i), some (.int ((69 - i : Nat) : Int)), ?_, rfl, ?_, ?_, ?_⟩
        · rw [← or_add hw, Nat.mul_one]; rfl
        · rw [GF.xor_mul, GF.pow_mul, hpk, xor_swap]
        · rw [e2]; exact GF.deg_xor dr dq
        · rw [e2]; exact xor_mod_zero hw (Nat.le_refl _)
      · have dr : ¬ GF.Deg r (69 - i + q.log2) := fun z => c (odd_mk ((bit_test hr').mpr z))
        refine ⟨r, ww, some (.int i), some (.int ((69 - i : Nat) : Int)), rfl, rfl, hpk, ?_, ?_⟩
        · rw [e2]
          rcases Nat.lt_or_ge r (2 ^ (69 - i + q.log2)) with l | g
          · exact l
          · exact absurd ⟨g, hr'⟩ dr
        · rw [e2]
          exact Nat.mod_eq_zero_of_dvd (Nat.dvd_trans (Nat.pow_dvd_pow 2 (by omega)) (Nat.dvd_of_mod_eq_zero hw))
    · rintro σ H' ⟨r, ww, v5, v6, rfl, rfl, hpk, hr', hw⟩
      rw [Nat.sub_self, Nat.zero_add] at hr'
      obtain ⟨e1, e2⟩ := GF.mod_of q0 hr' hpk
      refine ⟨_, rfl, _, rfl, (by show 2 ≤ sizeLine; decide), fun a ha => ?_⟩
      have := k a ha
      rw [e1, e2] at this
      exact this
def sp_lcommon : Sp := fun vs H Q _ => ∃ p q : Nat, vs = [.int p, .int q] ∧ p < 2 ^ 64 ∧ q < 2 ^ 64 ∧ ∀ H', Same H H' → Q (.int ((GF.gcd p q : Nat) : Int)) H'
theorem ok__law_common {f f__law_divided : Addr} {fd fd__law_divided : FuncData} (D : Df K mg "_law_common" ["p", "q"] s__law_common f fd) (B : Bl mg)
    (D__law_divided : Df K mg "_law_divided" ["p", "q"] s__law_divided f__law_divided fd__law_divided) (G__law_divided : FnOk P w K mg base CX0 2 f__law_divided fd__law_divided ["p", "q"] sp_ldivided) : FnOk P w K mg base CX0 3 f fd ["p", "q"] sp_lcommon := by
  refine D.F.ok sc__law_common (fun vs H Q E h => ?_) (fun cdv A outer s H vs Q E hr h => ?_)
  · obtain ⟨p, q, rfl, _⟩ := h; rfl
  · obtain ⟨p, q, rfl, hp, hq, k⟩ := h
    refine ⟨_, (pss_cons (ps_for PassesOwn.never rfl (pi_range1 rfl B.range (pa_cons (pe_nat 70) pa_nil)) (pg_name (i := 2) sc__law_common.nd rfl (Or.inl rfl) (Or.inr rfl))
        (pss_cons (ps_if (pt_cmpR op_eq (pv 1) (pe_nat 0) (nomark _)) (pss_one (ps_ret (pv 0))) pss_nil)
        (pss_one (ps_par (i := 0) (j := 1) (by rfl) sc__law_common.nd rfl rfl (by decide) rfl rfl (pa_cons (pv 1) (pa_cons (pe_ix ix_tup (pe_call G__law_divided (hr.mono (by decide)) rfl D__law_divided.g D__law_divided.F.kp D__law_divided.b .nil pass0 (pa_cons (pv 0) (pa_cons (pv 1) pa_nil))) (pe_nat 1) (fun _ _ => rfl)) pa_nil)) (by rfl)))))
      (pss_one (ps_ret (pv 0)))), ?_⟩
    refine ⟨_, rfl, by omega, by omega, ?_⟩
    refine for_rangeN (lo := 0) (n := 70) (fun i σ H' => ∃ (a b : Nat) (v : Option V), σ = [some (.int (a : Int)), some (.int (b : Int)), v] ∧ GF.gcd a b = GF.gcd p q ∧ a < 2 ^ 64 ∧ b < 2 ^ 64 ∧ GF.siz b + i ≤ 64 ∧ Same H H') ⟨p, q, none, rfl, rfl, hp, hq, GF.siz_le.mpr hq, Same.refl H⟩ ?_ ?_
    · rintro i σ H' hi ⟨a, b, v, rfl, hg, ha, hb, hs, sm⟩
      refine ⟨_, rfl, rfl, _, rfl, iteD (fun c => ?_) (fun c => ?_)⟩
      · have b0 : b = 0 := by have := V.int.inj c; omega
        subst b0
        rw [GF.gcd_zero] at hg
        refine ⟨_, rfl, ?_⟩
        rw [hg]
        exact k _ sm
      · have b0 : b ≠ 0 := fun z => c (by rw [z])
        have hm := GF.siz_mod (a := a) b0
        refine ⟨_, rfl, _, rfl, _, rfl, a, b, rfl, ha, hb, b0, fun t ht => ?_⟩
        refine ⟨t, _, _, _, rfl, rfl, SqT.of upd_same, atI_nat (j := 1) rfl, _, _, rfl, b, GF.pmod a b, _, rfl, ?_, hb, ?_, by omega, same_new sm ht⟩
        · rw [← hg, GF.gcd_step a b0]
        · exact Nat.lt_trans (GF.mod_lt b0) (Nat.pow_lt_pow_right (by decide) ((Nat.log2_lt b0).mpr hb))
    · rintro σ H' ⟨a, b, v, rfl, hg, ha, hb, hs, sm⟩
      omega
def sp_lirr : Sp := fun vs H Q _ => ∃ p : Nat, vs = [.int p] ∧ p < 2 ^ 32 ∧ ∀ (b : Bool) H', (b = true ↔ GF.Irr p) → Same H H' → Q (.bl b) H'
theorem ok__law_irreducible {f f__law_degree f__law_divided : Addr} {fd fd__law_degree fd__law_divided : FuncData} (D : Df K mg "_law_irreducible" ["p"] s__law_irreducible f fd) (B : Bl mg)
    (D__law_degree : Df K mg "_law_degree" ["p"] s__law_degree f__law_degree fd__law_degree) (G__law_degree : FnOk P w K mg base CX0 1 f__law_degree fd__law_degree ["p"] sp_ldegree)
    (D__law_divided : Df K mg "_law_divided" ["p", "q"] s__law_divided f__law_divided fd__law_divided) (G__law_divided : FnOk P w K mg base CX0 2 f__law_divided fd__law_divided ["p", "q"] sp_ldivided) : FnOk P w K mg base CX0 3 f fd ["p"] sp_lirr := by
  refine D.F.ok sc__law_irreducible (fun vs H Q E h => ?_) (fun cdv A outer s H vs Q E hr h => ?_)
  · obtain ⟨p, rfl, _⟩ := h; rfl
  · obtain ⟨p, rfl, hp, k⟩ := h
    refine ⟨_, (pss_cons (ps_set (i := 1) sc__law_irreducible.nd rfl (Or.inl rfl) (pe_call G__law_degree (hr.mono (by decide)) rfl D__law_degree.g D__law_degree.F.kp D__law_degree.b .nil pass0 (pa_cons (pv 0) pa_nil)))
      (pss_cons (ps_if (pt_cmpR op_lt (pv 1) (pe_nat 1) (nomark _)) (pss_one (ps_ret pe_bl)) pss_nil)
      (pss_cons (ps_for PassesOwn.never rfl (pi_range2 rfl B.range (pa_cons (pe_nat 2) (pa_cons (pe_op nb_shl (pe_nat 1) (pe_op nb_add (pe_op nb_fdiv (pv 1) (pe_nat 2)) (pe_nat 1))) pa_nil))) (pg_name (i := 2) sc__law_irreducible.nd rfl (Or.inl rfl) (Or.inr rfl))
        (pss_one (ps_if (pt_cmpR op_eq (pe_ix ix_tup (pe_call G__law_divided (hr.mono (by decide)) rfl D__law_divided.g D__law_divided.F.kp D__law_divided.b .nil pass0 (pa_cons (pv 0) (pa_cons (pv 2) pa_nil))) (pe_nat 1) (fun _ _ => rfl)) (pe_nat 0) (nomark _)) (pss_one (ps_ret pe_bl)) pss_nil)))
      (pss_one (ps_ret pe_bl))))), ?_⟩
    have hb32 : NB.bits p ≤ 32 := bits_le.mpr hp
    refine ⟨_, rfl, p, rfl, by omega, _, rfl, _, _, rfl, rfl, _, rfl, iteD (fun c => ?_) (fun c => ?_)⟩
    · have c' : (NB.bits p : Int) - 1 < 1 := c
      have hp1 : p < 2 ^ 1 := bits_le.mp (by omega)
      exact k false H ⟨(fun z => nomatch z), fun z => by have := z.1; omega⟩ (Same.refl H)
    · have c' : ¬ (NB.bits p : Int) - 1 < 1 := c
      have h2 : 2 ≤ p := by
        apply Classical.byContradiction
        intro n
        have : NB.bits p ≤ 1 := bits_le.mpr (by omega)
        omega
      have hp0 : p ≠ 0 := by omega
      have hbp := bits_pos hp0
      have hlt := GF.log_pos h2
      rw [show ((NB.bits p : Nat) - 1 : Int) = ((p.log2 : Nat) : Int) by omega]
      have hpw : (2 : Nat) ^ (p.log2 / 2 + 1) ≤ 2 ^ 32 := Nat.pow_le_pow_right (by decide) (by omega)
      have hpw2 : (2 : Nat) ≤ 2 ^ (p.log2 / 2 + 1) := Nat.le_trans (by decide) (Nat.pow_le_pow_right (by decide) (show 1 ≤ p.log2 / 2 + 1 by omega))
      refine ⟨_, rfl, _, _, rfl, rfl, ⟨by decide, by decide⟩, _, _, rfl, rfl, _, _, rfl, rfl, ⟨by decide, by omega⟩, _, _, rfl, ⟨by decide, by decide, by omega, by omega⟩, ?_⟩
      rw [Nat.mul_one, show (((2 ^ (p.log2 / 2 + 1) : Nat) : Int) - ((2 : Nat) : Int)).toNat = 2 ^ (p.log2 / 2 + 1) - 2 by omega]
      refine for_rangeN (lo := 2) (n := 2 ^ (p.log2 / 2 + 1) - 2) (fun i σ H' => ∃ v, σ = [some (.int p), some (.int ((p.log2 : Nat) : Int)), v] ∧ Same H H' ∧ ∀ q, 2 ≤ q → q < 2 + i → ¬ GF.Dvd q p) ⟨none, rfl, Same.refl H, fun q h1 h2 => by omega⟩ ?_ ?_
      · rintro i σ H' hi ⟨v, rfl, sm, hd⟩
        have hq0 : 2 + i ≠ 0 := by omega
        refine ⟨_, rfl, _, rfl, p, 2 + i, rfl, by omega, by omega, hq0, fun t ht => ⟨t, _, _, _, rfl, rfl, SqT.of upd_same, atI_nat (j := 1) rfl, rfl, _, rfl, iteD (fun d => ?_) (fun d => ?_)⟩⟩
        · have d' : GF.pmod p (2 + i) = 0 := by have := V.int.inj d; omega
          refine k false _ ⟨(fun z => nomatch z), fun z => ?_⟩ (same_new sm ht)
          exfalso
          refine z.2 (2 + i) (by omega) ?_ ((GF.dvd_mod hq0).mpr d')
          have : (2 + i).log2 < p.log2 / 2 + 1 := (Nat.log2_lt hq0).mpr (by omega)
          omega
        · have d' : GF.pmod p (2 + i) ≠ 0 := fun z => d (by rw [z])
          refine ⟨some (.int ((2 + i : Nat) : Int)), rfl, same_new sm ht, fun q g1 g2 => ?_⟩
          by_cases e : q = 2 + i
          · subst e; exact fun z => d' ((GF.dvd_mod hq0).mp z)
          · exact hd q g1 (by omega)
      · rintro σ H' ⟨v, rfl, sm, hd⟩
        refine k true H' ⟨fun _ => ⟨h2, fun q g1 g2 => hd q g1 ?_⟩, fun _ => rfl⟩ sm
        have : q < 2 ^ (p.log2 / 2 + 1) := (Nat.log2_lt (by omega)).mp (by omega)
        omega
end
section
variable {P : Program} {w : World} {K : PySem.W.Frag} {mg : Str → Option Value} {base : Heap}
open FLD
/-- the powers of e from 0 to k - 1 -/
def pws (q e k : Nat) : List Nat := (List.range k).map (pw q e)
theorem pws_len (q e k : Nat) : (pws q e k).length = k := by unfold pws; rw [List.length_map, List.length_range]
theorem pws_get {q e k i : Nat} (h : i < k) : (pws q e k)[i]? = some (pw q e i) := by unfold pws; rw [List.getElem?_map, List.getElem?_range h]; rfl
theorem pws_more (q e k : Nat) : pws q e (k + 1) = pws q e k ++ [pw q e k] := by unfold pws; rw [List.range_succ, List.map_append]; rfl
def sp_powers_of : Sp := fun vs H Q _ => ∃ e q m : Nat, vs = [.int e, .int q] ∧ Fd m q ∧ e ≠ 0 ∧ e < 2 ^ m ∧
  ∀ (a : Addr) H' (k : Nat), Same H H' → H a = none → H' a = some (.lst (NL (pws q e k))) → 1 ≤ k → k ≤ 2 ^ m - 1 → pw q e k = 1 → (∀ i, 1 ≤ i → i < k → pw q e i ≠ 1) → Q (.ref a) H'
theorem pow_m {m q : Nat} (F : Fd m q) : 4 ≤ 2 ^ m ∧ 2 ^ m ≤ 256 :=
  ⟨Nat.le_trans (by decide) (Nat.pow_le_pow_right (n := 2) (by decide) F.h2), Nat.le_trans (Nat.pow_le_pow_right (n := 2) (by decide) F.h8) (by decide)⟩
theorem ok__powers_of {f f_product_rest : Addr} {fd fd_product_rest : FuncData} (D : Df K mg "_powers_of" ["e", "modulus"] s__powers_of f fd)
    (D_product_rest : Df K mg "product_rest" ["p", "q", "modulus"] s_product_rest f_product_rest fd_product_rest) (G_product_rest : FnOk P w K mg base CX0 4 f_product_rest fd_product_rest ["p", "q", "modulus"] sp_product_rest) :
    FnOk P w K mg base CX0 5 f fd ["e", "modulus"] sp_powers_of := by
  refine D.F.ok sc__powers_of (fun vs H Q E h => ?_) (fun cdv A outer s H vs Q E hr h => ?_)
  · obtain ⟨e, q, m, rfl, _⟩ := h; rfl
  · obtain ⟨e, q, m, rfl, F, e0, elt, k⟩ := h
    refine ⟨_, (pss_cons (ps_set (i := 2) sc__powers_of.nd rfl (Or.inl rfl) (pe_lst (pa_cons (pe_nat 1) pa_nil)))
      (pss_cons (ps_set (i := 3) sc__powers_of.nd rfl (Or.inl rfl) (pv 0))
      (pss_cons (ps_while PassesOwn.never (pt_cmpR op_ne (pv 3) (pe_nat 1) (nomark _))
        (pss_cons (ps_expr (pe_bm PySem.F.plainAttrs_list PySem.F.slot_list_append PySem.F.type_list_append mt_append (pv 2) (pa_cons (pv 3) pa_nil)))
        (pss_one (ps_set (i := 3) sc__powers_of.nd rfl (Or.inl rfl) (pe_call G_product_rest (hr.mono (by decide)) rfl D_product_rest.g D_product_rest.F.kp D_product_rest.b .nil pass0 (pa_cons (pv 3) (pa_cons (pv 0) (pa_cons (pv 1) pa_nil))))))))
      (pss_one (ps_ret (pv 2)))))), ?_⟩
    obtain ⟨hm4, hm256⟩ := pow_m F
    have hq5 := q_512 F
    obtain ⟨r, hR⟩ := root_ex F
    have hall := pw_all F hR e0 elt
    refine ⟨(by show 1 ≤ sizeLine; decide), fun a na => ⟨_, rfl, ?_⟩⟩
    refine while_by (fun σ H' => ∃ j : Nat, σ = [some (.int e), some (.int q), some (.ref a), some (.int ((pw q e j : Nat) : Int))] ∧ 1 ≤ j ∧ j ≤ 2 ^ m - 1 ∧ H' a = some (.lst (NL (pws q e j))) ∧ Same H H' ∧ ∀ i, 1 ≤ i → i < j → pw q e i ≠ 1)
      (fun _ H' => match H' a with | some (.lst l) => 256 - l.length | _ => 0) ⟨1, ?_, Nat.le_refl _, by omega, ?_, same_upd na, fun i h1 h2 => by omega⟩ ?_ ?_
    · rw [pw_first F elt]; rfl
    · rw [upd_same]; rfl
    · rintro σ H' ⟨j, rfl, hj, hjN, ha, sm, hno⟩
      have hpl := pw_lt F e j
      refine ⟨_, rfl, rfl, _, rfl, iteN (fun c => ?_) (fun c => ?_)⟩
      · have c' : pw q e j ≠ 1 := fun z => c (by rw [z])
        have hj2 : j ≠ 2 ^ m - 1 := fun z => c' (by rw [z]; exact hall)
        refine ⟨_, rfl, .inl ⟨rfl, _, SqL.of ha⟩, _, rfl, a, _, _, rfl, rfl, ha, by rw [NL_len, pws_len]; exact small1000 (by omega), ?_⟩
        refine ⟨_, rfl, _, rfl, _, rfl, pw q e j, e, q, rfl, by omega, by omega, by omega, q0 F, fun H1 s1 => ⟨⟨j + 1, rfl, by omega, by omega, ?_, (same_upd2 sm na).trans s1, fun i h1 h2 => ?_⟩, ?_⟩⟩
        · refine s1 _ _ ?_
          rw [upd_same, NL_app, ← pws_more]
        · by_cases z : i = j
          · subst z; exact c'
          · exact hno i h1 (by omega)
        · have h1 : H1 a = some (.lst (NL (pws q e (j + 1)))) := s1 _ _ (by rw [upd_same, NL_app, ← pws_more])
          show (match H1 a with | some (.lst l) => 256 - l.length | _ => 0) < (match H' a with | some (.lst l) => 256 - l.length | _ => 0)
          rw [h1, ha]
          show 256 - (NL (pws q e (j + 1))).length < 256 - (NL (pws q e j)).length
          rw [NL_len, NL_len, pws_len, pws_len]; omega
      · have c' : pw q e j = 1 := by have := V.int.inj c; omega
        exact ⟨_, rfl, k a H' j sm na ha hj hjN c' hno⟩
    · rintro σ H' Q1 Q2 kk ⟨v, e1, hs, b, e3, qq⟩
      exact ⟨v, e1, hs, b, e3, kk _ _ qq⟩
def sp_root_powers : Sp := fun vs H Q _ => ∃ q m : Nat, vs = [.int ((2 ^ m - 1 : Nat) : Int), .int q] ∧ Fd m q ∧
  ∀ (a : Addr) H' (r : Nat), Same H H' → H a = none → LeastRoot m q r → H' a = some (.lst (NL (pws q r (2 ^ m - 1)))) → Q (.ref a) H'
theorem ok__root_powers {f f__powers_of : Addr} {fd fd__powers_of : FuncData} (D : Df K mg "_root_powers" ["turn", "modulus"] s__root_powers f fd) (B : Bl mg)
    (D__powers_of : Df K mg "_powers_of" ["e", "modulus"] s__powers_of f__powers_of fd__powers_of) (G__powers_of : FnOk P w K mg base CX0 5 f__powers_of fd__powers_of ["e", "modulus"] sp_powers_of) :
    FnOk P w K mg base CX0 6 f fd ["turn", "modulus"] sp_root_powers := by
  refine D.F.ok sc__root_powers (fun vs H Q E h => ?_) (fun cdv A outer s H vs Q E hr h => ?_)
  · obtain ⟨q, m, rfl, _⟩ := h; rfl
  · obtain ⟨q, m, rfl, F, k⟩ := h
    refine ⟨_, (pss_cons (ps_set (i := 2) sc__root_powers.nd rfl (Or.inl rfl) (pe_nat 2))
      (pss_cons (ps_set (i := 3) sc__root_powers.nd rfl (Or.inl rfl) (pe_call G__powers_of (hr.mono (by decide)) rfl D__powers_of.g D__powers_of.F.kp D__powers_of.b .nil pass0 (pa_cons (pv 2) (pa_cons (pv 1) pa_nil))))
      (pss_cons (ps_while PassesOwn.never (pt_cmpR op_lt (pe_callB call_len_seq (by rfl) B.len PySem.boot_len (pa_cons (pv 3) pa_nil)) (pv 0) (nomark _))
        (pss_cons (ps_aug (i := 2) sc__root_powers.nd rfl (Or.inl rfl) (pe_nat 1) nbi_add)
        (pss_one (ps_set (i := 3) sc__root_powers.nd rfl (Or.inl rfl) (pe_call G__powers_of (hr.mono (by decide)) rfl D__powers_of.g D__powers_of.F.kp D__powers_of.b .nil pass0 (pa_cons (pv 2) (pa_cons (pv 1) pa_nil)))))))
      (pss_one (ps_ret (pv 3)))))), ?_⟩
    obtain ⟨hm4, hm256⟩ := pow_m F
    obtain ⟨r, hR, hleast⟩ := least_ex F
    have hr2 := hR.ge
    have hrl := hR.lt
    have done : ∀ (e k0 : Nat), 2 ≤ e → e ≤ r → 1 ≤ k0 → k0 ≤ 2 ^ m - 1 → pw q e k0 = 1 → (∀ i, 1 ≤ i → i < k0 → pw q e i ≠ 1) → ¬ k0 < 2 ^ m - 1 → e = r ∧ k0 = 2 ^ m - 1 := fun e k0 h1 h2 h3 h4 h5 h6 h7 => by
      have e1 : k0 = 2 ^ m - 1 := by omega
      subst e1
      refine ⟨?_, rfl⟩
      apply Classical.byContradiction
      intro n
      exact hleast e (by omega) ⟨by omega, h1, h5, h6⟩
    refine ⟨_, rfl, _, rfl, 2, q, m, rfl, F, by decide, by omega, fun a H1 k0 s1 na h1 hk1 hk2 hk3 hk4 => ?_⟩
    refine while_by (fun σ H' => ∃ (e : Nat) (b : Addr) (k0 : Nat), σ = [some (.int ((2 ^ m - 1 : Nat) : Int)), some (.int q), some (.int (e : Int)), some (.ref b)] ∧ 2 ≤ e ∧ e ≤ r ∧ Same H H' ∧ H b = none ∧ H' b = some (.lst (NL (pws q e k0))) ∧ 1 ≤ k0 ∧ k0 ≤ 2 ^ m - 1 ∧ pw q e k0 = 1 ∧ ∀ i, 1 ≤ i → i < k0 → pw q e i ≠ 1)
      (fun σ _ => match σ with | [_, _, some (.int e), _] => r - e.toNat | _ => 0) ⟨2, a, k0, rfl, Nat.le_refl _, hr2, s1, na, h1, hk1, hk2, hk3, hk4⟩ ?_ ?_
    · rintro σ H' ⟨e, b, k0, rfl, e2, er, sm, nb, hb, hk1, hk2, hk3, hk4⟩
      refine ⟨_, rfl, b, _, rfl, .inl (SqL.of hb), _, rfl, _, _, rfl, rfl, _, rfl, iteD (fun c => ?_) (fun c => ?_)⟩
      · have c' : k0 < 2 ^ m - 1 := by
          have : ((NL (pws q e k0)).length : Int) < ((2 ^ m - 1 : Nat) : Int) := c
          rw [NL_len, pws_len] at this; omega
        have ne : e ≠ r := fun z => by subst z; exact hR.no k0 hk1 c' hk3
        refine ⟨_, rfl, _, _, rfl, rfl, _, rfl, _, rfl, e + 1, q, m, rfl, F, by omega, by omega, fun a2 H2 k2 s2 na2 g1 g2 g3 g4 g5 => ⟨⟨e + 1, a2, k2, rfl, by omega, by omega, sm.trans s2, sm.free na2, g1, g2, g3, g4, g5⟩, ?_⟩⟩
        show r - (e + 1) < r - e
        omega
      · have c' : ¬ k0 < 2 ^ m - 1 := fun z => c (by
          show ((NL (pws q e k0)).length : Int) < ((2 ^ m - 1 : Nat) : Int)
          rw [NL_len, pws_len]; omega)
        obtain ⟨e1, e3⟩ := done e k0 e2 er hk1 hk2 hk3 hk4 c'
        subst e1 e3
        exact ⟨_, rfl, k b H' e sm nb ⟨hR, hleast⟩ hb⟩
    · rintro σ H' Q1 Q2 kk ⟨v, e1, p, ys, e2, hp, u, e3, i, j, e4, e5, b, e6, qq⟩
      exact ⟨v, e1, p, ys, e2, hp, u, e3, i, j, e4, e5, b, e6, kk _ _ qq⟩
end
section
variable {P : Program} {w : World} {K : PySem.W.Frag} {mg : Str → Option Value} {base : Heap}
open FLD
/-- the attributes of a field -/
def ffl (m q : Nat) (a b : Addr) : List (Str × V) :=
  putF "_logs" (.ref b) (putF "_powers" (.ref a) (putF "_turn" (.int ((2 ^ m - 1 : Nat) : Int)) (putF "_modulus" (.int (q : Int)) (putF "_bits" (.int (m : Int)) []))))
theorem str1 : ¬ (("_bits" : Str) = "_logs") ∧ ¬ (("_bits" : Str) = "_powers") ∧ ¬ (("_bits" : Str) = "_turn") ∧ ¬ (("_bits" : Str) = "_modulus") := by decide +kernel
theorem str2 : ¬ (("_modulus" : Str) = "_logs") ∧ ¬ (("_modulus" : Str) = "_powers") ∧ ¬ (("_modulus" : Str) = "_turn") ∧ ¬ (("_turn" : Str) = "_logs") ∧ ¬ (("_turn" : Str) = "_powers") ∧ ¬ (("_powers" : Str) = "_logs") := by decide +kernel
theorem ffl_eq (m q : Nat) (a b : Addr) : ffl m q a b = ([("_bits", .int (m : Int)), ("_modulus", .int (q : Int)), ("_turn", .int ((2 ^ m - 1 : Nat) : Int)), ("_powers", .ref a), ("_logs", .ref b)] : List (Str × V)) := by
  obtain ⟨a1, a2, a3, a4⟩ := str1
  obtain ⟨b1, b2, b3, b4, b5, b6⟩ := str2
  unfold ffl
  simp only [putF, a1, a2, a3, a4, b1, b2, b3, b4, b5, b6, if_false]
theorem ffl_bits (m q : Nat) (a b : Addr) : (ffl m q a b).lookup ("_bits" : Str) = some (.int (m : Int)) := by
  obtain ⟨a1, a2, a3, a4⟩ := str1
  unfold ffl; simp only [lookup_putF, a1, a2, a3, a4, if_false, if_true]
theorem ffl_modulus (m q : Nat) (a b : Addr) : (ffl m q a b).lookup ("_modulus" : Str) = some (.int (q : Int)) := by
  obtain ⟨b1, b2, b3, b4, b5, b6⟩ := str2
  unfold ffl; simp only [lookup_putF, b1, b2, b3, if_false, if_true]
theorem ffl_turn (m q : Nat) (a b : Addr) : (ffl m q a b).lookup ("_turn" : Str) = some (.int ((2 ^ m - 1 : Nat) : Int)) := by
  obtain ⟨b1, b2, b3, b4, b5, b6⟩ := str2
  unfold ffl; simp only [lookup_putF, b4, b5, if_false, if_true]
theorem ffl_powers (m q : Nat) (a b : Addr) : (ffl m q a b).lookup ("_powers" : Str) = some (.ref a) := by
  obtain ⟨b1, b2, b3, b4, b5, b6⟩ := str2
  unfold ffl; simp only [lookup_putF, b6, if_false, if_true]
theorem ffl_logs (m q : Nat) (a b : Addr) : (ffl m q a b).lookup ("_logs" : Str) = some (.ref b) := by unfold ffl; simp only [lookup_putF, if_true]
theorem ffl_no (m q : Nat) (a b : Addr) {x : Str} (h1 : ¬ x = "_logs") (h2 : ¬ x = "_powers") (h3 : ¬ x = "_turn") (h4 : ¬ x = "_modulus") (h5 : ¬ x = "_bits") : (ffl m q a b).lookup x = none := by
  unfold ffl; simp only [lookup_putF, h1, h2, h3, h4, h5, if_false]; rfl
/-- a field stands at p -/
structure FieldAt (C : Addr) (H : Hp) (p : Addr) (m q r : Nat) : Prop where
  fd : Fd m q
  lr : LeastRoot m q r
  ex : ∃ (dx a b : Addr) (logs : List Nat), H p = some (.ins C dx (ffl m q a b)) ∧ H a = some (.lst (NL (pws q r (2 ^ m - 1)))) ∧ H b = some (.lst (NL logs)) ∧ ∀ k, k < 2 ^ m - 1 → logs[pw q r k]? = some k
theorem FieldAt.mono {C : Addr} {H H' : Hp} {p : Addr} {m q r : Nat} (h : FieldAt C H p m q r) (s : Same H H') : FieldAt C H' p m q r := by
  obtain ⟨dx, a, b, logs, h1, h2, h3, h4⟩ := h.ex
  exact ⟨h.fd, h.lr, dx, a, b, logs, s _ _ h1, s _ _ h2, s _ _ h3, h4⟩
/-- what the top says of the class -/
structure FC (K : PySem.W.Frag) (C : Addr) : Prop where
  cl : Cls K C
  n1 : NoAttr K C "_bits"
  n2 : NoAttr K C "_modulus"
  n3 : NoAttr K C "_turn"
  n4 : NoAttr K C "_powers"
  n5 : NoAttr K C "_logs"
def sp_finit (C C1 C2 : Addr) : Sp := fun vs H Q E => ∃ (p dx : Addr) (m q : Int), vs = [.ref p, .int m, .int q] ∧ H p = some (.ins C dx []) ∧ m.natAbs.log2 < 1920 ∧ q.natAbs.log2 < 1920 ∧ q.natAbs < 2 ^ 64 ∧
  (¬ (2 ≤ m ∧ m ≤ 8) → ∀ d, H d = none → E (.ref C1) (some d) (upd H d (.xd [("at", .int m)]))) ∧
  (2 ≤ m → m ≤ 8 → ¬ (0 ≤ q ∧ Fd m.toNat q.toNat) → ∀ d H', Same H H' → H' d = none → E (.ref C2) (some d) (upd H' d (.xd [("at", .int q)]))) ∧
  (∀ mn qn r : Nat, m = (mn : Int) → q = (qn : Int) → Fd mn qn → ∀ H', (∀ b o, H b = some o → b ≠ p → H' b = some o) → FieldAt C H' p mn qn r → Q .non H')
theorem ok_Field___init__ {f f_degree f_is_irreducible f__root_powers f_init C C_OutOfRange C_NotIrreducible CH : Addr} {fd fd_degree fd_is_irreducible fd__root_powers fd_init : FuncData} (F : Fun K "__init__" "Field.__init__" s_Field___init__ f fd) (B : Bl mg) (T : FC K C)
    (D_degree : Df K mg "degree" ["p"] s_degree f_degree fd_degree) (G_degree : FnOk P w K mg base CX0 1 f_degree fd_degree ["p"] sp_degree)
    (D_is_irreducible : Df K mg "is_irreducible" ["p"] s_is_irreducible f_is_irreducible fd_is_irreducible) (G_is_irreducible : FnOk P w K mg base CX0 5 f_is_irreducible fd_is_irreducible ["p"] sp_irr)
    (D__root_powers : Df K mg "_root_powers" ["turn", "modulus"] s__root_powers f__root_powers fd__root_powers) (G__root_powers : FnOk P w K mg base CX0 6 f__root_powers fd__root_powers ["turn", "modulus"] sp_root_powers)
    (X_OutOfRange : XC K mg "OutOfRange" C_OutOfRange f_init CH) (X_NotIrreducible : XC K mg "NotIrreducible" C_NotIrreducible f_init CH) (G_init : FnOk P w K mg base CX0 1 f_init fd_init ["self", "at"] (sp_init K)) (b_init : Binds K fd_init ["self", "at"] []) :
    FnOk P w K mg base (L2.CX P w) 8 f fd ["self", "m", "modulus"] (sp_finit C C_OutOfRange C_NotIrreducible) := by
  refine F.okX sc_Field___init__ (fun vs H Q E h => ?_) (fun cdv A outer s H vs Q E hr h => ?_)
  · obtain ⟨p, dx, m, q, rfl, _⟩ := h; rfl
  · obtain ⟨p, dx, m, q, rfl, hp, hm, hq, hq64, kM, kN, kQ⟩ := h
    refine ⟨_, (pss_cons (ps_if (PW.pt (pw_or (pt_cmpR op_lt (pv 1) (pe_nat 2) (nomark _)) (pw_or1 (pt_cmpR op_gt (pv 1) (pe_nat 8) (nomark _))))) (pss_one (ps_err rfl X_OutOfRange G_init (hr.mono (by decide)) b_init pass0 (takes_of rfl rfl rfl rfl) (pa_cons (pv 1) pa_nil))) pss_nil)
      (pss_cons (ps_if (PW.pt (pw_or (pt_cmpR op_lt (pv 2) (pe_nat 0) (nomark _)) (pw_or (pt_cmpR op_ne (pe_call G_degree (hr.mono (by decide)) rfl D_degree.g D_degree.F.kp D_degree.b .nil pass0 (pa_cons (pv 2) pa_nil)) (pv 1) (nomark _)) (pw_or1 (pt_not (pt_val (pe_call G_is_irreducible (hr.mono (by decide)) rfl D_is_irreducible.g D_is_irreducible.F.kp D_is_irreducible.b .nil pass0 (pa_cons (pv 2) pa_nil)))))))) (pss_one (ps_err rfl X_NotIrreducible G_init (hr.mono (by decide)) b_init pass0 (takes_of rfl rfl rfl rfl) (pa_cons (pv 2) pa_nil))) pss_nil)
      (pss_cons (ps_fld (pv 0) (pv 1) rfl)
      (pss_cons (ps_fld (pv 0) (pv 2) rfl)
      (pss_cons (ps_fld (pv 0) (pe_op nb_sub (pe_op nb_shl (pe_nat 1) (pv 1)) (pe_nat 1)) rfl)
      (pss_cons (ps_fld (pv 0) (pe_call G__root_powers (hr.mono (by decide)) rfl D__root_powers.g D__root_powers.F.kp D__root_powers.b .nil pass0 (pa_cons (pe_fld (pv 0) rfl) (pa_cons (pv 2) pa_nil))) rfl)
      (pss_cons (ps_fld (pv 0) (pe_op op_rep (pe_lst (pa_cons (pe_nat 0) pa_nil)) (pe_op nb_shl (pe_nat 1) (pv 1))) rfl)
      (pss_one (ps_for (passes_of rfl) rfl (pi_enum rfl B.enumerate (pa_cons (pe_fld (pv 0) rfl) pa_nil)) (pg_tup rfl (pgs_cons (pg_name (i := 3) sc_Field___init__.nd rfl (Or.inl rfl) (Or.inr rfl)) (pgs_cons (pg_name (i := 4) sc_Field___init__.nd rfl (Or.inl rfl) (Or.inr rfl)) pgs_nil)))
        (pss_one (ps_asg (pv 3) (pg_sub (pe_fld (pv 0) rfl) (pv 4) set_list)))))))))))), ?_⟩
    refine ⟨_, rfl, _, _, rfl, rfl, _, rfl, iteD (fun c => ?_) (fun c => ?_)⟩
    · have c' : m < 2 := c
      refine iteT ?_
      exact ⟨_, rfl, m, rfl, hm, fun d hd => kM (by omega) d hd⟩
    have c1 : ¬ m < 2 := c
    refine ⟨_, rfl, _, _, rfl, rfl, _, rfl, iteD (fun c => ?_) (fun c => ?_)⟩
    · have c' : 8 < m := c
      exact ⟨_, rfl, m, rfl, hm, fun d hd => kM (by omega) d hd⟩
    have c2 : ¬ 8 < m := c
    obtain ⟨mn, rfl⟩ := Int.eq_ofNat_of_zero_le (show 0 ≤ m by omega)
    have bad : ¬ (0 ≤ q ∧ Fd mn q.toNat) → ∀ H', Same H H' → tRaise C_NotIrreducible (fun cls d _ H => E cls d H) (tCons (tVar 2) tNil) { nx := fun _ _ => True, rt := fun _ _ => True } [some (.ref p), some (.int (mn : Int)), some (.int q), none, none] H' := fun hb H' sm => ⟨_, rfl, q, rfl, hq, fun d hd => kN (by omega) (by omega) hb d H' sm hd⟩
    refine ⟨_, rfl, _, _, rfl, rfl, _, rfl, iteD (fun c => ?_) (fun c => ?_)⟩
    · have c' : q < 0 := c
      refine iteT ?_
      exact bad (fun z => by omega) H (Same.refl H)
    have c3 : ¬ q < 0 := c
    obtain ⟨qn, rfl⟩ := Int.eq_ofNat_of_zero_le (show 0 ≤ q by omega)
    refine ⟨_, rfl, qn, rfl, _, rfl, rfl, _, rfl, iteN (fun c => ?_) (fun c => ?_)⟩
    · refine bad (fun z => c ?_) H (Same.refl H)
      have hl := z.2.lg
      have h0 := q0 z.2
      have := bits_pos (q := qn) h0
      have hl2 : qn.log2 = mn := hl
      show V.int ((NB.bits qn : Int) - 1) = V.int (mn : Int)
      exact congrArg V.int (by omega)
    have c4 : (NB.bits qn : Int) - 1 = (mn : Int) := V.int.inj c
    have hq0 : qn ≠ 0 := fun z => by subst z; unfold NB.bits at c4; simp at c4
    have hb := bits_pos hq0
    have hlg : qn.log2 = mn := by omega
    have hq131 : qn < 131072 := Nat.lt_of_lt_of_le (bits_lt qn) (Nat.le_trans (Nat.pow_le_pow_right (n := 2) (by decide) (show NB.bits qn ≤ 17 by omega)) (by decide))
    refine ⟨_, rfl, qn, rfl, hq131, fun b H1 hb1 s1 => ⟨b, rfl, ?_⟩⟩
    cases b with
    | false =>
      refine iteT ?_
      exact bad (fun z => nomatch hb1.mpr z.2.irr) H1 s1
    | true =>
      refine iteF ?_
      have FD : Fd mn qn := ⟨by omega, by omega, hb1.mp rfl, hlg⟩
      obtain ⟨hm4, hm256⟩ := pow_m FD
      have hp1 := s1 _ _ hp
      refine ⟨_, rfl, _, rfl, p, C, dx, _, rfl, hp1, T.cl, T.n1, (by show 0 < 1000; decide), ?_⟩
      refine ⟨_, rfl, _, rfl, p, C, dx, _, rfl, upd_same, T.cl, T.n2, (by show 1 < 1000; decide), ?_⟩
      refine ⟨_, rfl, _, _, rfl, rfl, ⟨by decide, by omega⟩, _, _, rfl, rfl, (by show 1 ≤ 2 ^ mn * 1; omega), _, rfl, p, C, dx, _, rfl, upd_same, T.cl, T.n3, (by show 2 < 1000; decide), ?_⟩
      rw [Nat.mul_one]
      refine ⟨_, rfl, p, C, dx, _, _, rfl, upd_same, T.cl, T.n3, rfl, _, rfl, qn, mn, rfl, FD, fun a H2 r s2 na hL ha => ?_⟩
      have hpa : p ≠ a := ne_of_none upd_same na
      have hp2 := s2 _ _ upd_same
      refine ⟨_, rfl, p, C, dx, _, rfl, hp2, T.cl, T.n4, (by show 3 < 1000; decide), ?_⟩
      -- logs
      refine ⟨(by show 1 ≤ sizeLine; decide), fun z nz => ?_⟩
      have hpz : p ≠ z := ne_of_none upd_same nz
      have haz : a ≠ z := ne_of_none (by rw [upd_ne (Ne.symm hpa)]; exact ha) nz
      refine ⟨_, rfl, _, _, rfl, rfl, ⟨by decide, by omega⟩, z, ((2 ^ mn * 1 : Nat) : Int), _, rfl, rfl, upd_same, by omega, by omega, ?_, fun b nb => ?_⟩
      · have : sizeLine = 16777216 := sizeLine_eq
        show 1 * ((2 ^ mn * 1 : Nat) : Int).toNat ≤ sizeLine
        rw [Int.toNat_natCast]; omega
      have hpb : p ≠ b := ne_of_none (by rw [upd_ne hpz]; exact upd_same) nb
      have hab : a ≠ b := ne_of_none (by rw [upd_ne haz, upd_ne (Ne.symm hpa)]; exact ha) nb
      have erep : (List.replicate ((2 ^ mn * 1 : Nat) : Int).toNat [V.int ((0 : Nat) : Int)]).flatten = NL (List.replicate (2 ^ mn) 0) := by
        rw [Int.toNat_natCast, Nat.mul_one]
        generalize 2 ^ mn = n
        induction n with
        | zero => rfl
        | succ n ih => rw [List.replicate_succ, List.flatten_cons, ih, List.replicate_succ, NL_cons]; rfl
      rw [erep]
      refine ⟨_, rfl, p, C, dx, putF "_powers" (.ref a) (putF "_turn" (.int ((2 ^ mn - 1 : Nat) : Int)) (putF "_modulus" (.int (qn : Int)) (putF "_bits" (.int (mn : Int)) []))), rfl, ?_, T.cl, T.n5, (by show 4 < 1000; decide), ?_⟩
      · rw [upd_ne hpb, upd_ne hpz]; exact upd_same
      -- the loop
      refine ⟨_, rfl, p, C, dx, _, _, rfl, upd_same, T.cl, T.n4, ffl_powers mn qn a b, a, NL (pws qn r (2 ^ mn - 1)), rfl, SqL.of ?_, ?_⟩
      · rw [upd_ne (Ne.symm hpa), upd_ne hab, upd_ne haz, upd_ne (Ne.symm hpa)]; exact ha
      have keep : ∀ x o, H x = some o → x ≠ p → (upd (upd (upd (upd H2 p (.ins C dx (putF "_powers" (.ref a) (putF "_turn" (.int ((2 ^ mn - 1 : Nat) : Int)) (putF "_modulus" (.int (qn : Int)) (putF "_bits" (.int (mn : Int)) [])))))) z (.lst [V.int ((0 : Nat) : Int)])) b (.lst (NL (List.replicate (2 ^ mn) 0)))) p (.ins C dx (ffl mn qn a b))) x = some o := fun x o hx hxp => by
        have h1 := s1 _ _ hx
        have h2 : H2 x = some o := s2 _ _ (by rw [upd_ne hxp, upd_ne hxp, upd_ne hxp]; exact h1)
        have h3 : (upd H2 p (.ins C dx (putF "_powers" (.ref a) (putF "_turn" (.int ((2 ^ mn - 1 : Nat) : Int)) (putF "_modulus" (.int (qn : Int)) (putF "_bits" (.int (mn : Int)) [])))))) x = some o := by rw [upd_ne hxp]; exact h2
        have hxz : x ≠ z := ne_of_none h3 nz
        have h4 : (upd (upd H2 p (.ins C dx (putF "_powers" (.ref a) (putF "_turn" (.int ((2 ^ mn - 1 : Nat) : Int)) (putF "_modulus" (.int (qn : Int)) (putF "_bits" (.int (mn : Int)) [])))))) z (.lst [V.int ((0 : Nat) : Int)])) x = some o := by rw [upd_ne hxz]; exact h3
        have hxb : x ≠ b := ne_of_none h4 nb
        rw [upd_ne hxp, upd_ne hxb]; exact h4
      have nbH : ∀ x o, H x = some o → x ≠ p → x ≠ b := fun x o hx hxp hxb => by
        have h1 := s1 _ _ hx
        have h2 : H2 x = some o := s2 _ _ (by rw [upd_ne hxp, upd_ne hxp, upd_ne hxp]; exact h1)
        subst hxb
        rw [upd_ne (ne_of_none (by rw [upd_ne hxp]; exact h2) nz), upd_ne hxp, h2] at nb
        cases nb
      refine for_enumL (K := K) (a := a) (xs := NL (pws qn r (2 ^ mn - 1))) (fun i σ H' => ∃ (logs : List Nat) (v3 v4 : Option V), σ = [some (.ref p), some (.int (mn : Int)), some (.int (qn : Int)), v3, v4] ∧ H' p = some (.ins C dx (ffl mn qn a b)) ∧ H' a = some (.lst (NL (pws qn r (2 ^ mn - 1)))) ∧ H' b = some (.lst (NL logs)) ∧ logs.length = 2 ^ mn ∧
        (∀ k, k < i → logs[pw qn r k]? = some k) ∧ ∀ x o, H x = some o → x ≠ p → H' x = some o) ⟨List.replicate (2 ^ mn) 0, none, none, rfl, upd_same, ?_, ?_, List.length_replicate, fun k hk => by omega, keep⟩ (fun i σ H' _ h => by obtain ⟨logs, v3, v4, _, _, h2, _⟩ := h; exact SqL.of h2) ?_ ?_
      · rw [upd_ne (Ne.symm hpa), upd_ne hab, upd_ne haz, upd_ne (Ne.symm hpa)]; exact ha
      · rw [upd_ne (Ne.symm hpb), upd_same]
      · rintro i x t σ H' hx ⟨logs, v3, v4, rfl, g1, g2, g3, hll, hlk, kp⟩ nt
        obtain ⟨e, he, rfl⟩ := NL_get_inv hx
        have hiN : i < 2 ^ mn - 1 := by have := (List.getElem?_eq_some_iff.mp he).1; rw [pws_len] at this; exact this
        rw [pws_get hiN] at he
        cases he
        have hpl := pw_lt FD r i
        have hpt : p ≠ t := ne_of_none g1 nt
        have hat : a ≠ t := ne_of_none g2 nt
        have hbt : b ≠ t := ne_of_none g3 nt
        refine ⟨t, [_, _], rfl, SqT.of upd_same, rfl, _, _, rfl, _, _, rfl, rfl, ?_⟩
        refine ⟨_, rfl, _, rfl, p, C, dx, _, _, rfl, (by rw [upd_ne hpt]; exact g1), T.cl, T.n5, ffl_logs _ _ _ _, _, rfl, b, _, _, pw qn r i, rfl, rfl, (by rw [upd_ne hbt]; exact g3), ixN_nat (by rw [NL_len]; omega), ?_⟩
        refine ⟨logs.set (pw qn r i) i, _, _, rfl, ?_, ?_, ?_, ?_, ?_, ?_⟩
        · rw [upd_ne hpb, upd_ne hpt]; exact g1
        · rw [upd_ne hab, upd_ne hat]; exact g2
        · rw [upd_same, NL_set]
        · rw [List.length_set]; exact hll
        · intro k hk
          by_cases z : k = i
          · subst z; exact List.getElem?_set_self (by omega)
          · rw [List.getElem?_set_ne (fun w => z (pw_inj FD hL.1 (by omega) hiN w.symm))]
            exact hlk k (by omega)
        · intro y o hy hyp
          have hy1 := kp y o hy hyp
          rw [upd_ne (nbH y o hy hyp), upd_ne (ne_of_none hy1 nt)]
          exact hy1
      · rintro σ H' ⟨logs, v3, v4, rfl, g1, g2, g3, hll, hlk, kp⟩
        rw [NL_len, pws_len] at hlk
        exact kQ mn qn r rfl rfl FD H' kp ⟨FD, hL, dx, a, b, logs, g1, g2, g3, hlk⟩
end
section
variable {P : Program} {w : World} {K : PySem.W.Frag} {mg : Str → Option Value} {base : Heap}
open FLD
/-- what a method of a field asks and says: the field at p, two numbers of it -/
def sp_fbits (C : Addr) : Sp := fun vs H Q _ => ∃ (p : Addr) (m q r : Nat), vs = [.ref p] ∧ FieldAt C H p m q r ∧ Q (.int (m : Int)) H
def sp_fmodulus (C : Addr) : Sp := fun vs H Q _ => ∃ (p : Addr) (m q r : Nat), vs = [.ref p] ∧ FieldAt C H p m q r ∧ Q (.int (q : Int)) H
def sp_fsize (C : Addr) : Sp := fun vs H Q _ => ∃ (p : Addr) (m q r : Nat), vs = [.ref p] ∧ FieldAt C H p m q r ∧ Q (.int ((2 ^ m : Nat) : Int)) H
def sp_froot (C : Addr) : Sp := fun vs H Q _ => ∃ (p : Addr) (m q r : Nat), vs = [.ref p] ∧ FieldAt C H p m q r ∧ Q (.int (r : Int)) H
def sp_fadd : Sp := fun vs H Q _ => ∃ (p : Addr) (e f : Nat), vs = [.ref p, .int (e : Int), .int (f : Int)] ∧ Q (.int ((e ^^^ f : Nat) : Int)) H
def sp_ftimes (C : Addr) : Sp := fun vs H Q _ => ∃ (p : Addr) (e f m q r : Nat), vs = [.ref p, .int (e : Int), .int (f : Int)] ∧ FieldAt C H p m q r ∧ e < 2 ^ m ∧ f < 2 ^ m ∧ Q (.int ((mulm q e f : Nat) : Int)) H
/-- the error of the element 0 -/
def noInv (C3 : Addr) (H : Hp) (E : XK) : Prop := ∀ d, H d = none → E (.ref C3) (some d) (upd H d (.xd [("at", .int 0)]))
def sp_flog (C C3 : Addr) : Sp := fun vs H Q E => ∃ (p : Addr) (e m q r : Nat), vs = [.ref p, .int (e : Int)] ∧ FieldAt C H p m q r ∧ e < 2 ^ m ∧ (e = 0 → noInv C3 H E) ∧ ∀ j, j < 2 ^ m - 1 → pw q r j = e → Q (.int (j : Int)) H
def sp_finverse (C C3 : Addr) : Sp := fun vs H Q E => ∃ (p : Addr) (e m q r : Nat), vs = [.ref p, .int (e : Int)] ∧ FieldAt C H p m q r ∧ e < 2 ^ m ∧ (e = 0 → noInv C3 H E) ∧ ∀ v, v < 2 ^ m → v ≠ 0 → mulm q v e = 1 → Q (.int (v : Int)) H
def sp_fpower (C C3 : Addr) : Sp := fun vs H Q E => ∃ (p : Addr) (e m q r : Nat) (k : Int), vs = [.ref p, .int (e : Int), .int k] ∧ FieldAt C H p m q r ∧ e < 2 ^ m ∧ (e = 0 → k = 0 → Q (.int 1) H) ∧ (e = 0 → 0 < k → Q (.int 0) H) ∧ (e = 0 → k < 0 → noInv C3 H E) ∧
  ∀ j, j < 2 ^ m - 1 → pw q r j = e → Q (.int ((pw q r (((j : Int) * k) % ((2 ^ m - 1 : Nat) : Int)).toNat : Nat) : Int)) H
def sp_forder (C C3 : Addr) : Sp := fun vs H Q E => ∃ (p : Addr) (e m q r : Nat), vs = [.ref p, .int (e : Int)] ∧ FieldAt C H p m q r ∧ e < 2 ^ m ∧ (e = 0 → noInv C3 H E) ∧ ∀ j, j < 2 ^ m - 1 → pw q r j = e → Q (.int (((2 ^ m - 1) / Nat.gcd (2 ^ m - 1) j : Nat) : Int)) H
theorem ok_Field_modulus {f C : Addr} {fd : FuncData} (F : Fun K "modulus" "Field.modulus" s_Field_modulus f fd) (T : FC K C) : FnOk P w K mg base CX0 1 f fd ["self"] (sp_fmodulus C) := by
  refine F.ok sc_Field_modulus (fun vs H Q E h => ?_) (fun cdv A outer s H vs Q E hr h => ?_)
  · obtain ⟨p, m, q, r, rfl, _⟩ := h; rfl
  · obtain ⟨p, m, q, r, rfl, FA, k⟩ := h
    obtain ⟨dx, a, b, logs, h1, h2, h3, h4⟩ := FA.ex
    exact ⟨_, (pss_one (ps_ret (pe_fld (pv 0) rfl))), _, rfl, p, C, dx, _, _, rfl, h1, T.cl, T.n2, ffl_modulus _ _ _ _, k⟩
theorem ok_Field_size {f C : Addr} {fd : FuncData} (F : Fun K "size" "Field.size" s_Field_size f fd) (T : FC K C) : FnOk P w K mg base CX0 1 f fd ["self"] (sp_fsize C) := by
  refine F.ok sc_Field_size (fun vs H Q E h => ?_) (fun cdv A outer s H vs Q E hr h => ?_)
  · obtain ⟨p, m, q, r, rfl, _⟩ := h; rfl
  · obtain ⟨p, m, q, r, rfl, FA, k⟩ := h
    obtain ⟨dx, a, b, logs, h1, h2, h3, h4⟩ := FA.ex
    refine ⟨_, (pss_one (ps_ret (pe_op nb_add (pe_fld (pv 0) rfl) (pe_nat 1)))), ?_⟩
    refine ⟨_, rfl, p, C, dx, _, _, rfl, h1, T.cl, T.n3, ffl_turn _ _ _ _, _, _, rfl, rfl, ?_⟩
    have := (pow_m FA.fd).1
    have k2 : Q (.int ((2 ^ m - 1 + 1 : Nat) : Int)) H := by rw [show 2 ^ m - 1 + 1 = 2 ^ m by omega]; exact k
    exact k2
theorem ok_Field_add {f : Addr} {fd : FuncData} (F : Fun K "add" "Field.add" s_Field_add f fd) : FnOk P w K mg base CX0 1 f fd ["self", "e", "f"] sp_fadd := by
  refine F.ok sc_Field_add (fun vs H Q E h => ?_) (fun cdv A outer s H vs Q E hr h => ?_)
  · obtain ⟨p, e, f, rfl, _⟩ := h; rfl
  · obtain ⟨p, e, f, rfl, k⟩ := h
    exact ⟨_, (pss_one (ps_ret (pe_op nb_xor (pv 1) (pv 2)))), _, rfl, _, rfl, _, _, rfl, rfl, k⟩
theorem ok_Field_root {f C : Addr} {fd : FuncData} (F : Fun K "root" "Field.root" s_Field_root f fd) (T : FC K C) : FnOk P w K mg base CX0 1 f fd ["self"] (sp_froot C) := by
  refine F.ok sc_Field_root (fun vs H Q E h => ?_) (fun cdv A outer s H vs Q E hr h => ?_)
  · obtain ⟨p, m, q, r, rfl, _⟩ := h; rfl
  · obtain ⟨p, m, q, r, rfl, FA, k⟩ := h
    obtain ⟨dx, a, b, logs, h1, h2, h3, h4⟩ := FA.ex
    have h5 := (pow_m FA.fd).1
    refine ⟨_, (pss_one (ps_ret (pe_ix ix_list (pe_fld (pv 0) rfl) (pe_nat 1) (fun _ _ => rfl)))), ?_⟩
    refine ⟨_, rfl, p, C, dx, _, _, rfl, h1, T.cl, T.n4, ffl_powers _ _ _ _, a, _, _, _, rfl, rfl, SqL.of h2, NL_at0 (pws_get (i := 1) (by omega)), ?_⟩
    rw [pw_first FA.fd FA.lr.1.lt]
    exact k
theorem ok_Field_times {f C : Addr} {fd : FuncData} (F : Fun K "times" "Field.times" s_Field_times f fd) (T : FC K C) : FnOk P w K mg base CX0 1 f fd ["self", "e", "f"] (sp_ftimes C) := by
  refine F.ok sc_Field_times (fun vs H Q E h => ?_) (fun cdv A outer s H vs Q E hr h => ?_)
  · obtain ⟨p, e, f, m, q, r, rfl, _⟩ := h; rfl
  · obtain ⟨p, e, f, m, q, r, rfl, FA, he, hf, k⟩ := h
    obtain ⟨dx, a, b, logs, h1, h2, h3, h4⟩ := FA.ex
    have hm := (pow_m FA.fd).1
    refine ⟨_, (pss_cons (ps_if (PW.pt (pw_or (pt_cmpR op_eq (pv 1) (pe_nat 0) (nomark _)) (pw_or1 (pt_cmpR op_eq (pv 2) (pe_nat 0) (nomark _))))) (pss_one (ps_ret (pe_nat 0))) pss_nil)
      (pss_one (ps_ret (pe_ix ix_list (pe_fld (pv 0) rfl) (pe_op nb_mod (pe_op nb_add (pe_ix ix_list (pe_fld (pv 0) rfl) (pv 1) (fun _ _ => rfl)) (pe_ix ix_list (pe_fld (pv 0) rfl) (pv 2) (fun _ _ => rfl))) (pe_fld (pv 0) rfl)) (fun _ _ => rfl))))), ?_⟩
    refine ⟨_, rfl, rfl, _, rfl, iteD (fun c => ?_) (fun c => ?_)⟩
    · have e0 : e = 0 := by have := V.int.inj c; omega
      subst e0
      rw [zero_mulm FA.fd] at k
      exact iteT k
    · have e0 : e ≠ 0 := fun z => c (by rw [z])
      refine ⟨_, rfl, rfl, _, rfl, iteD (fun c => ?_) (fun c => ?_)⟩
      · have f0 : f = 0 := by have := V.int.inj c; omega
        subst f0
        rw [mulm_zero FA.fd] at k
        exact k
      · have f0 : f ≠ 0 := fun z => c (by rw [z])
        obtain ⟨i, hi, rfl⟩ := log_ex FA.fd FA.lr.1 e0 he
        obtain ⟨j, hj, rfl⟩ := log_ex FA.fd FA.lr.1 f0 hf
        refine ⟨_, rfl, p, C, dx, _, _, rfl, h1, T.cl, T.n4, ffl_powers _ _ _ _, _, rfl, p, C, dx, _, _, rfl, h1, T.cl, T.n5, ffl_logs _ _ _ _, _, rfl, b, _, _, _, rfl, rfl, SqL.of h3, NL_at0 (h4 i hi),
          _, rfl, p, C, dx, _, _, rfl, h1, T.cl, T.n5, ffl_logs _ _ _ _, _, rfl, b, _, _, _, rfl, rfl, SqL.of h3, NL_at0 (h4 j hj), _, _, rfl, rfl, _, rfl, p, C, dx, _, _, rfl, h1, T.cl, T.n3, ffl_turn _ _ _ _, _, _, rfl, rfl, ?_, a, _, _, _, rfl, rfl, SqL.of h2, NL_at0 (pws_get (i := (i + j) % (2 ^ m - 1)) (Nat.mod_lt _ (by omega))), ?_⟩
        · show 0 < 2 ^ m - 1; omega
        · rw [← pw_mod FA.fd FA.lr.1, pw_add FA.fd]
          exact k
theorem ok_Field_log {f f_init C C_NoInverse CH : Addr} {fd fd_init : FuncData} (F : Fun K "log" "Field.log" s_Field_log f fd) (T : FC K C)
    (X_NoInverse : XC K mg "NoInverse" C_NoInverse f_init CH) (G_init : FnOk P w K mg base CX0 1 f_init fd_init ["self", "at"] (sp_init K)) (b_init : Binds K fd_init ["self", "at"] []) : FnOk P w K mg base (L2.CX P w) 3 f fd ["self", "e"] (sp_flog C C_NoInverse) := by
  refine F.okX sc_Field_log (fun vs H Q E h => ?_) (fun cdv A outer s H vs Q E hr h => ?_)
  · obtain ⟨p, e, m, q, r, rfl, _⟩ := h; rfl
  · obtain ⟨p, e, m, q, r, rfl, FA, he, k0, k⟩ := h
    obtain ⟨dx, a, b, logs, h1, h2, h3, h4⟩ := FA.ex
    refine ⟨_, (pss_cons (ps_if (pt_cmpR op_eq (pv 1) (pe_nat 0) (nomark _)) (pss_one (ps_err rfl X_NoInverse G_init (hr.mono (by decide)) b_init pass0 (takes_of rfl rfl rfl rfl) (pa_cons (pe_nat 0) pa_nil))) pss_nil)
      (pss_one (ps_ret (pe_ix ix_list (pe_fld (pv 0) rfl) (pv 1) (fun _ _ => rfl))))), ?_⟩
    refine ⟨_, rfl, rfl, _, rfl, iteD (fun c => ?_) (fun c => ?_)⟩
    · have e0 : e = 0 := by have := V.int.inj c; omega
      exact ⟨0, rfl, by decide, fun d hd => k0 e0 d hd⟩
    · have e0 : e ≠ 0 := fun z => c (by rw [z])
      obtain ⟨i, hi, rfl⟩ := log_ex FA.fd FA.lr.1 e0 he
      exact ⟨_, rfl, p, C, dx, _, _, rfl, h1, T.cl, T.n5, ffl_logs _ _ _ _, _, rfl, b, _, _, _, rfl, rfl, SqL.of h3, NL_at0 (h4 i hi), k i hi rfl⟩
theorem flog_no (m q : Nat) (a b : Addr) : (ffl m q a b).lookup ("log" : Str) = none := ffl_no m q a b (by decide +kernel) (by decide +kernel) (by decide +kernel) (by decide +kernel) (by decide +kernel)
theorem ok_Field_inverse {f f_Field_log C C_NoInverse : Addr} {fd fd_Field_log : FuncData} (F : Fun K "inverse" "Field.inverse" s_Field_inverse f fd) (T : FC K C)
    (M_Field_log : Meth K C "log" f_Field_log) (b_Field_log : Binds K fd_Field_log ["self", "e"] []) (G_Field_log : FnOk P w K mg base (L2.CX P w) 3 f_Field_log fd_Field_log ["self", "e"] (sp_flog C C_NoInverse)) :
    FnOk P w K mg base (L2.CX P w) 4 f fd ["self", "e"] (sp_finverse C C_NoInverse) := by
  refine F.okX sc_Field_inverse (fun vs H Q E h => ?_) (fun cdv A outer s H vs Q E hr h => ?_)
  · obtain ⟨p, e, m, q, r, rfl, _⟩ := h; rfl
  · obtain ⟨p, e, m, q, r, rfl, FA, he, k0, k⟩ := h
    obtain ⟨dx, a, b, logs, h1, h2, h3, h4⟩ := FA.ex
    have hm := (pow_m FA.fd).1
    have K_Field := T.cl
    refine ⟨_, (pss_one (ps_ret (pe_ix ix_list (pe_fld (pv 0) rfl) (pe_op nb_modI (pe_un un_neg (pe_mtS (pv 0) K_Field M_Field_log G_Field_log (hr.mono (by decide)) b_Field_log (fun σ => passAt (W := fun cls d _ H => E cls d H) (takes_of rfl rfl rfl rfl) σ) (by exact (pa_cons (pv 1) pa_nil)))) (pe_fld (pv 0) rfl)) (fun _ _ => rfl)))), ?_⟩
    refine ⟨_, rfl, p, C, dx, _, _, rfl, h1, T.cl, T.n4, ffl_powers _ _ _ _, _, rfl, p, dx, _, rfl, h1, flog_no _ _ _ _, _, rfl, p, e, m, q, r, rfl, FA, he, k0, fun j hj ej => ?_⟩
    have hN : (0 : Int) < ((2 ^ m - 1 : Nat) : Int) := by omega
    have hlt := Int.emod_lt_of_pos (-(j : Int)) hN
    have hnn := Int.emod_nonneg (-(j : Int)) (show ((2 ^ m - 1 : Nat) : Int) ≠ 0 by omega)
    refine ⟨_, rfl, _, rfl, p, C, dx, _, _, rfl, h1, T.cl, T.n3, ffl_turn _ _ _ _, _, _, rfl, rfl, by omega, a, _, _, _, rfl, rfl, SqL.of h2, NL_at0 (pws_get (i := (-(j : Int) % ((2 ^ m - 1 : Nat) : Int)).toNat) (by omega)), ?_⟩
    refine k _ (pw_lt FA.fd r _) (pw_ne FA.fd FA.lr.1.lt (r0 FA.fd FA.lr.1) _) ?_
    rw [← ej, ← pw_add FA.fd, pw_one_iff FA.fd FA.lr.1]
    have hd : ((2 ^ m - 1 : Nat) : Int) ∣ (-(j : Int) % ((2 ^ m - 1 : Nat) : Int)) + (j : Int) := by
      have := Int.emod_add_mul_ediv (-(j : Int)) ((2 ^ m - 1 : Nat) : Int)
      exact ⟨-(-(j : Int) / ((2 ^ m - 1 : Nat) : Int)), by rw [Int.mul_neg]; omega⟩
    have e2 : (((-(j : Int) % ((2 ^ m - 1 : Nat) : Int)).toNat + j : Nat) : Int) = (-(j : Int) % ((2 ^ m - 1 : Nat) : Int)) + (j : Int) := by omega
    rw [← e2] at hd
    exact Int.natCast_dvd_natCast.mp hd
theorem ok_Field_power {f f_Field_log C C_NoInverse : Addr} {fd fd_Field_log : FuncData} (F : Fun K "power" "Field.power" s_Field_power f fd) (T : FC K C)
    (M_Field_log : Meth K C "log" f_Field_log) (b_Field_log : Binds K fd_Field_log ["self", "e"] []) (G_Field_log : FnOk P w K mg base (L2.CX P w) 3 f_Field_log fd_Field_log ["self", "e"] (sp_flog C C_NoInverse)) :
    FnOk P w K mg base (L2.CX P w) 4 f fd ["self", "e", "k"] (sp_fpower C C_NoInverse) := by
  refine F.okX sc_Field_power (fun vs H Q E h => ?_) (fun cdv A outer s H vs Q E hr h => ?_)
  · obtain ⟨p, e, m, q, r, kk, rfl, _⟩ := h; rfl
  · obtain ⟨p, e, m, q, r, kk, rfl, FA, he, k1, k2, k3, k⟩ := h
    obtain ⟨dx, a, b, logs, h1, h2, h3, h4⟩ := FA.ex
    have hm := (pow_m FA.fd).1
    have K_Field := T.cl
    refine ⟨_, (pss_cons (ps_if (pt_cmpR op_eq (pv 2) (pe_nat 0) (nomark _)) (pss_one (ps_ret (pe_nat 1))) pss_nil)
      (pss_cons (ps_if (PW.pt (pw_and (pt_cmpR op_eq (pv 1) (pe_nat 0) (nomark _)) (pw_and1 (pt_cmpR op_gt (pv 2) (pe_nat 0) (nomark _))))) (pss_one (ps_ret (pe_nat 0))) pss_nil)
      (pss_one (ps_ret (pe_ix ix_list (pe_fld (pv 0) rfl) (pe_op nb_modI (pe_op op_mul (pe_mtS (pv 0) K_Field M_Field_log G_Field_log (hr.mono (by decide)) b_Field_log (fun σ => passAt (W := fun cls d _ H => E cls d H) (takes_of rfl rfl rfl rfl) σ) (by exact (pa_cons (pv 1) pa_nil))) (pv 2)) (pe_fld (pv 0) rfl)) (fun _ _ => rfl)))))), ?_⟩
    refine ⟨_, rfl, rfl, _, rfl, iteD (fun c => ?_) (fun c => ?_)⟩
    · have e0 : kk = 0 := V.int.inj c
      subst e0
      by_cases e1 : e = 0
      · exact k1 e1 rfl
      · obtain ⟨i, hi, ei⟩ := log_ex FA.fd FA.lr.1 e1 he
        have := k i hi ei
        rw [Int.mul_zero, Int.zero_emod] at this
        exact this
    · have kn : kk ≠ 0 := fun z => c (by rw [z]; rfl)
      have hN : (0 : Int) < ((2 ^ m - 1 : Nat) : Int) := by omega
      refine ⟨_, rfl, rfl, _, rfl, iteD (fun c2 => ?_) (fun c2 => ?_)⟩
      · have e0 : e = 0 := by have := V.int.inj c2; omega
        refine ⟨_, rfl, _, _, rfl, rfl, _, rfl, iteD (fun c3 => ?_) (fun c3 => ?_)⟩
        · exact k2 e0 c3
        · have c4 : ¬ (0 : Int) < kk := c3
          exact ⟨_, rfl, p, C, dx, _, _, rfl, h1, T.cl, T.n4, ffl_powers _ _ _ _, _, rfl, p, dx, _, rfl, h1, flog_no _ _ _ _, _, rfl, p, e, m, q, r, rfl, FA, he, fun z => k3 z (by omega), fun j hj ej => absurd (ej.trans e0) (pw_ne FA.fd FA.lr.1.lt (r0 FA.fd FA.lr.1) _)⟩
      · have e0 : e ≠ 0 := fun z => c2 (by rw [z])
        refine iteF ?_
        refine ⟨_, rfl, p, C, dx, _, _, rfl, h1, T.cl, T.n4, ffl_powers _ _ _ _, _, rfl, p, dx, _, rfl, h1, flog_no _ _ _ _, _, rfl, p, e, m, q, r, rfl, FA, he, fun z => absurd z e0, fun j hj ej => ?_⟩
        have hlt := Int.emod_lt_of_pos ((j : Int) * kk) hN
        have hnn := Int.emod_nonneg ((j : Int) * kk) (show ((2 ^ m - 1 : Nat) : Int) ≠ 0 by omega)
        have hj2 := (pow_m FA.fd).2
        exact ⟨_, rfl, _, _, rfl, rfl, .inl ⟨by omega, by omega⟩, _, rfl, p, C, dx, _, _, rfl, h1, T.cl, T.n3, ffl_turn _ _ _ _, _, _, rfl, rfl, by omega, a, _, _, _, rfl, rfl, SqL.of h2, NL_at0 (pws_get (i := ((j : Int) * kk % ((2 ^ m - 1 : Nat) : Int)).toNat) (by omega)), k j hj ej⟩
end
end K02
namespace K02
open PySem PySem.Spec L2 NB ER MKX
abbrev s_trimmed : Stmt := top 9
theorem sc_trimmed : FnScope ["coefficients", "size"] ["coefficients"] (defScope s_trimmed) := ⟨rfl, rfl, rfl, by decide +kernel, rfl, by decide +kernel, by decide +kernel⟩
abbrev s_add : Stmt := top 10
theorem sc_add : FnScope ["field", "p", "q", "size", "longer_p", "longer_q", "e", "f"] ["field", "p", "q"] (defScope s_add) := ⟨rfl, rfl, rfl, by decide +kernel, rfl, by decide +kernel, by decide +kernel⟩
abbrev s_times_polys : Stmt := top 11
theorem sc_times_polys : FnScope ["field", "p", "q", "total", "i", "e", "j", "f"] ["field", "p", "q"] (defScope s_times_polys) := ⟨rfl, rfl, rfl, by decide +kernel, rfl, by decide +kernel, by decide +kernel⟩
abbrev s_scaled : Stmt := top 13
theorem sc_scaled : FnScope ["field", "p", "e", "f"] ["field", "p", "e"] (defScope s_scaled) := ⟨rfl, rfl, rfl, by decide +kernel, rfl, by decide +kernel, by decide +kernel⟩
abbrev s_value : Stmt := top 16
theorem sc_value : FnScope ["field", "p", "e", "total", "f"] ["field", "p", "e"] (defScope s_value) := ⟨rfl, rfl, rfl, by decide +kernel, rfl, by decide +kernel, by decide +kernel⟩
abbrev s_divide_polys : Stmt := top 14
theorem sc_divide_polys : FnScope ["field", "p", "q", "divisor", "rest", "inverse", "quotient", "shift", "factor", "i", "e"] ["field", "p", "q"] (defScope s_divide_polys) := ⟨rfl, rfl, rfl, by decide +kernel, rfl, by decide +kernel, by decide +kernel⟩
abbrev s_slope : Stmt := top 17
theorem sc_slope : FnScope ["p", "i", "e"] ["p"] (defScope s_slope) := ⟨rfl, rfl, rfl, by decide +kernel, rfl, by decide +kernel, by decide +kernel⟩
abbrev s__law_modulus : Stmt := top 39
theorem sc__law_modulus : FnScope ["m", "drawn", "found", "p"] ["m", "drawn"] (defScope s__law_modulus) := ⟨rfl, rfl, rfl, by decide +kernel, rfl, by decide +kernel, by decide +kernel⟩
abbrev s__law_product : Stmt := top 40
theorem sc__law_product : FnScope ["modulus", "e", "f"] ["modulus", "e", "f"] (defScope s__law_product) := ⟨rfl, rfl, rfl, by decide +kernel, rfl, by decide +kernel, by decide +kernel⟩
abbrev s__law_inverse : Stmt := top 42
theorem sc__law_inverse : FnScope ["m", "modulus", "e", "f"] ["m", "modulus", "e"] (defScope s__law_inverse) := ⟨rfl, rfl, rfl, by decide +kernel, rfl, by decide +kernel, by decide +kernel⟩
abbrev s__law_trim : Stmt := top 43
theorem sc__law_trim : FnScope ["poly", "size", "k"] ["poly"] (defScope s__law_trim) := ⟨rfl, rfl, rfl, by decide +kernel, rfl, by decide +kernel, by decide +kernel⟩
abbrev s__law_plus : Stmt := top 44
theorem sc__law_plus : FnScope ["p", "q", "size", "k"] ["p", "q"] (defScope s__law_plus) := ⟨rfl, rfl, rfl, by decide +kernel, rfl, by decide +kernel, by decide +kernel⟩
abbrev s__law_mul : Stmt := top 45
theorem sc__law_mul : FnScope ["modulus", "p", "q", "total", "i", "j"] ["modulus", "p", "q"] (defScope s__law_mul) := ⟨rfl, rfl, rfl, by decide +kernel, rfl, by decide +kernel, by decide +kernel⟩
abbrev s__law_at_point : Stmt := top 46
theorem sc__law_at_point : FnScope ["modulus", "p", "e", "total", "k"] ["modulus", "p", "e"] (defScope s__law_at_point) := ⟨rfl, rfl, rfl, by decide +kernel, rfl, by decide +kernel, by decide +kernel⟩
abbrev s__law_over : Stmt := top 47
theorem sc__law_over : FnScope ["m", "modulus", "p", "q", "rest", "whole", "factor", "turn", "shift", "lead"] ["m", "modulus", "p", "q"] (defScope s__law_over) := ⟨rfl, rfl, rfl, by decide +kernel, rfl, by decide +kernel, by decide +kernel⟩
abbrev s__law_poly : Stmt := top 48
theorem sc__law_poly : FnScope ["numbers", "at", "m", "size", "k"] ["numbers", "at", "m"] (defScope s__law_poly) := ⟨rfl, rfl, rfl, by decide +kernel, rfl, by decide +kernel, by decide +kernel⟩
abbrev s__law_slope : Stmt := top 49
theorem sc__law_slope : FnScope ["p", "k"] ["p"] (defScope s__law_slope) := ⟨rfl, rfl, rfl, by decide +kernel, rfl, by decide +kernel, by decide +kernel⟩
abbrev s__law_division : Stmt := top 50
theorem sc__law_division : FnScope ["field", "m", "modulus", "p", "q", "error"] ["field", "m", "modulus", "p", "q"] (defScope s__law_division) := ⟨rfl, rfl, rfl, by decide +kernel, rfl, by decide +kernel, by decide +kernel⟩
abbrev s_law : Stmt := top 51
theorem sc_law : FnScope ["script", "numbers", "m", "modulus", "field", "p", "q", "kept", "e", "row", "told"] ["script"] (defScope s_law) := ⟨rfl, rfl, rfl, by decide +kernel, rfl, by decide +kernel, by decide +kernel⟩
section
variable {P : Program} {w : World} {K : PySem.W.Frag} {mg : Str → Option Value} {base : Heap}
open FLD PLY
theorem fno4 (m q : Nat) (a b : Addr) : (ffl m q a b).lookup ("inverse" : Str) = none ∧ (ffl m q a b).lookup ("add" : Str) = none ∧ (ffl m q a b).lookup ("times" : Str) = none ∧ (ffl m q a b).lookup ("size" : Str) = none := by
  refine ⟨?_, ?_, ?_, ?_⟩ <;> exact ffl_no m q a b (by decide +kernel) (by decide +kernel) (by decide +kernel) (by decide +kernel) (by decide +kernel)
/-- the class Field with the methods that are used -/
structure FN (P : Program) (w : World) (K : PySem.W.Frag) (mg : Str → Option Value) (base : Heap) (C C3 : Addr) : Prop where
  fc : FC K C
  size : ∃ f fd, Meth K C "size" f ∧ Binds K fd ["self"] [] ∧ FnOk P w K mg base CX0 1 f fd ["self"] (sp_fsize C)
  add : ∃ f fd, Meth K C "add" f ∧ Binds K fd ["self", "e", "f"] [] ∧ FnOk P w K mg base CX0 1 f fd ["self", "e", "f"] sp_fadd
  times : ∃ f fd, Meth K C "times" f ∧ Binds K fd ["self", "e", "f"] [] ∧ FnOk P w K mg base CX0 1 f fd ["self", "e", "f"] (sp_ftimes C)
  inverse : ∃ f fd, Meth K C "inverse" f ∧ Binds K fd ["self", "e"] [] ∧ FnOk P w K mg base (L2.CX P w) 4 f fd ["self", "e"] (sp_finverse C C3)
/-- a new list of the polynomial p -/
def NewL (H H' : Hp) (l : Addr) (p : List Nat) : Prop := Same H H' ∧ H l = none ∧ H' l = some (.lst (NL p))
def sp_trimmed (K : PySem.W.Frag) : Sp := fun vs H Q _ => ∃ (a : Addr) (p : List Nat), vs = [.ref a] ∧ SqL K H a (NL p) ∧ p.length ≤ 1000 ∧ ∀ l H', NewL H H' l (trim p) → Q (.ref l) H'
theorem NL_take (p : List Nat) (s : Nat) : cutV (NL p) none (some (s : Int)) = NL (p.take s) := by rw [cut_to]; unfold NL; rw [List.map_take]
theorem ok_trimmed {f : Addr} {fd : FuncData} (D : Df K mg "trimmed" ["coefficients"] s_trimmed f fd) (B : Bl mg) : FnOk P w K mg base CX0 1 f fd ["coefficients"] (sp_trimmed K) := by
  refine D.F.ok sc_trimmed (fun vs H Q E h => ?_) (fun cdv A outer s H vs Q E hr h => ?_)
  · obtain ⟨a, p, rfl, _⟩ := h; rfl
  · obtain ⟨a, p, rfl, hS, hl, k⟩ := h
    refine ⟨_, (pss_cons (ps_set (i := 1) sc_trimmed.nd rfl (Or.inl rfl) (pe_callB call_len_seq (by rfl) B.len PySem.boot_len (pa_cons (pv 0) pa_nil)))
      (pss_cons (ps_while PassesOwn.never (PW.pt (pw_and (pt_cmpR op_gt (pv 1) (pe_nat 0) (nomark _)) (pw_and1 (pt_cmpR op_eq (pe_ix ix_list (pv 0) (pe_op nb_sub (pv 1) (pe_nat 1)) (fun _ _ => rfl)) (pe_nat 0) (nomark _)))))
        (pss_one (ps_aug (i := 1) sc_trimmed.nd rfl (Or.inl rfl) (pe_nat 1) ip_sub)))
      (pss_one (ps_ret (pe_slice sl_list (pv 0) po_none (po_some (pv 1))))))), ?_⟩
    refine ⟨_, rfl, a, _, rfl, .inl hS, ?_⟩
    refine while_by (fun σ H' => ∃ s : Nat, σ = [some (.ref a), some (.int (s : Int))] ∧ s ≤ p.length ∧ (∀ i, s ≤ i → i < p.length → p[i]? = some 0) ∧ H' = H)
      (fun σ _ => match σ with | [_, some (.int e)] => e.toNat | _ => 0) ⟨p.length, by rw [NL_len]; rfl, Nat.le_refl _, fun i h1 h2 => by omega, rfl⟩ ?_ ?_
    · rintro σ H' ⟨s, rfl, h1, h2, rfl⟩
      have fin : (s = 0 ∨ ∃ c, p[s - 1]? = some c ∧ c ≠ 0) → trim p = p.take s := fun h3 => by unfold trim; rw [← tl_only h1 h2 h3]
      have ret : (s = 0 ∨ ∃ c, p[s - 1]? = some c ∧ c ≠ 0) → tRet (tSl (rSlL K) (tVar 0) tNoPart (tPart (tVar 1))) { nx := fun _ H' => Q .non H', rt := Q } [some (.ref a), some (.int (s : Int))] H' := fun h3 => by
        refine ⟨_, rfl, _, rfl, (s : Int), rfl, a, _, rfl, hS, fun c nc => k c _ ⟨same_upd nc, nc, ?_⟩⟩
        rw [upd_same, NL_take, fin h3]
      refine ⟨_, rfl, _, _, rfl, rfl, _, rfl, iteD (fun c => ?_) (fun c => ?_)⟩
      · have c' : 0 < s := by have : (0 : Int) < (s : Int) := c; omega
        obtain ⟨d, hd⟩ : ∃ d, p[s - 1]? = some d := ⟨_, List.getElem?_eq_getElem (by omega)⟩
        refine ⟨_, rfl, _, rfl, _, _, rfl, rfl, c', a, _, _, _, rfl, rfl, hS, NL_at0 hd, rfl, _, rfl, iteD (fun z => ?_) (fun z => ?_)⟩
        · have z' : d = 0 := by have := V.int.inj z; omega
          subst z'
          refine ⟨_, rfl, _, _, rfl, rfl, ⟨s - 1, ?_, by omega, fun i g1 g2 => ?_, rfl⟩, ?_⟩
          · show [some (V.ref a), some (V.int ((s : Int) - ((1 : Nat) : Int)))] = [some (V.ref a), some (V.int ((s - 1 : Nat) : Int))]
            rw [Int.natCast_sub c']
          · by_cases e : i = s - 1
            · rw [e]; exact hd
            · exact h2 i (by omega) g2
          · show ((s : Int) - ((1 : Nat) : Int)).toNat < ((s : Int)).toNat
            omega
        · have z' : d ≠ 0 := fun w => z (by rw [w])
          exact ret (.inr ⟨d, hd, z'⟩)
      · have c' : s = 0 := by have : ¬ (0 : Int) < (s : Int) := c; omega
        exact iteF (ret (.inl c'))
    · rintro σ H' Q1 Q2 kk ⟨v, e1, i, j, e2, e3, c, e4, qq⟩
      refine ⟨v, e1, i, j, e2, e3, c, e4, ?_⟩
      cases c with
      | false => exact kk _ _ qq
      | true =>
        obtain ⟨x0, g0, x1, g1, m, n, g2, g3, g4, aa, xs, i2, y, g5, g6, g7, g8, g9, k2, gk, q2⟩ := qq
        exact ⟨x0, g0, x1, g1, m, n, g2, g3, g4, aa, xs, i2, y, g5, g6, g7, g8, g9, k2, gk, kk _ _ q2⟩
/-- p with zeros up to the length n -/
def padTo (n : Nat) (p : List Nat) : List Nat := p ++ List.replicate (n - p.length) 0
theorem padTo_len {n : Nat} {p : List Nat} (h : p.length ≤ n) : (padTo n p).length = n := by unfold padTo; rw [List.length_append, List.length_replicate]; omega
def addL (p r : List Nat) : List Nat := List.zipWith (· ^^^ ·) (padTo (max p.length r.length) p) (padTo (max p.length r.length) r)
theorem rep0 (k : Nat) : (List.replicate k [V.int ((0 : Nat) : Int)]).flatten = NL (List.replicate k 0) := by
  induction k with
  | zero => rfl
  | succ n ih => rw [List.replicate_succ, List.flatten_cons, ih, List.replicate_succ, NL_cons]; rfl
theorem NL_cat (p r : List Nat) : NL p ++ NL r = NL (p ++ r) := by unfold NL; rw [List.map_append]
theorem size_big : 4194304 < sizeLine := by decide
def sp_padd (C : Addr) : Sp := fun vs H Q _ => ∃ (f a b : Addr) (m q r : Nat) (p s : List Nat), vs = [.ref f, .ref a, .ref b] ∧ FieldAt C H f m q r ∧ H a = some (.lst (NL p)) ∧ H b = some (.lst (NL s)) ∧ p.length ≤ 400 ∧ s.length ≤ 400 ∧
  ∀ l H', NewL H H' l (trim (addL p s)) → Q (.ref l) H'
theorem ok_add {f f_trimmed C C3 : Addr} {fd fd_trimmed : FuncData} (D : Df K mg "add" ["field", "p", "q"] s_add f fd) (B : Bl mg) (M : FN P w K mg base C C3)
    (D_trimmed : Df K mg "trimmed" ["coefficients"] s_trimmed f_trimmed fd_trimmed) (G_trimmed : FnOk P w K mg base CX0 1 f_trimmed fd_trimmed ["coefficients"] (sp_trimmed K)) : FnOk P w K mg base CX0 3 f fd ["field", "p", "q"] (sp_padd C) := by
  obtain ⟨f_a, fd_a, M_Field_add, b_Field_add, G_Field_add⟩ := M.add
  have K_Field := M.fc.cl
  refine D.F.ok sc_add (fun vs H Q E h => ?_) (fun cdv A outer s H vs Q E hr h => ?_)
  · obtain ⟨g, a, b, m, q, r, p, s, rfl, _⟩ := h; rfl
  · obtain ⟨g, a, b, m, q, r, p, s, rfl, FA, ha, hb, hp, hs, k⟩ := h
    refine ⟨_, (pss_cons (ps_set (i := 3) sc_add.nd rfl (Or.inl rfl) (pe_callB (call_max2 rfl) (by rfl) B.max (by decide +kernel) (pa_cons (pe_callB call_len_seq (by rfl) B.len PySem.boot_len (pa_cons (pv 1) pa_nil)) (pa_cons (pe_callB call_len_seq (by rfl) B.len PySem.boot_len (pa_cons (pv 2) pa_nil)) pa_nil))))
      (pss_cons (ps_set (i := 4) sc_add.nd rfl (Or.inl rfl) (pe_op op_cat (pv 1) (pe_op op_rep (pe_lst (pa_cons (pe_nat 0) pa_nil)) (pe_op op_sub (pv 3) (pe_callB call_len_seq (by rfl) B.len PySem.boot_len (pa_cons (pv 1) pa_nil))))))
      (pss_cons (ps_set (i := 5) sc_add.nd rfl (Or.inl rfl) (pe_op op_cat (pv 2) (pe_op op_rep (pe_lst (pa_cons (pe_nat 0) pa_nil)) (pe_op op_sub (pv 3) (pe_callB call_len_seq (by rfl) B.len PySem.boot_len (pa_cons (pv 2) pa_nil))))))
      (pss_one (ps_ret (pe_call G_trimmed (hr.mono (by decide)) rfl D_trimmed.g D_trimmed.F.kp D_trimmed.b .nil pass0 (pa_cons (pe_lc (g := (gTup K 2 (gCons (gName 6) (gCons (gName 7) gNil)))) (own := [("e", 6), ("f", 7)]) rfl sc_add.nd (pi_zip rfl B.zip (pa_cons (pv 4) (pa_cons (pv 5) pa_nil))) (blkOk_by (own := [("e", 6), ("f", 7)]) (N := ["field", "p", "q", "size", "longer_p", "longer_q", "e", "f"]) (sc := defScope s_add) (by decide +kernel)) (fun _ _ _ _ _ => (pg_tup rfl (pgs_cons (pg_name (i := 6) sc_add.nd rfl (Or.inl rfl) (Or.inr rfl)) (pgs_cons (pg_name (i := 7) sc_add.nd rfl (Or.inl rfl) (Or.inr rfl)) pgs_nil)))) (fun _ _ _ _ _ => pts_nil) (fun _ _ _ _ _ => (pe_meth (pv 0) K_Field M_Field_add G_Field_add (hr.mono (by decide)) b_Field_add .nil pass0 (by exact (pa_cons (pv 6) (pa_cons (pv 7) pa_nil)))))) pa_nil))))))), ?_⟩
    obtain ⟨dx, fa, fb, logs, g1, g2, g3, g4⟩ := FA.ex
    obtain ⟨n1, n2, n3, n4⟩ := fno4 m q fa fb
    have sL := sizeLine_eq
    refine ⟨_, rfl, a, _, rfl, .inl (SqL.of ha), _, rfl, b, _, rfl, .inl (SqL.of hb), _, _, rfl, ?_⟩
    have e0 : (if (((NL s).length : Nat) : Int) > (((NL p).length : Nat) : Int) then (((NL s).length : Nat) : Int) else (((NL p).length : Nat) : Int)) = ((max p.length s.length : Nat) : Int) := by
      rw [NL_len, NL_len]; split <;> omega
    rw [e0]
    have hn1 : p.length ≤ max p.length s.length := Nat.le_max_left _ _
    have hn2 : s.length ≤ max p.length s.length := Nat.le_max_right _ _
    have hn3 : max p.length s.length ≤ 400 := Nat.max_le.mpr ⟨hp, hs⟩
    generalize hn : max p.length s.length = n at hn1 hn2 hn3 ⊢
    have kP : NL p ++ NL (List.replicate (n - p.length) 0) = NL (padTo n p) := NL_cat _ _
    have kS : NL s ++ NL (List.replicate (n - s.length) 0) = NL (padTo n s) := NL_cat _ _
    refine ⟨_, rfl, (by show 1 ≤ sizeLine; decide), fun z1 nz1 => ⟨_, rfl, _, rfl, a, _, rfl, .inl (SqL.of (same_upd nz1 _ _ ha)), _, _, rfl, rfl, ?_⟩⟩
    have e1 : ((n : Nat) : Int) - (((NL p).length : Nat) : Int) = ((n - p.length : Nat) : Int) := by rw [NL_len]; omega
    refine ⟨z1, _, _, rfl, congrArg V.int e1, upd_same, by omega, by omega, by rw [Int.toNat_natCast]; show 1 * (n - p.length) ≤ sizeLine; omega, fun y1 ny1 => ?_⟩
    rw [Int.toNat_natCast, rep0]
    have s1 := same_new (o := HO.lst (NL (List.replicate (n - p.length) 0))) (same_upd (o := HO.lst [V.int ((0 : Nat) : Int)]) nz1) ny1
    refine ⟨a, y1, _, _, rfl, rfl, s1 _ _ ha, upd_same, by rw [NL_len, NL_len, List.length_replicate]; omega, fun c1 nc1 => ?_⟩
    rw [kP]
    have s2 := same_new (o := HO.lst (NL (padTo n p))) s1 nc1
    generalize hH1 : upd (upd (upd H z1 (.lst [V.int ((0 : Nat) : Int)])) y1 (.lst (NL (List.replicate (n - p.length) 0)))) c1 (.lst (NL (padTo n p))) = H1 at s2 ⊢
    have hc1 : H1 c1 = some (.lst (NL (padTo n p))) := by rw [← hH1, upd_same]
    refine ⟨_, rfl, (by show 1 ≤ sizeLine; decide), fun z2 nz2 => ⟨_, rfl, _, rfl, b, _, rfl, .inl (SqL.of (same_upd nz2 _ _ (s2 _ _ hb))), _, _, rfl, rfl, ?_⟩⟩
    have e2 : ((n : Nat) : Int) - (((NL s).length : Nat) : Int) = ((n - s.length : Nat) : Int) := by rw [NL_len]; omega
    refine ⟨z2, _, _, rfl, congrArg V.int e2, upd_same, by omega, by omega, by rw [Int.toNat_natCast]; show 1 * (n - s.length) ≤ sizeLine; omega, fun y2 ny2 => ?_⟩
    rw [Int.toNat_natCast, rep0]
    have s3 := same_new (o := HO.lst (NL (List.replicate (n - s.length) 0))) (same_upd (o := HO.lst [V.int ((0 : Nat) : Int)]) nz2) ny2
    refine ⟨b, y2, _, _, rfl, rfl, s3 _ _ (s2 _ _ hb), upd_same, by rw [NL_len, NL_len, List.length_replicate]; omega, fun c2 nc2 => ?_⟩
    rw [kS]
    have s4 := same_new (o := HO.lst (NL (padTo n s))) s3 nc2
    generalize hH2 : upd (upd (upd H1 z2 (.lst [V.int ((0 : Nat) : Int)])) y2 (.lst (NL (List.replicate (n - s.length) 0)))) c2 (.lst (NL (padTo n s))) = H2 at s4 ⊢
    have hc2 : H2 c2 = some (.lst (NL (padTo n s))) := by rw [← hH2, upd_same]
    have s5 : Same H H2 := s2.trans s4
    have hc1' := s4 _ _ hc1
    refine ⟨_, rfl, _, rfl, c1, c2, _, _, rfl, SqL.of hc1', SqL.of hc2, fun D0 nD => ?_⟩
    have l1 := padTo_len hn1
    have l2 := padTo_len hn2
    have nD' : H D0 = none := s5.free nD
    refine lc_it (walk_zip (n := n) (K := K) (a := c1) (b := c2) (xs := NL (padTo n p)) (ys := NL (padTo n s)) (by rw [NL_len, NL_len, l1, l2]; exact (Nat.min_self n).symm)) (fun i H' => H' c1 = some (.lst (NL (padTo n p))) ∧ H' c2 = some (.lst (NL (padTo n s))) ∧ H' D0 = some (.lst (NL ((List.zipWith (· ^^^ ·) (padTo n p) (padTo n s)).take i))) ∧ Same H H') ⟨?_, ?_, ?_, ?_⟩ (fun i H' _ h => ⟨SqL.of h.1, SqL.of h.2.1⟩) ?_ ?_
    · rw [upd_ne (ne_of_none hc1' nD)]; exact hc1'
    · rw [upd_ne (ne_of_none hc2 nD)]; exact hc2
    · rw [upd_same]; rfl
    · exact same_new s5 nD
    · rintro i v H3 H3' hi ⟨h1, h2, h3, sm⟩ ⟨T, x, y, rfl, nT, rfl, hx, hy⟩
      obtain ⟨e, he, rfl⟩ := NL_get_inv hx
      obtain ⟨d, hd, rfl⟩ := NL_get_inv hy
      have sm' := same_new (o := HO.tup [.int (e : Int), .int (d : Int)]) sm nT
      refine ⟨T, [_, _], rfl, SqT.of upd_same, rfl, _, _, rfl, _, _, rfl, rfl, rfl, _, rfl, g, dx, _, rfl, sm' _ _ g1, n2, _, rfl, _, rfl, g, e, d, rfl, NL ((List.zipWith (· ^^^ ·) (padTo n p) (padTo n s)).take i), ?_, ?_, ?_, ?_, ?_, ?_⟩
      · rw [upd_ne (ne_of_none h3 nT)]; exact h3
      · rw [NL_len, List.length_take]; exact Nat.lt_of_le_of_lt (Nat.min_le_left _ _) (small1000 (by omega))
      · rw [upd_ne (ne_of_none hc1' nD), upd_ne (ne_of_none h1 nT)]; exact h1
      · rw [upd_ne (ne_of_none hc2 nD), upd_ne (ne_of_none h2 nT)]; exact h2
      · have hz : (List.zipWith (· ^^^ ·) (padTo n p) (padTo n s))[i]? = some (e ^^^ d) := by rw [List.getElem?_zipWith, he, hd]
        rw [upd_same, NL_app, V_take_more hz]
      · exact same_upd2 sm' nD'
    · rintro H3 ⟨h1, h2, h3, sm⟩
      have e3 : (List.zipWith (· ^^^ ·) (padTo n p) (padTo n s)).take n = addL p s := by
        rw [List.take_of_length_le (by rw [List.length_zipWith, l1, l2, Nat.min_self]; exact Nat.le_refl _)]
        unfold addL; rw [hn]
      rw [e3] at h3
      refine ⟨D0, _, rfl, SqL.of h3, ?_, fun l H' h => k l H' ⟨sm.trans h.1, sm.free h.2.1, h.2.2⟩⟩
      rw [← e3, List.length_take]
      exact Nat.le_trans (Nat.min_le_left _ _) (by omega)
end
section
variable {P : Program} {w : World} {K : PySem.W.Frag} {mg : Str → Option Value} {base : Heap}
open FLD PLY
theorem drop_of {α : Type} {l : List α} {i : Nat} {x : α} (h : l[i]? = some x) : l.drop i = x :: l.drop (i + 1) := by
  obtain ⟨hi, e⟩ := List.getElem?_eq_some_iff.mp h
  rw [List.drop_eq_getElem_cons hi, e]
/-- elements of the field -/
def El (m : Nat) (p : List Nat) : Prop := ∀ c ∈ p, c < 2 ^ m
def sp_scaled (K : PySem.W.Frag) (C : Addr) : Sp := fun vs H Q _ => ∃ (f a : Addr) (m q r e : Nat) (p : List Nat), vs = [.ref f, .ref a, .int (e : Int)] ∧ FieldAt C H f m q r ∧ SqL K H a (NL p) ∧ p.length ≤ 400 ∧ El m p ∧ e < 2 ^ m ∧
  ∀ l H', NewL H H' l (trim (p.map (mulm q e))) → Q (.ref l) H'
theorem ok_scaled {f f_trimmed C C3 : Addr} {fd fd_trimmed : FuncData} (D : Df K mg "scaled" ["field", "p", "e"] s_scaled f fd) (M : FN P w K mg base C C3)
    (D_trimmed : Df K mg "trimmed" ["coefficients"] s_trimmed f_trimmed fd_trimmed) (G_trimmed : FnOk P w K mg base CX0 1 f_trimmed fd_trimmed ["coefficients"] (sp_trimmed K)) : FnOk P w K mg base CX0 3 f fd ["field", "p", "e"] (sp_scaled K C) := by
  obtain ⟨f_t, fd_t, M_Field_times, b_Field_times, G_Field_times⟩ := M.times
  have K_Field := M.fc.cl
  refine D.F.ok sc_scaled (fun vs H Q E h => ?_) (fun cdv A outer s H vs Q E hr h => ?_)
  · obtain ⟨g, a, m, q, r, e, p, rfl, _⟩ := h; rfl
  · obtain ⟨g, a, m, q, r, e, p, rfl, FA, hS, hp, hE, he, k⟩ := h
    refine ⟨_, (pss_one (ps_ret (pe_call G_trimmed (hr.mono (by decide)) rfl D_trimmed.g D_trimmed.F.kp D_trimmed.b .nil pass0 (pa_cons (pe_lc (own := [("f", 3)]) rfl sc_scaled.nd (pi_list (pv 1)) (blkOk_by (own := [("f", 3)]) (N := ["field", "p", "e", "f"]) (sc := defScope s_scaled) (by decide +kernel)) (fun _ _ _ _ _ => (pg_name (i := 3) sc_scaled.nd rfl (Or.inl rfl) (Or.inr rfl))) (fun _ _ _ _ _ => pts_nil) (fun _ _ _ _ _ => (pe_meth (pv 0) K_Field M_Field_times G_Field_times (hr.mono (by decide)) b_Field_times .nil pass0 (by exact (pa_cons (pv 2) (pa_cons (pv 3) pa_nil)))))) pa_nil)))), ?_⟩
    obtain ⟨dx, fa, fb, logs, g1, g2, g3, g4⟩ := FA.ex
    obtain ⟨n1, n2, n3, n4⟩ := fno4 m q fa fb
    refine ⟨_, rfl, a, rfl, ⟨_, hS⟩, fun D0 nD => ?_⟩
    refine lc_list (K := K) (a := a) (xs := NL p) (fun i H' => H' D0 = some (.lst (NL ((p.map (mulm q e)).take i))) ∧ Same H H') ⟨?_, same_upd nD⟩ (fun i H' _ h => h.2.seq hS) ?_ ?_
    · rw [upd_same]; rfl
    · rintro i x H3 hx ⟨h3, sm⟩
      obtain ⟨d, hd, rfl⟩ := NL_get_inv hx
      have hil := (List.getElem?_eq_some_iff.mp hd).1
      refine ⟨rfl, _, rfl, g, dx, _, rfl, sm _ _ g1, n3, _, rfl, _, rfl, g, e, d, m, q, r, rfl, FA.mono sm, he, hE _ (List.mem_of_getElem? hd), NL ((p.map (mulm q e)).take i), h3, ?_, ?_, same_upd2 sm nD⟩
      · rw [NL_len, List.length_take]; exact Nat.lt_of_le_of_lt (Nat.min_le_left _ _) (small1000 (by omega))
      · have hz : (p.map (mulm q e))[i]? = some (mulm q e d) := by rw [List.getElem?_map, hd]; rfl
        rw [upd_same, NL_app, V_take_more hz]
    · rintro H3 ⟨h3, sm⟩
      have e3 : (p.map (mulm q e)).take (NL p).length = p.map (mulm q e) := List.take_of_length_le (by rw [List.length_map, NL_len]; exact Nat.le_refl _)
      rw [e3] at h3
      exact ⟨D0, _, rfl, SqL.of h3, by rw [List.length_map]; omega, fun l H' h => k l H' ⟨sm.trans h.1, sm.free h.2.1, h.2.2⟩⟩
def sp_value (K : PySem.W.Frag) (C : Addr) : Sp := fun vs H Q _ => ∃ (f a : Addr) (m q r x : Nat) (p : List Nat), vs = [.ref f, .ref a, .int (x : Int)] ∧ FieldAt C H f m q r ∧ SqL K H a (NL p) ∧ El m p ∧ x < 2 ^ m ∧
  ∀ H', Same H H' → Q (.int ((ev q x p : Nat) : Int)) H'
theorem ok_value {f C C3 : Addr} {fd : FuncData} (D : Df K mg "value" ["field", "p", "e"] s_value f fd) (B : Bl mg) (M : FN P w K mg base C C3) : FnOk P w K mg base CX0 3 f fd ["field", "p", "e"] (sp_value K C) := by
  obtain ⟨f_t, fd_t, M_Field_times, b_Field_times, G_Field_times⟩ := M.times
  obtain ⟨f_a, fd_a, M_Field_add, b_Field_add, G_Field_add⟩ := M.add
  have K_Field := M.fc.cl
  refine D.F.ok sc_value (fun vs H Q E h => ?_) (fun cdv A outer s H vs Q E hr h => ?_)
  · obtain ⟨g, a, m, q, r, x, p, rfl, _⟩ := h; rfl
  · obtain ⟨g, a, m, q, r, x, p, rfl, FA, hS, hE, hx, k⟩ := h
    refine ⟨_, (pss_cons (ps_set (i := 3) sc_value.nd rfl (Or.inl rfl) (pe_nat 0))
      (pss_cons (ps_for PassesOwn.never rfl (pi_reversed rfl B.reversed (pa_cons (pv 1) pa_nil)) (pg_name (i := 4) sc_value.nd rfl (Or.inl rfl) (Or.inr rfl))
        (pss_one (ps_set (i := 3) sc_value.nd rfl (Or.inl rfl) (pe_meth (pv 0) K_Field M_Field_add G_Field_add (hr.mono (by decide)) b_Field_add .nil pass0 (by exact (pa_cons (pe_meth (pv 0) K_Field M_Field_times G_Field_times (hr.mono (by decide)) b_Field_times .nil pass0 (by exact (pa_cons (pv 3) (pa_cons (pv 2) pa_nil)))) (pa_cons (pv 4) pa_nil)))))))
      (pss_one (ps_ret (pv 3))))), ?_⟩
    obtain ⟨dx, fa, fb, logs, g1, g2, g3, g4⟩ := FA.ex
    obtain ⟨n1, n2, n3, n4⟩ := fno4 m q fa fb
    refine ⟨_, rfl, a, _, rfl, hS, ?_⟩
    refine for_it (walk_rev (K := K) (a := a) (xs := NL p)) (fun i σ H' => ∃ v : Option V, σ = [some (.ref g), some (.ref a), some (.int (x : Int)), some (.int ((ev q x (p.drop (p.length - i)) : Nat) : Int)), v] ∧ Same H H') ⟨none, ?_, Same.refl H⟩ (fun i σ H' _ h => by obtain ⟨v, _, h⟩ := h; exact h.seq hS) ?_ ?_
    · rw [Nat.sub_zero, List.drop_length]; rfl
    · rintro i y σ H1 H2 hi ⟨v, rfl, sm⟩ ⟨rfl, hy⟩
      rw [NL_len] at hi hy
      obtain ⟨c, hc, rfl⟩ := NL_get_inv hy
      have ed : p.drop (p.length - (i + 1)) = c :: p.drop (p.length - i) := by
        rw [show p.length - (i + 1) = p.length - 1 - i by omega, drop_of hc, show p.length - 1 - i + 1 = p.length - i by omega]
      have hel : ev q x (p.drop (p.length - i)) < 2 ^ m := ev_lt FA.fd fun d hd => hE d (List.mem_of_mem_drop hd)
      refine ⟨_, rfl, g, dx, _, rfl, sm _ _ g1, n2, _, rfl, g, dx, _, rfl, sm _ _ g1, n3, _, rfl, _, rfl, g, _, x, m, q, r, rfl, FA.mono sm, hel, hx, _, rfl, g, _, c, rfl, some (.int (c : Int)), ?_, sm⟩
      rw [ed, ev_cons]
      rfl
    · rintro σ H1 ⟨v, rfl, sm⟩
      rw [NL_len, Nat.sub_self, List.drop_zero]
      exact ⟨_, rfl, k H1 sm⟩
def sp_ptimes (K : PySem.W.Frag) (C : Addr) : Sp := fun vs H Q _ => ∃ (f a b : Addr) (m q r : Nat) (p s : List Nat), vs = [.ref f, .ref a, .ref b] ∧ FieldAt C H f m q r ∧ SqL K H a (NL p) ∧ SqL K H b (NL s) ∧ El m p ∧ El m s ∧ p.length ≤ 400 ∧ s.length ≤ 400 ∧
  ∀ l H', NewL H H' l (trim (conv q p s)) → Q (.ref l) H'
theorem ok_times_polys {f f_trimmed C C3 : Addr} {fd fd_trimmed : FuncData} (D : Da K mg "times_polys" "times" ["field", "p", "q"] s_times_polys f fd) (B : Bl mg) (M : FN P w K mg base C C3)
    (D_trimmed : Df K mg "trimmed" ["coefficients"] s_trimmed f_trimmed fd_trimmed) (G_trimmed : FnOk P w K mg base CX0 1 f_trimmed fd_trimmed ["coefficients"] (sp_trimmed K)) : FnOk P w K mg base CX0 3 f fd ["field", "p", "q"] (sp_ptimes K C) := by
  obtain ⟨f_t, fd_t, M_Field_times, b_Field_times, G_Field_times⟩ := M.times
  obtain ⟨f_a, fd_a, M_Field_add, b_Field_add, G_Field_add⟩ := M.add
  have K_Field := M.fc.cl
  refine D.F.ok sc_times_polys (fun vs H Q E h => ?_) (fun cdv A outer s0 H vs Q E hr h => ?_)
  · obtain ⟨g, a, b, m, q, r, p, s, rfl, _⟩ := h; rfl
  · obtain ⟨g, a, b, m, q, r, p, s, rfl, FA, ha, hb, hEp, hEs, hp, hs, k⟩ := h
    refine ⟨_, (pss_cons (ps_set (i := 3) sc_times_polys.nd rfl (Or.inl rfl) (pe_op op_rep (pe_lst (pa_cons (pe_nat 0) pa_nil)) (pe_op nb_add (pe_callB call_len_seq (by rfl) B.len PySem.boot_len (pa_cons (pv 1) pa_nil)) (pe_callB call_len_seq (by rfl) B.len PySem.boot_len (pa_cons (pv 2) pa_nil)))))
      (pss_cons (ps_for PassesOwn.never rfl (pi_enum rfl B.enumerate (pa_cons (pv 1) pa_nil)) (pg_tup rfl (pgs_cons (pg_name (i := 4) sc_times_polys.nd rfl (Or.inl rfl) (Or.inr rfl)) (pgs_cons (pg_name (i := 5) sc_times_polys.nd rfl (Or.inl rfl) (Or.inr rfl)) pgs_nil)))
        (pss_one (ps_for PassesOwn.never rfl (pi_enum rfl B.enumerate (pa_cons (pv 2) pa_nil)) (pg_tup rfl (pgs_cons (pg_name (i := 6) sc_times_polys.nd rfl (Or.inl rfl) (Or.inr rfl)) (pgs_cons (pg_name (i := 7) sc_times_polys.nd rfl (Or.inl rfl) (Or.inr rfl)) pgs_nil)))
          (pss_one (ps_asg (pe_meth (pv 0) K_Field M_Field_add G_Field_add (hr.mono (by decide)) b_Field_add .nil pass0 (by exact (pa_cons (pe_ix ix_list (pv 3) (pe_op nb_add (pv 4) (pv 6)) (fun _ _ => rfl)) (pa_cons (pe_meth (pv 0) K_Field M_Field_times G_Field_times (hr.mono (by decide)) b_Field_times .nil pass0 (by exact (pa_cons (pv 5) (pa_cons (pv 7) pa_nil)))) pa_nil)))) (pg_sub (pv 3) (pe_op nb_add (pv 4) (pv 6)) set_list))))))
      (pss_one (ps_ret (pe_call G_trimmed (hr.mono (by decide)) rfl D_trimmed.g D_trimmed.F.kp D_trimmed.b .nil pass0 (pa_cons (pv 3) pa_nil)))))), ?_⟩
    obtain ⟨dx, fa, fb, logs, g1, g2, g3, g4⟩ := FA.ex
    obtain ⟨n1, n2, n3, n4⟩ := fno4 m q fa fb
    have F := FA.fd
    have sL := sizeLine_eq
    refine ⟨(by show 1 ≤ sizeLine; decide), fun z nz => ⟨_, rfl, a, _, rfl, .inl ((same_upd nz).seq ha), _, rfl, b, _, rfl, .inl ((same_upd nz).seq hb), _, _, rfl, rfl, z, _, _, rfl, rfl, upd_same, by omega, ?_, ?_, fun T nT => ?_⟩⟩
    · rw [NL_len, NL_len]; omega
    · rw [NL_len, NL_len, Int.toNat_natCast]; show 1 * (p.length + s.length) ≤ sizeLine; omega
    rw [NL_len, NL_len, Int.toNat_natCast, rep0]
    have s1 := same_new (o := HO.lst (NL (List.replicate (p.length + s.length) 0))) (same_upd (o := HO.lst [V.int ((0 : Nat) : Int)]) nz) nT
    have nT' : H T = none := (same_upd (o := HO.lst [V.int ((0 : Nat) : Int)]) nz).free nT
    generalize hH1 : upd (upd H z (.lst [V.int ((0 : Nat) : Int)])) T (.lst (NL (List.replicate (p.length + s.length) 0))) = H1 at s1 ⊢
    have hT1 : H1 T = some (.lst (NL (List.replicate (p.length + s.length) 0))) := by rw [← hH1, upd_same]
    refine ⟨_, rfl, a, _, rfl, s1.seq ha, ?_⟩
    refine for_enumL (K := K) (a := a) (xs := NL p) (fun i σ H' => ∃ (t : List Nat) (v4 v5 v6 v7 : Option V), σ = [some (.ref g), some (.ref a), some (.ref b), some (.ref T), v4, v5, v6, v7] ∧ H' T = some (.lst (NL t)) ∧ t.length = p.length + s.length ∧ El m t ∧ rows q s (p.drop i) i t = conv q p s ∧ Same H H')
      ⟨_, none, none, none, none, rfl, hT1, List.length_replicate, ?_, rfl, s1⟩ (fun i σ H' _ h => by obtain ⟨t, _, _, _, _, _, _, _, _, _, h⟩ := h; exact h.seq ha) ?_ ?_
    · intro c hc
      rw [(List.mem_replicate.mp hc).2]
      exact Nat.two_pow_pos _
    · rintro i x T2 σ H2 hx ⟨t, v4, v5, v6, v7, rfl, hT, tl1, tE, tR, sm⟩ nT2
      obtain ⟨e, he, rfl⟩ := NL_get_inv hx
      have hil := (List.getElem?_eq_some_iff.mp he).1
      have sm2 := same_new (o := HO.tup [.int (i : Int), .int (e : Int)]) sm nT2
      rw [drop_of he] at tR
      have tR' : rows q s (p.drop (i + 1)) (i + 1) (row q e s i t) = conv q p s := tR
      refine ⟨T2, [_, _], rfl, SqT.of upd_same, rfl, _, _, rfl, _, _, rfl, rfl, ?_⟩
      refine ⟨_, rfl, b, _, rfl, sm2.seq hb, ?_⟩
      refine for_enumL (K := K) (a := b) (xs := NL s) (fun j σ H' => ∃ (t : List Nat) (v6 v7 : Option V), σ = [some (.ref g), some (.ref a), some (.ref b), some (.ref T), some (.int (i : Int)), some (.int (e : Int)), v6, v7] ∧ H' T = some (.lst (NL t)) ∧ t.length = p.length + s.length ∧ El m t ∧ rows q s (p.drop (i + 1)) (i + 1) (row q e (s.drop j) (i + j) t) = conv q p s ∧ Same H H')
        ⟨t, _, _, rfl, ?_, tl1, tE, tR', sm2⟩ (fun j σ H' _ h => by obtain ⟨t, _, _, _, _, _, _, _, h⟩ := h; exact h.seq hb) ?_ ?_
      · rw [upd_ne (ne_of_none hT nT2)]; exact hT
      · rintro j y T3 σ H3 hy ⟨t, v6, v7, rfl, hT3, tl3, tE3, tR3, sm3⟩ nT3
        obtain ⟨d, hd, rfl⟩ := NL_get_inv hy
        have hjl := (List.getElem?_eq_some_iff.mp hd).1
        have sm4 := same_new (o := HO.tup [.int (j : Int), .int (d : Int)]) sm3 nT3
        have hT4 : (upd H3 T3 (.tup [.int (j : Int), .int (d : Int)])) T = some (.lst (NL t)) := by rw [upd_ne (ne_of_none hT3 nT3)]; exact hT3
        obtain ⟨c, hc⟩ : ∃ c, t[i + j]? = some c := ⟨_, List.getElem?_eq_getElem (by omega)⟩
        rw [drop_of hd] at tR3
        have tR4 : rows q s (p.drop (i + 1)) (i + 1) (row q e (s.drop (j + 1)) (i + j + 1) (t.set (i + j) (t.getD (i + j) 0 ^^^ mulm q e d))) = conv q p s := tR3
        rw [List.getD_eq_getElem?_getD, hc, Option.getD_some] at tR4
        refine ⟨T3, [_, _], rfl, SqT.of upd_same, rfl, _, _, rfl, _, _, rfl, rfl, ?_⟩
        refine ⟨_, rfl, g, dx, _, rfl, sm4 _ _ g1, n2, _, rfl, _, rfl, _, rfl, _, _, rfl, rfl, T, _, _, _, rfl, rfl, SqL.of hT4, NL_at0 hc, _, rfl, g, dx, _, rfl, sm4 _ _ g1, n3, _, rfl, _, rfl, g, e, d, m, q, r, rfl, FA.mono sm4, hEp _ (List.mem_of_getElem? he), hEs _ (List.mem_of_getElem? hd), g, _, _, rfl, ?_⟩
        refine ⟨_, rfl, _, rfl, _, rfl, _, _, rfl, rfl, T, _, _, i + j, rfl, rfl, hT4, ixN_nat (by rw [NL_len]; omega), ?_⟩
        refine ⟨t.set (i + j) (c ^^^ mulm q e d), _, _, rfl, ?_, ?_, ?_, tR4, same_upd2 sm4 nT'⟩
        · rw [upd_same, NL_set]
        · rw [List.length_set]; exact tl3
        · intro u hu
          rcases List.mem_or_eq_of_mem_set hu with h | h
          · exact tE3 u h
          · rw [h]; exact Nat.xor_lt_two_pow (tE3 c (List.mem_of_getElem? hc)) (mulm_lt F _ _)
      · rintro σ H3 ⟨t, v6, v7, rfl, hT3, tl3, tE3, tR3, sm3⟩
        rw [NL_len, List.drop_length] at tR3
        exact ⟨t, _, _, _, _, rfl, hT3, tl3, tE3, tR3, sm3⟩
    · rintro σ H2 ⟨t, v4, v5, v6, v7, rfl, hT, tl1, tE, tR, sm⟩
      rw [NL_len, List.drop_length] at tR
      have tR' : t = conv q p s := tR
      subst tR'
      exact ⟨_, rfl, T, _, rfl, SqL.of hT, by omega, fun l H' h => k l H' ⟨sm.trans h.1, sm.free h.2.1, h.2.2⟩⟩
end
section
variable {P : Program} {w : World} {K : PySem.W.Frag} {mg : Str → Option Value} {base : Heap}
open FLD
def sp_lmodulus : Sp := fun vs H Q _ => ∃ m x : Nat, vs = [.int (m : Int), .int (x : Int)] ∧ 2 ≤ m ∧ m ≤ 8 ∧ ∀ (q : Nat) H', Fd m q → Same H H' → Q (.int (q : Int)) H'
theorem ok__law_modulus {f f__law_irreducible : Addr} {fd fd__law_irreducible : FuncData} (D : Df K mg "_law_modulus" ["m", "drawn"] s__law_modulus f fd) (B : Bl mg)
    (D__law_irreducible : Df K mg "_law_irreducible" ["p"] s__law_irreducible f__law_irreducible fd__law_irreducible) (G__law_irreducible : FnOk P w K mg base CX0 3 f__law_irreducible fd__law_irreducible ["p"] sp_lirr) :
    FnOk P w K mg base CX0 4 f fd ["m", "drawn"] sp_lmodulus := by
  refine D.F.ok sc__law_modulus (fun vs H Q E h => ?_) (fun cdv A outer s H vs Q E hr h => ?_)
  · obtain ⟨m, x, rfl, _⟩ := h; rfl
  · obtain ⟨m, x, rfl, hm2, hm8, k⟩ := h
    refine ⟨_, (pss_cons (ps_setLc (i := 2) (own := [("p", 3)]) rfl sc__law_modulus.nd rfl rfl (sw_true rfl rfl rfl (by decide +kernel)) (pi_range2 rfl B.range (pa_cons (pe_op nb_shl (pe_nat 1) (pv 0)) (pa_cons (pe_op nb_shl (pe_nat 2) (pv 0)) pa_nil))) (blkOk_by (own := [("p", 3)]) (N := ["m", "drawn", "found", "p"]) (sc := defScope s__law_modulus) (by decide +kernel)) (fun _ _ _ _ _ => (pg_name (i := 3) sc__law_modulus.nd rfl (Or.inl rfl) (Or.inr rfl))) (fun _ _ _ _ _ => (pts_one (pt_val (pe_call G__law_irreducible (hr.mono (by decide)) rfl D__law_irreducible.g D__law_irreducible.F.kp D__law_irreducible.b .nil pass0 (pa_cons (pv 3) pa_nil))))) (fun _ _ _ _ _ => (pv 3)))
      (pss_one (ps_ret (pe_ix ix_list (pv 2) (pe_op nb_mod (pe_callTy call_int1 (by rfl) B.int (by decide +kernel) (pa_cons (pv 1) pa_nil)) (pe_callB call_len_seq (by rfl) B.len PySem.boot_len (pa_cons (pv 2) pa_nil))) (fun _ _ => rfl))))), ?_⟩
    have h4 : (4 : Nat) ≤ 2 ^ m := Nat.le_trans (by decide) (Nat.pow_le_pow_right (n := 2) (by decide) hm2)
    have h256 : (2 : Nat) ^ m ≤ 256 := Nat.le_trans (Nat.pow_le_pow_right (n := 2) (by decide) hm8) (by decide)
    have hpp := Nat.pow_succ 2 m
    refine ⟨_, rfl, _, _, rfl, rfl, ⟨by decide, by omega⟩, _, rfl, _, _, rfl, rfl, ⟨by decide, by omega⟩, _, _, rfl, ⟨by omega, by omega, by omega, by omega⟩, fun D0 nD => ?_⟩
    rw [show (((2 ^ m * 2 : Nat) : Int) - ((2 ^ m * 1 : Nat) : Int)).toNat = 2 ^ m by omega]
    refine lc_rangeN (lo := 2 ^ m * 1) (n := 2 ^ m) (fun i H' => ∃ acc : List Nat, H' D0 = some (.lst (NL acc)) ∧ acc.length ≤ i ∧ (∀ x ∈ acc, GF.Irr x ∧ 2 ^ m ≤ x ∧ x < 2 ^ (m + 1)) ∧ (∀ x, 2 ^ m ≤ x → x < 2 ^ m + i → GF.Irr x → x ∈ acc) ∧ Same H H') ⟨[], upd_same, Nat.le_refl _, (fun x hx => nomatch hx), fun x h1 h2 => by omega, same_upd nD⟩ ?_ ?_
    · rintro i H' hi ⟨acc, h1, h2, h3, h5, sm⟩
      rw [Nat.mul_one]
      refine ⟨rfl, _, rfl, 2 ^ m + i, rfl, by omega, fun b H1 hb s1 => ⟨b, rfl, ?_⟩⟩
      cases b with
      | true =>
        refine iteT ?_
        have hi2 := hb.mp rfl
        refine ⟨_, rfl, _, s1 _ _ h1, by rw [NL_len]; exact small1000 (by omega), acc ++ [2 ^ m + i], ?_, ?_, ?_, ?_, same_upd2 (sm.trans s1) nD⟩
        · rw [upd_same, NL_app]
        · rw [List.length_append]; show acc.length + 1 ≤ i + 1; omega
        · intro x hx
          rcases List.mem_append.mp hx with h | h
          · exact h3 x h
          · rw [List.mem_singleton] at h; subst h; exact ⟨hi2, by omega, by omega⟩
        · intro x g1 g2 g3
          by_cases e : x = 2 ^ m + i
          · subst e; exact List.mem_append.mpr (.inr (List.mem_singleton.mpr rfl))
          · exact List.mem_append.mpr (.inl (h5 x g1 (by omega) g3))
      | false =>
        refine iteF ?_
        refine ⟨acc, s1 _ _ h1, by omega, h3, fun x g1 g2 g3 => ?_, sm.trans s1⟩
        by_cases e : x = 2 ^ m + i
        · subst e; exact nomatch hb.mpr g3
        · exact h5 x g1 (by omega) g3
    · rintro H1 ⟨acc, h1, h2, h3, h5, sm⟩
      obtain ⟨i1, i2, i3⟩ := GF.irr_some (m := m) (by omega) (by omega)
      have hmem := h5 _ i2 (by omega) i1
      have hpos : 0 < acc.length := List.length_pos_of_mem hmem
      obtain ⟨q, hq⟩ : ∃ q, acc[x % acc.length]? = some q := ⟨_, List.getElem?_eq_getElem (Nat.mod_lt _ hpos)⟩
      obtain ⟨j1, j2, j3⟩ := h3 q (List.mem_of_getElem? hq)
      refine ⟨_, rfl, _, rfl, .inl ⟨_, rfl, _, rfl, D0, _, rfl, .inl (SqL.of h1), x, _, rfl, rfl, by rw [NL_len]; exact hpos, D0, NL acc, _, _, rfl, rfl, SqL.of h1, ?_, k q H1 ⟨hm2, hm8, j1, (GF.Deg.log ⟨j2, j3⟩)⟩ sm⟩⟩
      rw [NL_len]
      exact NL_at0 hq
def sp_lproduct : Sp := fun vs H Q _ => ∃ q e f : Nat, vs = [.int (q : Int), .int (e : Int), .int (f : Int)] ∧ q ≠ 0 ∧ q < 2 ^ 32 ∧ e < 2 ^ 16 ∧ f < 2 ^ 16 ∧ ∀ H', Same H H' → Q (.int ((mulm q e f : Nat) : Int)) H'
theorem ok__law_product {f f__law_divided f__law_times : Addr} {fd fd__law_divided fd__law_times : FuncData} (D : Df K mg "_law_product" ["modulus", "e", "f"] s__law_product f fd) (B : Bl mg)
    (D__law_divided : Df K mg "_law_divided" ["p", "q"] s__law_divided f__law_divided fd__law_divided) (G__law_divided : FnOk P w K mg base CX0 2 f__law_divided fd__law_divided ["p", "q"] sp_ldivided)
    (D__law_times : Df K mg "_law_times" ["p", "q"] s__law_times f__law_times fd__law_times) (G__law_times : FnOk P w K mg base CX0 1 f__law_times fd__law_times ["p", "q"] sp_ltimes) :
    FnOk P w K mg base CX0 3 f fd ["modulus", "e", "f"] sp_lproduct := by
  refine D.F.ok sc__law_product (fun vs H Q E h => ?_) (fun cdv A outer s H vs Q E hr h => ?_)
  · obtain ⟨q, e, f, rfl, _⟩ := h; rfl
  · obtain ⟨q, e, f, rfl, hq0, hq, he, hf, k⟩ := h
    refine ⟨_, (pss_one (ps_ret (pe_ix ix_tup (pe_call G__law_divided (hr.mono (by decide)) rfl D__law_divided.g D__law_divided.F.kp D__law_divided.b .nil pass0 (pa_cons (pe_call G__law_times (hr.mono (by decide)) rfl D__law_times.g D__law_times.F.kp D__law_times.b .nil pass0 (pa_cons (pv 1) (pa_cons (pv 2) pa_nil))) (pa_cons (pv 0) pa_nil))) (pe_nat 1) (fun _ _ => rfl)))), ?_⟩
    refine ⟨_, rfl, _, rfl, e, f, rfl, by omega, by omega, _, rfl, GF.mul e f, q, rfl, Nat.lt_trans (mul_lt he hf) (by decide), by omega, hq0, fun t ht => ?_⟩
    exact ⟨t, _, _, _, rfl, rfl, SqT.of upd_same, atI_nat (j := 1) rfl, k _ (same_upd ht)⟩
end
section
variable {P : Program} {w : World} {K : PySem.W.Frag} {mg : Str → Option Value} {base : Heap}
open FLD PLY
theorem ok__law_trim {f : Addr} {fd : FuncData} (D : Df K mg "_law_trim" ["poly"] s__law_trim f fd) (B : Bl mg) : FnOk P w K mg base CX0 1 f fd ["poly"] (sp_trimmed K) := by
  refine D.F.ok sc__law_trim (fun vs H Q E h => ?_) (fun cdv A outer s H vs Q E hr h => ?_)
  · obtain ⟨a, p, rfl, _⟩ := h; rfl
  · obtain ⟨a, p, rfl, hS, hl, k⟩ := h
    refine ⟨_, (pss_cons (ps_set (i := 1) sc__law_trim.nd rfl (Or.inl rfl) (pe_nat 0))
      (pss_cons (ps_for PassesOwn.never rfl (pi_range1 rfl B.range (pa_cons (pe_callB call_len_seq (by rfl) B.len PySem.boot_len (pa_cons (pv 0) pa_nil)) pa_nil)) (pg_name (i := 2) sc__law_trim.nd rfl (Or.inl rfl) (Or.inr rfl))
        (pss_one (ps_if (pt_cmpR op_ne (pe_ix ix_list (pv 0) (pv 2) (fun _ _ => rfl)) (pe_nat 0) (nomark _)) (pss_one (ps_set (i := 1) sc__law_trim.nd rfl (Or.inl rfl) (pe_op nb_add (pv 2) (pe_nat 1)))) pss_nil)))
      (pss_one (ps_ret (pe_slice sl_list (pv 0) po_none (po_some (pv 1))))))), ?_⟩
    refine ⟨_, rfl, a, _, rfl, .inl hS, _, rfl, by rw [NL_len]; omega, by rw [NL_len]; omega, ?_⟩
    rw [NL_len]
    refine for_rangeN (lo := 0) (n := p.length) (fun i σ H' => ∃ (s : Nat) (v : Option V), σ = [some (.ref a), some (.int (s : Int)), v] ∧ s ≤ i ∧ (∀ j, s ≤ j → j < i → p[j]? = some 0) ∧ (s = 0 ∨ ∃ c, p[s - 1]? = some c ∧ c ≠ 0) ∧ H' = H) ⟨0, none, rfl, Nat.le_refl _, fun j h1 h2 => by omega, .inl rfl, rfl⟩ ?_ ?_
    · rintro i σ H' hi ⟨s, v, rfl, h1, h2, h3, rfl⟩
      rw [Nat.zero_add]
      obtain ⟨d, hd⟩ : ∃ d, p[i]? = some d := ⟨_, List.getElem?_eq_getElem hi⟩
      refine ⟨_, rfl, _, rfl, a, _, _, _, rfl, rfl, hS, NL_at0 hd, rfl, _, rfl, iteN (fun z => ?_) (fun z => ?_)⟩
      · refine ⟨_, rfl, _, _, rfl, rfl, i + 1, _, rfl, Nat.le_refl _, fun j g1 g2 => by omega, .inr ⟨d, hd, fun w => z (by rw [w])⟩, rfl⟩
      · have z' : d = 0 := by have := V.int.inj z; omega
        subst z'
        refine ⟨s, _, rfl, by omega, fun j g1 g2 => ?_, h3, rfl⟩
        by_cases e : j = i
        · subst e; exact hd
        · exact h2 j g1 (by omega)
    · rintro σ H' ⟨s, v, rfl, h1, h2, h3, rfl⟩
      refine ⟨_, rfl, _, rfl, (s : Int), rfl, a, _, rfl, hS, fun c nc => k c _ ⟨same_upd nc, nc, ?_⟩⟩
      rw [upd_same, NL_take, tl_only h1 h2 h3]
      rfl
def sp_lmul (K : PySem.W.Frag) : Sp := fun vs H Q _ => ∃ (a b : Addr) (m q : Nat) (p s : List Nat), vs = [.int (q : Int), .ref a, .ref b] ∧ Fd m q ∧ SqL K H a (NL p) ∧ SqL K H b (NL s) ∧ El m p ∧ El m s ∧ p.length ≤ 400 ∧ s.length ≤ 400 ∧
  ∀ l H', NewL H H' l (trim (conv q p s)) → Q (.ref l) H'
theorem small16 {m q a : Nat} (F : Fd m q) (h : a < 2 ^ m) : a < 2 ^ 16 := by
  have h1 := (pow_m F).2
  exact Nat.lt_of_lt_of_le h (Nat.le_trans h1 (by decide))
theorem q32 {m q : Nat} (F : Fd m q) : q < 2 ^ 32 := Nat.lt_trans (q_512 F) (by decide)
theorem ok__law_mul {f f__law_trim f__law_product : Addr} {fd fd__law_trim fd__law_product : FuncData} (D : Df K mg "_law_mul" ["modulus", "p", "q"] s__law_mul f fd) (B : Bl mg)
    (D__law_trim : Df K mg "_law_trim" ["poly"] s__law_trim f__law_trim fd__law_trim) (G__law_trim : FnOk P w K mg base CX0 1 f__law_trim fd__law_trim ["poly"] (sp_trimmed K))
    (D__law_product : Df K mg "_law_product" ["modulus", "e", "f"] s__law_product f__law_product fd__law_product) (G__law_product : FnOk P w K mg base CX0 3 f__law_product fd__law_product ["modulus", "e", "f"] sp_lproduct) :
    FnOk P w K mg base CX0 4 f fd ["modulus", "p", "q"] (sp_lmul K) := by
  refine D.F.ok sc__law_mul (fun vs H Q E h => ?_) (fun cdv A outer s0 H vs Q E hr h => ?_)
  · obtain ⟨a, b, m, q, p, s, rfl, _⟩ := h; rfl
  · obtain ⟨a, b, m, q, p, s, rfl, F, ha, hb, hEp, hEs, hp, hs, k⟩ := h
    refine ⟨_, (pss_cons (ps_set (i := 3) sc__law_mul.nd rfl (Or.inl rfl) (pe_op op_rep (pe_lst (pa_cons (pe_nat 0) pa_nil)) (pe_op nb_add (pe_callB call_len_seq (by rfl) B.len PySem.boot_len (pa_cons (pv 1) pa_nil)) (pe_callB call_len_seq (by rfl) B.len PySem.boot_len (pa_cons (pv 2) pa_nil)))))
      (pss_cons (ps_for PassesOwn.never rfl (pi_range1 rfl B.range (pa_cons (pe_callB call_len_seq (by rfl) B.len PySem.boot_len (pa_cons (pv 1) pa_nil)) pa_nil)) (pg_name (i := 4) sc__law_mul.nd rfl (Or.inl rfl) (Or.inr rfl))
        (pss_one (ps_for PassesOwn.never rfl (pi_range1 rfl B.range (pa_cons (pe_callB call_len_seq (by rfl) B.len PySem.boot_len (pa_cons (pv 2) pa_nil)) pa_nil)) (pg_name (i := 5) sc__law_mul.nd rfl (Or.inl rfl) (Or.inr rfl))
          (pss_one (ps_asg (pe_op nb_xor (pe_ix ix_list (pv 3) (pe_op nb_add (pv 4) (pv 5)) (fun _ _ => rfl)) (pe_call G__law_product (hr.mono (by decide)) rfl D__law_product.g D__law_product.F.kp D__law_product.b .nil pass0 (pa_cons (pv 0) (pa_cons (pe_ix ix_list (pv 1) (pv 4) (fun _ _ => rfl)) (pa_cons (pe_ix ix_list (pv 2) (pv 5) (fun _ _ => rfl)) pa_nil))))) (pg_sub (pv 3) (pe_op nb_add (pv 4) (pv 5)) set_list))))))
      (pss_one (ps_ret (pe_call G__law_trim (hr.mono (by decide)) rfl D__law_trim.g D__law_trim.F.kp D__law_trim.b .nil pass0 (pa_cons (pv 3) pa_nil)))))), ?_⟩
    have sL := sizeLine_eq
    refine ⟨(by show 1 ≤ sizeLine; decide), fun z nz => ⟨_, rfl, a, _, rfl, .inl ((same_upd nz).seq ha), _, rfl, b, _, rfl, .inl ((same_upd nz).seq hb), _, _, rfl, rfl, z, _, _, rfl, rfl, upd_same, by omega, ?_, ?_, fun T nT => ?_⟩⟩
    · rw [NL_len, NL_len]; omega
    · rw [NL_len, NL_len, Int.toNat_natCast]; show 1 * (p.length + s.length) ≤ sizeLine; omega
    rw [NL_len, NL_len, Int.toNat_natCast, rep0]
    have s1 := same_new (o := HO.lst (NL (List.replicate (p.length + s.length) 0))) (same_upd (o := HO.lst [V.int ((0 : Nat) : Int)]) nz) nT
    have nT' : H T = none := (same_upd (o := HO.lst [V.int ((0 : Nat) : Int)]) nz).free nT
    generalize hH1 : upd (upd H z (.lst [V.int ((0 : Nat) : Int)])) T (.lst (NL (List.replicate (p.length + s.length) 0))) = H1 at s1 ⊢
    have hT1 : H1 T = some (.lst (NL (List.replicate (p.length + s.length) 0))) := by rw [← hH1, upd_same]
    refine ⟨_, rfl, a, _, rfl, .inl (s1.seq ha), _, rfl, by rw [NL_len]; omega, by rw [NL_len]; omega, ?_⟩
    rw [NL_len]
    refine for_rangeN (lo := 0) (n := p.length) (fun i σ H' => ∃ (t : List Nat) (v4 v5 : Option V), σ = [some (.int (q : Int)), some (.ref a), some (.ref b), some (.ref T), v4, v5] ∧ H' T = some (.lst (NL t)) ∧ t.length = p.length + s.length ∧ El m t ∧ rows q s (p.drop i) i t = conv q p s ∧ Same H H')
      ⟨_, none, none, rfl, hT1, List.length_replicate, ?_, rfl, s1⟩ ?_ ?_
    · intro c hc
      rw [(List.mem_replicate.mp hc).2]
      exact Nat.two_pow_pos _
    · rintro i σ H2 hil ⟨t, v4, v5, rfl, hT, tl1, tE, tR, sm⟩
      rw [Nat.zero_add]
      obtain ⟨e, he⟩ : ∃ e, p[i]? = some e := ⟨_, List.getElem?_eq_getElem hil⟩
      rw [drop_of he] at tR
      have tR' : rows q s (p.drop (i + 1)) (i + 1) (row q e s i t) = conv q p s := tR
      refine ⟨_, rfl, b, _, rfl, .inl (sm.seq hb), _, rfl, by rw [NL_len]; omega, by rw [NL_len]; omega, ?_⟩
      rw [NL_len]
      refine for_rangeN (lo := 0) (n := s.length) (fun j σ H' => ∃ (t : List Nat) (v5 : Option V), σ = [some (.int (q : Int)), some (.ref a), some (.ref b), some (.ref T), some (.int (i : Int)), v5] ∧ H' T = some (.lst (NL t)) ∧ t.length = p.length + s.length ∧ El m t ∧ rows q s (p.drop (i + 1)) (i + 1) (row q e (s.drop j) (i + j) t) = conv q p s ∧ Same H H')
        ⟨t, _, rfl, hT, tl1, tE, tR', sm⟩ ?_ ?_
      · rintro j σ H3 hjl ⟨t, v5, rfl, hT3, tl3, tE3, tR3, sm3⟩
        rw [Nat.zero_add]
        obtain ⟨d, hd⟩ : ∃ d, s[j]? = some d := ⟨_, List.getElem?_eq_getElem hjl⟩
        obtain ⟨c, hc⟩ : ∃ c, t[i + j]? = some c := ⟨_, List.getElem?_eq_getElem (by omega)⟩
        rw [drop_of hd] at tR3
        have tR4 : rows q s (p.drop (i + 1)) (i + 1) (row q e (s.drop (j + 1)) (i + j + 1) (t.set (i + j) (t.getD (i + j) 0 ^^^ mulm q e d))) = conv q p s := tR3
        rw [List.getD_eq_getElem?_getD, hc, Option.getD_some] at tR4
        have he16 := small16 F (hEp _ (List.mem_of_getElem? he))
        have hd16 := small16 F (hEs _ (List.mem_of_getElem? hd))
        refine ⟨_, rfl, _, rfl, _, rfl, _, _, rfl, rfl, T, _, _, _, rfl, rfl, SqL.of hT3, NL_at0 hc, _, rfl, _, rfl, _, rfl, a, _, _, _, rfl, rfl, sm3.seq ha, NL_at0 he, _, rfl, _, rfl, b, _, _, _, rfl, rfl, sm3.seq hb, NL_at0 hd, q, e, d, rfl, q0 F, q32 F, he16, hd16, fun H4 s4 => ?_⟩
        refine ⟨_, _, rfl, rfl, _, rfl, _, rfl, _, rfl, _, _, rfl, rfl, T, _, _, i + j, rfl, rfl, s4 _ _ hT3, ixN_nat (by rw [NL_len]; omega), ?_⟩
        refine ⟨t.set (i + j) (c ^^^ mulm q e d), _, rfl, ?_, ?_, ?_, tR4, same_upd2 (sm3.trans s4) nT'⟩
        · rw [upd_same, NL_set]
        · rw [List.length_set]; exact tl3
        · intro u hu
          rcases List.mem_or_eq_of_mem_set hu with h | h
          · exact tE3 u h
          · rw [h]; exact Nat.xor_lt_two_pow (tE3 c (List.mem_of_getElem? hc)) (mulm_lt F _ _)
      · rintro σ H3 ⟨t, v5, rfl, hT3, tl3, tE3, tR3, sm3⟩
        rw [List.drop_length] at tR3
        exact ⟨t, _, _, rfl, hT3, tl3, tE3, tR3, sm3⟩
    · rintro σ H2 ⟨t, v4, v5, rfl, hT, tl1, tE, tR, sm⟩
      rw [List.drop_length] at tR
      have tR' : t = conv q p s := tR
      subst tR'
      exact ⟨_, rfl, T, _, rfl, SqL.of hT, by omega, fun l H' h => k l H' ⟨sm.trans h.1, sm.free h.2.1, h.2.2⟩⟩
def sp_lat (K : PySem.W.Frag) : Sp := fun vs H Q _ => ∃ (a : Addr) (m q x : Nat) (p : List Nat), vs = [.int (q : Int), .ref a, .int (x : Int)] ∧ Fd m q ∧ SqL K H a (NL p) ∧ El m p ∧ p.length ≤ 800 ∧ x < 2 ^ m ∧
  ∀ H', Same H H' → Q (.int ((ev q x p : Nat) : Int)) H'
theorem ok__law_at_point {f f__law_product : Addr} {fd fd__law_product : FuncData} (D : Df K mg "_law_at_point" ["modulus", "p", "e"] s__law_at_point f fd) (B : Bl mg)
    (D__law_product : Df K mg "_law_product" ["modulus", "e", "f"] s__law_product f__law_product fd__law_product) (G__law_product : FnOk P w K mg base CX0 3 f__law_product fd__law_product ["modulus", "e", "f"] sp_lproduct) :
    FnOk P w K mg base CX0 4 f fd ["modulus", "p", "e"] (sp_lat K) := by
  refine D.F.ok sc__law_at_point (fun vs H Q E h => ?_) (fun cdv A outer s0 H vs Q E hr h => ?_)
  · obtain ⟨a, m, q, x, p, rfl, _⟩ := h; rfl
  · obtain ⟨a, m, q, x, p, rfl, F, ha, hEp, hp, hx, k⟩ := h
    refine ⟨_, (pss_cons (ps_set (i := 3) sc__law_at_point.nd rfl (Or.inl rfl) (pe_nat 0))
      (pss_cons (ps_for PassesOwn.never rfl (pi_range1 rfl B.range (pa_cons (pe_callB call_len_seq (by rfl) B.len PySem.boot_len (pa_cons (pv 1) pa_nil)) pa_nil)) (pg_name (i := 4) sc__law_at_point.nd rfl (Or.inl rfl) (Or.inr rfl))
        (pss_one (ps_set (i := 3) sc__law_at_point.nd rfl (Or.inl rfl) (pe_op nb_xor (pe_call G__law_product (hr.mono (by decide)) rfl D__law_product.g D__law_product.F.kp D__law_product.b .nil pass0 (pa_cons (pv 0) (pa_cons (pv 3) (pa_cons (pv 2) pa_nil)))) (pe_ix ix_list (pv 1) (pe_op nb_sub (pe_op nb_sub (pe_callB call_len_seq (by rfl) B.len PySem.boot_len (pa_cons (pv 1) pa_nil)) (pe_nat 1)) (pv 4)) (fun _ _ => rfl))))))
      (pss_one (ps_ret (pv 3))))), ?_⟩
    refine ⟨_, rfl, a, _, rfl, .inl ha, _, rfl, by rw [NL_len]; omega, by rw [NL_len]; omega, ?_⟩
    rw [NL_len]
    refine for_rangeN (lo := 0) (n := p.length) (fun i σ H' => ∃ v : Option V, σ = [some (.int (q : Int)), some (.ref a), some (.int (x : Int)), some (.int ((ev q x (p.drop (p.length - i)) : Nat) : Int)), v] ∧ Same H H') ⟨none, ?_, Same.refl H⟩ ?_ ?_
    · rw [Nat.sub_zero, List.drop_length]; rfl
    · rintro i σ H1 hi ⟨v, rfl, sm⟩
      rw [Nat.zero_add]
      obtain ⟨c, hc⟩ : ∃ c, p[p.length - 1 - i]? = some c := ⟨_, List.getElem?_eq_getElem (by omega)⟩
      have ed : p.drop (p.length - (i + 1)) = c :: p.drop (p.length - i) := by
        rw [show p.length - (i + 1) = p.length - 1 - i by omega, drop_of hc, show p.length - 1 - i + 1 = p.length - i by omega]
      have hel : ev q x (p.drop (p.length - i)) < 2 ^ m := ev_lt F fun d hd => hEp d (List.mem_of_mem_drop hd)
      refine ⟨_, rfl, _, rfl, _, rfl, q, _, x, rfl, q0 F, q32 F, small16 F hel, small16 F hx, fun H2 s2 => ?_⟩
      refine ⟨_, rfl, _, rfl, a, _, rfl, .inl ((sm.trans s2).seq ha), _, _, rfl, rfl, ?_⟩
      rw [NL_len]
      refine ⟨by omega, _, rfl, _, _, rfl, rfl, by omega, a, _, _, _, rfl, rfl, (sm.trans s2).seq ha, NL_at0 hc, _, _, rfl, rfl, some (.int (i : Int)), ?_, sm.trans s2⟩
      rw [ed, ev_cons]
      rfl
    · rintro σ H1 ⟨v, rfl, sm⟩
      rw [Nat.sub_self, List.drop_zero]
      exact ⟨_, rfl, k H1 sm⟩
end
end K02
namespace K02
open PySem PySem.Spec L2 NB ER MKX
section
variable {P : Program} {w : World} {K : PySem.W.Frag} {mg : Str → Option Value} {base : Heap}
open FLD PLY
/-- every second element behind the first one -/
def slopeL (p : List Nat) : List Nat := (List.range (p.length - 1)).map fun i => if i % 2 = 0 then p.getD (i + 1) 0 else 0
theorem slopeL_len (p : List Nat) : (slopeL p).length = p.length - 1 := by unfold slopeL; rw [List.length_map, List.length_range]
theorem slopeL_get {p : List Nat} {i e : Nat} (h : p[i + 1]? = some e) : (slopeL p)[i]? = some (if i % 2 = 0 then e else 0) := by
  have hi := (List.getElem?_eq_some_iff.mp h).1
  unfold slopeL
  rw [List.getElem?_map, List.getElem?_range (by omega)]
  show some (if i % 2 = 0 then p.getD (i + 1) 0 else 0) = _
  rw [List.getD_eq_getElem?_getD, h]
  rfl
def sp_slope (K : PySem.W.Frag) : Sp := fun vs H Q _ => ∃ (a : Addr) (p : List Nat), vs = [.ref a] ∧ SqL K H a (NL p) ∧ p.length ≤ 400 ∧ (∀ c ∈ p, c < 65536) ∧ ∀ l H', NewL H H' l (trim (slopeL p)) → Q (.ref l) H'
theorem ok__law_slope {f f__law_trim : Addr} {fd fd__law_trim : FuncData} (D : Df K mg "_law_slope" ["p"] s__law_slope f fd) (B : Bl mg)
    (D__law_trim : Df K mg "_law_trim" ["poly"] s__law_trim f__law_trim fd__law_trim) (G__law_trim : FnOk P w K mg base CX0 1 f__law_trim fd__law_trim ["poly"] (sp_trimmed K)) : FnOk P w K mg base CX0 2 f fd ["p"] (sp_slope K) := by
  refine D.F.ok sc__law_slope (fun vs H Q E h => ?_) (fun cdv A outer s0 H vs Q E hr h => ?_)
  · obtain ⟨a, p, rfl, _⟩ := h; rfl
  · obtain ⟨a, p, rfl, hS, hp, hb, k⟩ := h
    refine ⟨_, (pss_one (ps_ret (pe_call G__law_trim (hr.mono (by decide)) rfl D__law_trim.g D__law_trim.F.kp D__law_trim.b .nil pass0 (pa_cons (pe_lc (own := [("k", 1)]) rfl sc__law_slope.nd (pi_range2 rfl B.range (pa_cons (pe_nat 1) (pa_cons (pe_callB call_len_seq (by rfl) B.len PySem.boot_len (pa_cons (pv 0) pa_nil)) pa_nil))) (blkOk_by (own := [("k", 1)]) (N := ["p", "k"]) (sc := defScope s__law_slope) (by decide +kernel)) (fun _ _ _ _ _ => (pg_name (i := 1) sc__law_slope.nd rfl (Or.inl rfl) (Or.inr rfl))) (fun _ _ _ _ _ => pts_nil) (fun _ _ _ _ _ => (pe_op nb_mul (pe_ix (ix_listK (K := K) rfl) (pv 0) (pv 1) (fun _ _ => rfl)) (pe_op nb_mod (pe_callTy call_int1 (by rfl) B.int (by decide +kernel) (pa_cons (pv 1) pa_nil)) (pe_nat 2))))) pa_nil)))), ?_⟩
    refine ⟨_, rfl, a, _, rfl, .inl hS, ((1 : Nat) : Int), _, rfl, ⟨by omega, by omega, by rw [NL_len]; omega, by rw [NL_len]; omega⟩, fun D0 nD => ?_⟩
    rw [NL_len, show (((p.length : Nat) : Int) - ((1 : Nat) : Int)).toNat = p.length - 1 by omega]
    refine lc_rangeN (lo := 1) (n := p.length - 1) (fun i H' => H' D0 = some (.lst (NL ((slopeL p).take i))) ∧ Same H H') ⟨upd_same, same_upd nD⟩ ?_ ?_
    · rintro i H1 hi ⟨h1, sm⟩
      obtain ⟨e, he⟩ : ∃ e, p[1 + i]? = some e := ⟨_, List.getElem?_eq_getElem (by omega)⟩
      have heb := hb e (List.mem_of_getElem? he)
      refine ⟨rfl, _, rfl, _, rfl, a, _, _, _, rfl, rfl, sm.seq hS, NL_at0 he, _, rfl, .inl ⟨_, rfl, _, _, rfl, rfl, Nat.succ_pos _, _, _, rfl, rfl, .inl (by omega), _, h1, ?_, ?_, same_upd2 sm nD⟩⟩
      · rw [NL_len, List.length_take]; exact Nat.lt_of_le_of_lt (Nat.min_le_right _ _) (small1000 (by rw [slopeL_len]; omega))
      · have e2 : (slopeL p)[i]? = some (e * ((1 + i) % 2)) := by
          rw [slopeL_get (by rw [Nat.add_comm]; exact he)]
          congr 1
          by_cases z : i % 2 = 0
          · rw [if_pos z, show (1 + i) % 2 = 1 by omega, Nat.mul_one]
          · rw [if_neg z, show (1 + i) % 2 = 0 by omega, Nat.mul_zero]
        rw [upd_same, NL_app, V_take_more e2]
    · rintro H1 ⟨h1, sm⟩
      rw [List.take_of_length_le (by rw [slopeL_len]; exact Nat.le_refl _)] at h1
      exact ⟨D0, _, rfl, SqL.of h1, by rw [slopeL_len]; omega, fun l H' h => k l H' ⟨sm.trans h.1, sm.free h.2.1, h.2.2⟩⟩
def sp_linv : Sp := fun vs H Q _ => ∃ m q e : Nat, vs = [.int (m : Int), .int (q : Int), .int (e : Int)] ∧ Fd m q ∧ e ≠ 0 ∧ e < 2 ^ m ∧ ∀ (v : Nat) H', v < 2 ^ m → v ≠ 0 → mulm q e v = 1 → Same H H' → Q (.int (v : Int)) H'
theorem inv_ex {m q e : Nat} (F : Fd m q) (e0 : e ≠ 0) (he : e < 2 ^ m) : ∃ v, v < 2 ^ m ∧ v ≠ 0 ∧ mulm q e v = 1 := by
  obtain ⟨r, R⟩ := root_ex F
  have h := pw_all F R e0 he
  obtain ⟨h4, _⟩ := pow_m F
  refine ⟨pw q e (2 ^ m - 2), pw_lt F _ _, pw_ne F he e0 _, ?_⟩
  rw [mulm_comm]
  show pw q e (2 ^ m - 2 + 1) = 1
  rw [show 2 ^ m - 2 + 1 = 2 ^ m - 1 by omega]
  exact h
theorem ok__law_inverse {f f__law_product : Addr} {fd fd__law_product : FuncData} (D : Df K mg "_law_inverse" ["m", "modulus", "e"] s__law_inverse f fd) (B : Bl mg)
    (D__law_product : Df K mg "_law_product" ["modulus", "e", "f"] s__law_product f__law_product fd__law_product) (G__law_product : FnOk P w K mg base CX0 3 f__law_product fd__law_product ["modulus", "e", "f"] sp_lproduct) :
    FnOk P w K mg base CX0 4 f fd ["m", "modulus", "e"] sp_linv := by
  refine D.F.ok sc__law_inverse (fun vs H Q E h => ?_) (fun cdv A outer s0 H vs Q E hr h => ?_)
  · obtain ⟨m, q, e, rfl, _⟩ := h; rfl
  · obtain ⟨m, q, e, rfl, F, e0, he, k⟩ := h
    refine ⟨_, (pss_cons (ps_for PassesOwn.never rfl (pi_range2 rfl B.range (pa_cons (pe_nat 1) (pa_cons (pe_op nb_shl (pe_nat 1) (pv 0)) pa_nil))) (pg_name (i := 3) sc__law_inverse.nd rfl (Or.inl rfl) (Or.inr rfl))
        (pss_one (ps_if (pt_cmpR op_eq (pe_call G__law_product (hr.mono (by decide)) rfl D__law_product.g D__law_product.F.kp D__law_product.b .nil pass0 (pa_cons (pv 1) (pa_cons (pv 2) (pa_cons (pv 3) pa_nil)))) (pe_nat 1) (nomark _)) (pss_one (ps_ret (pv 3))) pss_nil)))
      (pss_one (ps_ret pe_non))), ?_⟩
    obtain ⟨hm4, hm256⟩ := pow_m F
    have hm8 := F.h8
    obtain ⟨v, v1, v2, v3⟩ := inv_ex F e0 he
    refine ⟨_, rfl, _, _, rfl, rfl, ⟨by decide, by omega⟩, ((1 : Nat) : Int), ((2 ^ m * 1 : Nat) : Int), rfl, ⟨by omega, by omega, by omega, by omega⟩, ?_⟩
    rw [Nat.mul_one, show (((2 ^ m : Nat) : Int) - ((1 : Nat) : Int)).toNat = 2 ^ m - 1 by omega]
    refine for_rangeN (lo := 1) (n := 2 ^ m - 1) (fun i σ H' => ∃ u : Option V, σ = [some (.int (m : Int)), some (.int (q : Int)), some (.int (e : Int)), u] ∧ i < v ∧ Same H H') ⟨none, rfl, by omega, Same.refl H⟩ ?_ ?_
    · rintro i σ H1 hi ⟨u, rfl, hv, sm⟩
      refine ⟨_, rfl, _, rfl, _, rfl, q, e, 1 + i, rfl, q0 F, q32 F, small16 F he, small16 F (by omega), fun H2 s2 => ⟨rfl, _, rfl, iteD (fun c => ?_) (fun c => ?_)⟩⟩
      · have c' : mulm q e (1 + i) = 1 := by have := V.int.inj c; omega
        exact ⟨_, rfl, k (1 + i) H2 (by omega) (by omega) c' (sm.trans s2)⟩
      · refine ⟨_, rfl, ?_, sm.trans s2⟩
        have : 1 + i ≠ v := fun z => c (by rw [z, v3])
        omega
    · rintro σ H1 ⟨u, rfl, hv, sm⟩
      omega
def sp_lplus (K : PySem.W.Frag) : Sp := fun vs H Q _ => ∃ (a b : Addr) (p s : List Nat), vs = [.ref a, .ref b] ∧ H a = some (.lst (NL p)) ∧ H b = some (.lst (NL s)) ∧ p.length ≤ 400 ∧ s.length ≤ 400 ∧ ∀ l H', NewL H H' l (trim (addL p s)) → Q (.ref l) H'
theorem pad_get {p : List Nat} {n k : Nat} (hk : k < n) (hp : p.length ≤ n) : ∃ c, (p ++ List.replicate n 0)[k]? = some c ∧ (padTo n p)[k]? = some c := by
  unfold padTo
  by_cases h : k < p.length
  · exact ⟨p[k], by rw [List.getElem?_append_left h, List.getElem?_eq_getElem h], by rw [List.getElem?_append_left h, List.getElem?_eq_getElem h]⟩
  · refine ⟨0, ?_, ?_⟩
    · rw [List.getElem?_append_right (by omega), List.getElem?_replicate, if_pos (by omega)]
    · rw [List.getElem?_append_right (by omega), List.getElem?_replicate, if_pos (by omega)]
theorem addL_get {p s : List Nat} {k c d : Nat} (h1 : (padTo (max p.length s.length) p)[k]? = some c) (h2 : (padTo (max p.length s.length) s)[k]? = some d) : (addL p s)[k]? = some (c ^^^ d) := by
  unfold addL; rw [List.getElem?_zipWith, h1, h2]
theorem addL_len (p r : List Nat) : (addL p r).length = max p.length r.length := by
  unfold addL
  rw [List.length_zipWith, padTo_len (Nat.le_max_left _ _), padTo_len (Nat.le_max_right _ _), Nat.min_self]
theorem ok__law_plus {f f__law_trim : Addr} {fd fd__law_trim : FuncData} (D : Df K mg "_law_plus" ["p", "q"] s__law_plus f fd) (B : Bl mg)
    (D__law_trim : Df K mg "_law_trim" ["poly"] s__law_trim f__law_trim fd__law_trim) (G__law_trim : FnOk P w K mg base CX0 1 f__law_trim fd__law_trim ["poly"] (sp_trimmed K)) : FnOk P w K mg base CX0 2 f fd ["p", "q"] (sp_lplus K) := by
  refine D.F.ok sc__law_plus (fun vs H Q E h => ?_) (fun cdv A outer s0 H vs Q E hr h => ?_)
  · obtain ⟨a, b, p, s, rfl, _⟩ := h; rfl
  · obtain ⟨a, b, p, s, rfl, ha, hb, hp, hs, k⟩ := h
    refine ⟨_, (pss_cons (ps_set (i := 2) sc__law_plus.nd rfl (Or.inr rfl) (pe_callB (call_max2 rfl) (by rfl) B.max (by decide +kernel) (pa_cons (pe_callB call_len_seq (by rfl) B.len PySem.boot_len (pa_cons (pv 0) pa_nil)) (pa_cons (pe_callB call_len_seq (by rfl) B.len PySem.boot_len (pa_cons (pv 1) pa_nil)) pa_nil))))
      (pss_one (ps_ret (pe_call G__law_trim (hr.mono (by decide)) rfl D__law_trim.g D__law_trim.F.kp D__law_trim.b .nil pass0 (pa_cons (pe_lc (own := [("k", 3)]) rfl sc__law_plus.nd (pi_range1 rfl B.range (pa_cons (pv 2) pa_nil)) (blkOk_by (own := [("k", 3)]) (N := ["p", "q", "size", "k"]) (sc := defScope s__law_plus) (by decide +kernel)) (fun _ _ _ _ _ => (pg_name (i := 3) sc__law_plus.nd rfl (Or.inl rfl) (Or.inr rfl))) (fun _ _ _ _ _ => pts_nil) (fun _ _ _ _ _ => (pe_op nb_xor (pe_ix (ix_listK (K := K) rfl) (pe_op op_cat (pv 0) (pe_op op_rep (pe_lst (pa_cons (pe_nat 0) pa_nil)) (pv 2))) (pv 3) (fun _ _ => rfl)) (pe_ix (ix_listK (K := K) rfl) (pe_op op_cat (pv 1) (pe_op op_rep (pe_lst (pa_cons (pe_nat 0) pa_nil)) (pv 2))) (pv 3) (fun _ _ => rfl))))) pa_nil))))), ?_⟩
    have sL := sizeLine_eq
    refine ⟨_, rfl, a, _, rfl, .inl (SqL.of ha), _, rfl, b, _, rfl, .inl (SqL.of hb), _, _, rfl, ?_⟩
    have e0 : (if (((NL s).length : Nat) : Int) > (((NL p).length : Nat) : Int) then (((NL s).length : Nat) : Int) else (((NL p).length : Nat) : Int)) = ((max p.length s.length : Nat) : Int) := by
      rw [NL_len, NL_len]; split <;> omega
    rw [e0]
    have hn1 : p.length ≤ max p.length s.length := Nat.le_max_left _ _
    have hn2 : s.length ≤ max p.length s.length := Nat.le_max_right _ _
    have hn3 : max p.length s.length ≤ 400 := Nat.max_le.mpr ⟨hp, hs⟩
    have hal := addL_len p s
    have hget : ∀ k, k < max p.length s.length → ∃ c d, (p ++ List.replicate (max p.length s.length) 0)[k]? = some c ∧ (s ++ List.replicate (max p.length s.length) 0)[k]? = some d ∧ (addL p s)[k]? = some (c ^^^ d) := fun k hk => by
      obtain ⟨c, c1, c2⟩ := pad_get hk hn1
      obtain ⟨d, d1, d2⟩ := pad_get hk hn2
      exact ⟨c, d, c1, d1, addL_get c2 d2⟩
    generalize hn : max p.length s.length = n at hn1 hn2 hn3 hal hget ⊢
    refine ⟨_, rfl, _, rfl, by omega, by omega, fun D0 nD => ?_⟩
    refine lc_rangeN (lo := 0) (n := n) (fun i H' => H' D0 = some (.lst (NL ((addL p s).take i))) ∧ Same H H') ⟨upd_same, same_upd nD⟩ ?_ ?_
    · rintro i H1 hi ⟨h1, sm⟩
      rw [Nat.zero_add]
      obtain ⟨c, d, hc, hd, hcd⟩ := hget i hi
      have step : ∀ (u : Addr) (w2 : List Nat) (H2 : Hp), H2 u = some (.lst (NL w2)) → True := fun _ _ _ _ => trivial
      refine ⟨rfl, _, rfl, (by show 1 ≤ sizeLine; decide), fun z1 nz1 => ⟨_, rfl, z1, _, _, rfl, rfl, upd_same, by omega, by omega, by rw [Int.toNat_natCast]; show 1 * n ≤ sizeLine; omega, fun y1 ny1 => ?_⟩⟩
      rw [Int.toNat_natCast, rep0]
      have s1 := same_new (o := HO.lst (NL (List.replicate n 0))) (same_upd (o := HO.lst [V.int ((0 : Nat) : Int)]) nz1) ny1
      refine ⟨a, y1, _, _, rfl, rfl, s1 _ _ (sm _ _ ha), upd_same, by rw [NL_len, NL_len, List.length_replicate]; omega, fun c1 nc1 => ?_⟩
      rw [NL_cat]
      have s2 := same_new (o := HO.lst (NL (p ++ List.replicate n 0))) s1 nc1
      refine ⟨_, rfl, c1, _, _, _, rfl, rfl, SqL.of upd_same, NL_at0 hc, ?_⟩
      generalize hH2 : upd (upd (upd H1 z1 (.lst [V.int ((0 : Nat) : Int)])) y1 (.lst (NL (List.replicate n 0)))) c1 (.lst (NL (p ++ List.replicate n 0))) = H2 at s2 ⊢
      refine ⟨_, rfl, (by show 1 ≤ sizeLine; decide), fun z2 nz2 => ⟨_, rfl, z2, _, _, rfl, rfl, upd_same, by omega, by omega, by rw [Int.toNat_natCast]; show 1 * n ≤ sizeLine; omega, fun y2 ny2 => ?_⟩⟩
      rw [Int.toNat_natCast, rep0]
      have s3 := same_new (o := HO.lst (NL (List.replicate n 0))) (same_upd (o := HO.lst [V.int ((0 : Nat) : Int)]) nz2) ny2
      refine ⟨b, y2, _, _, rfl, rfl, s3 _ _ (s2 _ _ (sm _ _ hb)), upd_same, by rw [NL_len, NL_len, List.length_replicate]; omega, fun c2 nc2 => ?_⟩
      rw [NL_cat]
      have s4 := same_new (o := HO.lst (NL (s ++ List.replicate n 0))) s3 nc2
      have s14 := s2.trans s4
      refine ⟨_, rfl, c2, _, _, _, rfl, rfl, SqL.of upd_same, NL_at0 hd, _, _, rfl, rfl, _, s14 _ _ h1, ?_, ?_, same_upd2 (sm.trans s14) nD⟩
      · rw [NL_len, List.length_take]; exact Nat.lt_of_le_of_lt (Nat.min_le_right _ _) (small1000 (by omega))
      · rw [upd_same, NL_app, V_take_more hcd]
    · rintro H1 ⟨h1, sm⟩
      rw [List.take_of_length_le (by omega)] at h1
      exact ⟨D0, _, rfl, SqL.of h1, by omega, fun l H' h => k l H' ⟨sm.trans h.1, sm.free h.2.1, h.2.2⟩⟩
theorem cut_from (xs : List V) (k : Nat) : cutV xs (some (k : Int)) none = xs.drop k := by
  unfold cutV
  have e : HT.sIx xs.length xs.length none = xs.length := by rfl
  rw [e, HT.sIx_nat]
  by_cases h : k ≤ xs.length
  · rw [Nat.min_eq_left h, List.take_of_length_le (by rw [List.length_drop]; exact Nat.le_refl _)]
  · rw [Nat.min_eq_right (by omega), List.drop_length, List.drop_eq_nil_of_le (by omega)]; simp
theorem ok_slope {f f_trimmed : Addr} {fd fd_trimmed : FuncData} (D : Df K mg "slope" ["p"] s_slope f fd) (B : Bl mg)
    (D_trimmed : Df K mg "trimmed" ["coefficients"] s_trimmed f_trimmed fd_trimmed) (G_trimmed : FnOk P w K mg base CX0 1 f_trimmed fd_trimmed ["coefficients"] (sp_trimmed K)) : FnOk P w K mg base CX0 2 f fd ["p"] (sp_slope K) := by
  refine D.F.ok sc_slope (fun vs H Q E h => ?_) (fun cdv A outer s0 H vs Q E hr h => ?_)
  · obtain ⟨a, p, rfl, _⟩ := h; rfl
  · obtain ⟨a, p, rfl, hS, hp, hb, k⟩ := h
    refine ⟨_, (pss_one (ps_ret (pe_call G_trimmed (hr.mono (by decide)) rfl D_trimmed.g D_trimmed.F.kp D_trimmed.b .nil pass0 (pa_cons (pe_lc (g := (gTup K 2 (gCons (gName 1) (gCons (gName 2) gNil)))) (own := [("i", 1), ("e", 2)]) rfl sc_slope.nd (pi_enum rfl B.enumerate (pa_cons (pe_slice sl_list (pv 0) (po_some (pe_nat 1)) po_none) pa_nil)) (blkOk_by (own := [("i", 1), ("e", 2)]) (N := ["p", "i", "e"]) (sc := defScope s_slope) (by decide +kernel)) (fun _ _ _ _ _ => (pg_tup rfl (pgs_cons (pg_name (i := 1) sc_slope.nd rfl (Or.inl rfl) (Or.inr rfl)) (pgs_cons (pg_name (i := 2) sc_slope.nd rfl (Or.inl rfl) (Or.inr rfl)) pgs_nil)))) (fun _ _ _ _ _ => pts_nil) (fun _ _ _ _ _ => (pe_ifExp (pt_cmpR op_eq (pe_op nb_mod (pv 1) (pe_nat 2)) (pe_nat 0) (nomark _)) (pv 2) (pe_nat 0)))) pa_nil)))), ?_⟩
    refine ⟨_, rfl, ((1 : Nat) : Int), rfl, a, _, rfl, hS, fun c nc => ⟨c, _, rfl, SqL.of upd_same, fun D0 nD => ?_⟩⟩
    have s1 := same_upd (o := HO.lst (cutV (NL p) (some ((1 : Nat) : Int)) none)) nc
    have ec : cutV (NL p) (some ((1 : Nat) : Int)) none = NL (p.drop 1) := by rw [cut_from]; unfold NL; rw [List.map_drop]
    rw [ec] at nD ⊢
    have s1 := same_upd (o := HO.lst (NL (p.drop 1))) nc
    have hc : (upd H c (.lst (NL (p.drop 1)))) c = some (.lst (NL (p.drop 1))) := upd_same
    generalize hH1 : upd H c (.lst (NL (p.drop 1))) = H1 at s1 hc nD ⊢
    have nD' := s1.free nD
    refine lc_it (walk_enum (K := K) (a := c) (xs := NL (p.drop 1))) (fun i H' => H' D0 = some (.lst (NL ((slopeL p).take i))) ∧ H' c = some (.lst (NL (p.drop 1))) ∧ Same H H') ⟨upd_same, ?_, same_new s1 nD⟩ (fun i H' _ h => SqL.of h.2.1) ?_ ?_
    · rw [upd_ne (ne_of_none hc nD)]; exact hc
    · rintro i v H2 H2' hi ⟨h1, h2, sm⟩ ⟨T, x, y, rfl, nT, rfl, hx, hy⟩
      cases (Option.some.inj hx)
      obtain ⟨e, he, rfl⟩ := NL_get_inv hy
      rw [List.getElem?_drop] at he
      have hz := slopeL_get (p := p) (i := i) (e := e) (by rw [Nat.add_comm]; exact he)
      have sm' := same_new (o := HO.tup [.int (i : Int), .int (e : Int)]) sm nT
      have fin : ∀ u : Nat, (slopeL p)[i]? = some u → ∃ acc, (upd H2 T (.tup [.int (i : Int), .int (e : Int)])) D0 = some (.lst acc) ∧ acc.length < sizeLine ∧ ((upd (upd H2 T (.tup [.int (i : Int), .int (e : Int)])) D0 (.lst (acc ++ [.int (u : Int)]))) D0 = some (.lst (NL ((slopeL p).take (i + 1)))) ∧ (upd (upd H2 T (.tup [.int (i : Int), .int (e : Int)])) D0 (.lst (acc ++ [.int (u : Int)]))) c = some (.lst (NL (p.drop 1))) ∧ Same H (upd (upd H2 T (.tup [.int (i : Int), .int (e : Int)])) D0 (.lst (acc ++ [.int (u : Int)])))) := fun u hu => by
        refine ⟨_, by rw [upd_ne (ne_of_none h1 nT)]; exact h1, ?_, ?_, ?_, same_upd2 sm' nD'⟩
        · rw [NL_len, List.length_take]; exact Nat.lt_of_le_of_lt (Nat.min_le_right _ _) (small1000 (by rw [slopeL_len]; omega))
        · rw [upd_same, NL_app, V_take_more hu]
        · rw [upd_ne (ne_of_none hc nD), upd_ne (ne_of_none h2 nT)]; exact h2
      refine ⟨T, [_, _], rfl, SqT.of upd_same, rfl, _, _, rfl, _, _, rfl, rfl, rfl, _, rfl, _, _, rfl, rfl, Nat.succ_pos _, rfl, _, rfl, iteD (fun z => ?_) (fun z => ?_)⟩
      · have z' : i % 2 = 0 := by have := V.int.inj z; omega
        rw [if_pos z'] at hz
        exact ⟨_, rfl, fin e hz⟩
      · have z' : ¬ i % 2 = 0 := fun w2 => z (congrArg (fun t : Nat => V.int (t : Int)) w2)
        rw [if_neg z'] at hz
        exact fin 0 hz
    · rintro H2 ⟨h1, h2, sm⟩
      rw [NL_len, List.length_drop, List.take_of_length_le (by rw [slopeL_len]; exact Nat.le_refl _)] at h1
      exact ⟨D0, _, rfl, SqL.of h1, by rw [slopeL_len]; omega, fun l H' h => k l H' ⟨sm.trans h.1, sm.free h.2.1, h.2.2⟩⟩
end
end K02
namespace K02
open PySem PySem.Spec L2 NB ER MKX
section
variable {P : Program} {w : World} {K : PySem.W.Frag} {mg : Str → Option Value} {base : Heap}
open FLD PLY
theorem at_last {p : List Nat} (h : 0 < p.length) : atI (NL p) (-((1 : Nat) : Int)) = some (.int ((lastD p : Nat) : Int)) := by
  have e : p = p.dropLast ++ [lastD p] := by
    have h1 := List.dropLast_concat_getLast (l := p) (by intro z; rw [z] at h; simp at h)
    have h2 : p.getLast (by intro z; rw [z] at h; simp at h) = lastD p := by
      rw [List.getLast_eq_getElem]
      have := get_getD (p := p) (i := p.length - 1) (by omega)
      rw [List.getElem?_eq_getElem (by omega)] at this
      exact Option.some.inj this
    rw [h2] at h1
    exact h1.symm
  have e2 : NL p = NL p.dropLast ++ [.int ((lastD p : Nat) : Int)] := by
    conv => lhs; rw [e]
    rw [← NL_app]
  rw [e2]
  exact atI_last _ _
/-- the division's answer -/
def dq (q v : Nat) (s p : List Nat) : List Nat × List Nat := dv q v (trim s) p.length (trim p) (List.replicate ((trim p).length + 1 - (trim s).length) 0)
def sp_div (K : PySem.W.Frag) (C CN : Addr) : Sp := fun vs H Q E => ∃ (f a b : Addr) (m q r : Nat) (p s : List Nat), vs = [.ref f, .ref a, .ref b] ∧ FieldAt C H f m q r ∧ SqL K H a (NL p) ∧ SqL K H b (NL s) ∧ El m p ∧ El m s ∧ p.length ≤ 400 ∧ s.length ≤ 400 ∧
  (trim s = [] → ∀ d H', Same H H' → H' d = none → E (.ref CN) (some d) (upd H' d (.xd [("at", .int 0)]))) ∧
  (trim s ≠ [] → ∀ (t a1 a2 : Addr) (v : Nat) H', Same H H' → v < 2 ^ m → v ≠ 0 → mulm q v (lastD (trim s)) = 1 → H' t = some (.tup [.ref a1, .ref a2]) → H' a1 = some (.lst (NL (dq q v s p).2)) → H' a2 = some (.lst (NL (dq q v s p).1)) → Q (.ref t) H')
theorem trim_El {m : Nat} {p : List Nat} (h : El m p) : El m (trim p) := fun c hc => h c (trim_mem hc)
theorem ok_divide_polys {f f_trimmed f_init C C3 C_NoDivisor CH : Addr} {fd fd_trimmed fd_init : FuncData} (D : Da K mg "divide_polys" "divide" ["field", "p", "q"] s_divide_polys f fd) (B : Bl mg) (M : FN P w K mg base C C3)
    (D_trimmed : Df K mg "trimmed" ["coefficients"] s_trimmed f_trimmed fd_trimmed) (G_trimmed : FnOk P w K mg base CX0 1 f_trimmed fd_trimmed ["coefficients"] (sp_trimmed K))
    (X_NoDivisor : XC K mg "NoDivisor" C_NoDivisor f_init CH) (G_init : FnOk P w K mg base CX0 1 f_init fd_init ["self", "at"] (sp_init K)) (b_init : Binds K fd_init ["self", "at"] []) :
    FnOk P w K mg base (L2.CX P w) 6 f fd ["field", "p", "q"] (sp_div K C C_NoDivisor) := by
  obtain ⟨f_t, fd_t, M_Field_times, b_Field_times, G_Field_times⟩ := M.times
  obtain ⟨f_a, fd_a, M_Field_add, b_Field_add, G_Field_add⟩ := M.add
  obtain ⟨f_i, fd_i, M_Field_inverse, b_Field_inverse, G_Field_inverse⟩ := M.inverse
  have K_Field := M.fc.cl
  refine D.F.okX sc_divide_polys (fun vs H Q E h => ?_) (fun cdv A outer s0 H vs Q E hr h => ?_)
  · obtain ⟨g, a, b, m, q, r, p, s, rfl, _⟩ := h; rfl
  · obtain ⟨fl, a, b, m, q, r, p, s, rfl, FA, ha, hb, hEp, hEs, hp, hs, kE, kQ⟩ := h
    refine ⟨_, (pss_cons (ps_set (i := 3) sc_divide_polys.nd rfl (Or.inl rfl) (pe_call G_trimmed (hr.mono (by decide)) rfl D_trimmed.g D_trimmed.F.kp D_trimmed.b .nil pass0 (pa_cons (pv 2) pa_nil)))
      (pss_cons (ps_if (pt_not (pt_truth (pv 3) (by intro _; rfl))) (pss_one (ps_err rfl X_NoDivisor G_init (hr.mono (by decide)) b_init pass0 (takes_of rfl rfl rfl rfl) (pa_cons (pe_nat 0) pa_nil))) pss_nil)
      (pss_cons (ps_set (i := 4) sc_divide_polys.nd rfl (Or.inl rfl) (pe_call G_trimmed (hr.mono (by decide)) rfl D_trimmed.g D_trimmed.F.kp D_trimmed.b .nil pass0 (pa_cons (pv 1) pa_nil)))
      (pss_cons (ps_set (i := 5) sc_divide_polys.nd rfl (Or.inl rfl) (pe_mtS (pv 0) K_Field M_Field_inverse G_Field_inverse (hr.mono (by decide)) b_Field_inverse (fun σ => passAt (W := fun cls d _ H => E cls d H) (takes_of rfl rfl rfl rfl) σ) (by exact (pa_cons (pe_ix ix_list (pv 3) (pe_un un_neg (pe_nat 1)) (fun _ _ => rfl)) pa_nil))))
      (pss_cons (ps_set (i := 6) sc_divide_polys.nd rfl (Or.inl rfl) (pe_op op_rep (pe_lst (pa_cons (pe_nat 0) pa_nil)) (pe_callB (call_max2 rfl) (by rfl) B.max (by decide +kernel) (pa_cons (pe_nat 0) (pa_cons (pe_op op_add (pe_op op_sub (pe_callB call_len_seq (by rfl) B.len PySem.boot_len (pa_cons (pv 4) pa_nil)) (pe_callB call_len_seq (by rfl) B.len PySem.boot_len (pa_cons (pv 3) pa_nil))) (pe_nat 1)) pa_nil)))))
      (pss_cons (ps_while (passes_of rfl) (pt_cmpR op_ge (pe_callB call_len_seq (by rfl) B.len PySem.boot_len (pa_cons (pv 4) pa_nil)) (pe_callB call_len_seq (by rfl) B.len PySem.boot_len (pa_cons (pv 3) pa_nil)) (nomark _))
        (pss_cons (ps_set (i := 7) sc_divide_polys.nd rfl (Or.inl rfl) (pe_op op_sub (pe_callB call_len_seq (by rfl) B.len PySem.boot_len (pa_cons (pv 4) pa_nil)) (pe_callB call_len_seq (by rfl) B.len PySem.boot_len (pa_cons (pv 3) pa_nil))))
        (pss_cons (ps_set (i := 8) sc_divide_polys.nd rfl (Or.inl rfl) (pe_meth (pv 0) K_Field M_Field_times G_Field_times (hr.mono (by decide)) b_Field_times .nil pass0 (by exact (pa_cons (pe_ix ix_list (pv 4) (pe_un un_neg (pe_nat 1)) (fun _ _ => rfl)) (pa_cons (pv 5) pa_nil)))))
        (pss_cons (ps_asg (pv 8) (pg_sub (pv 6) (pv 7) set_list))
        (pss_cons (ps_for (passes_of rfl) rfl (pi_enum rfl B.enumerate (pa_cons (pv 3) pa_nil)) (pg_tup rfl (pgs_cons (pg_name (i := 9) sc_divide_polys.nd rfl (Or.inl rfl) (Or.inr rfl)) (pgs_cons (pg_name (i := 10) sc_divide_polys.nd rfl (Or.inl rfl) (Or.inr rfl)) pgs_nil)))
          (pss_one (ps_asg (pe_meth (pv 0) K_Field M_Field_add G_Field_add (hr.mono (by decide)) b_Field_add .nil pass0 (by exact (pa_cons (pe_ix ix_list (pv 4) (pe_op op_add (pv 7) (pv 9)) (fun _ _ => rfl)) (pa_cons (pe_meth (pv 0) K_Field M_Field_times G_Field_times (hr.mono (by decide)) b_Field_times .nil pass0 (by exact (pa_cons (pv 8) (pa_cons (pv 10) pa_nil)))) pa_nil)))) (pg_sub (pv 4) (pe_op op_add (pv 7) (pv 9)) set_list))))
        (pss_one (ps_set (i := 4) sc_divide_polys.nd rfl (Or.inl rfl) (pe_call G_trimmed (hr.mono (by decide)) rfl D_trimmed.g D_trimmed.F.kp D_trimmed.b .nil pass0 (pa_cons (pv 4) pa_nil)))))))))
      (pss_one (ps_ret (pe_tup (pa_cons (pv 6) (pa_cons (pv 4) pa_nil))))))))))), ?_⟩
    obtain ⟨dx, fa, fb, logs, g1, g2, g3, g4⟩ := FA.ex
    obtain ⟨n1, n2, n3, n4⟩ := fno4 m q fa fb
    have F := FA.fd
    have sL := sizeLine_eq
    refine ⟨_, rfl, b, s, rfl, hb, by omega, fun l1 H1 h1 => ?_⟩
    have s1 := h1.1
    have lenS := trim_len s
    have leS := tl_le s
    by_cases hz : trim s = []
    · refine ⟨_, rfl, false, .inl ⟨_, SqL.of h1.2.2, by rw [hz]; rfl⟩, iteT ?_⟩
      exact ⟨0, rfl, by decide, fun d hd => kE hz d H1 s1 hd⟩
    have hpos : 0 < (trim s).length := by
      cases e : trim s with
      | nil => exact absurd e hz
      | cons x l => simp
    refine ⟨_, rfl, true, .inl ⟨_, SqL.of h1.2.2, ?_⟩, iteF ?_⟩
    · cases e : trim s with
      | nil => exact absurd e hz
      | cons x l => rfl
    have lenP := trim_len p
    have leP := tl_le p
    refine ⟨_, rfl, a, p, rfl, s1.seq ha, by omega, fun l2 H2 h2 => ?_⟩
    have s2 := s1.trans h2.1
    have hl1 := h2.1 _ _ h1.2.2
    have hE1 : El m (trim s) := fun c hc => hEs c (trim_mem hc)
    have hE2 : El m (trim p) := fun c hc => hEp c (trim_mem hc)
    have last0 : lastD (trim s) ≠ 0 := fun z => by
      have := (tl_le_iff (trim s) ((trim s).length - 1)).mpr fun j hj => by
        by_cases e : j = (trim s).length - 1
        · rw [e]; exact z
        · exact getD_out (by omega)
      have e2 : tl (trim s) = (trim s).length := by rw [← trim_len, trim_trim]
      omega
    refine ⟨_, rfl, fl, dx, _, rfl, s2 _ _ g1, n1, _, rfl, _, rfl, l1, _, _, _, rfl, rfl, SqL.of hl1, at_last hpos, fl, _, m, q, r, rfl, FA.mono s2, lastD_lt F hE1, fun z => absurd z last0, fun v v1 v2 v3 => ?_⟩
    refine ⟨(by show 1 ≤ sizeLine; decide), fun z nz => ?_⟩
    have s3 := same_new (o := HO.lst [V.int ((0 : Nat) : Int)]) s2 nz
    have sz := same_upd (o := HO.lst [V.int ((0 : Nat) : Int)]) nz
    refine ⟨_, rfl, l2, _, rfl, .inl (SqL.of (sz _ _ h2.2.2)), _, rfl, l1, _, rfl, .inl (SqL.of (sz _ _ hl1)), _, _, rfl, rfl, _, _, rfl, rfl, _, _, rfl, z, (((trim p).length + 1 - (trim s).length : Nat) : Int), _, rfl, congrArg V.int ?_, upd_same, by omega, by omega, ?_, fun T nT => ?_⟩
    · show (if (((NL (trim p)).length : Nat) : Int) - (((NL (trim s)).length : Nat) : Int) + ((1 : Nat) : Int) > ((0 : Nat) : Int) then (((NL (trim p)).length : Nat) : Int) - (((NL (trim s)).length : Nat) : Int) + ((1 : Nat) : Int) else ((0 : Nat) : Int)) = _
      rw [NL_len, NL_len]
      split <;> omega
    · rw [Int.toNat_natCast]; show 1 * _ ≤ sizeLine; omega
    rw [Int.toNat_natCast, rep0]
    have s4 := same_new (o := HO.lst (NL (List.replicate ((trim p).length + 1 - (trim s).length) 0))) s3 nT
    have nT' : H T = none := s3.free nT
    have nl2 : H l2 = none := s1.free h2.2.1
    have nl1 : H l1 = none := h1.2.1
    generalize hW0 : List.replicate ((trim p).length + 1 - (trim s).length) 0 = W0 at s4 ⊢
    have lW0 : W0.length = (trim p).length + 1 - (trim s).length := by rw [← hW0, List.length_replicate]
    have sT := same_upd (o := HO.lst (NL W0)) nT
    have hl13 := sT _ _ (sz _ _ hl1)
    have hl23 := sT _ _ (sz _ _ h2.2.2)
    have hT3 : (upd (upd H2 z (.lst [V.int ((0 : Nat) : Int)])) T (.lst (NL W0))) T = some (.lst (NL W0)) := upd_same
    generalize hH3 : upd (upd H2 z (.lst [V.int ((0 : Nat) : Int)])) T (.lst (NL W0)) = H3 at s4 hl13 hl23 hT3 ⊢
    refine while_by (fun σ H' => ∃ (rl : Addr) (R W : List Nat) (n : Nat) (v7 v8 v9 v10 : Option V), σ = [some (.ref fl), some (.ref a), some (.ref b), some (.ref l1), some (.ref rl), some (.int (v : Int)), some (.ref T), v7, v8, v9, v10] ∧ H rl = none ∧ rl ≠ l1 ∧ rl ≠ T ∧ T ≠ l1 ∧ H' rl = some (.lst (NL R)) ∧ H' T = some (.lst (NL W)) ∧ H' l1 = some (.lst (NL (trim s))) ∧ El m R ∧ W.length = W0.length ∧ R.length ≤ (trim p).length ∧ R.length ≤ n ∧ dv q v (trim s) n R W = dv q v (trim s) p.length (trim p) W0 ∧ Same H H')
      (fun σ H' => match σ with | [_, _, _, _, some (.ref rl), _, _, _, _, _, _] => (match H' rl with | some (.lst l) => l.length | _ => 0) | _ => 0) ⟨l2, trim p, W0, p.length, none, none, none, none, rfl, nl2, ?_, ?_, ?_, hl23, hT3, hl13, hE2, rfl, Nat.le_refl _, by omega, rfl, s4⟩ ?_ ?_
    · exact fun e => ne_of_none h1.2.2 h2.2.1 e.symm
    · exact fun e => ne_of_none (sz _ _ h2.2.2) nT e
    · exact fun e => ne_of_none (sz _ _ hl1) nT e.symm
    · rintro σ H4 ⟨rl, R, W, n, v7, v8, v9, v10, rfl, nrl, d1, d2, d3, hR, hW, hS, hE, lW, lR, ln, hdv, sm⟩
      refine ⟨_, rfl, rl, _, rfl, .inl (SqL.of hR), _, rfl, l1, _, rfl, .inl (SqL.of hS), _, _, rfl, rfl, _, rfl, iteD (fun c => ?_) (fun c => ?_)⟩
      · have c' : (((NL (trim s)).length : Nat) : Int) ≤ (((NL R).length : Nat) : Int) := c
        rw [NL_len, NL_len] at c'
        have hge : (trim s).length ≤ R.length := by omega
        obtain ⟨n, rfl⟩ : ∃ k, n = k + 1 := ⟨n - 1, by omega⟩
        rw [dv_step hge] at hdv
        have hlt := step_lt F v3 hpos hge hE
        have esh : (((NL R).length : Nat) : Int) - (((NL (trim s)).length : Nat) : Int) = ((R.length - (trim s).length : Nat) : Int) := by rw [NL_len, NL_len]; omega
        -- shift, factor
        refine ⟨_, rfl, rl, _, rfl, .inl (SqL.of hR), _, rfl, l1, _, rfl, .inl (SqL.of hS), _, _, rfl, rfl, ?_⟩
        have lE := lastD_lt F hE
        refine ⟨_, rfl, fl, dx, _, rfl, sm _ _ g1, n3, _, rfl, _, rfl, rl, _, _, _, rfl, rfl, SqL.of hR, at_last (by omega), _, rfl, fl, _, v, m, q, r, rfl, FA.mono sm, lE, v1, ?_⟩
        -- quotient
        refine ⟨_, rfl, _, rfl, _, rfl, T, _, _, R.length - (trim s).length, rfl, rfl, hW, ?_, ?_⟩
        · show ixN _ ((((NL R).length : Nat) : Int) - (((NL (trim s)).length : Nat) : Int)) = _
          rw [esh]; exact ixN_nat (by rw [NL_len]; omega)
        rw [NL_set]
        have hR5 : (upd H4 T (.lst (NL (W.set (R.length - (trim s).length) (mulm q (lastD R) v))))) rl = some (.lst (NL R)) := by rw [upd_ne d2]; exact hR
        have hS5 : (upd H4 T (.lst (NL (W.set (R.length - (trim s).length) (mulm q (lastD R) v))))) l1 = some (.lst (NL (trim s))) := by rw [upd_ne (Ne.symm d3)]; exact hS
        have hW5 : (upd H4 T (.lst (NL (W.set (R.length - (trim s).length) (mulm q (lastD R) v))))) T = some (.lst (NL (W.set (R.length - (trim s).length) (mulm q (lastD R) v)))) := upd_same
        have sm5 := same_upd2 (o := HO.lst (NL (W.set (R.length - (trim s).length) (mulm q (lastD R) v)))) sm nT'
        generalize hH5 : upd H4 T (.lst (NL (W.set (R.length - (trim s).length) (mulm q (lastD R) v)))) = H5 at hR5 hS5 hW5 sm5 ⊢
        have hlead : mulm q (lastD R) v < 2 ^ m := mulm_lt F _ _
        refine ⟨_, rfl, l1, _, rfl, SqL.of hS5, ?_⟩
        refine for_enumL (K := K) (a := l1) (xs := NL (trim s)) (fun i σ H' => ∃ (t : List Nat) (v9 v10 : Option V), σ = [some (.ref fl), some (.ref a), some (.ref b), some (.ref l1), some (.ref rl), some (.int (v : Int)), some (.ref T), some (.int ((((NL R).length : Nat) : Int) - (((NL (trim s)).length : Nat) : Int))), some (.int ((mulm q (lastD R) v : Nat) : Int)), v9, v10] ∧ H' rl = some (.lst (NL t)) ∧ t.length = R.length ∧ El m t ∧
          row q (mulm q (lastD R) v) ((trim s).drop i) (R.length - (trim s).length + i) t = row q (mulm q (lastD R) v) (trim s) (R.length - (trim s).length) R ∧ H' T = some (.lst (NL (W.set (R.length - (trim s).length) (mulm q (lastD R) v)))) ∧ H' l1 = some (.lst (NL (trim s))) ∧ Same H H')
          ⟨R, _, _, rfl, hR5, rfl, hE, rfl, hW5, hS5, sm5⟩ (fun i σ H' _ h => by obtain ⟨_, _, _, _, _, _, _, _, _, h, _⟩ := h; exact SqL.of h) ?_ ?_
        · rintro i y T2 σ H6 hy ⟨t, v9, v10, rfl, hR6, lt, tE, tR, hW6, hS6, sm6⟩ nT2
          obtain ⟨e, he, rfl⟩ := NL_get_inv hy
          have hil := (List.getElem?_eq_some_iff.mp he).1
          have sm7 := same_new (o := HO.tup [.int (i : Int), .int (e : Int)]) sm6 nT2
          have hR7 : (upd H6 T2 (.tup [.int (i : Int), .int (e : Int)])) rl = some (.lst (NL t)) := by rw [upd_ne (ne_of_none hR6 nT2)]; exact hR6
          have hW7 : (upd H6 T2 (.tup [.int (i : Int), .int (e : Int)])) T = some (.lst (NL (W.set (R.length - (trim s).length) (mulm q (lastD R) v)))) := by rw [upd_ne (ne_of_none hW6 nT2)]; exact hW6
          have hS7 : (upd H6 T2 (.tup [.int (i : Int), .int (e : Int)])) l1 = some (.lst (NL (trim s))) := by rw [upd_ne (ne_of_none hS6 nT2)]; exact hS6
          obtain ⟨c, hc⟩ : ∃ c, t[R.length - (trim s).length + i]? = some c := ⟨_, List.getElem?_eq_getElem (by omega)⟩
          rw [drop_of he] at tR
          have tR4 : row q (mulm q (lastD R) v) ((trim s).drop (i + 1)) (R.length - (trim s).length + i + 1) (t.set (R.length - (trim s).length + i) (t.getD (R.length - (trim s).length + i) 0 ^^^ mulm q (mulm q (lastD R) v) e)) = row q (mulm q (lastD R) v) (trim s) (R.length - (trim s).length) R := tR
          rw [getD_of hc] at tR4
          have eidx : ((((NL R).length : Nat) : Int) - (((NL (trim s)).length : Nat) : Int)) + ((i : Nat) : Int) = ((R.length - (trim s).length + i : Nat) : Int) := by rw [esh]; omega
          refine ⟨T2, [_, _], rfl, SqT.of upd_same, rfl, _, _, rfl, _, _, rfl, rfl, ?_⟩
          refine ⟨_, rfl, fl, dx, _, rfl, sm7 _ _ g1, n2, _, rfl, _, rfl, _, rfl, _, _, rfl, rfl, rl, _, _, _, rfl, rfl, SqL.of hR7, (by rw [eidx]; exact NL_at0 hc), _, rfl, fl, dx, _, rfl, sm7 _ _ g1, n3, _, rfl, _, rfl, fl, _, e, m, q, r, rfl, FA.mono sm7, hlead, hE1 _ (List.mem_of_getElem? he), fl, _, _, rfl, ?_⟩
          refine ⟨_, rfl, _, rfl, _, rfl, _, _, rfl, rfl, rl, _, _, R.length - (trim s).length + i, rfl, rfl, hR7, (by rw [eidx]; exact ixN_nat (by rw [NL_len]; omega)), ?_⟩
          refine ⟨t.set (R.length - (trim s).length + i) (c ^^^ mulm q (mulm q (lastD R) v) e), _, _, rfl, ?_, ?_, ?_, tR4, ?_, ?_, same_upd2 sm7 nrl⟩
          · rw [upd_same, NL_set]
          · rw [List.length_set]; exact lt
          · intro u hu
            rcases List.mem_or_eq_of_mem_set hu with h | h
            · exact tE u h
            · rw [h]; exact Nat.xor_lt_two_pow (tE c (List.mem_of_getElem? hc)) (mulm_lt F _ _)
          · rw [upd_ne (Ne.symm d2)]; exact hW7
          · rw [upd_ne (Ne.symm d1)]; exact hS7
        · rintro σ H6 ⟨t, v9, v10, rfl, hR6, lt, tE, tR, hW6, hS6, sm6⟩
          rw [NL_len, List.drop_length] at tR
          have tR' : t = row q (mulm q (lastD R) v) (trim s) (R.length - (trim s).length) R := tR
          have est : trim t = step q v (trim s) R := by rw [tR']; rfl
          refine ⟨_, rfl, rl, t, rfl, SqL.of hR6, by omega, fun l3 H7 h7 => ⟨⟨l3, trim t, W.set (R.length - (trim s).length) (mulm q (lastD R) v), n, _, _, _, _, rfl, sm6.free h7.2.1, ?_, ?_, d3, h7.2.2, h7.1 _ _ hW6, h7.1 _ _ hS6, trim_El tE, ?_, ?_, ?_, ?_, sm6.trans h7.1⟩, ?_⟩⟩
          · exact fun e => ne_of_none hS6 h7.2.1 e.symm
          · exact fun e => ne_of_none hW6 h7.2.1 e.symm
          · rw [List.length_set]; exact lW
          · rw [est]; omega
          · rw [est]; omega
          · rw [est]; exact hdv
          · show (match H7 l3 with | some (.lst l) => l.length | _ => 0) < (match H4 rl with | some (.lst l) => l.length | _ => 0)
            rw [h7.2.2, hR]
            show (NL (trim t)).length < (NL R).length
            rw [NL_len, NL_len, est]; exact hlt
      · have c' : ¬ (((NL (trim s)).length : Nat) : Int) ≤ (((NL R).length : Nat) : Int) := c
        rw [NL_len, NL_len] at c'
        have hst := dv_stop (q := q) (v := v) (g := trim s) (R := R) (W := W) (by omega) n
        rw [hst] at hdv
        refine ⟨_, rfl, _, rfl, (by show 2 ≤ sizeLine; decide), fun t nt => ?_⟩
        refine kQ hz t T rl v _ (same_new sm nt) v1 v2 v3 upd_same ?_ ?_
        · rw [upd_ne (ne_of_none hW nt), hW]; unfold dq; rw [hW0, ← hdv]
        · rw [upd_ne (ne_of_none hR nt), hR]; unfold dq; rw [hW0, ← hdv]
    · rintro σ H' Q1 Q2 kk ⟨x0, e0, l, ys, e1, e2, x1, e3, l', ys', e4, e5, i, j, e6, e7, b0, e8, qq⟩
      exact ⟨x0, e0, l, ys, e1, e2, x1, e3, l', ys', e4, e5, i, j, e6, e7, b0, e8, kk _ _ qq⟩
end
end K02
namespace K02
open PySem PySem.Spec L2 NB ER MKX
section
variable {P : Program} {w : World} {K : PySem.W.Frag} {mg : Str → Option Value} {base : Heap}
open FLD PLY
theorem addL_getD (p s : List Nat) (j : Nat) : (addL p s).getD j 0 = p.getD j 0 ^^^ s.getD j 0 := by
  by_cases h : j < max p.length s.length
  · obtain ⟨c, c1, c2⟩ := pad_get h (Nat.le_max_left p.length s.length)
    obtain ⟨d, d1, d2⟩ := pad_get h (Nat.le_max_right p.length s.length)
    rw [getD_of (addL_get c2 d2)]
    have e : ∀ (u : List Nat) (x : Nat) (n : Nat), (u ++ List.replicate n 0)[j]? = some x → u.getD j 0 = x := fun u x n hx => by
      by_cases g : j < u.length
      · rw [List.getElem?_append_left g] at hx; exact getD_of hx
      · rw [List.getElem?_append_right (by omega), List.getElem?_replicate] at hx
        rw [getD_out (by omega)]
        split at hx
        · exact Option.some.inj hx
        · cases hx
    rw [e p c _ c1, e s d _ d1]
  · have h1 : p.length ≤ j := by have := Nat.le_max_left p.length s.length; omega
    have h2 : s.length ≤ j := by have := Nat.le_max_right p.length s.length; omega
    rw [getD_out (by rw [addL_len]; omega), getD_out h1, getD_out h2, Nat.xor_self]
def sp_lover (K : PySem.W.Frag) : Sp := fun vs H Q _ => ∃ (a b : Addr) (m q : Nat) (p s : List Nat), vs = [.int (m : Int), .int (q : Int), .ref a, .ref b] ∧ Fd m q ∧ SqL K H a (NL p) ∧ SqL K H b (NL s) ∧ El m p ∧ El m s ∧ p.length ≤ 400 ∧ s.length ≤ 400 ∧ trim s = s ∧ s ≠ [] ∧
  ∀ (t a1 a2 : Addr) (v : Nat) H', Same H H' → v < 2 ^ m → v ≠ 0 → mulm q v (lastD s) = 1 → H' t = some (.tup [.ref a1, .ref a2]) → H' a1 = some (.lst (NL (trim (dv q v s p.length (trim p) (List.replicate p.length 0)).2))) → H' a2 = some (.lst (NL (dv q v s p.length (trim p) (List.replicate p.length 0)).1)) → Q (.ref t) H'
theorem ok__law_over {f f__law_inverse f__law_trim f__law_product f__law_plus f__law_mul : Addr} {fd fd__law_inverse fd__law_trim fd__law_product fd__law_plus fd__law_mul : FuncData} (D : Df K mg "_law_over" ["m", "modulus", "p", "q"] s__law_over f fd) (B : Bl mg)
    (D__law_inverse : Df K mg "_law_inverse" ["m", "modulus", "e"] s__law_inverse f__law_inverse fd__law_inverse) (G__law_inverse : FnOk P w K mg base CX0 4 f__law_inverse fd__law_inverse ["m", "modulus", "e"] sp_linv)
    (D__law_trim : Df K mg "_law_trim" ["poly"] s__law_trim f__law_trim fd__law_trim) (G__law_trim : FnOk P w K mg base CX0 1 f__law_trim fd__law_trim ["poly"] (sp_trimmed K))
    (D__law_product : Df K mg "_law_product" ["modulus", "e", "f"] s__law_product f__law_product fd__law_product) (G__law_product : FnOk P w K mg base CX0 3 f__law_product fd__law_product ["modulus", "e", "f"] sp_lproduct)
    (D__law_plus : Df K mg "_law_plus" ["p", "q"] s__law_plus f__law_plus fd__law_plus) (G__law_plus : FnOk P w K mg base CX0 2 f__law_plus fd__law_plus ["p", "q"] (sp_lplus K))
    (D__law_mul : Df K mg "_law_mul" ["modulus", "p", "q"] s__law_mul f__law_mul fd__law_mul) (G__law_mul : FnOk P w K mg base CX0 4 f__law_mul fd__law_mul ["modulus", "p", "q"] (sp_lmul K)) :
    FnOk P w K mg base CX0 6 f fd ["m", "modulus", "p", "q"] (sp_lover K) := by
  refine D.F.ok sc__law_over (fun vs H Q E h => ?_) (fun cdv A outer s0 H vs Q E hr h => ?_)
  · obtain ⟨a, b, m, q, p, s, rfl, _⟩ := h; rfl
  · obtain ⟨a, b, m, q, p, s, rfl, F, ha, hb, hEp, hEs, hp, hs, hts, hs0, k⟩ := h
    refine ⟨_, (pss_cons (ps_set (i := 4) sc__law_over.nd rfl (Or.inl rfl) (pe_callTy call_list_of (by rfl) B.list (by decide +kernel) (pa_cons (pv 2) pa_nil)))
      (pss_cons (ps_set (i := 5) sc__law_over.nd rfl (Or.inl rfl) (pe_op op_rep (pe_lst (pa_cons (pe_nat 0) pa_nil)) (pe_callB call_len_seq (by rfl) B.len PySem.boot_len (pa_cons (pv 2) pa_nil))))
      (pss_cons (ps_set (i := 6) sc__law_over.nd rfl (Or.inl rfl) (pe_call G__law_inverse (hr.mono (by decide)) rfl D__law_inverse.g D__law_inverse.F.kp D__law_inverse.b .nil pass0 (pa_cons (pv 0) (pa_cons (pv 1) (pa_cons (pe_ix ix_list (pv 3) (pe_un un_neg (pe_nat 1)) (fun _ _ => rfl)) pa_nil)))))
      (pss_cons (ps_for PassesOwn.never rfl (pi_range1 rfl B.range (pa_cons (pe_callB call_len_seq (by rfl) B.len PySem.boot_len (pa_cons (pv 2) pa_nil)) pa_nil)) (pg_name (i := 7) sc__law_over.nd rfl (Or.inl rfl) (Or.inr rfl))
        (pss_cons (ps_set (i := 4) sc__law_over.nd rfl (Or.inl rfl) (pe_call G__law_trim (hr.mono (by decide)) rfl D__law_trim.g D__law_trim.F.kp D__law_trim.b .nil pass0 (pa_cons (pv 4) pa_nil)))
        (pss_cons (ps_set (i := 8) sc__law_over.nd rfl (Or.inl rfl) (pe_op op_sub (pe_callB call_len_seq (by rfl) B.len PySem.boot_len (pa_cons (pv 4) pa_nil)) (pe_callB call_len_seq (by rfl) B.len PySem.boot_len (pa_cons (pv 3) pa_nil))))
        (pss_one (ps_if (PW.pt (pw_and (pt_cmpR op_ge (pv 8) (pe_nat 0) (nomark _)) (pw_and1 (pt_cmpR op_gt (pe_callB call_len_seq (by rfl) B.len PySem.boot_len (pa_cons (pv 4) pa_nil)) (pe_nat 0) (nomark _))))) (pss_cons (ps_set (i := 9) sc__law_over.nd rfl (Or.inl rfl) (pe_call G__law_product (hr.mono (by decide)) rfl D__law_product.g D__law_product.F.kp D__law_product.b .nil pass0 (pa_cons (pv 1) (pa_cons (pe_ix ix_list (pv 4) (pe_un un_neg (pe_nat 1)) (fun _ _ => rfl)) (pa_cons (pv 6) pa_nil)))))
          (pss_cons (ps_asg (pv 9) (pg_sub (pv 5) (pv 8) set_list))
          (pss_one (ps_set (i := 4) sc__law_over.nd rfl (Or.inl rfl) (pe_call G__law_plus (hr.mono (by decide)) rfl D__law_plus.g D__law_plus.F.kp D__law_plus.b .nil pass0 (pa_cons (pv 4) (pa_cons (pe_op op_cat (pe_op op_rep (pe_lst (pa_cons (pe_nat 0) pa_nil)) (pv 8)) (pe_call G__law_mul (hr.mono (by decide)) rfl D__law_mul.g D__law_mul.F.kp D__law_mul.b .nil pass0 (pa_cons (pv 1) (pa_cons (pv 3) (pa_cons (pe_lst (pa_cons (pv 9) pa_nil)) pa_nil))))) pa_nil))))))) pss_nil)))))
      (pss_one (ps_ret (pe_tup (pa_cons (pe_call G__law_trim (hr.mono (by decide)) rfl D__law_trim.g D__law_trim.F.kp D__law_trim.b .nil pass0 (pa_cons (pv 5) pa_nil)) (pa_cons (pe_call G__law_trim (hr.mono (by decide)) rfl D__law_trim.g D__law_trim.F.kp D__law_trim.b .nil pass0 (pa_cons (pv 4) pa_nil)) pa_nil))))))))), ?_⟩
    have sL := sizeLine_eq
    have hpos : 0 < s.length := List.length_pos_iff.mpr hs0
    have last0 : lastD s ≠ 0 := fun z => by
      have := (tl_le_iff s (s.length - 1)).mpr fun j hj => by
        by_cases e : j = s.length - 1
        · rw [e]; exact z
        · exact getD_out (by omega)
      have e2 : tl s = s.length := by rw [← trim_len, hts]
      omega
    have leP := trim_len p
    have leP2 := tl_le p
    refine ⟨_, rfl, a, _, rfl, .inl ha, fun r0 nr0 => ?_⟩
    have s1 := same_upd (o := HO.lst (NL p)) nr0
    refine ⟨(by show 1 ≤ sizeLine; decide), fun z nz => ?_⟩
    have s2 := same_new (o := HO.lst [V.int ((0 : Nat) : Int)]) s1 nz
    refine ⟨_, rfl, a, _, rfl, .inl (s2.seq ha), z, _, _, rfl, rfl, upd_same, by omega, by rw [NL_len]; omega, by rw [NL_len, Int.toNat_natCast]; show 1 * p.length ≤ sizeLine; omega, fun wl nwl => ?_⟩
    rw [NL_len, Int.toNat_natCast, rep0]
    have s3 := same_new (o := HO.lst (NL (List.replicate p.length 0))) s2 nwl
    have nwl' := s2.free nwl
    have hr0 : (upd (upd (upd H r0 (.lst (NL p))) z (.lst [V.int ((0 : Nat) : Int)])) wl (.lst (NL (List.replicate p.length 0)))) r0 = some (.lst (NL p)) := by
      have h1 : (upd H r0 (.lst (NL p))) r0 = some (.lst (NL p)) := upd_same
      have h2 : (upd (upd H r0 (.lst (NL p))) z (.lst [V.int ((0 : Nat) : Int)])) r0 = some (.lst (NL p)) := by rw [upd_ne (ne_of_none h1 nz)]; exact h1
      rw [upd_ne (ne_of_none h2 nwl)]; exact h2
    have drw : r0 ≠ wl := fun e => by
      have h1 : (upd H r0 (.lst (NL p))) r0 = some (.lst (NL p)) := upd_same
      have h2 : (upd (upd H r0 (.lst (NL p))) z (.lst [V.int ((0 : Nat) : Int)])) r0 = some (.lst (NL p)) := by rw [upd_ne (ne_of_none h1 nz)]; exact h1
      exact ne_of_none h2 nwl e
    have hwl : (upd (upd (upd H r0 (.lst (NL p))) z (.lst [V.int ((0 : Nat) : Int)])) wl (.lst (NL (List.replicate p.length 0)))) wl = some (.lst (NL (List.replicate p.length 0))) := upd_same
    generalize hH3 : upd (upd (upd H r0 (.lst (NL p))) z (.lst [V.int ((0 : Nat) : Int)])) wl (.lst (NL (List.replicate p.length 0))) = H3 at s3 hr0 hwl ⊢
    refine ⟨_, rfl, _, rfl, _, rfl, _, rfl, b, _, _, _, rfl, rfl, s3.seq hb, at_last hpos, m, q, lastD s, rfl, F, last0, lastD_lt F hEs, fun v H4 v1 v2 v3' s4 => ?_⟩
    have v3 : mulm q v (lastD s) = 1 := by rw [mulm_comm]; exact v3'
    have s34 := s3.trans s4
    refine ⟨_, rfl, a, _, rfl, .inl (s34.seq ha), _, rfl, by rw [NL_len]; omega, by rw [NL_len]; omega, ?_⟩
    rw [NL_len]
    refine for_rangeN (lo := 0) (n := p.length) (fun i σ H' => ∃ (rl : Addr) (R W : List Nat) (v7 v8 v9 : Option V), σ = [some (.int (m : Int)), some (.int (q : Int)), some (.ref a), some (.ref b), some (.ref rl), some (.ref wl), some (.int (v : Int)), v7, v8, v9] ∧ rl ≠ wl ∧ H' rl = some (.lst (NL R)) ∧ H' wl = some (.lst (NL W)) ∧ El m R ∧ R.length ≤ 400 ∧ (trim R).length ≤ p.length ∧ W.length = p.length ∧ dv q v s (p.length - i) (trim R) W = dv q v s p.length (trim p) (List.replicate p.length 0) ∧ Same H H')
      ⟨r0, p, _, none, none, none, rfl, drw, s4 _ _ hr0, s4 _ _ hwl, hEp, hp, by omega, List.length_replicate, rfl, s34⟩ ?_ ?_
    · rintro i σ H5 hi ⟨rl, R, W, v7, v8, v9, rfl, d1, hR, hW, hE, lR, ltR, lW, hdv, sm⟩
      rw [Nat.zero_add]
      obtain ⟨n, hn⟩ : ∃ n, p.length - i = n + 1 := ⟨p.length - i - 1, by omega⟩
      have hn2 : p.length - (i + 1) = n := by omega
      rw [hn] at hdv
      refine ⟨_, rfl, rl, R, rfl, SqL.of hR, by omega, fun l3 H6 h6 => ?_⟩
      have sm6 := sm.trans h6.1
      have hW6 := h6.1 _ _ hW
      have hET := trim_El hE
      have esh : (((NL (trim R)).length : Nat) : Int) - (((NL s).length : Nat) : Int) = (((trim R).length : Nat) : Int) - ((s.length : Nat) : Int) := by rw [NL_len, NL_len]
      refine ⟨_, rfl, l3, _, rfl, .inl (SqL.of h6.2.2), _, rfl, b, _, rfl, .inl (sm6.seq hb), _, _, rfl, rfl, ?_⟩
      have eSH : (((NL (trim R)).length : Nat) : Int) - (((NL s).length : Nat) : Int) = (((trim R).length : Nat) : Int) - ((s.length : Nat) : Int) := esh
      by_cases hge : s.length ≤ (trim R).length
      · rw [dv_step hge] at hdv
        have eN : (((NL (trim R)).length : Nat) : Int) - (((NL s).length : Nat) : Int) = (((trim R).length - s.length : Nat) : Int) := by rw [esh]; omega
        refine ⟨_, rfl, _, _, rfl, rfl, _, rfl, iteY (by show ((0 : Nat) : Int) ≤ _ - _; rw [eSH]; omega) ?_⟩
        refine ⟨_, rfl, l3, _, rfl, .inl (SqL.of h6.2.2), _, _, rfl, rfl, _, rfl, iteY (by show ((0 : Nat) : Int) < (((NL (trim R)).length : Nat) : Int); rw [NL_len]; omega) ?_⟩
        have lE := lastD_lt F hET
        refine ⟨_, rfl, _, rfl, _, rfl, l3, _, _, _, rfl, rfl, SqL.of h6.2.2, at_last (by omega), _, rfl, q, lastD (trim R), v, rfl, q0 F, q32 F, small16 F lE, small16 F v1, fun H7 s7 => ?_⟩
        have sm7 := sm6.trans s7
        refine ⟨_, rfl, _, rfl, _, rfl, wl, _, _, (trim R).length - s.length, rfl, rfl, s7 _ _ hW6, (by rw [eN]; exact ixN_nat (by rw [NL_len]; omega)), ?_⟩
        rw [NL_set]
        have sm8 := same_upd2 (o := HO.lst (NL (W.set ((trim R).length - s.length) (mulm q (lastD (trim R)) v)))) sm7 nwl'
        have d3 : l3 ≠ wl := fun e => ne_of_none hW h6.2.1 e.symm
        have hR8 : (upd H7 wl (.lst (NL (W.set ((trim R).length - s.length) (mulm q (lastD (trim R)) v))))) l3 = some (.lst (NL (trim R))) := by rw [upd_ne d3]; exact s7 _ _ h6.2.2
        have hW8 : (upd H7 wl (.lst (NL (W.set ((trim R).length - s.length) (mulm q (lastD (trim R)) v))))) wl = some (.lst (NL (W.set ((trim R).length - s.length) (mulm q (lastD (trim R)) v)))) := upd_same
        generalize hH8 : upd H7 wl (.lst (NL (W.set ((trim R).length - s.length) (mulm q (lastD (trim R)) v)))) = H8 at sm8 hR8 hW8 ⊢
        have hld : mulm q (lastD (trim R)) v < 2 ^ m := mulm_lt F _ _
        refine ⟨_, rfl, (by show 1 ≤ sizeLine; decide), fun z1 nz1 => ⟨_, rfl, z1, (((trim R).length - s.length : Nat) : Int), _, rfl, congrArg V.int eN, upd_same, by omega, by omega, by rw [Int.toNat_natCast]; show 1 * _ ≤ sizeLine; omega, fun y1 ny1 => ?_⟩⟩
        rw [Int.toNat_natCast, rep0]
        have t1 := same_new (o := HO.lst (NL (List.replicate ((trim R).length - s.length) 0))) (same_upd (o := HO.lst [V.int ((0 : Nat) : Int)]) nz1) ny1
        have hy1 : (upd (upd H8 z1 (.lst [V.int ((0 : Nat) : Int)])) y1 (.lst (NL (List.replicate ((trim R).length - s.length) 0)))) y1 = some (.lst (NL (List.replicate ((trim R).length - s.length) 0))) := upd_same
        generalize hH9 : upd (upd H8 z1 (.lst [V.int ((0 : Nat) : Int)])) y1 (.lst (NL (List.replicate ((trim R).length - s.length) 0))) = H9 at t1 hy1 ⊢
        refine ⟨_, rfl, _, rfl, _, rfl, (by show 1 ≤ sizeLine; decide), fun u1 nu1 => ?_⟩
        have t2 := same_upd (o := HO.lst (NL [mulm q (lastD (trim R)) v])) nu1
        have hE1 : El m [mulm q (lastD (trim R)) v] := fun c hc => by rw [List.mem_singleton] at hc; rw [hc]; exact hld
        refine ⟨b, u1, m, q, s, [mulm q (lastD (trim R)) v], rfl, F, ((sm8.trans t1).trans t2).seq hb, SqL.of upd_same, hEs, hE1, hs, (by show 1 ≤ 400; decide), fun l4 H10 h10 => ?_⟩
        have lc := trim_len (conv q s [mulm q (lastD (trim R)) v])
        have lc2 := conv_tl q s [mulm q (lastD (trim R)) v] (by simp)
        have lc3 : ([mulm q (lastD (trim R)) v] : List Nat).length = 1 := rfl
        have t12 := t2.trans h10.1
        refine ⟨y1, l4, _, _, rfl, rfl, t12 _ _ hy1, h10.2.2, by rw [NL_len, NL_len, List.length_replicate]; omega, fun c1 nc1 => ?_⟩
        rw [NL_cat]
        have t3 := same_upd (o := HO.lst (NL (List.replicate ((trim R).length - s.length) 0 ++ trim (conv q s [mulm q (lastD (trim R)) v])))) nc1
        have t13 := (t1.trans t12).trans t3
        refine ⟨l3, c1, trim R, _, rfl, t13 _ _ hR8, upd_same, by omega, by rw [List.length_append, List.length_replicate]; omega, fun l5 H11 h11 => ?_⟩
        have est : trim (addL (trim R) (List.replicate ((trim R).length - s.length) 0 ++ trim (conv q s [mulm q (lastD (trim R)) v]))) = step q v s (trim R) := step_law hge fun j => addL_getD _ _ j
        have hlt := step_lt F v3 hpos hge hET
        have h112 := h11.2.2
        rw [est] at h112
        have t14 := t13.trans h11.1
        have sm11 := sm8.trans t14
        refine ⟨l5, step q v s (trim R), _, _, _, _, rfl, ?_, h112, t14 _ _ hW8, step_El F hET, by omega, ?_, ?_, ?_, sm11⟩
        · exact fun e => ne_of_none (t13 _ _ hW8) h11.2.1 e.symm
        · exact Nat.le_trans (by rw [trim_len]; exact tl_le _) (Nat.le_trans (Nat.le_of_lt hlt) ltR)
        · rw [List.length_set]; exact lW
        · rw [hn2]
          have e6 : trim (step q v s (trim R)) = step q v s (trim R) := by unfold PLY.step; rw [trim_trim]
          rw [e6]
          exact hdv
      · rw [dv_stop hge] at hdv
        refine ⟨_, rfl, _, _, rfl, rfl, _, rfl, iteX (by show ¬ ((0 : Nat) : Int) ≤ _ - _; rw [eSH]; omega) ?_⟩
        refine iteF ⟨l3, trim R, W, _, _, _, rfl, fun e => ne_of_none hW h6.2.1 e.symm, h6.2.2, hW6, hET, by omega, by rw [trim_trim]; exact ltR, lW, ?_, sm6⟩
        rw [trim_trim, dv_stop hge]
        exact hdv
    · rintro σ H5 ⟨rl, R, W, v7, v8, v9, rfl, d1, hR, hW, hE, lR, ltR, lW, hdv, sm⟩
      rw [Nat.sub_self] at hdv
      have hdv' : (trim R, W) = dv q v s p.length (trim p) (List.replicate p.length 0) := hdv
      refine ⟨_, rfl, wl, W, rfl, SqL.of hW, by omega, fun l3 H6 h6 => ⟨_, rfl, rl, R, rfl, SqL.of (h6.1 _ _ hR), by omega, fun l4 H7 h7 => ⟨(by show 2 ≤ sizeLine; decide), fun t nt => ?_⟩⟩⟩
      have sm7 := (sm.trans h6.1).trans h7.1
      have h63 := h7.1 _ _ h6.2.2
      refine k t l3 l4 v _ (same_new sm7 nt) v1 v2 v3 upd_same ?_ ?_
      · rw [upd_ne (ne_of_none h63 nt), h63, ← hdv']
      · rw [upd_ne (ne_of_none h7.2.2 nt), h7.2.2, ← hdv']
end
end K02
namespace K02
open PySem PySem.Spec L2 NB ER MKX
section
variable {P : Program} {w : World} {K : PySem.W.Frag} {mg : Str → Option Value} {base : Heap}
open FLD PLY
theorem kit_self {K : PySem.W.Frag} {D : Addr} : PySem.W.kitOne K (.ref D) (.ref D) = some true := by unfold PySem.W.kitOne; rw [if_pos (by simp)]
theorem dps_NL {K : PySem.W.Frag} {H : Hp} : ∀ p : List Nat, DpAll K H (NL p) (p.map fun n : Nat => PyData.int (n : Int))
  | [] => .nil
  | n :: p => .cons (.int _) (dps_NL p)
theorem eqv_NL : ∀ p : List Nat, PyData.eqvAll (p.map fun n : Nat => PyData.int (n : Int)) (p.map fun n : Nat => PyData.int (n : Int)) = true
  | [] => by simp [PyData.eqvAll]
  | n :: p => by
    have := eqv_NL p
    simp [PyData.eqvAll, PyData.eqv, this]
theorem lay_NL : ∀ p : List Nat, PyData.canLayAll0 (p.map fun n : Nat => PyData.int (n : Int)) = true
  | [] => by simp [PyData.canLayAll0]
  | n :: p => by
    have := lay_NL p
    simp [PyData.canLayAll0, PyData.canLay0, this]
theorem dep_NL : ∀ p : List Nat, PyData.depthAll (p.map fun n : Nat => PyData.int (n : Int)) ≤ 1
  | [] => by simp [PyData.depthAll]
  | n :: p => by
    have := dep_NL p
    simp only [List.map_cons, PyData.depthAll, PyData.depth]
    omega
theorem shp_NL (p : List Nat) : SeqAt.shaped (.list (p.map fun n : Nat => PyData.int (n : Int))) = true := by
  have h1 := lay_NL p
  have h2 := dep_NL p
  unfold SeqAt.shaped
  rw [Bool.and_eq_true]
  refine ⟨by simpa [PyData.canLay0] using h1, decide_eq_true ?_⟩
  simp only [PyData.depth]
  omega
/-- two lists of the same numbers are equal -/
theorem eq_NL {K : PySem.W.Frag} {H : Hp} {a b : Addr} {p : List Nat} {Q : VK} (ha : SqL K H a (NL p)) (hb : SqL K H b (NL p)) (h : Q (.bl true) H) : rEqD K (.ref a) (.ref b) H Q := by
  refine ⟨_, _, .lst ha (dps_NL p), .lst hb (dps_NL p), shp_NL p, shp_NL p, ?_⟩
  have e : PyData.eqv (.list (p.map fun n : Nat => PyData.int (n : Int))) (.list (p.map fun n : Nat => PyData.int (n : Int))) = true := by simp [PyData.eqv, eqv_NL]
  rw [e]
  exact h
theorem ne_NL {K : PySem.W.Frag} {H : Hp} {a b : Addr} {p : List Nat} {Q : VK} (ha : SqL K H a (NL p)) (hb : SqL K H b (NL p)) (h : Q (.bl false) H) : rNeD K (.ref a) (.ref b) H Q := by
  refine ⟨_, _, .lst ha (dps_NL p), .lst hb (dps_NL p), shp_NL p, shp_NL p, ?_⟩
  have e : PyData.eqv (.list (p.map fun n : Nat => PyData.int (n : Int))) (.list (p.map fun n : Nat => PyData.int (n : Int))) = true := by simp [PyData.eqv, eqv_NL]
  rw [e]
  exact h
/-- two pairs of lists of the same numbers are equal -/
theorem pair_dp {K : PySem.W.Frag} {H : Hp} {t a b : Addr} {p r : List Nat} (ht : H t = some (.tup [.ref a, .ref b])) (ha : SqL K H a (NL p)) (hb : SqL K H b (NL r)) :
    Dp K H (.ref t) (.tuple [.list (p.map fun n : Nat => PyData.int (n : Int)), .list (r.map fun n : Nat => PyData.int (n : Int))]) := .tup (SqT.of ht) (.cons (.lst ha (dps_NL p)) (.cons (.lst hb (dps_NL r)) .nil))
theorem shp_pair (p r : List Nat) : SeqAt.shaped (.tuple [.list (p.map fun n : Nat => PyData.int (n : Int)), .list (r.map fun n : Nat => PyData.int (n : Int))]) = true := by
  have h1 := lay_NL p
  have h2 := dep_NL p
  have h3 := lay_NL r
  have h4 := dep_NL r
  unfold SeqAt.shaped
  rw [Bool.and_eq_true]
  refine ⟨by simp [PyData.canLay0, PyData.canLayAll0, h1, h3], decide_eq_true ?_⟩
  simp only [PyData.depth, PyData.depthAll]
  omega
theorem eqv_pair (p r : List Nat) : PyData.eqv (.tuple [.list (p.map fun n : Nat => PyData.int (n : Int)), .list (r.map fun n : Nat => PyData.int (n : Int))]) (.tuple [.list (p.map fun n : Nat => PyData.int (n : Int)), .list (r.map fun n : Nat => PyData.int (n : Int))]) = true := by
  have h1 := eqv_NL p
  have h2 := eqv_NL r
  simp [PyData.eqv, PyData.eqvAll, h1, h2]
theorem eq_pair {K : PySem.W.Frag} {H : Hp} {t a b t' a' b' : Addr} {p r : List Nat} {Q : VK} (ht : H t = some (.tup [.ref a, .ref b])) (ha : SqL K H a (NL p)) (hb : SqL K H b (NL r)) (ht' : H t' = some (.tup [.ref a', .ref b'])) (ha' : SqL K H a' (NL p)) (hb' : SqL K H b' (NL r)) (h : Q (.bl true) H) : rEqD K (.ref t) (.ref t') H Q := by
  refine ⟨_, _, pair_dp ht ha hb, pair_dp ht' ha' hb', shp_pair p r, shp_pair p r, ?_⟩
  rw [eqv_pair]
  exact h
theorem dq_law {m q v : Nat} (F : Fd m q) {s p : List Nat} (ht : trim s = s) (hs : s ≠ []) (hv : mulm q v (lastD s) = 1) (v1 : v < 2 ^ m) (v2 : v ≠ 0) (hE : El m p) :
    trim (dv q v s p.length (trim p) (List.replicate p.length 0)).2 = (dq q v s p).2 ∧ (dv q v s p.length (trim p) (List.replicate p.length 0)).1 = (dq q v s p).1 := by
  have hpos : 0 < s.length := List.length_pos_iff.mpr hs
  have leP := trim_len p
  have leP2 := tl_le p
  have hET : ∀ c ∈ trim p, c < 2 ^ m := fun c hc => hE c (trim_mem hc)
  have e : List.replicate p.length 0 = List.replicate ((trim p).length + 1 - s.length) 0 ++ List.replicate (p.length - ((trim p).length + 1 - s.length)) 0 := by
    rw [List.replicate_append_replicate]; congr 1; omega
  have h := dv_app F hv hpos (List.replicate (p.length - ((trim p).length + 1 - s.length)) 0) p.length (trim p) (List.replicate ((trim p).length + 1 - s.length) 0) hET (by rw [List.length_replicate]; omega)
  have h2 := dv_trim F hv hpos (n := p.length) hET v1 v2 (trim_trim p) (by omega)
  unfold dq
  rw [e, h, ht]
  refine ⟨?_, rfl⟩
  refine Eq.trans (trim_ext fun j => ?_) h2
  show ((dv q v s p.length (trim p) (List.replicate ((trim p).length + 1 - s.length) 0)).2 ++ List.replicate (p.length - ((trim p).length + 1 - s.length)) 0).getD j 0 = _
  by_cases g : j < (dv q v s p.length (trim p) (List.replicate ((trim p).length + 1 - s.length) 0)).2.length
  · rw [List.getD_eq_getElem?_getD, List.getElem?_append_left g, ← List.getD_eq_getElem?_getD]
  · have h9 : (dv q v s p.length (trim p) (List.replicate ((trim p).length + 1 - s.length) 0)).2.getD j 0 = 0 := getD_out (by omega)
    rw [h9, List.getD_eq_getElem?_getD, List.getElem?_append_right (by omega), ← List.getD_eq_getElem?_getD, rep_getD]
def sp_ldivision (K : PySem.W.Frag) (C : Addr) : Sp := fun vs H Q _ => ∃ (f a b : Addr) (m q r : Nat) (p s : List Nat), vs = [.ref f, .int (m : Int), .int (q : Int), .ref a, .ref b] ∧ FieldAt C H f m q r ∧ SqL K H a (NL p) ∧ SqL K H b (NL s) ∧ El m p ∧ El m s ∧ p.length ≤ 400 ∧ s.length ≤ 400 ∧ trim s = s ∧ ∀ H', Same H H' → Q (.bl true) H'
theorem ok__law_division {f f_divide_polys f__law_over f_init C C_NoDivisor C_HaulError : Addr} {fd fd_divide_polys fd__law_over : FuncData} (D : Df K mg "_law_division" ["field", "m", "modulus", "p", "q"] s__law_division f fd) (B : Bl mg)
    (D_divide_polys : Da K mg "divide_polys" "divide" ["field", "p", "q"] s_divide_polys f_divide_polys fd_divide_polys) (G_divide_polys : FnOk P w K mg base (L2.CX P w) 6 f_divide_polys fd_divide_polys ["field", "p", "q"] (sp_div K C C_NoDivisor))
    (D__law_over : Df K mg "_law_over" ["m", "modulus", "p", "q"] s__law_over f__law_over fd__law_over) (G__law_over : FnOk P w K mg base CX0 6 f__law_over fd__law_over ["m", "modulus", "p", "q"] (sp_lover K))
    (X_NoDivisor : XC K mg "NoDivisor" C_NoDivisor f_init C_HaulError) (X_HaulError : XC K mg "HaulError" C_HaulError f_init C_HaulError) :
    FnOk P w K mg base CX0 8 f fd ["field", "m", "modulus", "p", "q"] (sp_ldivision K C) := by
  refine D.F.ok sc__law_division (fun vs H Q E h => ?_) (fun cdv A outer s0 H vs Q E hr h => ?_)
  · obtain ⟨g, a, b, m, q, r, p, s, rfl, _⟩ := h; rfl
  · obtain ⟨g, a, b, m, q, r, p, s, rfl, FA, ha, hb, hEp, hEs, hp, hs, ht, k⟩ := h
    refine ⟨_, (pss_cons (ps_if (pt_cmpR op_gt (pe_callB call_len_seq (by rfl) B.len PySem.boot_len (pa_cons (pv 4) pa_nil)) (pe_nat 0) (nomark _)) (pss_one (ps_ret (pe_cmpR (op_eqD hr.units) (pe_call G_divide_polys (hr.mono (by decide)) rfl D_divide_polys.g D_divide_polys.F.kp D_divide_polys.b .nil passL (pa_cons (pv 0) (pa_cons (pv 3) (pa_cons (pv 4) pa_nil)))) (pe_call G__law_over (hr.mono (by decide)) rfl D__law_over.g D__law_over.F.kp D__law_over.b .nil pass0 (pa_cons (pv 1) (pa_cons (pv 2) (pa_cons (pv 3) (pa_cons (pv 4) pa_nil))))) (nomark _)))) pss_nil)
      (C8.pss_cut (ps_tryE (i := 5) rfl rfl sc__law_division.nd rfl rfl ⟨rfl, by decide, Or.inl X_HaulError.g⟩ takes0 (fun W pn xe tk po => (pss_one (ps_expr (pe_callS G_divide_polys (hr.mono (by decide)) rfl D_divide_polys.g D_divide_polys.F.kp D_divide_polys.b (fun σ => passAt tk σ) (by exact (pa_cons (pv 0) (pa_cons (pv 3) (pa_cons (pv 4) pa_nil)))))))) (fun a oe cls d pn hz hf => (pss_one (ps_ret (pe_and (pe_callB (call_isE hz hf) (by rfl) B.isinstance (by decide +kernel) (pa_cons (pv 5) (pa_cons (pe_glob (v := .ref C_NoDivisor) rfl X_NoDivisor.g rfl) pa_nil))) (pe_one (pe_cmpR op_eq (pe_at hz hf (pv 5)) (pe_nat 0) (nomark _))))))))
      (pss_one (ps_ret pe_bl)))), ?_⟩
    have F := FA.fd
    refine ⟨_, rfl, b, _, rfl, .inl hb, _, _, rfl, rfl, _, rfl, iteD (fun c => ?_) (fun c => ?_)⟩
    · have c' : (0 : Int) < (((NL s).length : Nat) : Int) := c
      rw [NL_len] at c'
      have hne : s ≠ [] := fun z => by rw [z] at c'; simp at c'
      refine ⟨_, rfl, _, rfl, _, rfl, g, a, b, m, q, r, p, s, rfl, FA, ha, hb, hEp, hEs, hp, hs, fun z => absurd (ht.symm.trans z) hne, fun _ t a1 a2 v H1 s1 v1 v2 v3 h1 h2 h3 => ?_⟩
      rw [ht] at v3
      refine ⟨_, rfl, _, rfl, _, rfl, _, rfl, a, b, m, q, p, s, rfl, F, s1.seq ha, s1.seq hb, hEp, hEs, hp, hs, ht, hne, fun t' b1 b2 v' H2 s2 w1 w2 w3 h4 h5 h6 => ?_⟩
      have hl0 : lastD s ≠ 0 := fun z => by rw [z, mulm_zero F] at v3; exact absurd v3 (by decide)
      have ev : v = v' := mulm_cancel F v1 w1 (lastD_lt F hEs) hl0 (v3.trans w3.symm)
      subst ev
      obtain ⟨d1, d2⟩ := dq_law F ht hne v3 v1 v2 hEp
      rw [d1] at h5
      rw [d2] at h6
      exact eq_pair (s2 _ _ h1) (SqL.of (s2 _ _ h2)) (SqL.of (s2 _ _ h3)) h4 (SqL.of h5) (SqL.of h6) (k H2 (s1.trans s2))
    · have c' : ¬ (0 : Int) < (((NL s).length : Nat) : Int) := c
      rw [NL_len] at c'
      have hz : s = [] := List.length_eq_zero_iff.mp (by omega)
      refine ⟨fun σ H' => False, ?_, fun σ H' h => h.elim⟩
      refine ⟨_, rfl, _, rfl, _, rfl, g, a, b, m, q, r, p, s, rfl, FA, ha, hb, hEp, hEs, hp, hs, fun _ d H1 sm hd => ?_, fun z => absurd (by rw [hz]; rfl) z⟩
      refine ⟨true, X_NoDivisor.te, fun _ e na => ?_, (fun z => nomatch z)⟩
      refine ⟨_, rfl, C_NoDivisor, .ref C_NoDivisor, .ref C_NoDivisor, true, d, _, rfl, rfl, ⟨_, _, _, _, X_NoDivisor⟩, rfl, upd_same, fun u r => r, kit_self, true, rfl, iteT ?_⟩
      refine ⟨_, rfl, C_NoDivisor, d, _, rfl, rfl, ⟨_, _, _, _, X_NoDivisor⟩, rfl, upd_same, rfl, ?_⟩
      exact k _ (same_new sm hd)
def sp_lpoly (K : PySem.W.Frag) : Sp := fun vs H Q _ => ∃ (l : Addr) (xs : List Nat) (at_ m : Nat), vs = [.ref l, .int (at_ : Int), .int (m : Int)] ∧ SqL K H l (NL xs) ∧ at_ + 10 < xs.length ∧ 2 ≤ m ∧ m ≤ 8 ∧ ∀ (a : Addr) (ps : List Nat) H', NewL H H' a (trim ps) → El m ps → ps.length ≤ 9 → Q (.ref a) H'
theorem ok__law_poly {f f__law_trim : Addr} {fd fd__law_trim : FuncData} (D : Df K mg "_law_poly" ["numbers", "at", "m"] s__law_poly f fd) (B : Bl mg)
    (D__law_trim : Df K mg "_law_trim" ["poly"] s__law_trim f__law_trim fd__law_trim) (G__law_trim : FnOk P w K mg base CX0 1 f__law_trim fd__law_trim ["poly"] (sp_trimmed K)) : FnOk P w K mg base CX0 2 f fd ["numbers", "at", "m"] (sp_lpoly K) := by
  refine D.F.ok sc__law_poly (fun vs H Q E h => ?_) (fun cdv A outer s0 H vs Q E hr h => ?_)
  · obtain ⟨l, xs, at_, m, rfl, _⟩ := h; rfl
  · obtain ⟨l, xs, at_, m, rfl, hS, hl, hm2, hm8, k⟩ := h
    refine ⟨_, (pss_cons (ps_set (i := 3) sc__law_poly.nd rfl (Or.inl rfl) (pe_op nb_mod (pe_callTy call_int1 (by rfl) B.int (by decide +kernel) (pa_cons (pe_ix ix_list (pv 0) (pv 1) (fun _ _ => rfl)) pa_nil)) (pe_nat 10)))
      (pss_one (ps_ret (pe_call G__law_trim (hr.mono (by decide)) rfl D__law_trim.g D__law_trim.F.kp D__law_trim.b .nil pass0 (pa_cons (pe_lc (own := [("k", 4)]) rfl sc__law_poly.nd (pi_range1 rfl B.range (pa_cons (pv 3) pa_nil)) (blkOk_by (own := [("k", 4)]) (N := ["numbers", "at", "m", "size", "k"]) (sc := defScope s__law_poly) (by decide +kernel)) (fun _ _ _ _ _ => (pg_name (i := 4) sc__law_poly.nd rfl (Or.inl rfl) (Or.inr rfl))) (fun _ _ _ _ _ => pts_nil) (fun _ _ _ _ _ => (pe_op op_mul (pe_op nb_mod (pe_callTy call_int1 (by rfl) B.int (by decide +kernel) (pa_cons (pe_op nb_fdiv (pe_ix (ix_listK (K := K) rfl) (pv 0) (pe_op nb_add (pe_op nb_add (pv 1) (pe_nat 1)) (pv 4)) (fun _ _ => rfl)) (pe_nat 3)) pa_nil)) (pe_op nb_shl (pe_nat 1) (pv 2))) (pe_callTy call_int1 (by rfl) B.int (by decide +kernel) (pa_cons (pe_cmpR op_gt (pe_op nb_mod (pe_ix (ix_listK (K := K) rfl) (pv 0) (pe_op nb_add (pe_op nb_add (pv 1) (pe_nat 1)) (pv 4)) (fun _ _ => rfl)) (pe_nat 3)) (pe_nat 0) (nomark _)) pa_nil))))) pa_nil))))), ?_⟩
    obtain ⟨x0, hx0⟩ : ∃ x, xs[at_]? = some x := ⟨_, List.getElem?_eq_getElem (by omega)⟩
    have h10 : x0 % 10 < 10 := Nat.mod_lt _ (by decide)
    have h4 : 0 < 2 ^ m := Nat.two_pow_pos m
    have h256 : (2 : Nat) ^ m ≤ 256 := Nat.le_trans (Nat.pow_le_pow_right (n := 2) (by decide) hm8) (by decide)
    refine ⟨_, rfl, _, rfl, l, _, _, _, rfl, rfl, hS, NL_at0 hx0, .inl ⟨_, rfl, _, _, rfl, rfl, Nat.succ_pos _, ?_⟩⟩
    refine ⟨_, rfl, _, rfl, by omega, by omega, fun D0 nD => ?_⟩
    refine lc_rangeN (lo := 0) (n := x0 % 10) (fun i H' => ∃ ps : List Nat, H' D0 = some (.lst (NL ps)) ∧ ps.length = i ∧ El m ps ∧ Same H H') ⟨[], upd_same, rfl, (fun c hc => absurd hc List.not_mem_nil), same_upd nD⟩ ?_ ?_
    · rintro i H1 hi ⟨ps, h1, h2, h3, sm⟩
      rw [Nat.zero_add]
      obtain ⟨y, hy⟩ : ∃ y, xs[at_ + 1 + i]? = some y := ⟨_, List.getElem?_eq_getElem (by omega)⟩
      have hmod : y / 3 % (2 ^ m * 1) < 2 ^ m := by rw [Nat.mul_one]; exact Nat.mod_lt _ h4
      refine ⟨rfl, _, rfl, _, rfl, _, _, rfl, rfl, _, rfl, _, _, rfl, rfl, l, _, _, _, rfl, rfl, sm.seq hS, NL_at0 hy, _, _, rfl, rfl, ⟨by decide, by decide⟩, .inl ⟨_, rfl, _, rfl, _, _, rfl, rfl, ⟨by decide, by omega⟩, _, _, rfl, rfl, (by show 0 < 2 ^ m * 1; omega), ?_⟩⟩
      refine ⟨_, rfl, _, rfl, _, _, rfl, rfl, _, rfl, _, _, rfl, rfl, l, _, _, _, rfl, rfl, sm.seq hS, NL_at0 hy, _, _, rfl, rfl, Nat.succ_pos _, _, _, rfl, rfl, .inr ⟨_, rfl, _, _, rfl, rfl, .inl ⟨by omega, by omega⟩, NL ps, h1, ?_, ?_⟩⟩
      · rw [NL_len]; exact small1000 (by omega)
      · have fin : ∀ u : Nat, u < 2 ^ m → ∃ ps', upd H1 D0 (.lst (NL ps ++ [.int (u : Int)])) D0 = some (.lst (NL ps')) ∧ ps'.length = i + 1 ∧ El m ps' ∧ Same H (upd H1 D0 (.lst (NL ps ++ [.int (u : Int)]))) := fun u hu => by
          refine ⟨ps ++ [u], by rw [upd_same, NL_app], by rw [List.length_append, h2]; rfl, fun c hc => ?_, same_upd2 sm nD⟩
          rcases List.mem_append.mp hc with g | g
          · exact h3 c g
          · rw [List.mem_singleton] at g; rw [g]; exact hu
        by_cases z : (((0 : Nat) : Int) < ((y % 3 : Nat) : Int))
        · have e : ((y / 3 % (2 ^ m * 1) : Nat) : Int) * (if decide (((0 : Nat) : Int) < ((y % 3 : Nat) : Int)) = true then 1 else 0) = ((y / 3 % (2 ^ m * 1) : Nat) : Int) := by rw [decide_eq_true z]; simp
          have := fin _ hmod
          rw [← e] at this
          exact this
        · have e : ((y / 3 % (2 ^ m * 1) : Nat) : Int) * (if decide (((0 : Nat) : Int) < ((y % 3 : Nat) : Int)) = true then 1 else 0) = ((0 : Nat) : Int) := by rw [decide_eq_false z]; simp
          have := fin 0 h4
          rw [← e] at this
          exact this
    · rintro H1 ⟨ps, h1, h2, h3, sm⟩
      exact ⟨D0, ps, rfl, SqL.of h1, by omega, fun a H' h => k a ps H' ⟨sm.trans h.1, sm.free h.2.1, h.2.2⟩ h3 (by omega)⟩
end
end K02
namespace K02
open PySem PySem.Spec L2 NB ER MKX
section
variable {P : Program} {w : World} {K : PySem.W.Frag} {mg : Str → Option Value} {base : Heap}
open FLD PLY GR
theorem short_NL : ∀ p : List Nat, (∀ c ∈ p, c < 256) → PyData.intsShortAll 13 (p.map fun n : Nat => PyData.int (n : Int)) = true ∧ PyData.weightAll (p.map fun n : Nat => PyData.int (n : Int)) ≤ 11 * p.length ∧
    PyData.showableAll (p.map fun n : Nat => PyData.int (n : Int)) = true ∧ PyData.hasDictAll (p.map fun n : Nat => PyData.int (n : Int)) = false
  | [], _ => ⟨by simp [PyData.intsShortAll], by simp [PyData.weightAll], by simp [PyData.showableAll], by simp [PyData.hasDictAll]⟩
  | n :: p, h => by
    obtain ⟨a1, a2, a3, a4⟩ := short_NL p fun c hc => h c (by simp [hc])
    have hn : n < 256 := h n (by simp)
    have hl : (n : Int).natAbs.log2 < 10 := by
      rw [Int.natAbs_natCast]
      by_cases z : n = 0
      · rw [z]; decide
      · exact Nat.lt_of_lt_of_le ((Nat.log2_lt (k := 8) z).mpr hn) (by decide)
    have hs : (PyData.shown (.int (n : Int))).length ≤ 13 := by
      have e := int_text_length_le (k := 10) (by decide) hl
      show (Str.ofString (toString (n : Int))).length ≤ 13
      rw [PySem.ofString_length]
      omega
    have hw : PyData.weight (.int (n : Int)) ≤ 10 := by
      simp only [PyData.weight]
      split
      · omega
      · omega
    refine ⟨?_, ?_, ?_, ?_⟩
    · simp only [List.map_cons, PyData.intsShortAll, PyData.intsShort, a1, Bool.and_true]; exact decide_eq_true hs
    · simp only [List.map_cons, PyData.weightAll, List.length_cons]; omega
    · simp only [List.map_cons, PyData.showableAll, PyData.showable, a3, Bool.and_true]; exact decide_eq_true (by omega)
    · simp only [List.map_cons, PyData.hasDictAll, PyData.hasDict, a4, Bool.or_false]
/-- the pair of lists as it is printed -/
def prD (p s : List Nat) : PyData := .tuple [.list (p.map fun n : Nat => PyData.int (n : Int)), .list (s.map fun n : Nat => PyData.int (n : Int))]
theorem pr_ok {p s : List Nat} (hp : ∀ c ∈ p, c < 256) (hs : ∀ c ∈ s, c < 256) (lp : p.length ≤ 50) (ls : s.length ≤ 50) : (prD p s).showable = true ∧ (prD p s).hasDict = false ∧ (prD p s).depth ≤ 60 ∧ (prD p s).shown.length ≤ sizeLine := by
  obtain ⟨a1, a2, a3, a4⟩ := short_NL p hp
  obtain ⟨b1, b2, b3, b4⟩ := short_NL s hs
  have d1 := dep_NL p
  have d2 := dep_NL s
  have l1 := lay_NL p
  have l2 := lay_NL s
  have hd : (prD p s).depth ≤ 60 := by unfold prD; simp only [PyData.depth, PyData.depthAll]; omega
  have lay : PyData.layable0 (prD p s) = true := by
    unfold PyData.layable0
    rw [Bool.and_eq_true, Bool.and_eq_true]
    refine ⟨⟨by unfold prD; simp [PyData.canLay0, PyData.canLayAll0, l1, l2], decide_eq_true (by omega)⟩, decide_eq_true ?_⟩
    unfold prD
    simp only [PyData.weight, PyData.weightAll]
    omega
  have short : (prD p s).intsShort 13 = true := by unfold prD; simp [PyData.intsShort, PyData.intsShortAll, a1, b1]
  have hz := PyProof.Rows.shown_le13 lay short
  exact ⟨by unfold prD; simp [PyData.showable, PyData.showableAll, a3, b3], by unfold prD; simp [PyData.hasDict, PyData.hasDictAll, a4, b4], hd, by have := sizeLine_eq; omega⟩
theorem conv_nil (q : Nat) (p : List Nat) : trim (conv q p []) = [] := by
  have e : ∀ (P : List Nat) (k : Nat) (t : List Nat), rows q [] P k t = t := fun P => by
    induction P with
    | nil => intro k t; rfl
    | cons x P ih => intro k t; exact ih (k + 1) t
  unfold conv
  rw [e]
  have : tl (List.replicate (p.length + ([] : List Nat).length) 0) ≤ 0 := (tl_le_iff _ _).mpr fun j _ => rep_getD _ _
  exact List.length_eq_zero_iff.mp (by rw [trim_len]; omega)
theorem scaled_law {m q e : Nat} (F : Fd m q) (p : List Nat) : trim (p.map (mulm q e)) = trim (conv q p (trim [e])) := by
  have hm : ∀ j, (p.map (mulm q e)).getD j 0 = mulm q e (p.getD j 0) := fun j => by
    rw [List.getD_eq_getElem?_getD, List.getD_eq_getElem?_getD, List.getElem?_map]
    cases p[j]? with
    | none => exact (mulm_zero F e).symm
    | some c => rfl
  by_cases z : e = 0
  · subst z
    have e1 : trim [0] = [] := rfl
    rw [e1, conv_nil]
    have : tl (p.map (mulm q 0)) ≤ 0 := (tl_le_iff _ _).mpr fun j _ => by rw [hm, zero_mulm F]
    exact List.length_eq_zero_iff.mp (by rw [trim_len]; omega)
  · have e1 : trim [e] = [e] := by
      have : 1 = tl [e] := tl_only (by simp) (fun i h1 h2 => by simp at h2; omega) (.inr ⟨e, rfl, z⟩)
      unfold trim
      rw [← this]
      rfl
    rw [e1]
    refine trim_ext fun j => ?_
    rw [hm, conv1_getD]
    by_cases h : j < p.length
    · rw [if_pos h, mulm_comm]
    · rw [if_neg h, getD_out (by omega), mulm_zero F]
/-- division by 1 -/
theorem dv_one {m q : Nat} (F : Fd m q) : ∀ (n : Nat) (R W : List Nat), El m R → R.length ≤ n → trim R = R → R.length ≤ W.length → (∀ j, j < R.length → W.getD j 0 = 0) → (dv q 1 [1] n R W).1 = [] ∧ (dv q 1 [1] n R W).2.length = W.length ∧ ∀ j, (dv q 1 [1] n R W).2.getD j 0 = if j < R.length then R.getD j 0 else W.getD j 0
  | 0, R, W, _, hl, _, _, _ => by
    have : R = [] := List.length_eq_zero_iff.mp (by omega)
    subst this
    exact ⟨rfl, rfl, fun j => rfl⟩
  | n + 1, R, W, hE, hl, ht, hW, h0 => by
    have one : (1 : Nat) < 2 ^ m := by have := (pow_m F).1; omega
    have hv : mulm q 1 (lastD [1]) = 1 := one_mulm F one
    have l1 : ([1] : List Nat).length = 1 := rfl
    by_cases h : ([1] : List Nat).length ≤ R.length
    · have hlt := step_lt F hv (by decide) h hE
      have hle : lead q 1 R = lastD R := mulm_one F (lastD_lt F hE)
      have hstep : ∀ j, (PLY.step q 1 [1] R).getD j 0 = if j < R.length - 1 then R.getD j 0 else 0 := fun j => by
        unfold PLY.step
        rw [trim_getD, row_getD q _ [1] _ R j (by omega), hle]
        by_cases g : j < R.length - 1
        · rw [if_neg (by omega), if_pos g, Nat.xor_zero]
        · rw [if_neg g]
          by_cases g2 : j = R.length - 1
          · rw [if_pos (by omega), show j - (R.length - ([1] : List Nat).length) = 0 by omega]
            show R.getD j 0 ^^^ mulm q (lastD R) 1 = 0
            rw [mulm_one F (lastD_lt F hE), g2]
            exact Nat.xor_self _
          · rw [if_neg (by omega), getD_out (by omega), Nat.xor_zero]
      rw [dv_step h]
      have hset : ∀ j, (W.set (R.length - ([1] : List Nat).length) (lead q 1 R)).getD j 0 = if j = R.length - 1 then lastD R else W.getD j 0 := fun j => by rw [set_getD (by omega), hle, l1]
      obtain ⟨d1, d2, d3⟩ := dv_one F n (PLY.step q 1 [1] R) (W.set (R.length - ([1] : List Nat).length) (lead q 1 R)) (step_El F hE) (by omega) (by unfold PLY.step; rw [trim_trim]) (by rw [List.length_set]; omega) (fun j hj => by rw [hset, if_neg (by omega)]; exact h0 j (by omega))
      refine ⟨d1, by rw [d2, List.length_set], fun j => ?_⟩
      rw [d3, hset, hstep]
      by_cases g : j < (PLY.step q 1 [1] R).length
      · rw [if_pos g, if_pos (by omega), if_pos (by omega)]
      · rw [if_neg g]
        by_cases g2 : j = R.length - 1
        · rw [if_pos g2, if_pos (by omega), g2]; rfl
        · rw [if_neg g2]
          by_cases g3 : j < R.length
          · have := hstep j
            rw [getD_out (by omega), if_pos (by omega)] at this
            rw [if_pos g3, h0 j g3]
            exact this
          · rw [if_neg g3]
    · have : R = [] := List.length_eq_zero_iff.mp (by omega)
      subst this
      rw [dv_stop h]
      exact ⟨rfl, rfl, fun j => rfl⟩
theorem dq_one {m q v : Nat} (F : Fd m q) {p : List Nat} (hE : El m p) (ht : trim p = p) (v1 : v < 2 ^ m) (hv : mulm q v (lastD (trim [1])) = 1) : dq q v [1] p = ([], p) := by
  have e1 : trim [1] = [1] := rfl
  rw [e1] at hv
  have ev : v = 1 := (mulm_one F v1).symm.trans hv
  subst ev
  unfold dq
  rw [e1, ht, show p.length + 1 - ([1] : List Nat).length = p.length by simp]
  obtain ⟨d1, d2, d3⟩ := dv_one F p.length p (List.replicate p.length 0) hE (Nat.le_refl _) ht (by rw [List.length_replicate]; exact Nat.le_refl _) (fun j _ => rep_getD _ _)
  refine Prod.ext d1 ?_
  show (dv q 1 [1] p.length p (List.replicate p.length 0)).2 = p
  rw [List.length_replicate] at d2
  apply List.ext_getElem?
  intro j
  by_cases h : j < p.length
  · rw [get_getD (by omega), get_getD h, d3, if_pos h]
  · rw [List.getElem?_eq_none (by omega), List.getElem?_eq_none (by omega)]
end
end K02
namespace K02
open PySem PySem.Spec L2 NB ER MKX
section
variable {P : Program} {w : World} {K : PySem.W.Frag} {mg : Str → Option Value} {base : Heap}
open FLD PLY GR
theorem fl_same {H H2 : Hp} {x dx C : Addr} (nx : H x = none) (nd : H dx = none) (kp : ∀ b o, (upd (upd H dx (.own x)) x (.ins C dx [])) b = some o → b ≠ x → H2 b = some o) : Same H H2 := fun b o e =>
  kp b o (by rw [upd_ne (ne_of_none e nx), upd_ne (ne_of_none e nd)]; exact e) (ne_of_none e nx)
theorem log_small4 {m : Int} (h : m.natAbs < 2 ^ 64) : m.natAbs.log2 < 1920 := by
  by_cases h0 : m.natAbs = 0
  · rw [h0]; decide
  · exact Nat.lt_of_lt_of_le ((Nat.log2_lt (k := 64) h0).mpr h) (by decide)
theorem trim_le' (p : List Nat) : (trim p).length ≤ p.length := by rw [trim_len]; exact tl_le p
def sp_law (K : PySem.W.Frag) : Sp := fun vs H Q _ => ∃ (a : Addr) (ns : List Int), vs = [.ref a] ∧ SqL K H a (ns.map V.int) ∧ ns.length ≤ 63 ∧ ∀ H', Q (.bl true) H'
theorem ok_law {f f__law_numbers f__law_modulus f_Field___init__ f__law_poly f_add f__law_plus f_times_polys f__law_mul f_scaled f__law_trim f_slope f__law_slope f_value f__law_at_point f__law_division f_trimmed f_divide_polys C_Field C_OutOfRange C_NotIrreducible C_NoDivisor : Addr}
    {fd fd__law_numbers fd__law_modulus fd_Field___init__ fd__law_poly fd_add fd__law_plus fd_times_polys fd__law_mul fd_scaled fd__law_trim fd_slope fd__law_slope fd_value fd__law_at_point fd__law_division fd_trimmed fd_divide_polys : FuncData}
    (D : Df K mg "law" ["script"] s_law f fd) (B : Bl mg) (z_repr : mg "repr" = none)
    (D__law_numbers : Df K mg "_law_numbers" ["script", "many"] s__law_numbers f__law_numbers fd__law_numbers) (G__law_numbers : FnOk P w K mg base CX0 1 f__law_numbers fd__law_numbers ["script", "many"] (sp_numbers K))
    (D__law_modulus : Df K mg "_law_modulus" ["m", "drawn"] s__law_modulus f__law_modulus fd__law_modulus) (G__law_modulus : FnOk P w K mg base CX0 4 f__law_modulus fd__law_modulus ["m", "drawn"] sp_lmodulus)
    (M_Field : Mk K C_Field f_Field___init__) (g_Field : mg "Field" = some (.ref C_Field)) (b_Field___init__ : Binds K fd_Field___init__ ["self", "m", "modulus"] [])
    (G_Field___init__ : FnOk P w K mg base (L2.CX P w) 8 f_Field___init__ fd_Field___init__ ["self", "m", "modulus"] (sp_finit C_Field C_OutOfRange C_NotIrreducible))
    (D__law_poly : Df K mg "_law_poly" ["numbers", "at", "m"] s__law_poly f__law_poly fd__law_poly) (G__law_poly : FnOk P w K mg base CX0 2 f__law_poly fd__law_poly ["numbers", "at", "m"] (sp_lpoly K))
    (D_add : Df K mg "add" ["field", "p", "q"] s_add f_add fd_add) (G_add : FnOk P w K mg base CX0 3 f_add fd_add ["field", "p", "q"] (sp_padd C_Field))
    (D__law_plus : Df K mg "_law_plus" ["p", "q"] s__law_plus f__law_plus fd__law_plus) (G__law_plus : FnOk P w K mg base CX0 2 f__law_plus fd__law_plus ["p", "q"] (sp_lplus K))
    (D_times_polys : Da K mg "times_polys" "times" ["field", "p", "q"] s_times_polys f_times_polys fd_times_polys) (G_times_polys : FnOk P w K mg base CX0 3 f_times_polys fd_times_polys ["field", "p", "q"] (sp_ptimes K C_Field))
    (D__law_mul : Df K mg "_law_mul" ["modulus", "p", "q"] s__law_mul f__law_mul fd__law_mul) (G__law_mul : FnOk P w K mg base CX0 4 f__law_mul fd__law_mul ["modulus", "p", "q"] (sp_lmul K))
    (D_scaled : Df K mg "scaled" ["field", "p", "e"] s_scaled f_scaled fd_scaled) (G_scaled : FnOk P w K mg base CX0 3 f_scaled fd_scaled ["field", "p", "e"] (sp_scaled K C_Field))
    (D__law_trim : Df K mg "_law_trim" ["poly"] s__law_trim f__law_trim fd__law_trim) (G__law_trim : FnOk P w K mg base CX0 1 f__law_trim fd__law_trim ["poly"] (sp_trimmed K))
    (D_slope : Df K mg "slope" ["p"] s_slope f_slope fd_slope) (G_slope : FnOk P w K mg base CX0 2 f_slope fd_slope ["p"] (sp_slope K))
    (D__law_slope : Df K mg "_law_slope" ["p"] s__law_slope f__law_slope fd__law_slope) (G__law_slope : FnOk P w K mg base CX0 2 f__law_slope fd__law_slope ["p"] (sp_slope K))
    (D_value : Df K mg "value" ["field", "p", "e"] s_value f_value fd_value) (G_value : FnOk P w K mg base CX0 3 f_value fd_value ["field", "p", "e"] (sp_value K C_Field))
    (D__law_at_point : Df K mg "_law_at_point" ["modulus", "p", "e"] s__law_at_point f__law_at_point fd__law_at_point) (G__law_at_point : FnOk P w K mg base CX0 4 f__law_at_point fd__law_at_point ["modulus", "p", "e"] (sp_lat K))
    (D__law_division : Df K mg "_law_division" ["field", "m", "modulus", "p", "q"] s__law_division f__law_division fd__law_division) (G__law_division : FnOk P w K mg base CX0 8 f__law_division fd__law_division ["field", "m", "modulus", "p", "q"] (sp_ldivision K C_Field))
    (D_trimmed : Df K mg "trimmed" ["coefficients"] s_trimmed f_trimmed fd_trimmed) (G_trimmed : FnOk P w K mg base CX0 1 f_trimmed fd_trimmed ["coefficients"] (sp_trimmed K))
    (D_divide_polys : Da K mg "divide_polys" "divide" ["field", "p", "q"] s_divide_polys f_divide_polys fd_divide_polys) (G_divide_polys : FnOk P w K mg base (L2.CX P w) 6 f_divide_polys fd_divide_polys ["field", "p", "q"] (sp_div K C_Field C_NoDivisor)) :
    FnG P w K mg base CX0 11 f fd ["script"] (sp_law K) := by
  refine Fun.okG D.F sc_law (fun vs H Q E h => ?_) (fun cdv A outer s0 H vs Q E gd hr h => ?_)
  · obtain ⟨a, ns, rfl, _⟩ := h; rfl
  · obtain ⟨a, ns, rfl, hS, hl, k⟩ := h
    refine ⟨_, (pss_cons (ps_set (i := 1) sc_law.nd rfl (Or.inl rfl) (pe_call G__law_numbers (hr.mono (by decide)) rfl D__law_numbers.g D__law_numbers.F.kp D__law_numbers.b .nil pass0 (pa_cons (pv 0) (pa_cons (pe_nat 80) pa_nil))))
      (pss_cons (ps_set (i := 2) sc_law.nd rfl (Or.inl rfl) (pe_op nb_add (pe_nat 2) (pe_op nb_mod (pe_callTy call_int1 (by rfl) B.int (by decide +kernel) (pa_cons (pe_ix ix_list (pv 1) (pe_nat 0) (fun _ _ => rfl)) pa_nil)) (pe_nat 7))))
      (pss_cons (ps_set (i := 3) sc_law.nd rfl (Or.inl rfl) (pe_call G__law_modulus (hr.mono (by decide)) rfl D__law_modulus.g D__law_modulus.F.kp D__law_modulus.b .nil pass0 (pa_cons (pv 2) (pa_cons (pe_ix ix_list (pv 1) (pe_nat 1) (fun _ _ => rfl)) pa_nil))))
      (pss_cons (ps_set (i := 4) sc_law.nd rfl (Or.inl rfl) (pe_make M_Field G_Field___init__ (hr.mono (by decide)) rfl g_Field b_Field___init__ .nil passL (by exact (pa_cons (pv 2) (pa_cons (pv 3) pa_nil)))))
      (pss_cons (ps_set (i := 5) sc_law.nd rfl (Or.inl rfl) (pe_call G__law_poly (hr.mono (by decide)) rfl D__law_poly.g D__law_poly.F.kp D__law_poly.b .nil pass0 (pa_cons (pv 1) (pa_cons (pe_nat 10) (pa_cons (pv 2) pa_nil)))))
      (pss_cons (ps_set (i := 6) sc_law.nd rfl (Or.inl rfl) (pe_call G__law_poly (hr.mono (by decide)) rfl D__law_poly.g D__law_poly.F.kp D__law_poly.b .nil pass0 (pa_cons (pv 1) (pa_cons (pe_nat 25) (pa_cons (pv 2) pa_nil)))))
      (pss_cons (ps_set (i := 7) sc_law.nd rfl (Or.inl rfl) (pe_callB (call_reprD gd hr.units) (by rfl) z_repr (by decide +kernel) (pa_cons (pe_tup (pa_cons (pv 5) (pa_cons (pv 6) pa_nil))) pa_nil)))
      (pss_cons (ps_set (i := 8) sc_law.nd rfl (Or.inl rfl) (pe_op nb_mod (pe_callTy call_int1 (by rfl) B.int (by decide +kernel) (pa_cons (pe_ix ix_list (pv 1) (pe_nat 2) (fun _ _ => rfl)) pa_nil)) (pe_op nb_shl (pe_nat 1) (pv 2))))
      (pss_cons (ps_if (PW.pt (pw_or (pt_cmpR (op_neD hr.units) (pe_call G_add (hr.mono (by decide)) rfl D_add.g D_add.F.kp D_add.b .nil pass0 (pa_cons (pv 4) (pa_cons (pv 5) (pa_cons (pv 6) pa_nil)))) (pe_call G__law_plus (hr.mono (by decide)) rfl D__law_plus.g D__law_plus.F.kp D__law_plus.b .nil pass0 (pa_cons (pv 5) (pa_cons (pv 6) pa_nil))) (nomark _)) (pw_or1 (pt_cmpR (op_neD hr.units) (pe_call G_times_polys (hr.mono (by decide)) rfl D_times_polys.g D_times_polys.F.kp D_times_polys.b .nil pass0 (pa_cons (pv 4) (pa_cons (pv 5) (pa_cons (pv 6) pa_nil)))) (pe_call G__law_mul (hr.mono (by decide)) rfl D__law_mul.g D__law_mul.F.kp D__law_mul.b .nil pass0 (pa_cons (pv 3) (pa_cons (pv 5) (pa_cons (pv 6) pa_nil)))) (nomark _))))) (pss_one (ps_ret pe_bl)) pss_nil)
      (pss_cons (ps_if (PW.pt (pw_or (pt_cmpR (op_neD hr.units) (pe_call G_scaled (hr.mono (by decide)) rfl D_scaled.g D_scaled.F.kp D_scaled.b .nil pass0 (pa_cons (pv 4) (pa_cons (pv 5) (pa_cons (pv 8) pa_nil)))) (pe_call G__law_mul (hr.mono (by decide)) rfl D__law_mul.g D__law_mul.F.kp D__law_mul.b .nil pass0 (pa_cons (pv 3) (pa_cons (pv 5) (pa_cons (pe_call G__law_trim (hr.mono (by decide)) rfl D__law_trim.g D__law_trim.F.kp D__law_trim.b .nil pass0 (pa_cons (pe_lst (pa_cons (pv 8) pa_nil)) pa_nil)) pa_nil)))) (nomark _)) (pw_or1 (pt_cmpR (op_neD hr.units) (pe_call G_slope (hr.mono (by decide)) rfl D_slope.g D_slope.F.kp D_slope.b .nil pass0 (pa_cons (pv 5) pa_nil)) (pe_call G__law_slope (hr.mono (by decide)) rfl D__law_slope.g D__law_slope.F.kp D__law_slope.b .nil pass0 (pa_cons (pv 5) pa_nil)) (nomark _))))) (pss_one (ps_ret pe_bl)) pss_nil)
      (pss_cons (ps_if (pt_cmpR op_ne (pe_call G_value (hr.mono (by decide)) rfl D_value.g D_value.F.kp D_value.b .nil pass0 (pa_cons (pv 4) (pa_cons (pv 5) (pa_cons (pv 8) pa_nil)))) (pe_call G__law_at_point (hr.mono (by decide)) rfl D__law_at_point.g D__law_at_point.F.kp D__law_at_point.b .nil pass0 (pa_cons (pv 3) (pa_cons (pv 5) (pa_cons (pv 8) pa_nil)))) (nomark _)) (pss_one (ps_ret pe_bl)) pss_nil)
      (pss_cons (ps_if (PW.pt (pw_or (pt_not (pt_val (pe_call G__law_division (hr.mono (by decide)) rfl D__law_division.g D__law_division.F.kp D__law_division.b .nil pass0 (pa_cons (pv 4) (pa_cons (pv 2) (pa_cons (pv 3) (pa_cons (pv 5) (pa_cons (pv 6) pa_nil)))))))) (pw_or1 (pt_not (pt_val (pe_call G__law_division (hr.mono (by decide)) rfl D__law_division.g D__law_division.F.kp D__law_division.b .nil pass0 (pa_cons (pv 4) (pa_cons (pv 2) (pa_cons (pv 3) (pa_cons (pe_call G__law_mul (hr.mono (by decide)) rfl D__law_mul.g D__law_mul.F.kp D__law_mul.b .nil pass0 (pa_cons (pv 3) (pa_cons (pv 5) (pa_cons (pv 6) pa_nil)))) (pa_cons (pv 6) pa_nil))))))))))) (pss_one (ps_ret pe_bl)) pss_nil)
      (pss_cons (ps_set (i := 9) sc_law.nd rfl (Or.inl rfl) (pe_op op_cat (pv 5) (pe_op op_rep (pe_lst (pa_cons (pe_nat 0) pa_nil)) (pe_op nb_mod (pe_callTy call_int1 (by rfl) B.int (by decide +kernel) (pa_cons (pe_ix ix_list (pv 1) (pe_nat 3) (fun _ _ => rfl)) pa_nil)) (pe_nat 4)))))
      (pss_cons (ps_set (i := 10) sc_law.nd rfl (Or.inl rfl) (pe_call G_trimmed (hr.mono (by decide)) rfl D_trimmed.g D_trimmed.F.kp D_trimmed.b .nil pass0 (pa_cons (pv 9) pa_nil)))
      (pss_cons (ps_expr (pe_bm PySem.F.plainAttrs_list PySem.F.slot_list_append PySem.F.type_list_append mt_append (pv 10) (pa_cons (pe_nat 1) pa_nil)))
      (pss_one (ps_ret (pe_and (pe_cmpR (op_eqD hr.units) (pe_call G_trimmed (hr.mono (by decide)) rfl D_trimmed.g D_trimmed.F.kp D_trimmed.b .nil pass0 (pa_cons (pv 9) pa_nil)) (pv 5) (nomark _)) (pe_and (pe_cmpR op_eq (pe_callB (call_reprD gd hr.units) (by rfl) z_repr (by decide +kernel) (pa_cons (pe_tup (pa_cons (pv 5) (pa_cons (pv 6) pa_nil))) pa_nil)) (pv 7) (nomark _)) (pe_one (pe_cmpR (op_eqD hr.units) (pe_call G_divide_polys (hr.mono (by decide)) rfl D_divide_polys.g D_divide_polys.F.kp D_divide_polys.b .nil passL (pa_cons (pv 4) (pa_cons (pv 5) (pa_cons (pe_lst (pa_cons (pe_nat 1) pa_nil)) pa_nil)))) (pe_tup (pa_cons (pv 5) (pa_cons (pe_lst pa_nil) pa_nil))) (nomark _)))))))))))))))))))))), ?_⟩
    refine ⟨_, rfl, a, ns, 80, rfl, hS, hl, by decide, fun l xs H1 s1 nl hxs hlen hx => ?_⟩
    have hL : ∀ {H3 : Hp}, Same H1 H3 → SqL K H3 l (NL xs) := fun e => e.seq (SqL.of hxs)
    have hg : ∀ i, i < 80 → ∃ x, xs[i]? = some x ∧ x < 65536 := fun i hi => ⟨_, List.getElem?_eq_getElem (by omega), hx _ (List.getElem_mem _)⟩
    obtain ⟨x0, hx0, l0⟩ := hg 0 (by omega)
    obtain ⟨x1, hx1, l1⟩ := hg 1 (by omega)
    obtain ⟨x2, hx2, l2⟩ := hg 2 (by omega)
    obtain ⟨x3, hx3, l3⟩ := hg 3 (by omega)
    have h7 : x0 % 7 < 7 := Nat.mod_lt _ (by decide)
    have sr : Same H1 H1 := Same.refl _
    refine ⟨_, rfl, l, _, _, _, rfl, rfl, hL sr, NL_at0 hx0, .inl ⟨_, rfl, _, _, rfl, rfl, Nat.succ_pos _, _, _, rfl, rfl, ?_⟩⟩
    have hm2 : 2 ≤ 2 + x0 % 7 := by omega
    have hm8 : 2 + x0 % 7 ≤ 8 := by omega
    dsimp (config := { proj := false, iota := false, zeta := false, eta := false }) only
    generalize 2 + x0 % 7 = m at hm2 hm8 ⊢
    refine ⟨_, rfl, _, rfl, l, _, _, _, rfl, rfl, hL sr, NL_at0 hx1, m, x1, rfl, hm2, hm8, fun q H3 F s3 => ?_⟩
    obtain ⟨hm4, hm256⟩ := pow_m F
    have hq5 := q_512 F
    have hpow : (2 : Nat) ^ 9 = 512 := by decide
    refine ⟨_, rfl, _, rfl, fun x dx nx nd ne => ?_⟩
    refine ⟨x, dx, (m : Int), (q : Int), rfl, upd_same, log_small4 (by omega), log_small4 (by omega), by omega, fun hb => absurd (show 2 ≤ (m : Int) ∧ (m : Int) ≤ 8 by omega) hb, fun _ _ hb => absurd (show 0 ≤ (q : Int) ∧ Fd m q from ⟨by omega, F⟩) hb, fun mn qn r e1 e2 F' H5 kp FA => ⟨rfl, ?_⟩⟩
    have e1 : m = mn := by omega
    have e2 : q = qn := by omega
    subst e1 e2
    have s5 : Same H1 H5 := s3.trans (fl_same nx nd kp)
    -- p, q
    refine ⟨_, rfl, _, rfl, l, xs, 10, m, rfl, hL s5, by omega, hm2, hm8, fun ap p0 H6 h6 hEp0 lp0 => ?_⟩
    refine ⟨_, rfl, _, rfl, l, xs, 25, m, rfl, hL (s5.trans h6.1), by omega, hm2, hm8, fun aq q0' H7 h7' hEq0 lq0 => ?_⟩
    have hEp := trim_El hEp0
    have hEq := trim_El hEq0
    have lp : (trim p0).length ≤ 9 := by have := trim_len p0; have := tl_le p0; omega
    have lq : (trim q0').length ≤ 9 := by have := trim_len q0'; have := tl_le q0'; omega
    have tp := trim_trim p0
    have tq := trim_trim q0'
    have hap := h7'.1 _ _ h6.2.2
    have haq := h7'.2.2
    have s57 := h6.1.trans h7'.1
    generalize trim p0 = p at hEp lp tp hap
    generalize trim q0' = qq at hEq lq tq haq
    have hp256 : ∀ c ∈ p, c < 256 := fun c hc => by have := hEp c hc; omega
    have hq256 : ∀ c ∈ qq, c < 256 := fun c hc => by have := hEq c hc; omega
    have FA7 := FA.mono s57
    have s17 := s5.trans s57
    refine ⟨_, rfl, _, rfl, (by show 2 ≤ sizeLine; decide), fun t0 nt0 => ?_⟩
    have s78 := same_upd (o := HO.tup [.ref ap, .ref aq]) nt0
    obtain ⟨o1, o2, o3, o4⟩ := pr_ok hp256 hq256 (by omega) (by omega)
    refine ⟨t0, prD p qq, rfl, pair_dp upd_same (SqL.of (s78 _ _ hap)) (SqL.of (s78 _ _ haq)), o1, o2, o3, o4, ?_⟩
    generalize upd H7 t0 (.tup [.ref ap, .ref aq]) = H8 at s78 ⊢
    -- e
    refine ⟨_, rfl, l, _, _, _, rfl, rfl, hL (s17.trans s78), NL_at0 hx2, .inl ⟨_, rfl, _, rfl, _, _, rfl, rfl, ⟨by decide, by omega⟩, _, _, rfl, rfl, (by show 0 < 2 ^ m * 1; omega), ?_⟩⟩
    have he : x2 % (2 ^ m * 1) < 2 ^ m := by rw [Nat.mul_one]; exact Nat.mod_lt _ (by omega)
    dsimp (config := { proj := false, iota := false, zeta := false, eta := false }) only
    generalize x2 % (2 ^ m * 1) = e at he ⊢
    -- sums and products
    refine ⟨_, rfl, _, rfl, _, rfl, x, ap, aq, m, q, r, p, qq, rfl, FA7.mono s78, s78 _ _ hap, s78 _ _ haq, by omega, by omega, fun la Ha ha => ?_⟩
    have za := s78.trans ha.1
    refine ⟨_, rfl, _, rfl, ap, aq, p, qq, rfl, za _ _ hap, za _ _ haq, by omega, by omega, fun lb Hb hb => ne_NL (SqL.of (hb.1 _ _ ha.2.2)) (SqL.of hb.2.2) ⟨false, rfl, iteF ?_⟩⟩
    have zb := za.trans hb.1
    refine ⟨_, rfl, _, rfl, _, rfl, x, ap, aq, m, q, r, p, qq, rfl, FA7.mono zb, SqL.of (zb _ _ hap), SqL.of (zb _ _ haq), hEp, hEq, by omega, by omega, fun lc Hc hc => ?_⟩
    have zc := zb.trans hc.1
    refine ⟨_, rfl, _, rfl, _, rfl, ap, aq, m, q, p, qq, rfl, F, SqL.of (zc _ _ hap), SqL.of (zc _ _ haq), hEp, hEq, by omega, by omega, fun ld Hd hd => ne_NL (SqL.of (hd.1 _ _ hc.2.2)) (SqL.of hd.2.2) ⟨false, rfl, iteF ?_⟩⟩
    have zd := zc.trans hd.1
    -- scaled, slope
    refine ⟨_, rfl, _, rfl, _, rfl, x, ap, m, q, r, e, p, rfl, FA7.mono zd, SqL.of (zd _ _ hap), by omega, hEp, he, fun le He hle => ?_⟩
    have ze := zd.trans hle.1
    refine ⟨_, rfl, _, rfl, _, rfl, (by show 1 ≤ sizeLine; decide), fun u nu => ?_⟩
    have su := same_upd (o := HO.lst (NL [e])) nu
    refine ⟨u, [e], rfl, SqL.of upd_same, (by show 1 ≤ 1000; decide), fun lf Hf hf => ?_⟩
    have zf := (ze.trans su).trans hf.1
    have hE1 : El m [e] := fun c hc => by rw [List.mem_singleton] at hc; rw [hc]; exact he
    have l1e := trim_len [e]
    have l1f := tl_le [e]
    have l1g : ([e] : List Nat).length = 1 := rfl
    refine ⟨ap, lf, m, q, p, trim [e], rfl, F, SqL.of (zf _ _ hap), SqL.of hf.2.2, hEp, trim_El hE1, by omega, by omega, fun lg Hg hg' => ?_⟩
    have zg := zf.trans hg'.1
    have h52 := hle.2.2
    rw [scaled_law F] at h52
    refine ne_NL (SqL.of (((su.trans hf.1).trans hg'.1) _ _ h52)) (SqL.of hg'.2.2) ⟨false, rfl, iteF ?_⟩
    have hp65 : ∀ c ∈ p, c < 65536 := fun c hc => by have := hp256 c hc; omega
    refine ⟨_, rfl, ap, p, rfl, SqL.of (zg _ _ hap), by omega, hp65, fun lh Hh hh => ?_⟩
    have zh := zg.trans hh.1
    refine ⟨_, rfl, ap, p, rfl, SqL.of (zh _ _ hap), by omega, hp65, fun li Hi hi => ne_NL (SqL.of (hi.1 _ _ hh.2.2)) (SqL.of hi.2.2) ⟨false, rfl, iteF ?_⟩⟩
    have zi := zh.trans hi.1
    -- value
    refine ⟨_, rfl, _, rfl, _, rfl, x, ap, m, q, r, e, p, rfl, FA7.mono zi, SqL.of (zi _ _ hap), hEp, he, fun Hj sj => ?_⟩
    have zj := zi.trans sj
    refine ⟨_, rfl, _, rfl, _, rfl, ap, m, q, e, p, rfl, F, SqL.of (zj _ _ hap), hEp, by omega, he, fun Hk sk => ⟨rfl, _, rfl, iteNS rfl ?_⟩⟩
    have zk := zj.trans sk
    -- division
    refine ⟨_, rfl, _, rfl, _, rfl, _, rfl, _, rfl, x, ap, aq, m, q, r, p, qq, rfl, FA7.mono zk, SqL.of (zk _ _ hap), SqL.of (zk _ _ haq), hEp, hEq, by omega, by omega, tq, fun Hl sl => ⟨true, rfl, iteF ?_⟩⟩
    have zl := zk.trans sl
    have lcv := trim_le' (conv q p qq)
    rw [conv_len] at lcv
    refine ⟨_, rfl, _, rfl, _, rfl, _, rfl, _, rfl, _, rfl, ap, aq, m, q, p, qq, rfl, F, SqL.of (zl _ _ hap), SqL.of (zl _ _ haq), hEp, hEq, by omega, by omega, fun lm Hm hm => ?_⟩
    have zm := zl.trans hm.1
    refine ⟨_, rfl, x, lm, aq, m, q, r, _, qq, rfl, FA7.mono zm, SqL.of hm.2.2, SqL.of (zm _ _ haq), trim_El (conv_mem F _ _), hEq, by omega, by omega, tq, fun Hn sn => ⟨true, rfl, iteF ?_⟩⟩
    have zn := zm.trans sn
    -- row
    refine ⟨_, rfl, (by show 1 ≤ sizeLine; decide), fun z nz => ?_⟩
    have sz := same_upd (o := HO.lst [V.int ((0 : Nat) : Int)]) nz
    have hx4 : x3 % 4 < 4 := Nat.mod_lt _ (by decide)
    have sL := sizeLine_eq
    refine ⟨_, rfl, l, _, _, _, rfl, rfl, hL ((s17.trans zn).trans sz), NL_at0 hx3, .inl ⟨_, rfl, _, _, rfl, rfl, Nat.succ_pos _, z, _, _, rfl, rfl, upd_same, by omega, by omega, ?_, fun y ny => ?_⟩⟩
    · rw [Int.toNat_natCast]; show 1 * (x3 % 4) ≤ sizeLine; omega
    rw [Int.toNat_natCast, rep0]
    have sy := same_new (o := HO.lst (NL (List.replicate (x3 % 4) 0))) sz ny
    have zy := zn.trans sy
    refine ⟨ap, y, _, _, rfl, rfl, zy _ _ hap, upd_same, by rw [NL_len, NL_len, List.length_replicate]; omega, fun rw' nrw => ?_⟩
    rw [NL_cat]
    have sr' := same_upd (o := HO.lst (NL (p ++ List.replicate (x3 % 4) 0))) nrw
    have hrw : (upd (upd (upd Hn z (.lst [V.int ((0 : Nat) : Int)])) y (.lst (NL (List.replicate (x3 % 4) 0)))) rw' (.lst (NL (p ++ List.replicate (x3 % 4) 0)))) rw' = some (.lst (NL (p ++ List.replicate (x3 % 4) 0))) := upd_same
    have zr := zy.trans sr'
    generalize upd (upd (upd Hn z (.lst [V.int ((0 : Nat) : Int)])) y (.lst (NL (List.replicate (x3 % 4) 0)))) rw' (.lst (NL (p ++ List.replicate (x3 % 4) 0))) = Ho at hrw zr ⊢
    have etr : trim (p ++ List.replicate (x3 % 4) 0) = p := by
      refine Eq.trans (trim_ext fun j => ?_) tp
      by_cases g : j < p.length
      · rw [List.getD_eq_getElem?_getD, List.getElem?_append_left g, ← List.getD_eq_getElem?_getD]
      · have h9 : p.getD j 0 = 0 := getD_out (by omega)
        rw [h9, List.getD_eq_getElem?_getD, List.getElem?_append_right (by omega), ← List.getD_eq_getElem?_getD, rep_getD]
    have lrow : (p ++ List.replicate (x3 % 4) 0).length ≤ 1000 := by rw [List.length_append, List.length_replicate]; omega
    refine ⟨_, rfl, rw', _, rfl, SqL.of hrw, lrow, fun tl' Hp' hp' => ?_⟩
    have zp := zr.trans hp'.1
    have htl := hp'.2.2
    rw [etr] at htl
    have ntl : H7 tl' = none := zr.free hp'.2.1
    refine ⟨_, rfl, .inl ⟨rfl, _, SqL.of htl⟩, tl', _, _, rfl, rfl, htl, by rw [NL_len]; exact small1000 (by omega), ?_⟩
    have zq := same_upd2 (o := HO.lst (NL p ++ [V.int ((1 : Nat) : Int)])) zp ntl
    have hrq : (upd Hp' tl' (.lst (NL p ++ [V.int ((1 : Nat) : Int)]))) rw' = some (.lst (NL (p ++ List.replicate (x3 % 4) 0))) := by
      rw [upd_ne (fun ee => ne_of_none hrw hp'.2.1 ee)]; exact hp'.1 _ _ hrw
    generalize upd Hp' tl' (.lst (NL p ++ [V.int ((1 : Nat) : Int)])) = Hq at zq hrq ⊢
    refine ⟨_, rfl, rw', _, rfl, SqL.of hrq, lrow, fun lq' Hr hr' => ?_⟩
    have zr2 := zq.trans hr'.1
    have hlq := hr'.2.2
    rw [etr] at hlq
    refine ⟨_, rfl, eq_NL (SqL.of hlq) (SqL.of (zr2 _ _ hap)) ⟨true, rfl, iteT ?_⟩⟩
    refine ⟨_, rfl, _, rfl, (by show 2 ≤ sizeLine; decide), fun t1 nt1 => ?_⟩
    have st1 := same_new (o := HO.tup [.ref ap, .ref aq]) zr2 nt1
    refine ⟨t1, prD p qq, rfl, pair_dp upd_same (SqL.of (st1 _ _ hap)) (SqL.of (st1 _ _ haq)), o1, o2, o3, o4, ?_⟩
    generalize upd Hr t1 (.tup [.ref ap, .ref aq]) = Hs at st1 ⊢
    refine ⟨_, rfl, rfl, _, rfl, iteY rfl ?_⟩
    refine ⟨_, rfl, _, rfl, (by show 1 ≤ sizeLine; decide), fun u1 nu1 => ?_⟩
    have su1 := same_new (o := HO.lst (NL [1])) st1 nu1
    have hE11 : El m [1] := fun c hc => by rw [List.mem_singleton] at hc; rw [hc]; omega
    refine ⟨x, ap, u1, m, q, r, p, [1], rfl, FA7.mono su1, SqL.of (su1 _ _ hap), SqL.of upd_same, hEp, hE11, by omega, (by show 1 ≤ 400; decide), (fun zz => absurd zz (by decide)), fun _ t2 a1 a2 v Ht st v1 v2 v3 h1 h2 h3 => ?_⟩
    have ed := dq_one F hEp tp v1 v3
    rw [ed] at h2 h3
    refine ⟨_, rfl, Nat.zero_le _, fun em nem => ⟨(by show 2 ≤ sizeLine; decide), fun t3 nt3 => ?_⟩⟩
    have w1 := same_upd (o := HO.lst []) nem
    have w2 := same_new (o := HO.tup [.ref ap, .ref em]) w1 nt3
    have hem : (upd (upd Ht em (.lst [])) t3 (.tup [.ref ap, .ref em])) em = some (.lst (NL [])) := by
      have h8 : (upd Ht em (.lst [])) em = some (.lst []) := upd_same
      rw [upd_ne (ne_of_none h8 nt3)]; exact h8
    exact eq_pair (w2 _ _ h1) (SqL.of (w2 _ _ h2)) (SqL.of (w2 _ _ h3)) upd_same (SqL.of (w2 _ _ (st _ _ (su1 _ _ hap)))) (SqL.of hem) (k _)
end
end K02
namespace K02
open PySem PySem.Spec L2 NB ER MKX
theorem all_mk {l : PySem.W.OpenLaw} {w : World} {K : PySem.W.Frag} {h : Heap} {mg : Str → Option Value} {fa : Addr} (X : K.In h) (G : h.Ns mainGlobals mg) (hfa : mg "law" = some (.ref fa))
    {C_Field : Addr}
    {f_Field___init__ : Addr} {od_Field___init__ an_Field___init__ : Option Addr} {sl_Field___init__ : Array (Option Value)} {oc_Field___init__ kV_Field___init__ dc_Field___init__ pm_Field___init__ cd_Field___init__ ct_Field___init__ : Value}
    {f_Field_size : Addr} {od_Field_size an_Field_size : Option Addr} {sl_Field_size : Array (Option Value)} {oc_Field_size kV_Field_size dc_Field_size pm_Field_size cd_Field_size ct_Field_size : Value}
    {f_Field_add : Addr} {od_Field_add an_Field_add : Option Addr} {sl_Field_add : Array (Option Value)} {oc_Field_add kV_Field_add dc_Field_add pm_Field_add cd_Field_add ct_Field_add : Value}
    {f_Field_times : Addr} {od_Field_times an_Field_times : Option Addr} {sl_Field_times : Array (Option Value)} {oc_Field_times kV_Field_times dc_Field_times pm_Field_times cd_Field_times ct_Field_times : Value}
    {f_Field_inverse : Addr} {od_Field_inverse an_Field_inverse : Option Addr} {sl_Field_inverse : Array (Option Value)} {oc_Field_inverse kV_Field_inverse dc_Field_inverse pm_Field_inverse cd_Field_inverse ct_Field_inverse : Value}
    {f_Field_log : Addr} {od_Field_log an_Field_log : Option Addr} {sl_Field_log : Array (Option Value)} {oc_Field_log kV_Field_log dc_Field_log pm_Field_log cd_Field_log ct_Field_log : Value}
    {f_degree : Addr} {od_degree an_degree : Option Addr} {sl_degree : Array (Option Value)} {oc_degree kV_degree dc_degree pm_degree cd_degree ct_degree : Value}
    {f_times_binary : Addr} {od_times_binary an_times_binary : Option Addr} {sl_times_binary : Array (Option Value)} {oc_times_binary kV_times_binary dc_times_binary pm_times_binary cd_times_binary ct_times_binary : Value}
    {f_divide_binary : Addr} {od_divide_binary an_divide_binary : Option Addr} {sl_divide_binary : Array (Option Value)} {oc_divide_binary kV_divide_binary dc_divide_binary pm_divide_binary cd_divide_binary ct_divide_binary : Value}
    {f_common : Addr} {od_common an_common : Option Addr} {sl_common : Array (Option Value)} {oc_common kV_common dc_common pm_common cd_common ct_common : Value}
    {f_product_rest : Addr} {od_product_rest an_product_rest : Option Addr} {sl_product_rest : Array (Option Value)} {oc_product_rest kV_product_rest dc_product_rest pm_product_rest cd_product_rest ct_product_rest : Value}
    {f_is_irreducible : Addr} {od_is_irreducible an_is_irreducible : Option Addr} {sl_is_irreducible : Array (Option Value)} {oc_is_irreducible kV_is_irreducible dc_is_irreducible pm_is_irreducible cd_is_irreducible ct_is_irreducible : Value}
    {f__powers_of : Addr} {od__powers_of an__powers_of : Option Addr} {sl__powers_of : Array (Option Value)} {oc__powers_of kV__powers_of dc__powers_of pm__powers_of cd__powers_of ct__powers_of : Value}
    {f__root_powers : Addr} {od__root_powers an__root_powers : Option Addr} {sl__root_powers : Array (Option Value)} {oc__root_powers kV__root_powers dc__root_powers pm__root_powers cd__root_powers ct__root_powers : Value}
    {f_trimmed : Addr} {od_trimmed an_trimmed : Option Addr} {sl_trimmed : Array (Option Value)} {oc_trimmed kV_trimmed dc_trimmed pm_trimmed cd_trimmed ct_trimmed : Value}
    {f_add : Addr} {od_add an_add : Option Addr} {sl_add : Array (Option Value)} {oc_add kV_add dc_add pm_add cd_add ct_add : Value}
    {f_times_polys : Addr} {od_times_polys an_times_polys : Option Addr} {sl_times_polys : Array (Option Value)} {oc_times_polys kV_times_polys dc_times_polys pm_times_polys cd_times_polys ct_times_polys : Value}
    {f_scaled : Addr} {od_scaled an_scaled : Option Addr} {sl_scaled : Array (Option Value)} {oc_scaled kV_scaled dc_scaled pm_scaled cd_scaled ct_scaled : Value}
    {f_value : Addr} {od_value an_value : Option Addr} {sl_value : Array (Option Value)} {oc_value kV_value dc_value pm_value cd_value ct_value : Value}
    {f_divide_polys : Addr} {od_divide_polys an_divide_polys : Option Addr} {sl_divide_polys : Array (Option Value)} {oc_divide_polys kV_divide_polys dc_divide_polys pm_divide_polys cd_divide_polys ct_divide_polys : Value}
    {f_slope : Addr} {od_slope an_slope : Option Addr} {sl_slope : Array (Option Value)} {oc_slope kV_slope dc_slope pm_slope cd_slope ct_slope : Value}
    {f__law_numbers : Addr} {od__law_numbers an__law_numbers : Option Addr} {sl__law_numbers : Array (Option Value)} {oc__law_numbers kV__law_numbers dc__law_numbers pm__law_numbers cd__law_numbers ct__law_numbers : Value}
    {f__law_degree : Addr} {od__law_degree an__law_degree : Option Addr} {sl__law_degree : Array (Option Value)} {oc__law_degree kV__law_degree dc__law_degree pm__law_degree cd__law_degree ct__law_degree : Value}
    {f__law_times : Addr} {od__law_times an__law_times : Option Addr} {sl__law_times : Array (Option Value)} {oc__law_times kV__law_times dc__law_times pm__law_times cd__law_times ct__law_times : Value}
    {f__law_divided : Addr} {od__law_divided an__law_divided : Option Addr} {sl__law_divided : Array (Option Value)} {oc__law_divided kV__law_divided dc__law_divided pm__law_divided cd__law_divided ct__law_divided : Value}
    {f__law_irreducible : Addr} {od__law_irreducible an__law_irreducible : Option Addr} {sl__law_irreducible : Array (Option Value)} {oc__law_irreducible kV__law_irreducible dc__law_irreducible pm__law_irreducible cd__law_irreducible ct__law_irreducible : Value}
    {f__law_modulus : Addr} {od__law_modulus an__law_modulus : Option Addr} {sl__law_modulus : Array (Option Value)} {oc__law_modulus kV__law_modulus dc__law_modulus pm__law_modulus cd__law_modulus ct__law_modulus : Value}
    {f__law_product : Addr} {od__law_product an__law_product : Option Addr} {sl__law_product : Array (Option Value)} {oc__law_product kV__law_product dc__law_product pm__law_product cd__law_product ct__law_product : Value}
    {f__law_inverse : Addr} {od__law_inverse an__law_inverse : Option Addr} {sl__law_inverse : Array (Option Value)} {oc__law_inverse kV__law_inverse dc__law_inverse pm__law_inverse cd__law_inverse ct__law_inverse : Value}
    {f__law_trim : Addr} {od__law_trim an__law_trim : Option Addr} {sl__law_trim : Array (Option Value)} {oc__law_trim kV__law_trim dc__law_trim pm__law_trim cd__law_trim ct__law_trim : Value}
    {f__law_plus : Addr} {od__law_plus an__law_plus : Option Addr} {sl__law_plus : Array (Option Value)} {oc__law_plus kV__law_plus dc__law_plus pm__law_plus cd__law_plus ct__law_plus : Value}
    {f__law_mul : Addr} {od__law_mul an__law_mul : Option Addr} {sl__law_mul : Array (Option Value)} {oc__law_mul kV__law_mul dc__law_mul pm__law_mul cd__law_mul ct__law_mul : Value}
    {f__law_at_point : Addr} {od__law_at_point an__law_at_point : Option Addr} {sl__law_at_point : Array (Option Value)} {oc__law_at_point kV__law_at_point dc__law_at_point pm__law_at_point cd__law_at_point ct__law_at_point : Value}
    {f__law_over : Addr} {od__law_over an__law_over : Option Addr} {sl__law_over : Array (Option Value)} {oc__law_over kV__law_over dc__law_over pm__law_over cd__law_over ct__law_over : Value}
    {f__law_poly : Addr} {od__law_poly an__law_poly : Option Addr} {sl__law_poly : Array (Option Value)} {oc__law_poly kV__law_poly dc__law_poly pm__law_poly cd__law_poly ct__law_poly : Value}
    {f__law_slope : Addr} {od__law_slope an__law_slope : Option Addr} {sl__law_slope : Array (Option Value)} {oc__law_slope kV__law_slope dc__law_slope pm__law_slope cd__law_slope ct__law_slope : Value}
    {f__law_division : Addr} {od__law_division an__law_division : Option Addr} {sl__law_division : Array (Option Value)} {oc__law_division kV__law_division dc__law_division pm__law_division cd__law_division ct__law_division : Value}
    {f_law : Addr} {od_law an_law : Option Addr} {sl_law : Array (Option Value)} {oc_law kV_law dc_law pm_law cd_law ct_law : Value}
    {f_init : Addr} {od_init an_init : Option Addr} {sl_init : Array (Option Value)} {oc_init kV_init dc_init pm_init cd_init ct_init : Value}
    {C_HaulError C_OutOfRange C_NotIrreducible C_NoInverse C_NoDivisor : Addr}
    {nm_HaulError q_HaulError : Str} {N_HaulError : Addr} {bs_HaulError bm_HaulError : List Value} {sn_HaulError : List Str} {sub_HaulError : List Value} {ab_HaulError : Bool} {col_HaulError : Option Bool} {dd_HaulError : Option Addr} {k0_HaulError k1_HaulError k2_HaulError k3_HaulError k5_HaulError : Option Value}
    {nm_OutOfRange q_OutOfRange : Str} {N_OutOfRange : Addr} {bs_OutOfRange bm_OutOfRange : List Value} {sn_OutOfRange : List Str} {sub_OutOfRange : List Value} {ab_OutOfRange : Bool} {col_OutOfRange : Option Bool} {dd_OutOfRange : Option Addr} {k0_OutOfRange k1_OutOfRange k2_OutOfRange k3_OutOfRange k5_OutOfRange : Option Value}
    {nm_NotIrreducible q_NotIrreducible : Str} {N_NotIrreducible : Addr} {bs_NotIrreducible bm_NotIrreducible : List Value} {sn_NotIrreducible : List Str} {sub_NotIrreducible : List Value} {ab_NotIrreducible : Bool} {col_NotIrreducible : Option Bool} {dd_NotIrreducible : Option Addr} {k0_NotIrreducible k1_NotIrreducible k2_NotIrreducible k3_NotIrreducible k5_NotIrreducible : Option Value}
    {nm_NoInverse q_NoInverse : Str} {N_NoInverse : Addr} {bs_NoInverse bm_NoInverse : List Value} {sn_NoInverse : List Str} {sub_NoInverse : List Value} {ab_NoInverse : Bool} {col_NoInverse : Option Bool} {dd_NoInverse : Option Addr} {k0_NoInverse k1_NoInverse k2_NoInverse k3_NoInverse k5_NoInverse : Option Value}
    {nm_NoDivisor q_NoDivisor : Str} {N_NoDivisor : Addr} {bs_NoDivisor bm_NoDivisor : List Value} {sn_NoDivisor : List Str} {sub_NoDivisor : List Value} {ab_NoDivisor : Bool} {col_NoDivisor : Option Bool} {dd_NoDivisor : Option Addr} {k0_NoDivisor k1_NoDivisor k2_NoDivisor k3_NoDivisor k5_NoDivisor : Option Value}
    {t_X : Tok}
    (a_HaulError : PySem.W.nsIn K mainGlobals "HaulError" = some (some (.ref C_HaulError)))
    (a_OutOfRange : PySem.W.nsIn K mainGlobals "OutOfRange" = some (some (.ref C_OutOfRange)))
    (a_NotIrreducible : PySem.W.nsIn K mainGlobals "NotIrreducible" = some (some (.ref C_NotIrreducible)))
    (a_NoInverse : PySem.W.nsIn K mainGlobals "NoInverse" = some (some (.ref C_NoInverse)))
    (a_NoDivisor : PySem.W.nsIn K mainGlobals "NoDivisor" = some (some (.ref C_NoDivisor)))
    (i_init : PySem.W.findIn K (.ref C_HaulError) "__init__" = some (some (.ref f_init)))
    (ti_init : PySem.W.typeIn K (.ref f_init) = some (.type "function"))
    (l_init : K.lookup f_init = some ⟨oc_init, od_init, .func (PySem.W.fnOf "__init__" "HaulError.__init__" (defArgs s_init) (defBody s_init) (defScope s_init) .none kV_init dc_init pm_init an_init cd_init ct_init), sl_init⟩)
    (c_init : PySem.W.codeIn K cd_init "HaulError.__init__" = true)
    (k_init : PySem.W.keepIn K (.ref f_init) = true)
    (v_init : PySem.W.findCls K (.type "ValueError") (.type "type") "__init__" = some (.val (.builtin "ValueError.__init__")))
    (sp_cls : PySem.W.specialIn K (.builtin "object.__class__") "__get__" = some (some (.builtin "getset_descriptor.__get__")))
    (tk_cls : PySem.W.takesIn K (.builtin "object.__class__") = some true)
    (x_HaulError : K.lookup C_HaulError = some (excClassObj nm_HaulError q_HaulError C_HaulError N_HaulError bs_HaulError bm_HaulError true sn_HaulError sub_HaulError ab_HaulError col_HaulError dd_HaulError k0_HaulError k1_HaulError k2_HaulError k3_HaulError k5_HaulError "ValueError.__new__"))
    (r_HaulError : PySem.HandSPX.refsVE bm_HaulError = true)
    (sa_HaulError : PySem.W.findIn K (.ref C_HaulError) "__setattr__" = some (some (.builtin "object.__setattr__")))
    (ga_HaulError : PySem.W.findIn K (.ref C_HaulError) "__getattribute__" = some (some (.builtin "BaseException.__getattribute__")))
    (gg_HaulError : PySem.W.findIn K (.ref C_HaulError) "__getattr__" = some none)
    (cl_HaulError : PySem.W.findIn K (.ref C_HaulError) "__class__" = some (some (.builtin "object.__class__")))
    (no_HaulError : PySem.W.findIn K (.ref C_HaulError) "at" = some none)
    (e_HaulError : PySem.W.subIn K (.ref C_HaulError) (.type "BaseException") = some true)
    (ty_HaulError : PySem.W.typeIn K (.ref C_HaulError) = some (.type "type"))
    (kc_HaulError : PySem.W.keepIn K (.ref C_HaulError) = true)
    (hd_HaulError : PySem.W.hasDictIn K C_HaulError = true)
    (mo_HaulError : PySem.W.mroIn K C_HaulError (.type "object") = some true)
    (su_HaulError : PySem.W.subIn K (.ref C_HaulError) (.ref C_HaulError) = some true)
    (x_OutOfRange : K.lookup C_OutOfRange = some (excClassObj nm_OutOfRange q_OutOfRange C_OutOfRange N_OutOfRange bs_OutOfRange bm_OutOfRange true sn_OutOfRange sub_OutOfRange ab_OutOfRange col_OutOfRange dd_OutOfRange k0_OutOfRange k1_OutOfRange k2_OutOfRange k3_OutOfRange k5_OutOfRange "ValueError.__new__"))
    (r_OutOfRange : PySem.HandSPX.refsVE bm_OutOfRange = true)
    (sa_OutOfRange : PySem.W.findIn K (.ref C_OutOfRange) "__setattr__" = some (some (.builtin "object.__setattr__")))
    (ga_OutOfRange : PySem.W.findIn K (.ref C_OutOfRange) "__getattribute__" = some (some (.builtin "BaseException.__getattribute__")))
    (gg_OutOfRange : PySem.W.findIn K (.ref C_OutOfRange) "__getattr__" = some none)
    (cl_OutOfRange : PySem.W.findIn K (.ref C_OutOfRange) "__class__" = some (some (.builtin "object.__class__")))
    (no_OutOfRange : PySem.W.findIn K (.ref C_OutOfRange) "at" = some none)
    (ii_OutOfRange : PySem.W.findIn K (.ref C_OutOfRange) "__init__" = some (some (.ref f_init)))
    (e_OutOfRange : PySem.W.subIn K (.ref C_OutOfRange) (.type "BaseException") = some true)
    (ty_OutOfRange : PySem.W.typeIn K (.ref C_OutOfRange) = some (.type "type"))
    (kc_OutOfRange : PySem.W.keepIn K (.ref C_OutOfRange) = true)
    (hd_OutOfRange : PySem.W.hasDictIn K C_OutOfRange = true)
    (mo_OutOfRange : PySem.W.mroIn K C_OutOfRange (.type "object") = some true)
    (su_OutOfRange : PySem.W.subIn K (.ref C_OutOfRange) (.ref C_HaulError) = some true)
    (x_NotIrreducible : K.lookup C_NotIrreducible = some (excClassObj nm_NotIrreducible q_NotIrreducible C_NotIrreducible N_NotIrreducible bs_NotIrreducible bm_NotIrreducible true sn_NotIrreducible sub_NotIrreducible ab_NotIrreducible col_NotIrreducible dd_NotIrreducible k0_NotIrreducible k1_NotIrreducible k2_NotIrreducible k3_NotIrreducible k5_NotIrreducible "ValueError.__new__"))
    (r_NotIrreducible : PySem.HandSPX.refsVE bm_NotIrreducible = true)
    (sa_NotIrreducible : PySem.W.findIn K (.ref C_NotIrreducible) "__setattr__" = some (some (.builtin "object.__setattr__")))
    (ga_NotIrreducible : PySem.W.findIn K (.ref C_NotIrreducible) "__getattribute__" = some (some (.builtin "BaseException.__getattribute__")))
    (gg_NotIrreducible : PySem.W.findIn K (.ref C_NotIrreducible) "__getattr__" = some none)
    (cl_NotIrreducible : PySem.W.findIn K (.ref C_NotIrreducible) "__class__" = some (some (.builtin "object.__class__")))
    (no_NotIrreducible : PySem.W.findIn K (.ref C_NotIrreducible) "at" = some none)
    (ii_NotIrreducible : PySem.W.findIn K (.ref C_NotIrreducible) "__init__" = some (some (.ref f_init)))
    (e_NotIrreducible : PySem.W.subIn K (.ref C_NotIrreducible) (.type "BaseException") = some true)
    (ty_NotIrreducible : PySem.W.typeIn K (.ref C_NotIrreducible) = some (.type "type"))
    (kc_NotIrreducible : PySem.W.keepIn K (.ref C_NotIrreducible) = true)
    (hd_NotIrreducible : PySem.W.hasDictIn K C_NotIrreducible = true)
    (mo_NotIrreducible : PySem.W.mroIn K C_NotIrreducible (.type "object") = some true)
    (su_NotIrreducible : PySem.W.subIn K (.ref C_NotIrreducible) (.ref C_HaulError) = some true)
    (x_NoInverse : K.lookup C_NoInverse = some (excClassObj nm_NoInverse q_NoInverse C_NoInverse N_NoInverse bs_NoInverse bm_NoInverse true sn_NoInverse sub_NoInverse ab_NoInverse col_NoInverse dd_NoInverse k0_NoInverse k1_NoInverse k2_NoInverse k3_NoInverse k5_NoInverse "ValueError.__new__"))
    (r_NoInverse : PySem.HandSPX.refsVE bm_NoInverse = true)
    (sa_NoInverse : PySem.W.findIn K (.ref C_NoInverse) "__setattr__" = some (some (.builtin "object.__setattr__")))
    (ga_NoInverse : PySem.W.findIn K (.ref C_NoInverse) "__getattribute__" = some (some (.builtin "BaseException.__getattribute__")))
    (gg_NoInverse : PySem.W.findIn K (.ref C_NoInverse) "__getattr__" = some none)
    (cl_NoInverse : PySem.W.findIn K (.ref C_NoInverse) "__class__" = some (some (.builtin "object.__class__")))
    (no_NoInverse : PySem.W.findIn K (.ref C_NoInverse) "at" = some none)
    (ii_NoInverse : PySem.W.findIn K (.ref C_NoInverse) "__init__" = some (some (.ref f_init)))
    (e_NoInverse : PySem.W.subIn K (.ref C_NoInverse) (.type "BaseException") = some true)
    (ty_NoInverse : PySem.W.typeIn K (.ref C_NoInverse) = some (.type "type"))
    (kc_NoInverse : PySem.W.keepIn K (.ref C_NoInverse) = true)
    (hd_NoInverse : PySem.W.hasDictIn K C_NoInverse = true)
    (mo_NoInverse : PySem.W.mroIn K C_NoInverse (.type "object") = some true)
    (su_NoInverse : PySem.W.subIn K (.ref C_NoInverse) (.ref C_HaulError) = some true)
    (x_NoDivisor : K.lookup C_NoDivisor = some (excClassObj nm_NoDivisor q_NoDivisor C_NoDivisor N_NoDivisor bs_NoDivisor bm_NoDivisor true sn_NoDivisor sub_NoDivisor ab_NoDivisor col_NoDivisor dd_NoDivisor k0_NoDivisor k1_NoDivisor k2_NoDivisor k3_NoDivisor k5_NoDivisor "ValueError.__new__"))
    (r_NoDivisor : PySem.HandSPX.refsVE bm_NoDivisor = true)
    (sa_NoDivisor : PySem.W.findIn K (.ref C_NoDivisor) "__setattr__" = some (some (.builtin "object.__setattr__")))
    (ga_NoDivisor : PySem.W.findIn K (.ref C_NoDivisor) "__getattribute__" = some (some (.builtin "BaseException.__getattribute__")))
    (gg_NoDivisor : PySem.W.findIn K (.ref C_NoDivisor) "__getattr__" = some none)
    (cl_NoDivisor : PySem.W.findIn K (.ref C_NoDivisor) "__class__" = some (some (.builtin "object.__class__")))
    (no_NoDivisor : PySem.W.findIn K (.ref C_NoDivisor) "at" = some none)
    (ii_NoDivisor : PySem.W.findIn K (.ref C_NoDivisor) "__init__" = some (some (.ref f_init)))
    (e_NoDivisor : PySem.W.subIn K (.ref C_NoDivisor) (.type "BaseException") = some true)
    (ty_NoDivisor : PySem.W.typeIn K (.ref C_NoDivisor) = some (.type "type"))
    (kc_NoDivisor : PySem.W.keepIn K (.ref C_NoDivisor) = true)
    (hd_NoDivisor : PySem.W.hasDictIn K C_NoDivisor = true)
    (mo_NoDivisor : PySem.W.mroIn K C_NoDivisor (.type "object") = some true)
    (su_NoDivisor : PySem.W.subIn K (.ref C_NoDivisor) (.ref C_HaulError) = some true)
    (a_degree : PySem.W.nsIn K mainGlobals "degree" = some (some (.ref f_degree)))
    (l_degree : K.lookup f_degree = some ⟨oc_degree, od_degree, .func (PySem.W.fnOf "degree" "degree" (defArgs s_degree) (defBody s_degree) (defScope s_degree) .none kV_degree dc_degree pm_degree an_degree cd_degree ct_degree), sl_degree⟩)
    (c_degree : PySem.W.codeIn K cd_degree "degree" = true)
    (k_degree : PySem.W.keepIn K (.ref f_degree) = true)
    (a_times_binary : PySem.W.nsIn K mainGlobals "times_binary" = some (some (.ref f_times_binary)))
    (l_times_binary : K.lookup f_times_binary = some ⟨oc_times_binary, od_times_binary, .func (PySem.W.fnOf "times" "times" (defArgs s_times_binary) (defBody s_times_binary) (defScope s_times_binary) .none kV_times_binary dc_times_binary pm_times_binary an_times_binary cd_times_binary ct_times_binary), sl_times_binary⟩)
    (c_times_binary : PySem.W.codeIn K cd_times_binary "times" = true)
    (k_times_binary : PySem.W.keepIn K (.ref f_times_binary) = true)
    (a_divide_binary : PySem.W.nsIn K mainGlobals "divide_binary" = some (some (.ref f_divide_binary)))
    (l_divide_binary : K.lookup f_divide_binary = some ⟨oc_divide_binary, od_divide_binary, .func (PySem.W.fnOf "divide" "divide" (defArgs s_divide_binary) (defBody s_divide_binary) (defScope s_divide_binary) .none kV_divide_binary dc_divide_binary pm_divide_binary an_divide_binary cd_divide_binary ct_divide_binary), sl_divide_binary⟩)
    (c_divide_binary : PySem.W.codeIn K cd_divide_binary "divide" = true)
    (k_divide_binary : PySem.W.keepIn K (.ref f_divide_binary) = true)
    (a_common : PySem.W.nsIn K mainGlobals "common" = some (some (.ref f_common)))
    (l_common : K.lookup f_common = some ⟨oc_common, od_common, .func (PySem.W.fnOf "common" "common" (defArgs s_common) (defBody s_common) (defScope s_common) .none kV_common dc_common pm_common an_common cd_common ct_common), sl_common⟩)
    (c_common : PySem.W.codeIn K cd_common "common" = true)
    (k_common : PySem.W.keepIn K (.ref f_common) = true)
    (a_product_rest : PySem.W.nsIn K mainGlobals "product_rest" = some (some (.ref f_product_rest)))
    (l_product_rest : K.lookup f_product_rest = some ⟨oc_product_rest, od_product_rest, .func (PySem.W.fnOf "product_rest" "product_rest" (defArgs s_product_rest) (defBody s_product_rest) (defScope s_product_rest) .none kV_product_rest dc_product_rest pm_product_rest an_product_rest cd_product_rest ct_product_rest), sl_product_rest⟩)
    (c_product_rest : PySem.W.codeIn K cd_product_rest "product_rest" = true)
    (k_product_rest : PySem.W.keepIn K (.ref f_product_rest) = true)
    (a_is_irreducible : PySem.W.nsIn K mainGlobals "is_irreducible" = some (some (.ref f_is_irreducible)))
    (l_is_irreducible : K.lookup f_is_irreducible = some ⟨oc_is_irreducible, od_is_irreducible, .func (PySem.W.fnOf "is_irreducible" "is_irreducible" (defArgs s_is_irreducible) (defBody s_is_irreducible) (defScope s_is_irreducible) .none kV_is_irreducible dc_is_irreducible pm_is_irreducible an_is_irreducible cd_is_irreducible ct_is_irreducible), sl_is_irreducible⟩)
    (c_is_irreducible : PySem.W.codeIn K cd_is_irreducible "is_irreducible" = true)
    (k_is_irreducible : PySem.W.keepIn K (.ref f_is_irreducible) = true)
    (a__powers_of : PySem.W.nsIn K mainGlobals "_powers_of" = some (some (.ref f__powers_of)))
    (l__powers_of : K.lookup f__powers_of = some ⟨oc__powers_of, od__powers_of, .func (PySem.W.fnOf "_powers_of" "_powers_of" (defArgs s__powers_of) (defBody s__powers_of) (defScope s__powers_of) .none kV__powers_of dc__powers_of pm__powers_of an__powers_of cd__powers_of ct__powers_of), sl__powers_of⟩)
    (c__powers_of : PySem.W.codeIn K cd__powers_of "_powers_of" = true)
    (k__powers_of : PySem.W.keepIn K (.ref f__powers_of) = true)
    (a__root_powers : PySem.W.nsIn K mainGlobals "_root_powers" = some (some (.ref f__root_powers)))
    (l__root_powers : K.lookup f__root_powers = some ⟨oc__root_powers, od__root_powers, .func (PySem.W.fnOf "_root_powers" "_root_powers" (defArgs s__root_powers) (defBody s__root_powers) (defScope s__root_powers) .none kV__root_powers dc__root_powers pm__root_powers an__root_powers cd__root_powers ct__root_powers), sl__root_powers⟩)
    (c__root_powers : PySem.W.codeIn K cd__root_powers "_root_powers" = true)
    (k__root_powers : PySem.W.keepIn K (.ref f__root_powers) = true)
    (a_trimmed : PySem.W.nsIn K mainGlobals "trimmed" = some (some (.ref f_trimmed)))
    (l_trimmed : K.lookup f_trimmed = some ⟨oc_trimmed, od_trimmed, .func (PySem.W.fnOf "trimmed" "trimmed" (defArgs s_trimmed) (defBody s_trimmed) (defScope s_trimmed) .none kV_trimmed dc_trimmed pm_trimmed an_trimmed cd_trimmed ct_trimmed), sl_trimmed⟩)
    (c_trimmed : PySem.W.codeIn K cd_trimmed "trimmed" = true)
    (k_trimmed : PySem.W.keepIn K (.ref f_trimmed) = true)
    (a_add : PySem.W.nsIn K mainGlobals "add" = some (some (.ref f_add)))
    (l_add : K.lookup f_add = some ⟨oc_add, od_add, .func (PySem.W.fnOf "add" "add" (defArgs s_add) (defBody s_add) (defScope s_add) .none kV_add dc_add pm_add an_add cd_add ct_add), sl_add⟩)
    (c_add : PySem.W.codeIn K cd_add "add" = true)
    (k_add : PySem.W.keepIn K (.ref f_add) = true)
    (a_times_polys : PySem.W.nsIn K mainGlobals "times_polys" = some (some (.ref f_times_polys)))
    (l_times_polys : K.lookup f_times_polys = some ⟨oc_times_polys, od_times_polys, .func (PySem.W.fnOf "times" "times" (defArgs s_times_polys) (defBody s_times_polys) (defScope s_times_polys) .none kV_times_polys dc_times_polys pm_times_polys an_times_polys cd_times_polys ct_times_polys), sl_times_polys⟩)
    (c_times_polys : PySem.W.codeIn K cd_times_polys "times" = true)
    (k_times_polys : PySem.W.keepIn K (.ref f_times_polys) = true)
    (a_scaled : PySem.W.nsIn K mainGlobals "scaled" = some (some (.ref f_scaled)))
    (l_scaled : K.lookup f_scaled = some ⟨oc_scaled, od_scaled, .func (PySem.W.fnOf "scaled" "scaled" (defArgs s_scaled) (defBody s_scaled) (defScope s_scaled) .none kV_scaled dc_scaled pm_scaled an_scaled cd_scaled ct_scaled), sl_scaled⟩)
    (c_scaled : PySem.W.codeIn K cd_scaled "scaled" = true)
    (k_scaled : PySem.W.keepIn K (.ref f_scaled) = true)
    (a_value : PySem.W.nsIn K mainGlobals "value" = some (some (.ref f_value)))
    (l_value : K.lookup f_value = some ⟨oc_value, od_value, .func (PySem.W.fnOf "value" "value" (defArgs s_value) (defBody s_value) (defScope s_value) .none kV_value dc_value pm_value an_value cd_value ct_value), sl_value⟩)
    (c_value : PySem.W.codeIn K cd_value "value" = true)
    (k_value : PySem.W.keepIn K (.ref f_value) = true)
    (a_divide_polys : PySem.W.nsIn K mainGlobals "divide_polys" = some (some (.ref f_divide_polys)))
    (l_divide_polys : K.lookup f_divide_polys = some ⟨oc_divide_polys, od_divide_polys, .func (PySem.W.fnOf "divide" "divide" (defArgs s_divide_polys) (defBody s_divide_polys) (defScope s_divide_polys) .none kV_divide_polys dc_divide_polys pm_divide_polys an_divide_polys cd_divide_polys ct_divide_polys), sl_divide_polys⟩)
    (c_divide_polys : PySem.W.codeIn K cd_divide_polys "divide" = true)
    (k_divide_polys : PySem.W.keepIn K (.ref f_divide_polys) = true)
    (a_slope : PySem.W.nsIn K mainGlobals "slope" = some (some (.ref f_slope)))
    (l_slope : K.lookup f_slope = some ⟨oc_slope, od_slope, .func (PySem.W.fnOf "slope" "slope" (defArgs s_slope) (defBody s_slope) (defScope s_slope) .none kV_slope dc_slope pm_slope an_slope cd_slope ct_slope), sl_slope⟩)
    (c_slope : PySem.W.codeIn K cd_slope "slope" = true)
    (k_slope : PySem.W.keepIn K (.ref f_slope) = true)
    (a__law_numbers : PySem.W.nsIn K mainGlobals "_law_numbers" = some (some (.ref f__law_numbers)))
    (l__law_numbers : K.lookup f__law_numbers = some ⟨oc__law_numbers, od__law_numbers, .func (PySem.W.fnOf "_law_numbers" "_law_numbers" (defArgs s__law_numbers) (defBody s__law_numbers) (defScope s__law_numbers) .none kV__law_numbers dc__law_numbers pm__law_numbers an__law_numbers cd__law_numbers ct__law_numbers), sl__law_numbers⟩)
    (c__law_numbers : PySem.W.codeIn K cd__law_numbers "_law_numbers" = true)
    (k__law_numbers : PySem.W.keepIn K (.ref f__law_numbers) = true)
    (a__law_degree : PySem.W.nsIn K mainGlobals "_law_degree" = some (some (.ref f__law_degree)))
    (l__law_degree : K.lookup f__law_degree = some ⟨oc__law_degree, od__law_degree, .func (PySem.W.fnOf "_law_degree" "_law_degree" (defArgs s__law_degree) (defBody s__law_degree) (defScope s__law_degree) .none kV__law_degree dc__law_degree pm__law_degree an__law_degree cd__law_degree ct__law_degree), sl__law_degree⟩)
    (c__law_degree : PySem.W.codeIn K cd__law_degree "_law_degree" = true)
    (k__law_degree : PySem.W.keepIn K (.ref f__law_degree) = true)
    (a__law_times : PySem.W.nsIn K mainGlobals "_law_times" = some (some (.ref f__law_times)))
    (l__law_times : K.lookup f__law_times = some ⟨oc__law_times, od__law_times, .func (PySem.W.fnOf "_law_times" "_law_times" (defArgs s__law_times) (defBody s__law_times) (defScope s__law_times) .none kV__law_times dc__law_times pm__law_times an__law_times cd__law_times ct__law_times), sl__law_times⟩)
    (c__law_times : PySem.W.codeIn K cd__law_times "_law_times" = true)
    (k__law_times : PySem.W.keepIn K (.ref f__law_times) = true)
    (a__law_divided : PySem.W.nsIn K mainGlobals "_law_divided" = some (some (.ref f__law_divided)))
    (l__law_divided : K.lookup f__law_divided = some ⟨oc__law_divided, od__law_divided, .func (PySem.W.fnOf "_law_divided" "_law_divided" (defArgs s__law_divided) (defBody s__law_divided) (defScope s__law_divided) .none kV__law_divided dc__law_divided pm__law_divided an__law_divided cd__law_divided ct__law_divided), sl__law_divided⟩)
    (c__law_divided : PySem.W.codeIn K cd__law_divided "_law_divided" = true)
    (k__law_divided : PySem.W.keepIn K (.ref f__law_divided) = true)
    (a__law_irreducible : PySem.W.nsIn K mainGlobals "_law_irreducible" = some (some (.ref f__law_irreducible)))
    (l__law_irreducible : K.lookup f__law_irreducible = some ⟨oc__law_irreducible, od__law_irreducible, .func (PySem.W.fnOf "_law_irreducible" "_law_irreducible" (defArgs s__law_irreducible) (defBody s__law_irreducible) (defScope s__law_irreducible) .none kV__law_irreducible dc__law_irreducible pm__law_irreducible an__law_irreducible cd__law_irreducible ct__law_irreducible), sl__law_irreducible⟩)
    (c__law_irreducible : PySem.W.codeIn K cd__law_irreducible "_law_irreducible" = true)
    (k__law_irreducible : PySem.W.keepIn K (.ref f__law_irreducible) = true)
    (a__law_modulus : PySem.W.nsIn K mainGlobals "_law_modulus" = some (some (.ref f__law_modulus)))
    (l__law_modulus : K.lookup f__law_modulus = some ⟨oc__law_modulus, od__law_modulus, .func (PySem.W.fnOf "_law_modulus" "_law_modulus" (defArgs s__law_modulus) (defBody s__law_modulus) (defScope s__law_modulus) .none kV__law_modulus dc__law_modulus pm__law_modulus an__law_modulus cd__law_modulus ct__law_modulus), sl__law_modulus⟩)
    (c__law_modulus : PySem.W.codeIn K cd__law_modulus "_law_modulus" = true)
    (k__law_modulus : PySem.W.keepIn K (.ref f__law_modulus) = true)
    (a__law_product : PySem.W.nsIn K mainGlobals "_law_product" = some (some (.ref f__law_product)))
    (l__law_product : K.lookup f__law_product = some ⟨oc__law_product, od__law_product, .func (PySem.W.fnOf "_law_product" "_law_product" (defArgs s__law_product) (defBody s__law_product) (defScope s__law_product) .none kV__law_product dc__law_product pm__law_product an__law_product cd__law_product ct__law_product), sl__law_product⟩)
    (c__law_product : PySem.W.codeIn K cd__law_product "_law_product" = true)
    (k__law_product : PySem.W.keepIn K (.ref f__law_product) = true)
    (a__law_inverse : PySem.W.nsIn K mainGlobals "_law_inverse" = some (some (.ref f__law_inverse)))
    (l__law_inverse : K.lookup f__law_inverse = some ⟨oc__law_inverse, od__law_inverse, .func (PySem.W.fnOf "_law_inverse" "_law_inverse" (defArgs s__law_inverse) (defBody s__law_inverse) (defScope s__law_inverse) .none kV__law_inverse dc__law_inverse pm__law_inverse an__law_inverse cd__law_inverse ct__law_inverse), sl__law_inverse⟩)
    (c__law_inverse : PySem.W.codeIn K cd__law_inverse "_law_inverse" = true)
    (k__law_inverse : PySem.W.keepIn K (.ref f__law_inverse) = true)
    (a__law_trim : PySem.W.nsIn K mainGlobals "_law_trim" = some (some (.ref f__law_trim)))
    (l__law_trim : K.lookup f__law_trim = some ⟨oc__law_trim, od__law_trim, .func (PySem.W.fnOf "_law_trim" "_law_trim" (defArgs s__law_trim) (defBody s__law_trim) (defScope s__law_trim) .none kV__law_trim dc__law_trim pm__law_trim an__law_trim cd__law_trim ct__law_trim), sl__law_trim⟩)
    (c__law_trim : PySem.W.codeIn K cd__law_trim "_law_trim" = true)
    (k__law_trim : PySem.W.keepIn K (.ref f__law_trim) = true)
    (a__law_plus : PySem.W.nsIn K mainGlobals "_law_plus" = some (some (.ref f__law_plus)))
    (l__law_plus : K.lookup f__law_plus = some ⟨oc__law_plus, od__law_plus, .func (PySem.W.fnOf "_law_plus" "_law_plus" (defArgs s__law_plus) (defBody s__law_plus) (defScope s__law_plus) .none kV__law_plus dc__law_plus pm__law_plus an__law_plus cd__law_plus ct__law_plus), sl__law_plus⟩)
    (c__law_plus : PySem.W.codeIn K cd__law_plus "_law_plus" = true)
    (k__law_plus : PySem.W.keepIn K (.ref f__law_plus) = true)
    (a__law_mul : PySem.W.nsIn K mainGlobals "_law_mul" = some (some (.ref f__law_mul)))
    (l__law_mul : K.lookup f__law_mul = some ⟨oc__law_mul, od__law_mul, .func (PySem.W.fnOf "_law_mul" "_law_mul" (defArgs s__law_mul) (defBody s__law_mul) (defScope s__law_mul) .none kV__law_mul dc__law_mul pm__law_mul an__law_mul cd__law_mul ct__law_mul), sl__law_mul⟩)
    (c__law_mul : PySem.W.codeIn K cd__law_mul "_law_mul" = true)
    (k__law_mul : PySem.W.keepIn K (.ref f__law_mul) = true)
    (a__law_at_point : PySem.W.nsIn K mainGlobals "_law_at_point" = some (some (.ref f__law_at_point)))
    (l__law_at_point : K.lookup f__law_at_point = some ⟨oc__law_at_point, od__law_at_point, .func (PySem.W.fnOf "_law_at_point" "_law_at_point" (defArgs s__law_at_point) (defBody s__law_at_point) (defScope s__law_at_point) .none kV__law_at_point dc__law_at_point pm__law_at_point an__law_at_point cd__law_at_point ct__law_at_point), sl__law_at_point⟩)
    (c__law_at_point : PySem.W.codeIn K cd__law_at_point "_law_at_point" = true)
    (k__law_at_point : PySem.W.keepIn K (.ref f__law_at_point) = true)
    (a__law_over : PySem.W.nsIn K mainGlobals "_law_over" = some (some (.ref f__law_over)))
    (l__law_over : K.lookup f__law_over = some ⟨oc__law_over, od__law_over, .func (PySem.W.fnOf "_law_over" "_law_over" (defArgs s__law_over) (defBody s__law_over) (defScope s__law_over) .none kV__law_over dc__law_over pm__law_over an__law_over cd__law_over ct__law_over), sl__law_over⟩)
    (c__law_over : PySem.W.codeIn K cd__law_over "_law_over" = true)
    (k__law_over : PySem.W.keepIn K (.ref f__law_over) = true)
    (a__law_poly : PySem.W.nsIn K mainGlobals "_law_poly" = some (some (.ref f__law_poly)))
    (l__law_poly : K.lookup f__law_poly = some ⟨oc__law_poly, od__law_poly, .func (PySem.W.fnOf "_law_poly" "_law_poly" (defArgs s__law_poly) (defBody s__law_poly) (defScope s__law_poly) .none kV__law_poly dc__law_poly pm__law_poly an__law_poly cd__law_poly ct__law_poly), sl__law_poly⟩)
    (c__law_poly : PySem.W.codeIn K cd__law_poly "_law_poly" = true)
    (k__law_poly : PySem.W.keepIn K (.ref f__law_poly) = true)
    (a__law_slope : PySem.W.nsIn K mainGlobals "_law_slope" = some (some (.ref f__law_slope)))
    (l__law_slope : K.lookup f__law_slope = some ⟨oc__law_slope, od__law_slope, .func (PySem.W.fnOf "_law_slope" "_law_slope" (defArgs s__law_slope) (defBody s__law_slope) (defScope s__law_slope) .none kV__law_slope dc__law_slope pm__law_slope an__law_slope cd__law_slope ct__law_slope), sl__law_slope⟩)
    (c__law_slope : PySem.W.codeIn K cd__law_slope "_law_slope" = true)
    (k__law_slope : PySem.W.keepIn K (.ref f__law_slope) = true)
    (a__law_division : PySem.W.nsIn K mainGlobals "_law_division" = some (some (.ref f__law_division)))
    (l__law_division : K.lookup f__law_division = some ⟨oc__law_division, od__law_division, .func (PySem.W.fnOf "_law_division" "_law_division" (defArgs s__law_division) (defBody s__law_division) (defScope s__law_division) .none kV__law_division dc__law_division pm__law_division an__law_division cd__law_division ct__law_division), sl__law_division⟩)
    (c__law_division : PySem.W.codeIn K cd__law_division "_law_division" = true)
    (k__law_division : PySem.W.keepIn K (.ref f__law_division) = true)
    (a_law : PySem.W.nsIn K mainGlobals "law" = some (some (.ref f_law)))
    (l_law : K.lookup f_law = some ⟨oc_law, od_law, .func (PySem.W.fnOf "law" "law" (defArgs s_law) (defBody s_law) (defScope s_law) .none kV_law dc_law pm_law an_law cd_law ct_law), sl_law⟩)
    (c_law : PySem.W.codeIn K cd_law "law" = true)
    (k_law : PySem.W.keepIn K (.ref f_law) = true)
    (a_X : PySem.W.nsIn K mainGlobals "X" = some (some (.int 2 t_X)))
    (a_Field : PySem.W.nsIn K mainGlobals "Field" = some (some (.ref C_Field)))
    (pg_Field : PySem.W.plainGet K C_Field Str.empty = true)
    (hd_Field : PySem.W.hasDictIn K C_Field = true)
    (po_Field : PySem.W.plainOver K C_Field = true)
    (sa_Field : PySem.W.findIn K (.ref C_Field) "__setattr__" = some (some (.builtin "object.__setattr__")))
    (mk_Field : PySem.W.makesIn K C_Field = true)
    (kc_Field : PySem.W.keepIn K (.ref C_Field) = true)
    (n_Field__bits : PySem.W.findIn K (.ref C_Field) "_bits" = some none)
    (n_Field__modulus : PySem.W.findIn K (.ref C_Field) "_modulus" = some none)
    (n_Field__turn : PySem.W.findIn K (.ref C_Field) "_turn" = some none)
    (n_Field__powers : PySem.W.findIn K (.ref C_Field) "_powers" = some none)
    (n_Field__logs : PySem.W.findIn K (.ref C_Field) "_logs" = some none)
    (a_Field___init__ : PySem.W.findIn K (.ref C_Field) "__init__" = some (some (.ref f_Field___init__)))
    (i_Field___init__ : PySem.W.isFn K (.ref f_Field___init__) = true)
    (l_Field___init__ : K.lookup f_Field___init__ = some ⟨oc_Field___init__, od_Field___init__, .func (PySem.W.fnOf "__init__" "Field.__init__" (defArgs s_Field___init__) (defBody s_Field___init__) (defScope s_Field___init__) .none kV_Field___init__ dc_Field___init__ pm_Field___init__ an_Field___init__ cd_Field___init__ ct_Field___init__), sl_Field___init__⟩)
    (c_Field___init__ : PySem.W.codeIn K cd_Field___init__ "Field.__init__" = true)
    (k_Field___init__ : PySem.W.keepIn K (.ref f_Field___init__) = true)
    (a_Field_size : PySem.W.findIn K (.ref C_Field) "size" = some (some (.ref f_Field_size)))
    (i_Field_size : PySem.W.isFn K (.ref f_Field_size) = true)
    (l_Field_size : K.lookup f_Field_size = some ⟨oc_Field_size, od_Field_size, .func (PySem.W.fnOf "size" "Field.size" (defArgs s_Field_size) (defBody s_Field_size) (defScope s_Field_size) .none kV_Field_size dc_Field_size pm_Field_size an_Field_size cd_Field_size ct_Field_size), sl_Field_size⟩)
    (c_Field_size : PySem.W.codeIn K cd_Field_size "Field.size" = true)
    (k_Field_size : PySem.W.keepIn K (.ref f_Field_size) = true)
    (a_Field_add : PySem.W.findIn K (.ref C_Field) "add" = some (some (.ref f_Field_add)))
    (i_Field_add : PySem.W.isFn K (.ref f_Field_add) = true)
    (l_Field_add : K.lookup f_Field_add = some ⟨oc_Field_add, od_Field_add, .func (PySem.W.fnOf "add" "Field.add" (defArgs s_Field_add) (defBody s_Field_add) (defScope s_Field_add) .none kV_Field_add dc_Field_add pm_Field_add an_Field_add cd_Field_add ct_Field_add), sl_Field_add⟩)
    (c_Field_add : PySem.W.codeIn K cd_Field_add "Field.add" = true)
    (k_Field_add : PySem.W.keepIn K (.ref f_Field_add) = true)
    (a_Field_times : PySem.W.findIn K (.ref C_Field) "times" = some (some (.ref f_Field_times)))
    (i_Field_times : PySem.W.isFn K (.ref f_Field_times) = true)
    (l_Field_times : K.lookup f_Field_times = some ⟨oc_Field_times, od_Field_times, .func (PySem.W.fnOf "times" "Field.times" (defArgs s_Field_times) (defBody s_Field_times) (defScope s_Field_times) .none kV_Field_times dc_Field_times pm_Field_times an_Field_times cd_Field_times ct_Field_times), sl_Field_times⟩)
    (c_Field_times : PySem.W.codeIn K cd_Field_times "Field.times" = true)
    (k_Field_times : PySem.W.keepIn K (.ref f_Field_times) = true)
    (a_Field_inverse : PySem.W.findIn K (.ref C_Field) "inverse" = some (some (.ref f_Field_inverse)))
    (i_Field_inverse : PySem.W.isFn K (.ref f_Field_inverse) = true)
    (l_Field_inverse : K.lookup f_Field_inverse = some ⟨oc_Field_inverse, od_Field_inverse, .func (PySem.W.fnOf "inverse" "Field.inverse" (defArgs s_Field_inverse) (defBody s_Field_inverse) (defScope s_Field_inverse) .none kV_Field_inverse dc_Field_inverse pm_Field_inverse an_Field_inverse cd_Field_inverse ct_Field_inverse), sl_Field_inverse⟩)
    (c_Field_inverse : PySem.W.codeIn K cd_Field_inverse "Field.inverse" = true)
    (k_Field_inverse : PySem.W.keepIn K (.ref f_Field_inverse) = true)
    (a_Field_log : PySem.W.findIn K (.ref C_Field) "log" = some (some (.ref f_Field_log)))
    (i_Field_log : PySem.W.isFn K (.ref f_Field_log) = true)
    (l_Field_log : K.lookup f_Field_log = some ⟨oc_Field_log, od_Field_log, .func (PySem.W.fnOf "log" "Field.log" (defArgs s_Field_log) (defBody s_Field_log) (defScope s_Field_log) .none kV_Field_log dc_Field_log pm_Field_log an_Field_log cd_Field_log ct_Field_log), sl_Field_log⟩)
    (c_Field_log : PySem.W.codeIn K cd_Field_log "Field.log" = true)
    (k_Field_log : PySem.W.keepIn K (.ref f_Field_log) = true)
    (z_repr : PySem.W.nsIn K mainGlobals "repr" = some none)
    (z_range : PySem.W.nsIn K mainGlobals "range" = some none)
    (z_len : PySem.W.nsIn K mainGlobals "len" = some none)
    (z_abs : PySem.W.nsIn K mainGlobals "abs" = some none)
    (z_int : PySem.W.nsIn K mainGlobals "int" = some none)
    (z_max : PySem.W.nsIn K mainGlobals "max" = some none)
    (z_min : PySem.W.nsIn K mainGlobals "min" = some none)
    (z_sum : PySem.W.nsIn K mainGlobals "sum" = some none)
    (z_list : PySem.W.nsIn K mainGlobals "list" = some none)
    (z_isinstance : PySem.W.nsIn K mainGlobals "isinstance" = some none)
    (z_enumerate : PySem.W.nsIn K mainGlobals "enumerate" = some none)
    (z_zip : PySem.W.nsIn K mainGlobals "zip" = some none)
    (z_reversed : PySem.W.nsIn K mainGlobals "reversed" = some none)
    (z_any : PySem.W.nsIn K mainGlobals "any" = some none)
    (z_all : PySem.W.nsIn K mainGlobals "all" = some none)
    (z_ValueError : PySem.W.nsIn K mainGlobals "ValueError" = some none)
    : ∃ fd : FuncData, (∀ (s : Shared) (v : Value), BindsTo s fd ⟨[v], []⟩ [("script", v)]) ∧ ∀ base : Heap, K.In base → base.Ns mainGlobals mg → GR.FnG l.prog w K mg base CX0 11 fa fd ["script"] (sp_law K) := by
  have e := hfa.symm.trans (PySem.W.mg_of X G a_law)
  cases e
  have B : Bl mg := ⟨PySem.W.mg_none_of X G z_range, PySem.W.mg_none_of X G z_len, PySem.W.mg_none_of X G z_abs, PySem.W.mg_none_of X G z_int, PySem.W.mg_none_of X G z_max, PySem.W.mg_none_of X G z_min, PySem.W.mg_none_of X G z_sum, PySem.W.mg_none_of X G z_list, PySem.W.mg_none_of X G z_isinstance, PySem.W.mg_none_of X G z_enumerate, PySem.W.mg_none_of X G z_zip, PySem.W.mg_none_of X G z_reversed, PySem.W.mg_none_of X G z_any, PySem.W.mg_none_of X G z_all, PySem.W.mg_none_of X G z_ValueError⟩
  have F_degree := fun_mk (st := s_degree) l_degree c_degree k_degree
  have D_degree : Df K mg "degree" ["p"] s_degree _ _ := ⟨F_degree, PySem.W.mg_of X G a_degree, F_degree.binds (ps := ["p"]) fun _ _ _ _ _ _ us hl => match us, hl with | [_], _ => rfl⟩
  have F_times_binary := fun_mk (st := s_times_binary) l_times_binary c_times_binary k_times_binary
  have D_times_binary : Da K mg "times_binary" "times" ["p", "q"] s_times_binary _ _ := ⟨F_times_binary, PySem.W.mg_of X G a_times_binary, F_times_binary.binds (ps := ["p", "q"]) fun _ _ _ _ _ _ us hl => match us, hl with | [_, _], _ => rfl⟩
  have F_divide_binary := fun_mk (st := s_divide_binary) l_divide_binary c_divide_binary k_divide_binary
  have D_divide_binary : Da K mg "divide_binary" "divide" ["p", "q"] s_divide_binary _ _ := ⟨F_divide_binary, PySem.W.mg_of X G a_divide_binary, F_divide_binary.binds (ps := ["p", "q"]) fun _ _ _ _ _ _ us hl => match us, hl with | [_, _], _ => rfl⟩
  have F_common := fun_mk (st := s_common) l_common c_common k_common
  have D_common : Df K mg "common" ["p", "q"] s_common _ _ := ⟨F_common, PySem.W.mg_of X G a_common, F_common.binds (ps := ["p", "q"]) fun _ _ _ _ _ _ us hl => match us, hl with | [_, _], _ => rfl⟩
  have F_product_rest := fun_mk (st := s_product_rest) l_product_rest c_product_rest k_product_rest
  have D_product_rest : Df K mg "product_rest" ["p", "q", "modulus"] s_product_rest _ _ := ⟨F_product_rest, PySem.W.mg_of X G a_product_rest, F_product_rest.binds (ps := ["p", "q", "modulus"]) fun _ _ _ _ _ _ us hl => match us, hl with | [_, _, _], _ => rfl⟩
  have F_is_irreducible := fun_mk (st := s_is_irreducible) l_is_irreducible c_is_irreducible k_is_irreducible
  have D_is_irreducible : Df K mg "is_irreducible" ["p"] s_is_irreducible _ _ := ⟨F_is_irreducible, PySem.W.mg_of X G a_is_irreducible, F_is_irreducible.binds (ps := ["p"]) fun _ _ _ _ _ _ us hl => match us, hl with | [_], _ => rfl⟩
  have F__powers_of := fun_mk (st := s__powers_of) l__powers_of c__powers_of k__powers_of
  have D__powers_of : Df K mg "_powers_of" ["e", "modulus"] s__powers_of _ _ := ⟨F__powers_of, PySem.W.mg_of X G a__powers_of, F__powers_of.binds (ps := ["e", "modulus"]) fun _ _ _ _ _ _ us hl => match us, hl with | [_, _], _ => rfl⟩
  have F__root_powers := fun_mk (st := s__root_powers) l__root_powers c__root_powers k__root_powers
  have D__root_powers : Df K mg "_root_powers" ["turn", "modulus"] s__root_powers _ _ := ⟨F__root_powers, PySem.W.mg_of X G a__root_powers, F__root_powers.binds (ps := ["turn", "modulus"]) fun _ _ _ _ _ _ us hl => match us, hl with | [_, _], _ => rfl⟩
  have F_trimmed := fun_mk (st := s_trimmed) l_trimmed c_trimmed k_trimmed
  have D_trimmed : Df K mg "trimmed" ["coefficients"] s_trimmed _ _ := ⟨F_trimmed, PySem.W.mg_of X G a_trimmed, F_trimmed.binds (ps := ["coefficients"]) fun _ _ _ _ _ _ us hl => match us, hl with | [_], _ => rfl⟩
  have F_add := fun_mk (st := s_add) l_add c_add k_add
  have D_add : Df K mg "add" ["field", "p", "q"] s_add _ _ := ⟨F_add, PySem.W.mg_of X G a_add, F_add.binds (ps := ["field", "p", "q"]) fun _ _ _ _ _ _ us hl => match us, hl with | [_, _, _], _ => rfl⟩
  have F_times_polys := fun_mk (st := s_times_polys) l_times_polys c_times_polys k_times_polys
  have D_times_polys : Da K mg "times_polys" "times" ["field", "p", "q"] s_times_polys _ _ := ⟨F_times_polys, PySem.W.mg_of X G a_times_polys, F_times_polys.binds (ps := ["field", "p", "q"]) fun _ _ _ _ _ _ us hl => match us, hl with | [_, _, _], _ => rfl⟩
  have F_scaled := fun_mk (st := s_scaled) l_scaled c_scaled k_scaled
  have D_scaled : Df K mg "scaled" ["field", "p", "e"] s_scaled _ _ := ⟨F_scaled, PySem.W.mg_of X G a_scaled, F_scaled.binds (ps := ["field", "p", "e"]) fun _ _ _ _ _ _ us hl => match us, hl with | [_, _, _], _ => rfl⟩
  have F_value := fun_mk (st := s_value) l_value c_value k_value
  have D_value : Df K mg "value" ["field", "p", "e"] s_value _ _ := ⟨F_value, PySem.W.mg_of X G a_value, F_value.binds (ps := ["field", "p", "e"]) fun _ _ _ _ _ _ us hl => match us, hl with | [_, _, _], _ => rfl⟩
  have F_divide_polys := fun_mk (st := s_divide_polys) l_divide_polys c_divide_polys k_divide_polys
  have D_divide_polys : Da K mg "divide_polys" "divide" ["field", "p", "q"] s_divide_polys _ _ := ⟨F_divide_polys, PySem.W.mg_of X G a_divide_polys, F_divide_polys.binds (ps := ["field", "p", "q"]) fun _ _ _ _ _ _ us hl => match us, hl with | [_, _, _], _ => rfl⟩
  have F_slope := fun_mk (st := s_slope) l_slope c_slope k_slope
  have D_slope : Df K mg "slope" ["p"] s_slope _ _ := ⟨F_slope, PySem.W.mg_of X G a_slope, F_slope.binds (ps := ["p"]) fun _ _ _ _ _ _ us hl => match us, hl with | [_], _ => rfl⟩
  have F__law_numbers := fun_mk (st := s__law_numbers) l__law_numbers c__law_numbers k__law_numbers
  have D__law_numbers : Df K mg "_law_numbers" ["script", "many"] s__law_numbers _ _ := ⟨F__law_numbers, PySem.W.mg_of X G a__law_numbers, F__law_numbers.binds (ps := ["script", "many"]) fun _ _ _ _ _ _ us hl => match us, hl with | [_, _], _ => rfl⟩
  have F__law_degree := fun_mk (st := s__law_degree) l__law_degree c__law_degree k__law_degree
  have D__law_degree : Df K mg "_law_degree" ["p"] s__law_degree _ _ := ⟨F__law_degree, PySem.W.mg_of X G a__law_degree, F__law_degree.binds (ps := ["p"]) fun _ _ _ _ _ _ us hl => match us, hl with | [_], _ => rfl⟩
  have F__law_times := fun_mk (st := s__law_times) l__law_times c__law_times k__law_times
  have D__law_times : Df K mg "_law_times" ["p", "q"] s__law_times _ _ := ⟨F__law_times, PySem.W.mg_of X G a__law_times, F__law_times.binds (ps := ["p", "q"]) fun _ _ _ _ _ _ us hl => match us, hl with | [_, _], _ => rfl⟩
  have F__law_divided := fun_mk (st := s__law_divided) l__law_divided c__law_divided k__law_divided
  have D__law_divided : Df K mg "_law_divided" ["p", "q"] s__law_divided _ _ := ⟨F__law_divided, PySem.W.mg_of X G a__law_divided, F__law_divided.binds (ps := ["p", "q"]) fun _ _ _ _ _ _ us hl => match us, hl with | [_, _], _ => rfl⟩
  have F__law_irreducible := fun_mk (st := s__law_irreducible) l__law_irreducible c__law_irreducible k__law_irreducible
  have D__law_irreducible : Df K mg "_law_irreducible" ["p"] s__law_irreducible _ _ := ⟨F__law_irreducible, PySem.W.mg_of X G a__law_irreducible, F__law_irreducible.binds (ps := ["p"]) fun _ _ _ _ _ _ us hl => match us, hl with | [_], _ => rfl⟩
  have F__law_modulus := fun_mk (st := s__law_modulus) l__law_modulus c__law_modulus k__law_modulus
  have D__law_modulus : Df K mg "_law_modulus" ["m", "drawn"] s__law_modulus _ _ := ⟨F__law_modulus, PySem.W.mg_of X G a__law_modulus, F__law_modulus.binds (ps := ["m", "drawn"]) fun _ _ _ _ _ _ us hl => match us, hl with | [_, _], _ => rfl⟩
  have F__law_product := fun_mk (st := s__law_product) l__law_product c__law_product k__law_product
  have D__law_product : Df K mg "_law_product" ["modulus", "e", "f"] s__law_product _ _ := ⟨F__law_product, PySem.W.mg_of X G a__law_product, F__law_product.binds (ps := ["modulus", "e", "f"]) fun _ _ _ _ _ _ us hl => match us, hl with | [_, _, _], _ => rfl⟩
  have F__law_inverse := fun_mk (st := s__law_inverse) l__law_inverse c__law_inverse k__law_inverse
  have D__law_inverse : Df K mg "_law_inverse" ["m", "modulus", "e"] s__law_inverse _ _ := ⟨F__law_inverse, PySem.W.mg_of X G a__law_inverse, F__law_inverse.binds (ps := ["m", "modulus", "e"]) fun _ _ _ _ _ _ us hl => match us, hl with | [_, _, _], _ => rfl⟩
  have F__law_trim := fun_mk (st := s__law_trim) l__law_trim c__law_trim k__law_trim
  have D__law_trim : Df K mg "_law_trim" ["poly"] s__law_trim _ _ := ⟨F__law_trim, PySem.W.mg_of X G a__law_trim, F__law_trim.binds (ps := ["poly"]) fun _ _ _ _ _ _ us hl => match us, hl with | [_], _ => rfl⟩
  have F__law_plus := fun_mk (st := s__law_plus) l__law_plus c__law_plus k__law_plus
  have D__law_plus : Df K mg "_law_plus" ["p", "q"] s__law_plus _ _ := ⟨F__law_plus, PySem.W.mg_of X G a__law_plus, F__law_plus.binds (ps := ["p", "q"]) fun _ _ _ _ _ _ us hl => match us, hl with | [_, _], _ => rfl⟩
  have F__law_mul := fun_mk (st := s__law_mul) l__law_mul c__law_mul k__law_mul
  have D__law_mul : Df K mg "_law_mul" ["modulus", "p", "q"] s__law_mul _ _ := ⟨F__law_mul, PySem.W.mg_of X G a__law_mul, F__law_mul.binds (ps := ["modulus", "p", "q"]) fun _ _ _ _ _ _ us hl => match us, hl with | [_, _, _], _ => rfl⟩
  have F__law_at_point := fun_mk (st := s__law_at_point) l__law_at_point c__law_at_point k__law_at_point
  have D__law_at_point : Df K mg "_law_at_point" ["modulus", "p", "e"] s__law_at_point _ _ := ⟨F__law_at_point, PySem.W.mg_of X G a__law_at_point, F__law_at_point.binds (ps := ["modulus", "p", "e"]) fun _ _ _ _ _ _ us hl => match us, hl with | [_, _, _], _ => rfl⟩
  have F__law_over := fun_mk (st := s__law_over) l__law_over c__law_over k__law_over
  have D__law_over : Df K mg "_law_over" ["m", "modulus", "p", "q"] s__law_over _ _ := ⟨F__law_over, PySem.W.mg_of X G a__law_over, F__law_over.binds (ps := ["m", "modulus", "p", "q"]) fun _ _ _ _ _ _ us hl => match us, hl with | [_, _, _, _], _ => rfl⟩
  have F__law_poly := fun_mk (st := s__law_poly) l__law_poly c__law_poly k__law_poly
  have D__law_poly : Df K mg "_law_poly" ["numbers", "at", "m"] s__law_poly _ _ := ⟨F__law_poly, PySem.W.mg_of X G a__law_poly, F__law_poly.binds (ps := ["numbers", "at", "m"]) fun _ _ _ _ _ _ us hl => match us, hl with | [_, _, _], _ => rfl⟩
  have F__law_slope := fun_mk (st := s__law_slope) l__law_slope c__law_slope k__law_slope
  have D__law_slope : Df K mg "_law_slope" ["p"] s__law_slope _ _ := ⟨F__law_slope, PySem.W.mg_of X G a__law_slope, F__law_slope.binds (ps := ["p"]) fun _ _ _ _ _ _ us hl => match us, hl with | [_], _ => rfl⟩
  have F__law_division := fun_mk (st := s__law_division) l__law_division c__law_division k__law_division
  have D__law_division : Df K mg "_law_division" ["field", "m", "modulus", "p", "q"] s__law_division _ _ := ⟨F__law_division, PySem.W.mg_of X G a__law_division, F__law_division.binds (ps := ["field", "m", "modulus", "p", "q"]) fun _ _ _ _ _ _ us hl => match us, hl with | [_, _, _, _, _], _ => rfl⟩
  have F_law := fun_mk (st := s_law) l_law c_law k_law
  have D_law : Df K mg "law" ["script"] s_law _ _ := ⟨F_law, PySem.W.mg_of X G a_law, F_law.binds (ps := ["script"]) fun _ _ _ _ _ _ us hl => match us, hl with | [_], _ => rfl⟩
  have F_init := fun_mk (st := s_init) l_init c_init k_init
  have b_init := F_init.binds (ps := ["self", "at"]) fun _ _ _ _ _ _ us hl => match us, hl with | [_, _], _ => rfl
  have X_HaulError : XC K mg "HaulError" C_HaulError f_init C_HaulError := ⟨⟨⟨nm_HaulError, q_HaulError, N_HaulError, bs_HaulError, bm_HaulError, sn_HaulError, sub_HaulError, ab_HaulError, col_HaulError, dd_HaulError, k0_HaulError, k1_HaulError, k2_HaulError, k3_HaulError, k5_HaulError, x_HaulError, r_HaulError⟩, sa_HaulError, e_HaulError, ty_HaulError, kc_HaulError⟩, ga_HaulError, gg_HaulError, hd_HaulError, cl_HaulError, sp_cls, tk_cls, mo_HaulError, no_HaulError, PySem.W.mg_of X G a_HaulError, i_init, ti_init, PySem.W.exm_ref e_HaulError hd_HaulError ty_HaulError su_HaulError⟩
  have X_OutOfRange : XC K mg "OutOfRange" C_OutOfRange f_init C_HaulError := ⟨⟨⟨nm_OutOfRange, q_OutOfRange, N_OutOfRange, bs_OutOfRange, bm_OutOfRange, sn_OutOfRange, sub_OutOfRange, ab_OutOfRange, col_OutOfRange, dd_OutOfRange, k0_OutOfRange, k1_OutOfRange, k2_OutOfRange, k3_OutOfRange, k5_OutOfRange, x_OutOfRange, r_OutOfRange⟩, sa_OutOfRange, e_OutOfRange, ty_OutOfRange, kc_OutOfRange⟩, ga_OutOfRange, gg_OutOfRange, hd_OutOfRange, cl_OutOfRange, sp_cls, tk_cls, mo_OutOfRange, no_OutOfRange, PySem.W.mg_of X G a_OutOfRange, ii_OutOfRange, ti_init, PySem.W.exm_ref e_HaulError hd_HaulError ty_HaulError su_OutOfRange⟩
  have X_NotIrreducible : XC K mg "NotIrreducible" C_NotIrreducible f_init C_HaulError := ⟨⟨⟨nm_NotIrreducible, q_NotIrreducible, N_NotIrreducible, bs_NotIrreducible, bm_NotIrreducible, sn_NotIrreducible, sub_NotIrreducible, ab_NotIrreducible, col_NotIrreducible, dd_NotIrreducible, k0_NotIrreducible, k1_NotIrreducible, k2_NotIrreducible, k3_NotIrreducible, k5_NotIrreducible, x_NotIrreducible, r_NotIrreducible⟩, sa_NotIrreducible, e_NotIrreducible, ty_NotIrreducible, kc_NotIrreducible⟩, ga_NotIrreducible, gg_NotIrreducible, hd_NotIrreducible, cl_NotIrreducible, sp_cls, tk_cls, mo_NotIrreducible, no_NotIrreducible, PySem.W.mg_of X G a_NotIrreducible, ii_NotIrreducible, ti_init, PySem.W.exm_ref e_HaulError hd_HaulError ty_HaulError su_NotIrreducible⟩
  have X_NoInverse : XC K mg "NoInverse" C_NoInverse f_init C_HaulError := ⟨⟨⟨nm_NoInverse, q_NoInverse, N_NoInverse, bs_NoInverse, bm_NoInverse, sn_NoInverse, sub_NoInverse, ab_NoInverse, col_NoInverse, dd_NoInverse, k0_NoInverse, k1_NoInverse, k2_NoInverse, k3_NoInverse, k5_NoInverse, x_NoInverse, r_NoInverse⟩, sa_NoInverse, e_NoInverse, ty_NoInverse, kc_NoInverse⟩, ga_NoInverse, gg_NoInverse, hd_NoInverse, cl_NoInverse, sp_cls, tk_cls, mo_NoInverse, no_NoInverse, PySem.W.mg_of X G a_NoInverse, ii_NoInverse, ti_init, PySem.W.exm_ref e_HaulError hd_HaulError ty_HaulError su_NoInverse⟩
  have X_NoDivisor : XC K mg "NoDivisor" C_NoDivisor f_init C_HaulError := ⟨⟨⟨nm_NoDivisor, q_NoDivisor, N_NoDivisor, bs_NoDivisor, bm_NoDivisor, sn_NoDivisor, sub_NoDivisor, ab_NoDivisor, col_NoDivisor, dd_NoDivisor, k0_NoDivisor, k1_NoDivisor, k2_NoDivisor, k3_NoDivisor, k5_NoDivisor, x_NoDivisor, r_NoDivisor⟩, sa_NoDivisor, e_NoDivisor, ty_NoDivisor, kc_NoDivisor⟩, ga_NoDivisor, gg_NoDivisor, hd_NoDivisor, cl_NoDivisor, sp_cls, tk_cls, mo_NoDivisor, no_NoDivisor, PySem.W.mg_of X G a_NoDivisor, ii_NoDivisor, ti_init, PySem.W.exm_ref e_HaulError hd_HaulError ty_HaulError su_NoDivisor⟩
  have K_Field : Cls K C_Field := ⟨pg_Field, hd_Field, po_Field, sa_Field⟩
  have g_Field := PySem.W.mg_of X G a_Field
  have F_Field___init__ := fun_mk (st := s_Field___init__) l_Field___init__ c_Field___init__ k_Field___init__
  have b_Field___init__ := F_Field___init__.binds (ps := ["self", "m", "modulus"]) fun _ _ _ _ _ _ us hl => match us, hl with | [_, _, _], _ => rfl
  have M_Field : Mk K C_Field f_Field___init__ := ⟨mk_Field, a_Field___init__, i_Field___init__, kc_Field⟩
  have F_Field_size := fun_mk (st := s_Field_size) l_Field_size c_Field_size k_Field_size
  have b_Field_size := F_Field_size.binds (ps := ["self"]) fun _ _ _ _ _ _ us hl => match us, hl with | [_], _ => rfl
  have M_Field_size : Meth K C_Field "size" f_Field_size := ⟨a_Field_size, i_Field_size, k_Field_size⟩
  have F_Field_add := fun_mk (st := s_Field_add) l_Field_add c_Field_add k_Field_add
  have b_Field_add := F_Field_add.binds (ps := ["self", "e", "f"]) fun _ _ _ _ _ _ us hl => match us, hl with | [_, _, _], _ => rfl
  have M_Field_add : Meth K C_Field "add" f_Field_add := ⟨a_Field_add, i_Field_add, k_Field_add⟩
  have F_Field_times := fun_mk (st := s_Field_times) l_Field_times c_Field_times k_Field_times
  have b_Field_times := F_Field_times.binds (ps := ["self", "e", "f"]) fun _ _ _ _ _ _ us hl => match us, hl with | [_, _, _], _ => rfl
  have M_Field_times : Meth K C_Field "times" f_Field_times := ⟨a_Field_times, i_Field_times, k_Field_times⟩
  have F_Field_inverse := fun_mk (st := s_Field_inverse) l_Field_inverse c_Field_inverse k_Field_inverse
  have b_Field_inverse := F_Field_inverse.binds (ps := ["self", "e"]) fun _ _ _ _ _ _ us hl => match us, hl with | [_, _], _ => rfl
  have M_Field_inverse : Meth K C_Field "inverse" f_Field_inverse := ⟨a_Field_inverse, i_Field_inverse, k_Field_inverse⟩
  have F_Field_log := fun_mk (st := s_Field_log) l_Field_log c_Field_log k_Field_log
  have b_Field_log := F_Field_log.binds (ps := ["self", "e"]) fun _ _ _ _ _ _ us hl => match us, hl with | [_, _], _ => rfl
  have M_Field_log : Meth K C_Field "log" f_Field_log := ⟨a_Field_log, i_Field_log, k_Field_log⟩
  have c_X := PySem.W.mg_of X G a_X
  refine ⟨PySem.W.fnOf "law" "law" (defArgs s_law) (defBody s_law) (defScope s_law) .none kV_law dc_law pm_law an_law cd_law ct_law, fun s v => .of_eq rfl, fun base _ _ => ?_⟩
  have T : FC K C_Field := ⟨K_Field, n_Field__bits, n_Field__modulus, n_Field__turn, n_Field__powers, n_Field__logs⟩
  have Z_repr := PySem.W.mg_none_of X G z_repr
  have G_init := ok_init (P := l.prog) (w := w) (base := base) F_init B.ValueError v_init
  have G_degree := ok_degree (P := l.prog) (w := w) (base := base) (mg := mg) D_degree
  have G_times_binary := ok_times_binary (P := l.prog) (w := w) (base := base) (mg := mg) D_times_binary B
  have G_divide_binary := ok_divide_binary (P := l.prog) (w := w) (base := base) (mg := mg) D_divide_binary D_degree X_NoDivisor G_init b_init
  have G_common := ok_common (P := l.prog) (w := w) (base := base) (mg := mg) D_common D_divide_binary G_divide_binary
  have G_product_rest := ok_product_rest (P := l.prog) (w := w) (base := base) (mg := mg) D_product_rest D_divide_binary G_divide_binary D_times_binary G_times_binary
  have G_is_irreducible := ok_is_irreducible (P := l.prog) (w := w) (base := base) (mg := mg) D_is_irreducible B c_X D_degree G_degree D_product_rest G_product_rest D_common G_common
  have G__powers_of := ok__powers_of (P := l.prog) (w := w) (base := base) (mg := mg) D__powers_of D_product_rest G_product_rest
  have G__root_powers := ok__root_powers (P := l.prog) (w := w) (base := base) (mg := mg) D__root_powers B D__powers_of G__powers_of
  have G_Field___init__ := ok_Field___init__ (P := l.prog) (w := w) (base := base) (mg := mg) F_Field___init__ B T D_degree G_degree D_is_irreducible G_is_irreducible D__root_powers G__root_powers X_OutOfRange X_NotIrreducible G_init b_init
  have G_Field_log := ok_Field_log (P := l.prog) (w := w) (base := base) (mg := mg) F_Field_log T X_NoInverse G_init b_init
  have G_Field_size := ok_Field_size (P := l.prog) (w := w) (base := base) (mg := mg) F_Field_size T
  have G_Field_add := ok_Field_add (P := l.prog) (w := w) (base := base) (mg := mg) F_Field_add
  have G_Field_times := ok_Field_times (P := l.prog) (w := w) (base := base) (mg := mg) F_Field_times T
  have G_Field_inverse := ok_Field_inverse (P := l.prog) (w := w) (base := base) (mg := mg) F_Field_inverse T M_Field_log b_Field_log G_Field_log
  have G_M := FN.mk (P := l.prog) (w := w) (base := base) T ⟨_, _, M_Field_size, b_Field_size, G_Field_size⟩ ⟨_, _, M_Field_add, b_Field_add, G_Field_add⟩ ⟨_, _, M_Field_times, b_Field_times, G_Field_times⟩ ⟨_, _, M_Field_inverse, b_Field_inverse, G_Field_inverse⟩
  have G_trimmed := ok_trimmed (P := l.prog) (w := w) (base := base) (mg := mg) D_trimmed B
  have G_add := ok_add (P := l.prog) (w := w) (base := base) (mg := mg) D_add B G_M D_trimmed G_trimmed
  have G_scaled := ok_scaled (P := l.prog) (w := w) (base := base) (mg := mg) D_scaled G_M D_trimmed G_trimmed
  have G_value := ok_value (P := l.prog) (w := w) (base := base) (mg := mg) D_value B G_M
  have G_times_polys := ok_times_polys (P := l.prog) (w := w) (base := base) (mg := mg) D_times_polys B G_M D_trimmed G_trimmed
  have G_divide_polys := ok_divide_polys (P := l.prog) (w := w) (base := base) (mg := mg) D_divide_polys B G_M D_trimmed G_trimmed X_NoDivisor G_init b_init
  have G_slope := ok_slope (P := l.prog) (w := w) (base := base) (mg := mg) D_slope B D_trimmed G_trimmed
  have G__law_numbers := ok__law_numbers (P := l.prog) (w := w) (base := base) (mg := mg) D__law_numbers B
  have G__law_degree := ok__law_degree (P := l.prog) (w := w) (base := base) (mg := mg) D__law_degree B
  have G__law_times := ok__law_times (P := l.prog) (w := w) (base := base) (mg := mg) D__law_times B
  have G__law_divided := ok__law_divided (P := l.prog) (w := w) (base := base) (mg := mg) D__law_divided B D__law_degree G__law_degree
  have G__law_irreducible := ok__law_irreducible (P := l.prog) (w := w) (base := base) (mg := mg) D__law_irreducible B D__law_degree G__law_degree D__law_divided G__law_divided
  have G__law_modulus := ok__law_modulus (P := l.prog) (w := w) (base := base) (mg := mg) D__law_modulus B D__law_irreducible G__law_irreducible
  have G__law_product := ok__law_product (P := l.prog) (w := w) (base := base) (mg := mg) D__law_product B D__law_divided G__law_divided D__law_times G__law_times
  have G__law_inverse := ok__law_inverse (P := l.prog) (w := w) (base := base) (mg := mg) D__law_inverse B D__law_product G__law_product
  have G__law_trim := ok__law_trim (P := l.prog) (w := w) (base := base) (mg := mg) D__law_trim B
  have G__law_plus := ok__law_plus (P := l.prog) (w := w) (base := base) (mg := mg) D__law_plus B D__law_trim G__law_trim
  have G__law_mul := ok__law_mul (P := l.prog) (w := w) (base := base) (mg := mg) D__law_mul B D__law_trim G__law_trim D__law_product G__law_product
  have G__law_at_point := ok__law_at_point (P := l.prog) (w := w) (base := base) (mg := mg) D__law_at_point B D__law_product G__law_product
  have G__law_over := ok__law_over (P := l.prog) (w := w) (base := base) (mg := mg) D__law_over B D__law_inverse G__law_inverse D__law_trim G__law_trim D__law_product G__law_product D__law_plus G__law_plus D__law_mul G__law_mul
  have G__law_poly := ok__law_poly (P := l.prog) (w := w) (base := base) (mg := mg) D__law_poly B D__law_trim G__law_trim
  have G__law_slope := ok__law_slope (P := l.prog) (w := w) (base := base) (mg := mg) D__law_slope B D__law_trim G__law_trim
  have G__law_division := ok__law_division (P := l.prog) (w := w) (base := base) (mg := mg) D__law_division B D_divide_polys G_divide_polys D__law_over G__law_over X_NoDivisor X_HaulError
  exact ok_law (P := l.prog) (w := w) (base := base) (mg := mg) D_law B Z_repr D__law_numbers G__law_numbers D__law_modulus G__law_modulus M_Field g_Field b_Field___init__ G_Field___init__ D__law_poly G__law_poly D_add G_add D__law_plus G__law_plus D_times_polys G_times_polys D__law_mul G__law_mul D_scaled G_scaled D__law_trim G__law_trim D_slope G_slope D__law_slope G__law_slope D_value G_value D__law_at_point G__law_at_point D__law_division G__law_division D_trimmed G_trimmed D_divide_polys G_divide_polys
end K02
open PySem PySem.W PyProof.Rows
set_option maxRecDepth 100000 in
set_option maxHeartbeats 0 in
theorem PySem.Challenge.cw_farhaul_k02_polynomials_holds : PySem.Challenge.rw_farhaul_k02_polynomials.Holds := by
  w_on; o_law; k_head; (case hw => w_witness2)
  k_fill
  refine GR.walkG (l := PySem.Challenge.rw_farhaul_k02_polynomials) (n := 63) (k := 11) (x := "script") (CX := fun _ => L2.CX0) (sp := fun w => K02.sp_law _) rfl (by decide) rfl ⟨rfl, by decide, by decide⟩ (fun w h Y => PySem.W.kIn_of Y) ?F (fun _ _ a ns hl _ hS => ⟨a, ns, rfl, hS, hl, fun _ => rfl⟩) (fun _ _ _ _ _ h => h)
  case F =>
    intro w mg fa h KX G hmg
    refine' K02.all_mk KX G hmg ?a_HaulError ?a_OutOfRange ?a_NotIrreducible ?a_NoInverse ?a_NoDivisor ?i_init ?ti_init ?l_init ?c_init ?k_init ?v_init ?sp_cls ?tk_cls ?x_HaulError ?r_HaulError ?sa_HaulError ?ga_HaulError ?gg_HaulError ?cl_HaulError ?no_HaulError ?e_HaulError ?ty_HaulError ?kc_HaulError ?hd_HaulError ?mo_HaulError ?su_HaulError ?x_OutOfRange ?r_OutOfRange ?sa_OutOfRange ?ga_OutOfRange ?gg_OutOfRange ?cl_OutOfRange ?no_OutOfRange ?ii_OutOfRange ?e_OutOfRange ?ty_OutOfRange ?kc_OutOfRange ?hd_OutOfRange ?mo_OutOfRange ?su_OutOfRange ?x_NotIrreducible ?r_NotIrreducible ?sa_NotIrreducible ?ga_NotIrreducible ?gg_NotIrreducible ?cl_NotIrreducible ?no_NotIrreducible ?ii_NotIrreducible ?e_NotIrreducible ?ty_NotIrreducible ?kc_NotIrreducible ?hd_NotIrreducible ?mo_NotIrreducible ?su_NotIrreducible ?x_NoInverse ?r_NoInverse ?sa_NoInverse ?ga_NoInverse ?gg_NoInverse ?cl_NoInverse ?no_NoInverse ?ii_NoInverse ?e_NoInverse ?ty_NoInverse ?kc_NoInverse ?hd_NoInverse ?mo_NoInverse ?su_NoInverse ?x_NoDivisor ?r_NoDivisor ?sa_NoDivisor ?ga_NoDivisor ?gg_NoDivisor ?cl_NoDivisor ?no_NoDivisor ?ii_NoDivisor ?e_NoDivisor ?ty_NoDivisor ?kc_NoDivisor ?hd_NoDivisor ?mo_NoDivisor ?su_NoDivisor ?a_degree ?l_degree ?c_degree ?k_degree ?a_times_binary ?l_times_binary ?c_times_binary ?k_times_binary ?a_divide_binary ?l_divide_binary ?c_divide_binary ?k_divide_binary ?a_common ?l_common ?c_common ?k_common ?a_product_rest ?l_product_rest ?c_product_rest ?k_product_rest ?a_is_irreducible ?l_is_irreducible ?c_is_irreducible ?k_is_irreducible ?a__powers_of ?l__powers_of ?c__powers_of ?k__powers_of ?a__root_powers ?l__root_powers ?c__root_powers ?k__root_powers ?a_trimmed ?l_trimmed ?c_trimmed ?k_trimmed ?a_add ?l_add ?c_add ?k_add ?a_times_polys ?l_times_polys ?c_times_polys ?k_times_polys ?a_scaled ?l_scaled ?c_scaled ?k_scaled ?a_value ?l_value ?c_value ?k_value ?a_divide_polys ?l_divide_polys ?c_divide_polys ?k_divide_polys ?a_slope ?l_slope ?c_slope ?k_slope ?a__law_numbers ?l__law_numbers ?c__law_numbers ?k__law_numbers ?a__law_degree ?l__law_degree ?c__law_degree ?k__law_degree ?a__law_times ?l__law_times ?c__law_times ?k__law_times ?a__law_divided ?l__law_divided ?c__law_divided ?k__law_divided ?a__law_irreducible ?l__law_irreducible ?c__law_irreducible ?k__law_irreducible ?a__law_modulus ?l__law_modulus ?c__law_modulus ?k__law_modulus ?a__law_product ?l__law_product ?c__law_product ?k__law_product ?a__law_inverse ?l__law_inverse ?c__law_inverse ?k__law_inverse ?a__law_trim ?l__law_trim ?c__law_trim ?k__law_trim ?a__law_plus ?l__law_plus ?c__law_plus ?k__law_plus ?a__law_mul ?l__law_mul ?c__law_mul ?k__law_mul ?a__law_at_point ?l__law_at_point ?c__law_at_point ?k__law_at_point ?a__law_over ?l__law_over ?c__law_over ?k__law_over ?a__law_poly ?l__law_poly ?c__law_poly ?k__law_poly ?a__law_slope ?l__law_slope ?c__law_slope ?k__law_slope ?a__law_division ?l__law_division ?c__law_division ?k__law_division ?a_law ?l_law ?c_law ?k_law ?a_X ?a_Field ?pg_Field ?hd_Field ?po_Field ?sa_Field ?mk_Field ?kc_Field ?n_Field__bits ?n_Field__modulus ?n_Field__turn ?n_Field__powers ?n_Field__logs ?a_Field___init__ ?i_Field___init__ ?l_Field___init__ ?c_Field___init__ ?k_Field___init__ ?a_Field_size ?i_Field_size ?l_Field_size ?c_Field_size ?k_Field_size ?a_Field_add ?i_Field_add ?l_Field_add ?c_Field_add ?k_Field_add ?a_Field_times ?i_Field_times ?l_Field_times ?c_Field_times ?k_Field_times ?a_Field_inverse ?i_Field_inverse ?l_Field_inverse ?c_Field_inverse ?k_Field_inverse ?a_Field_log ?i_Field_log ?l_Field_log ?c_Field_log ?k_Field_log ?z_repr ?z_range ?z_len ?z_abs ?z_int ?z_max ?z_min ?z_sum ?z_list ?z_isinstance ?z_enumerate ?z_zip ?z_reversed ?z_any ?z_all ?z_ValueError
    (case a_HaulError => k_is)
    (case a_OutOfRange => k_is)
    (case a_NotIrreducible => k_is)
    (case a_NoInverse => k_is)
    (case a_NoDivisor => k_is)
    (case i_init => k_is)
    (case ti_init => k_is)
    (case l_init => k_is)
    (case c_init => k_is)
    (case k_init => k_is)
    (case v_init => first | k_is | decide +kernel | rfl)
    (case sp_cls => first | k_is | decide +kernel | rfl)
    (case tk_cls => first | k_is | decide +kernel | rfl)
    (case x_HaulError => k_is)
    (case r_HaulError => first | rfl | decide +kernel)
    (case sa_HaulError => k_is)
    (case ga_HaulError => k_is)
    (case gg_HaulError => k_is)
    (case cl_HaulError => k_is)
    (case no_HaulError => k_is)
    (case e_HaulError => k_is)
    (case ty_HaulError => k_is)
    (case kc_HaulError => k_is)
    (case hd_HaulError => k_is)
    (case mo_HaulError => k_is)
    (case su_HaulError => first | rfl | k_is)
    (case x_OutOfRange => k_is)
    (case r_OutOfRange => first | rfl | decide +kernel)
    (case sa_OutOfRange => k_is)
    (case ga_OutOfRange => k_is)
    (case gg_OutOfRange => k_is)
    (case cl_OutOfRange => k_is)
    (case no_OutOfRange => k_is)
    (case ii_OutOfRange => k_is)
    (case e_OutOfRange => k_is)
    (case ty_OutOfRange => k_is)
    (case kc_OutOfRange => k_is)
    (case hd_OutOfRange => k_is)
    (case mo_OutOfRange => k_is)
    (case su_OutOfRange => first | rfl | k_is)
    (case x_NotIrreducible => k_is)
    (case r_NotIrreducible => first | rfl | decide +kernel)
    (case sa_NotIrreducible => k_is)
    (case ga_NotIrreducible => k_is)
    (case gg_NotIrreducible => k_is)
    (case cl_NotIrreducible => k_is)
    (case no_NotIrreducible => k_is)
    (case ii_NotIrreducible => k_is)
    (case e_NotIrreducible => k_is)
    (case ty_NotIrreducible => k_is)
    (case kc_NotIrreducible => k_is)
    (case hd_NotIrreducible => k_is)
    (case mo_NotIrreducible => k_is)
    (case su_NotIrreducible => first | rfl | k_is)
    (case x_NoInverse => k_is)
    (case r_NoInverse => first | rfl | decide +kernel)
    (case sa_NoInverse => k_is)
    (case ga_NoInverse => k_is)
    (case gg_NoInverse => k_is)
    (case cl_NoInverse => k_is)
    (case no_NoInverse => k_is)
    (case ii_NoInverse => k_is)
    (case e_NoInverse => k_is)
    (case ty_NoInverse => k_is)
    (case kc_NoInverse => k_is)
    (case hd_NoInverse => k_is)
    (case mo_NoInverse => k_is)
    (case su_NoInverse => first | rfl | k_is)
    (case x_NoDivisor => k_is)
    (case r_NoDivisor => first | rfl | decide +kernel)
    (case sa_NoDivisor => k_is)
    (case ga_NoDivisor => k_is)
    (case gg_NoDivisor => k_is)
    (case cl_NoDivisor => k_is)
    (case no_NoDivisor => k_is)
    (case ii_NoDivisor => k_is)
    (case e_NoDivisor => k_is)
    (case ty_NoDivisor => k_is)
    (case kc_NoDivisor => k_is)
    (case hd_NoDivisor => k_is)
    (case mo_NoDivisor => k_is)
    (case su_NoDivisor => first | rfl | k_is)
    (case a_degree => k_is)
    (case l_degree => k_is)
    (case c_degree => k_is)
    (case k_degree => k_is)
    (case a_times_binary => k_is)
    (case l_times_binary => k_is)
    (case c_times_binary => k_is)
    (case k_times_binary => k_is)
    (case a_divide_binary => k_is)
    (case l_divide_binary => k_is)
    (case c_divide_binary => k_is)
    (case k_divide_binary => k_is)
    (case a_common => k_is)
    (case l_common => k_is)
    (case c_common => k_is)
    (case k_common => k_is)
    (case a_product_rest => k_is)
    (case l_product_rest => k_is)
    (case c_product_rest => k_is)
    (case k_product_rest => k_is)
    (case a_is_irreducible => k_is)
    (case l_is_irreducible => k_is)
    (case c_is_irreducible => k_is)
    (case k_is_irreducible => k_is)
    (case a__powers_of => k_is)
    (case l__powers_of => k_is)
    (case c__powers_of => k_is)
    (case k__powers_of => k_is)
    (case a__root_powers => k_is)
    (case l__root_powers => k_is)
    (case c__root_powers => k_is)
    (case k__root_powers => k_is)
    (case a_trimmed => k_is)
    (case l_trimmed => k_is)
    (case c_trimmed => k_is)
    (case k_trimmed => k_is)
    (case a_add => k_is)
    (case l_add => k_is)
    (case c_add => k_is)
    (case k_add => k_is)
    (case a_times_polys => k_is)
    (case l_times_polys => k_is)
    (case c_times_polys => k_is)
    (case k_times_polys => k_is)
    (case a_scaled => k_is)
    (case l_scaled => k_is)
    (case c_scaled => k_is)
    (case k_scaled => k_is)
    (case a_value => k_is)
    (case l_value => k_is)
    (case c_value => k_is)
    (case k_value => k_is)
    (case a_divide_polys => k_is)
    (case l_divide_polys => k_is)
    (case c_divide_polys => k_is)
    (case k_divide_polys => k_is)
    (case a_slope => k_is)
    (case l_slope => k_is)
    (case c_slope => k_is)
    (case k_slope => k_is)
    (case a__law_numbers => k_is)
    (case l__law_numbers => k_is)
    (case c__law_numbers => k_is)
    (case k__law_numbers => k_is)
    (case a__law_degree => k_is)
    (case l__law_degree => k_is)
    (case c__law_degree => k_is)
    (case k__law_degree => k_is)
    (case a__law_times => k_is)
    (case l__law_times => k_is)
    (case c__law_times => k_is)
    (case k__law_times => k_is)
    (case a__law_divided => k_is)
    (case l__law_divided => k_is)
    (case c__law_divided => k_is)
    (case k__law_divided => k_is)
    (case a__law_irreducible => k_is)
    (case l__law_irreducible => k_is)
    (case c__law_irreducible => k_is)
    (case k__law_irreducible => k_is)
    (case a__law_modulus => k_is)
    (case l__law_modulus => k_is)
    (case c__law_modulus => k_is)
    (case k__law_modulus => k_is)
    (case a__law_product => k_is)
    (case l__law_product => k_is)
    (case c__law_product => k_is)
    (case k__law_product => k_is)
    (case a__law_inverse => k_is)
    (case l__law_inverse => k_is)
    (case c__law_inverse => k_is)
    (case k__law_inverse => k_is)
    (case a__law_trim => k_is)
    (case l__law_trim => k_is)
    (case c__law_trim => k_is)
    (case k__law_trim => k_is)
    (case a__law_plus => k_is)
    (case l__law_plus => k_is)
    (case c__law_plus => k_is)
    (case k__law_plus => k_is)
    (case a__law_mul => k_is)
    (case l__law_mul => k_is)
    (case c__law_mul => k_is)
    (case k__law_mul => k_is)
    (case a__law_at_point => k_is)
    (case l__law_at_point => k_is)
    (case c__law_at_point => k_is)
    (case k__law_at_point => k_is)
    (case a__law_over => k_is)
    (case l__law_over => k_is)
    (case c__law_over => k_is)
    (case k__law_over => k_is)
    (case a__law_poly => k_is)
    (case l__law_poly => k_is)
    (case c__law_poly => k_is)
    (case k__law_poly => k_is)
    (case a__law_slope => k_is)
    (case l__law_slope => k_is)
    (case c__law_slope => k_is)
    (case k__law_slope => k_is)
    (case a__law_division => k_is)
    (case l__law_division => k_is)
    (case c__law_division => k_is)
    (case k__law_division => k_is)
    (case a_law => k_is)
    (case l_law => k_is)
    (case c_law => k_is)
    (case k_law => k_is)
    (case a_X => k_is)
    (case a_Field => k_is)
    (case pg_Field => k_is)
    (case hd_Field => k_is)
    (case po_Field => k_is)
    (case sa_Field => k_is)
    (case mk_Field => k_is)
    (case kc_Field => k_is)
    (case n_Field__bits => k_is)
    (case n_Field__modulus => k_is)
    (case n_Field__turn => k_is)
    (case n_Field__powers => k_is)
    (case n_Field__logs => k_is)
    (case a_Field___init__ => k_is)
    (case i_Field___init__ => k_is)
    (case l_Field___init__ => k_is)
    (case c_Field___init__ => k_is)
    (case k_Field___init__ => k_is)
    (case a_Field_size => k_is)
    (case i_Field_size => k_is)
    (case l_Field_size => k_is)
    (case c_Field_size => k_is)
    (case k_Field_size => k_is)
    (case a_Field_add => k_is)
    (case i_Field_add => k_is)
    (case l_Field_add => k_is)
    (case c_Field_add => k_is)
    (case k_Field_add => k_is)
    (case a_Field_times => k_is)
    (case i_Field_times => k_is)
    (case l_Field_times => k_is)
    (case c_Field_times => k_is)
    (case k_Field_times => k_is)
    (case a_Field_inverse => k_is)
    (case i_Field_inverse => k_is)
    (case l_Field_inverse => k_is)
    (case c_Field_inverse => k_is)
    (case k_Field_inverse => k_is)
    (case a_Field_log => k_is)
    (case i_Field_log => k_is)
    (case l_Field_log => k_is)
    (case c_Field_log => k_is)
    (case k_Field_log => k_is)
    (case z_repr => k_is)
    (case z_range => k_is)
    (case z_len => k_is)
    (case z_abs => k_is)
    (case z_int => k_is)
    (case z_max => k_is)
    (case z_min => k_is)
    (case z_sum => k_is)
    (case z_list => k_is)
    (case z_isinstance => k_is)
    (case z_enumerate => k_is)
    (case z_zip => k_is)
    (case z_reversed => k_is)
    (case z_any => k_is)
    (case z_all => k_is)
    (case z_ValueError => k_is)
