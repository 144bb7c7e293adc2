import PyProof.Rows.All
import Wide.All
import OpenK.AllK
import Wide.FinOn
import HandS.ForMost
import HandS.WideBits
import HandS.Exc
import HandS.ExcInit
import HandS.ExcOwn
import HandS.ExcField
import HandS.ExcIs
import HandS.IsInst
import HandS.Flow
import HandS.Codes
import HandS.Style
import HandS.TryOnly
import HandS.WordsExc
import KE.KExcIs
import HandS.FStr
import HandS.CallSlots
import HandS.Walk
import HandS.MapSum
import PyProof.SumAnyB
import KE.GoesEnumKw
import HandS.List
import KE.SortData
import KE.DataMinMax
import KE.DataCmp
import HandS.SortKw
import HandS.Conv
import HandS.RevRange
import HandS.Gcd
import PySem.Challenge.RW_farhaul_k20_whole_least_distance
set_option Elab.async false
set_option linter.all false
set_option maxRecDepth 100000
set_option maxHeartbeats 4000000
/-! Operators on numbers that are not negative. -/
namespace NB
open PySem PySem.Spec PyProof.Rows L2
def rNN (g : Nat → Nat → V) : R2 := fun x y H Q => ∃ m n : Nat, x = .int m ∧ y = .int n ∧ Q (g m n) H
def rNNC (C : Nat → Nat → Prop) (g : Nat → Nat → V) : R2 := fun x y H Q => ∃ m n : Nat, x = .int m ∧ y = .int n ∧ C m n ∧ Q (g m n) H
theorem op_of {X : Cx} {f : Value → Value → Sem Value} {r r' : R2} (h : OpR X f r) (k : ∀ x y H Q, r' x y H Q → r x y H Q) : OpR X f r' := by
  intro pins s σ H x y u v Q I rx ry q
  exact h pins s σ H x y u v Q I rx ry (k _ _ _ _ q)
theorem xor_nn (m n : Nat) : Builtin.bitXor (m : Int) (n : Int) = ((m ^^^ n : Nat) : Int) := by
  rw [Bits.bitXor_pp (Int.natCast_nonneg _) (Int.natCast_nonneg _)]; simp
theorem or_nn (m n : Nat) : Builtin.bitOr (m : Int) (n : Int) = ((m ||| n : Nat) : Int) := by
  rw [Bits.bitOr_pp (Int.natCast_nonneg _) (Int.natCast_nonneg _)]; simp
theorem and_nn (m n : Nat) : Builtin.bitAnd (m : Int) (n : Int) = ((m &&& n : Nat) : Int) := by
  rw [bitAnd_pp (Int.natCast_nonneg _) (Int.natCast_nonneg _)]; simp
theorem shl_nn (m n : Nat) : (m : Int) * 2 ^ (n : Int).toNat = ((2 ^ n * m : Nat) : Int) := by
  rw [Int.toNat_natCast, L2.cast_parts]
theorem shr_nn (m n : Nat) : (m : Int) / 2 ^ (n : Int).toNat = ((m / 2 ^ n : Nat) : Int) := by
  rw [Int.toNat_natCast, Int.natCast_ediv, Int.natCast_pow]; rfl
abbrev rXorN : R2 := rNN fun m n => .int ((m ^^^ n : Nat) : Int)
abbrev rOrN : R2 := rNN fun m n => .int ((m ||| n : Nat) : Int)
abbrev rAndN : R2 := rNN fun m n => .int ((m &&& n : Nat) : Int)
abbrev rShlN : R2 := rNNC (fun m n => m < 2 ^ 64 ∧ n ≤ 1000000) fun m n => .int ((2 ^ n * m : Nat) : Int)
abbrev rShrN : R2 := rNN fun m n => .int ((m / 2 ^ n : Nat) : Int)
section
variable {X : Cx}
theorem k_xor : ∀ x y H Q, rXorN x y H Q → (rI0 fun i j => .int (Builtin.bitXor i j)) x y H Q := fun _ _ _ _ ⟨m, n, a, b, q⟩ => ⟨m, n, a, b, by show _; dsimp only; rw [xor_nn]; exact q⟩
theorem k_or : ∀ x y H Q, rOrN x y H Q → (rI0 fun i j => .int (Builtin.bitOr i j)) x y H Q := fun _ _ _ _ ⟨m, n, a, b, q⟩ => ⟨m, n, a, b, by dsimp only; rw [or_nn]; exact q⟩
theorem k_and : ∀ x y H Q, rAndN x y H Q → (rI0 fun i j => .int (Builtin.bitAnd i j)) x y H Q := fun _ _ _ _ ⟨m, n, a, b, q⟩ => ⟨m, n, a, b, by dsimp only; rw [and_nn]; exact q⟩
theorem k_shl : ∀ x y H Q, rShlN x y H Q → (rI CPow fun i j => .int (i * 2 ^ j.toNat)) x y H Q := fun _ _ _ _ ⟨m, n, a, b, ⟨c1, c2⟩, q⟩ =>
  ⟨m, n, a, b, ⟨by omega, by omega, by simpa using c1⟩, by dsimp only; rw [shl_nn]; exact q⟩
theorem k_shr : ∀ x y H Q, rShrN x y H Q → (rI (fun _ j => 0 ≤ j) fun i j => .int (i / 2 ^ j.toNat)) x y H Q := fun _ _ _ _ ⟨m, n, a, b, q⟩ =>
  ⟨m, n, a, b, by omega, by dsimp only; rw [shr_nn]; exact q⟩
theorem nb_xor : OpR X (binaryOp .BitXor) rXorN := op_of op_xor k_xor
theorem nb_and : OpR X (binaryOp .BitAnd) rAndN := op_of op_and k_and
theorem nb_shl : OpR X (binaryOp .LShift) rShlN := op_of op_shl k_shl
theorem nb_shr : OpR X (binaryOp .RShift) rShrN := op_of op_shr k_shr
theorem nbi_xor : PIp X .BitXor rXorN := op_of iop_xor k_xor
theorem nbi_or : PIp X .BitOr rOrN := op_of iop_or k_or
end
end NB
namespace NB
open PySem PySem.Spec PyProof.Rows L2
/-- the number of bits -/
def bits (m : Nat) : Nat := if m = 0 then 0 else m.log2 + 1
theorem intBits_nat (m : Nat) : Builtin.Int.intBits (m : Int) = bits m := by
  unfold Builtin.Int.intBits bits
  by_cases h : m = 0
  · subst h; rfl
  · have : ¬ ((m : Int) == 0) = true := by simp; omega
    rw [if_neg this, if_neg h]; simp
/-! numbers written in the text -/
theorem pe_nat {X : Cx} (n : Nat) {j pos} {i : Int} (h : i = (n : Int) := by rfl) : PE X (.Constant (.int i) j pos) (tC (.int (n : Int))) := by subst h; exact pe_int
/-- a for over range(n), n a number that is not negative -/
theorem for_rangeN {lo n : Nat} {g : TG} {tb : TS} {D : Ends} {σ : L2.St} {H : Hp} (Pv : Nat → L2.St → Hp → Prop) (h0 : Pv 0 σ H)
    (hs : ∀ i σ H, i < n → Pv i σ H → g (.int ((lo + i : Nat) : Int)) σ H fun σ2 H2 => tb { D with nx := Pv (i + 1), ct := Pv (i + 1), bk := D.nx } σ2 H2) (hd : ∀ σ H, Pv n σ H → D.nx σ H) :
    ∃ W : Nat → Nat → L2.St → Hp → Prop, (∃ m, W 0 m σ H) ∧ ∀ i m σ H, W i m σ H →
      ((Itr (lo : Int) n).stop i H ∧ D.nx σ H) ∨ ((Itr (lo : Int) n).go i H ∧ ∃ N : L2.St → Hp → Prop, (∀ σ' H', N σ' H' → ∃ m', m' < m ∧ W (i + 1) m' σ' H') ∧ ∀ x H', (Itr (lo : Int) n).yld i H x H' → g x σ H' fun σ2 H2 => tb { D with nx := N, ct := N, bk := D.nx } σ2 H2) :=
  for_range (lo := (lo : Int)) (n := n) Pv h0 (fun i σ H hi p => by
    have e : ((lo : Int) + (i : Int)) = ((lo + i : Nat) : Int) := by omega
    rw [e]
    exact hs i σ H hi p) hd
end NB
namespace NB
open PySem PySem.Spec PyProof.Rows L2
section
variable {X : Cx}
theorem nb_add : OpR X (binaryOp .Add) (rNN fun m n => .int ((m + n : Nat) : Int)) := op_of op_add fun _ _ _ _ ⟨m, n, a, b, q⟩ => ⟨m, n, a, b, by dsimp only; rw [← Int.natCast_add]; exact q⟩
theorem nbi_add : PIp X .Add (rNN fun m n => .int ((m + n : Nat) : Int)) := op_of iop_add fun _ _ _ _ ⟨m, n, a, b, q⟩ => ⟨m, n, a, b, by dsimp only; rw [← Int.natCast_add]; exact q⟩
theorem nb_sub : OpR X (binaryOp .Sub) (rNNC (fun m n => n ≤ m) fun m n => .int ((m - n : Nat) : Int)) := op_of op_sub fun _ _ _ _ ⟨m, n, a, b, c, q⟩ => ⟨m, n, a, b, by dsimp only; rw [← Int.natCast_sub c]; exact q⟩
theorem nb_mul : OpR X (binaryOp .Mult) (rNNC (fun m n => m < 2 ^ 64 ∨ n < 2 ^ 64) fun m n => .int ((m * n : Nat) : Int)) := op_of op_mul fun _ _ _ _ ⟨m, n, a, b, c, q⟩ => ⟨m, n, a, b, by
  rcases c with c | c
  · exact .inl ⟨by omega, by omega⟩
  · exact .inr ⟨by omega, by omega⟩, by dsimp only; rw [← Int.natCast_mul]; exact q⟩
end
/-! ### lists of numbers -/
def NL (ns : List Nat) : List V := ns.map fun (n : Nat) => V.int ((n : Nat) : Int)
theorem NL_len (ns : List Nat) : (NL ns).length = ns.length := List.length_map _
theorem NL_set (ns : List Nat) (i n : Nat) : (NL ns).set i (.int (n : Int)) = NL (ns.set i n) := by unfold NL; rw [List.map_set]
theorem NL_app (ns : List Nat) (n : Nat) : NL ns ++ [.int (n : Int)] = NL (ns ++ [n]) := by unfold NL; simp
theorem NL_app2 (ns ms : List Nat) : NL ns ++ NL ms = NL (ns ++ ms) := by unfold NL; simp
theorem NL_cons (n : Nat) (ns : List Nat) : NL (n :: ns) = .int (n : Int) :: NL ns := rfl
theorem ixN_nat {n j : Nat} (h : j < n) : ixN n (j : Int) = some j := by
  unfold ixN
  rw [if_pos (by omega), if_pos (by omega)]; simp
end NB
namespace NB
open PySem PySem.Spec L2
/-- a def of the text: where it stands, how its arguments bind -/
structure Df (K : PySem.W.Frag) (mg : Str → Option Value) (x : Str) (ps : List Str) (st : Stmt) (f : Addr) (fd : FuncData) : Prop where
  F : Fun K x x st f fd
  g : mg x = some (.ref f)
  b : Binds K fd ps []
/-- built-in names that the top leaves alone -/
structure Bl (mg : Str → Option Value) : Prop where
  range : mg "range" = none
  len : mg "len" = none
  abs : mg "abs" = none
  int : mg "int" = none
  max : mg "max" = none
  min : mg "min" = none
  sum : mg "sum" = none
  list : mg "list" = none
  isinstance : mg "isinstance" = none
  enumerate : mg "enumerate" = none
  zip : mg "zip" = none
  reversed : mg "reversed" = none
  any : mg "any" = none
  all : mg "all" = none
  ValueError : mg "ValueError" = none
theorem iteD {c A B : Prop} [Decidable c] (h1 : c → A) (h2 : ¬ c → B) : if decide c = true then A else B := by
  by_cases h : c
  · rw [if_pos (decide_eq_true h)]; exact h1 h
  · rw [if_neg (by rw [decide_eq_false h]; exact Bool.false_ne_true)]; exact h2 h
theorem iteN {c A B : Prop} [Decidable c] (h1 : ¬ c → A) (h2 : c → B) : if (!decide c) = true then A else B := by
  by_cases h : c
  · rw [decide_eq_true h]; exact iteF (h2 h)
  · rw [decide_eq_false h]; exact iteT (h1 h)
/-- the truth of a number -/
theorem iteZ {n : Nat} {A B : Prop} (h1 : n ≠ 0 → A) (h2 : n = 0 → B) : if (((n : Nat) : Int) != 0) = true then A else B := by
  by_cases h : n = 0
  · subst h; exact iteF (h2 rfl)
  · have : (((n : Nat) : Int) != 0) = true := by simp; omega
    rw [if_pos this]; exact h1 h
theorem same_upd {H : Hp} {p : Addr} {o : HO} (h : H p = none) : Same H (upd H p o) := fun b u e => by rw [upd_ne (ne_of_none e h)]; exact e
theorem same_upd2 {H H' : Hp} {p : Addr} {o : HO} (e : Same H H') (h : H p = none) : Same H (upd H' p o) := fun b u ha => by rw [upd_ne (ne_of_none ha h)]; exact e b u ha
theorem same_new {H H' : Hp} {p : Addr} {o : HO} (e : Same H H') (h : H' p = none) : Same H (upd H' p o) := same_upd2 e (e.free h)
end NB
namespace NB
open PySem PySem.Spec L2
end NB
/-! Errors of the program: one class with an __init__, the others below it. -/
namespace ER
open PySem PySem.Spec PyProof.Rows L2 NB
/-- what the top says of an error class, named x, at C; its __init__ is the function at fI -/
structure XC (K : PySem.W.Frag) (mg : Str → Option Value) (x : Str) (C fI CH : Addr) : Prop where
  oex : OexC K C
  ga : PySem.W.findIn K (.ref C) "__getattribute__" = some (some (.builtin "BaseException.__getattribute__"))
  gg : PySem.W.findIn K (.ref C) "__getattr__" = some none
  hd : PySem.W.hasDictIn K C = true
  cl : PySem.W.findIn K (.ref C) "__class__" = some (some (.builtin "object.__class__"))
  sp : PySem.W.specialIn K (.builtin "object.__class__") "__get__" = some (some (.builtin "getset_descriptor.__get__"))
  tk : PySem.W.takesIn K (.builtin "object.__class__") = some true
  mo : PySem.W.mroIn K C (.type "object") = some true
  no : PySem.W.findIn K (.ref C) "at" = some none
  g : mg x = some (.ref C)
  iC : PySem.W.findIn K (.ref C) "__init__" = some (some (.ref fI))
  tI : PySem.W.typeIn K (.ref fI) = some (.type "function")
  te : PySem.W.exmOne K (.ref C) (.ref CH) = some true
def sp_init (K : PySem.W.Frag) : Sp := fun vs H Q _ => ∃ (a C : Addr) (i : Int), vs = [.ref a, .int i] ∧ (∃ mg x fI CH, XC K mg x C fI CH) ∧ H a = some (exo a C none) ∧ i.natAbs.log2 < 1920 ∧
  ∀ dx, H dx = none → dx ≠ a → Q .non (upd (upd H dx (exd dx [("at", .int i)])) a (exo a C (some dx)))
theorem len_app (a b : Str) : (a ++ b).length = a.length + b.length := by
  show (⟨a.cps ++ b.cps⟩ : Str).cps.size = _
  simp [Array.size_append]; rfl
theorem upd_raise {H : Hp} {a d C : Addr} {fs : List (Str × V)} {o : HO} (ha : H a = none) (hd : H d = none) (n : d ≠ a) :
    upd (L2.del (upd (upd (upd H a (exo a C none)) d (exd d fs)) a (exo a C (some d))) a) d o = upd H d o := by
  funext b
  by_cases h1 : b = d
  · subst h1; rw [upd_same, upd_same]
  · rw [upd_ne h1, upd_ne h1]
    by_cases h2 : b = a
    · subst h2; rw [del_same, ha]
    · rw [del_ne h2, upd_ne h2, upd_ne h1, upd_ne h2]
/-- raise x(e) -/
def tRaise (C : Addr) (W : WX) (ta : TA) : TS := fun _ σ H => ta σ H fun vs H1 => ∃ i : Int, vs = [.int i] ∧ i.natAbs.log2 < 1920 ∧ ∀ d, H1 d = none → W (.ref C) (some d) σ (upd H1 d (.xd [("at", .int i)]))
theorem ps_of {X : Cx} {st : Stmt} {t t' : TS} (h : PS X st t) (k : ∀ D σ H, t' D σ H → t D σ H) : PS X st t' := ⟨fun pins s σ H D I q => h.run pins s σ H D I (k D σ H q)⟩
def tMono (ta : TA) : TA := fun σ H Q => ∃ R : List V → Hp → Prop, ta σ H R ∧ ∀ vs H1, R vs H1 → Q vs H1
theorem pa_mono {X : Cx} {es : List Expr} {ta : TA} (h : PA X es ta) : PA X es (tMono ta) := ⟨fun pos pins s σ H Q I ⟨R, q, k⟩ =>
  thn (h.run pos pins s σ H R I q) fun us s1 ⟨vs, H1, I1, r, q1⟩ => ⟨vs, H1, I1, r, k _ _ q1⟩⟩
theorem ps_err {X : Cx} {CX : CXT} {x : Str} {C fI CH : Addr} {k : Nat} {fd : FuncData} {e : Expr} {ta : TA} {W : WX} {p pos pos2 : Pos} (hc : X.calm = true) (T : XC X.K X.mg x C fI CH)
    (G : FnOk X.prog X.w X.K X.mg X.base CX k fI fd ["self", "at"] (sp_init X.K)) (hr : Room (k + 1) X.A) (hb : Binds X.K fd ["self", "at"] []) (hx : Passes CX X (fun _ _ _ => False)) (tk : Takes X W) (ha : PA X [e] ta) (hg : Gl X x := by rfl)
    (hdb : (x == ("__debug__" : Str)) = false := by decide) (he : starEach (e :: []) X.env = (false, eval e X.env) :: starEach [] X.env := by rfl) (hpl : (backTo pos (starEach [] X.env)).any (·.1) = false := by rfl) :
    PS X (.Raise (some (.Call (.Name x p) [e] [] pos)) none pos2) (tRaise C W ta) := by
  refine ps_of (ps_raise hc tk (pmk_oex (dvs := []) T.oex T.iC T.tI G hr hb .nil hx hg T.g (pa_mono ha) hdb he hpl)) fun D σ H q => ?_
  refine ⟨_, q, fun vs H1 ⟨i, ev, hi, k⟩ => ?_⟩
  subst ev
  refine ⟨by simp, fun a na => ?_⟩
  refine ⟨a, C, i, rfl, ⟨_, _, _, _, T⟩, upd_same, hi, fun dx nx ne => ?_⟩
  rw [upd_ne ne] at nx
  refine ⟨rfl, dx, [("at", .int i)], upd_same, ?_, nx, ?_⟩
  · rw [upd_ne ne, upd_same]
  · rw [upd_raise na nx ne]
    exact k dx nx
/-! ### the caught error -/
/-- isinstance(e, c), e the error that the suite holds at a, of the class at D, its dict d -/
def rIsE (K : PySem.W.Frag) (a : Addr) (cls : Value) (d : Option Addr) : List V → Hp → VK → Prop := fun xs H Q => ∃ (D : Addr) (c : V) (cv : Value) (b : Bool) (dd : Addr) (fs : List (Str × V)), xs = [.ref a, c] ∧ cls = .ref D ∧ (∃ mg x fI CH, XC K mg x D fI CH) ∧ d = some dd ∧ H dd = some (.xd fs) ∧
  (∀ u, RelV c u → u = cv) ∧ PySem.W.kitOne K (.ref D) cv = some b ∧ Q (.bl b) H
/-- e.at -/
def tAt (K : PySem.W.Frag) (a : Addr) (cls : Value) (d : Option Addr) (te : TE) : TE := fun σ H Q => te σ H fun x H1 => ∃ (C dd : Addr) (i : Int), x = .ref a ∧ cls = .ref C ∧ (∃ mg x fI CH, XC K mg x C fI CH) ∧ d = some dd ∧ H1 dd = some (.xd [("at", .int i)]) ∧ Q (.int i) H1
theorem at_len {i : Int} (hi : i.natAbs.log2 < 1920) : (Str.empty ++ Str.ofString "at " ++ Str.ofString (toString i)).length ≤ sizeLine := by
  have e := int_text_length_le (k := 1920) (by decide) hi
  rw [ER.len_app, ER.len_app, PySem.ofString_length (toString i), sizeLine_eq]
  have h1 : (Str.empty).length = 0 := by rfl
  have h2 : (Str.ofString "at ").length = 3 := by decide +kernel
  omega
end ER
/-! Objects that are made, and methods that are called, where an error is looked out for. -/
namespace MKX
open PySem PySem.Spec PyProof.Rows L2
def tMkS (C : Addr) (sp : Sp) (E : L2.St → XK) (t : TA) : TE := fun σ H Q => t σ H fun vs H1 => ∀ x dx, H1 x = none → H1 dx = none → dx ≠ x →
  sp (.ref x :: vs) (upd (upd H1 dx (.own x)) x (.ins C dx [])) (fun v H2 => v = .non ∧ Q (.ref x) H2) (E σ)
section
variable {X : Cx} {CX : CXT} {k : Nat} {f C : Addr} {fd : FuncData} {ps : List Str} {sp : Sp} {E : L2.St → XK} {x m : Str} {p pos apos : Pos} {e o : Expr} {es : List Expr} {ta : TE} {t : TA}
def tMtS (C : Addr) (m : Str) (sp : Sp) (E : L2.St → XK) (ta : TE) (t : TA) : TE := fun σ H Q => ta σ H fun x H1 => ∃ a dx fs, x = .ref a ∧ H1 a = some (.ins C dx fs) ∧ fs.lookup m = none ∧ t σ H1 fun vs H2 => sp (x :: vs) H2 Q (E σ)
theorem pe_mtS {pl : Sem Bool} (ho : PE X o ta) (c : Cls X.K C) (hm : Meth X.K C m f) (G : FnOk X.prog X.w X.K X.mg X.base CX k f fd ps sp) (room : Room k X.A) (bd : L2.Binds X.K fd ps []) (out : ∀ σ, PassesAt CX X σ (E σ)) (ha : PA X (e :: es) t)
    (hst : starEach (e :: es) X.env = (false, eval e X.env) :: starEach es X.env := by rfl) (hpl : (backTo pos (starEach es X.env)).any (·.1) = false := by rfl)
    (ht : eval (.Call (.Attribute o m apos) (e :: es) [] pos) X.env = (do
      let ov ← eval o X.env; standAt apos.atName; let (f, first) ← holding [ov] (getMethod ov m pl); callWith pos f first (backTo pos (starEach (e :: es) X.env)) (backToKw pos (keywordEach [] X.env))) := by rfl) :
    PE X (.Call (.Attribute o m apos) (e :: es) [] pos) (tMtS C m sp E ta t) := by
  constructor
  intro pins s σ H Q J q
  refine PySem.W.methodCall_KW (pl := pl) (thn (ho.run pins s σ H _ J q) fun u s1 hu => ?_) ht
  obtain ⟨x, H1, J1, rx, a, dx, fs, ex, ea, nl, q1⟩ := hu
  subst ex
  cases rx
  refine getmeth_ok J1 ea c hm nl (PySem.W.callWith_K (first := [.ref a]) (h₀ := X.base) J.ok.mod.kin hm.kp (thn (ha.run pos pins s1 σ H1 _ J1 q1) fun us s2 ⟨vs, H2, J2, r, q2⟩ => ⟨J2.kIn, ?_⟩) hst hpl)
  exact run_fnS (us := .ref a :: us) (vs := .ref a :: vs) G room bd (out σ) J2 (.cons rfl r) q2
end
/-- for i, x in enumerate(xs) -/
theorem for_enumL {K : PySem.W.Frag} {a : Addr} {xs : List V} {g : TG} {tb : TS} {D : Ends} {σ : L2.St} {H : Hp} (Pv : Nat → L2.St → Hp → Prop) (h0 : Pv 0 σ H) (hl : ∀ i σ H, i ≤ xs.length → Pv i σ H → SqL K H a xs)
    (hs : ∀ (i : Nat) (x : V) (T : Addr) (σ : L2.St) (H : Hp), xs[i]? = some x → Pv i σ H → H T = none → g (.ref T) σ (upd H T (.tup [.int (i : Nat), x])) fun σ2 H2 => tb { D with nx := Pv (i + 1), ct := Pv (i + 1), bk := D.nx } σ2 H2) (hd : ∀ σ H, Pv xs.length σ H → D.nx σ H) :
    ∃ W : Nat → Nat → L2.St → Hp → Prop, (∃ m, W 0 m σ H) ∧ ∀ i m σ H, W i m σ H →
      ((Ite K a).stop i H ∧ D.nx σ H) ∨ ((Ite K a).go i H ∧ ∃ N : L2.St → Hp → Prop, (∀ σ' H', N σ' H' → ∃ m', m' < m ∧ W (i + 1) m' σ' H') ∧ ∀ x H', (Ite K a).yld i H x H' → g x σ H' fun σ2 H2 => tb { D with nx := N, ct := N, bk := D.nx } σ2 H2) :=
  for_it walk_enum Pv h0 hl (fun i x σ H H' _ p y => by
    obtain ⟨T, x1, x2, rfl, nT, rfl, e1, e2⟩ := y
    cases (Option.some.inj e1)
    exact hs i x2 T σ H e2 p nT) hd
end MKX
/-! A def that the text calls by another name than its own. -/
namespace NB
open PySem PySem.Spec L2
structure Da (K : PySem.W.Frag) (mg : Str → Option Value) (x nm : Str) (ps : List Str) (st : Stmt) (f : Addr) (fd : FuncData) : Prop where
  F : Fun K nm nm st f fd
  g : mg x = some (.ref f)
  b : L2.Binds K fd ps []
end NB
namespace NB
open PySem PySem.Spec L2
/-- within a comprehension: the written part named from outside -/
theorem ix_listK {X : Cx} {K : PySem.W.Frag} (h : X.K = K) : IxR X (rIxL K) := h ▸ ix_list
theorem ix_tupK {X : Cx} {K : PySem.W.Frag} (h : X.K = K) : IxR X (rIxT K) := h ▸ ix_tup
end NB
namespace NB
open PySem PySem.Spec L2
theorem op_eqDK {X : Cx} {K : PySem.W.Frag} (h : X.K = K) (hu : X.A.units + 64 < cLine) : OpR X (compareOp .Eq) (rEqD K) := h ▸ op_eqD hu
end NB
/-! Reading by data: what stands in the slots is told as data, the heap is carried along. -/
namespace DL
open PySem PySem.Spec PyProof.Rows L2 NB
/-- two ways -/
def Br (b : Bool) (A B : Prop) : Prop := (b = true → A) ∧ (b = false → B)
theorem Br.t {A B : Prop} (h : Br true A B) : A := h.1 rfl
theorem Br.f {A B : Prop} (h : Br false A B) : B := h.2 rfl
theorem brT {A B : Prop} (h : A) : Br true A B := ⟨fun _ => h, fun e => Bool.noConfusion e⟩
theorem brF {A B : Prop} (h : B) : Br false A B := ⟨fun e => Bool.noConfusion e, fun _ => h⟩
theorem brD {p A B : Prop} [Decidable p] (h : p → A) (k : ¬ p → B) : Br (decide p) A B := ⟨fun e => h (of_decide_eq_true e), fun e => k (of_decide_eq_false e)⟩
theorem brN {p A B : Prop} [Decidable p] (h : ¬ p → A) (k : p → B) : Br (!decide p) A B := ⟨fun e => h (fun z => by rw [decide_eq_true z] at e; cases e), fun e => k (Decidable.of_not_not fun z => by rw [decide_eq_false z] at e; cases e)⟩
theorem brY {p A B : Prop} [Decidable p] (c : p) (h : A) : Br (decide p) A B := brD (fun _ => h) fun z => absurd c z
theorem brX {p A B : Prop} [Decidable p] (c : ¬ p) (h : B) : Br (decide p) A B := brD (fun z => absurd z c) fun _ => h
theorem brB {b : Bool} {A B : Prop} (h : b = true → A) (k : b = false → B) : Br b A B := ⟨h, k⟩
theorem brNF {p A B : Prop} [Decidable p] (c : p) (h : B) : Br (!decide p) A B := brN (fun z => absurd c z) fun _ => h
mutual
/-- v is the data d, of objects that never change (they stand in F) -/
inductive Dv (F : Hp) : V → PyData → Prop
  | non : Dv F .non .none
  | bl (b : Bool) : Dv F (.bl b) (.bool b)
  | int (i : Int) : Dv F (.int i) (.int i)
  | str (x : Str) : Dv F (.str x) (.str x)
  | lst {a : Addr} {xs : List V} {ds : List PyData} : F a = some (.lst xs) → DvAll F xs ds → Dv F (.ref a) (.list ds)
  | tup {a : Addr} {xs : List V} {ds : List PyData} : F a = some (.tup xs) → DvAll F xs ds → Dv F (.ref a) (.tuple ds)
  | ob {a C dx : Addr} {fs : List (Str × V)} {ns ds : List PyData} : F a = some (.ins C dx fs) → ns = fs.map (fun p => PyData.str p.1) → DvAll F (fs.map Prod.snd) ds → Dv F (.ref a) (.dict [(.int (.ofNat C), .tuple ns), (.none, .list ds)])
inductive DvAll (F : Hp) : List V → List PyData → Prop
  | nil : DvAll F [] []
  | cons {v : V} {vs : List V} {d : PyData} {ds : List PyData} : Dv F v d → DvAll F vs ds → DvAll F (v :: vs) (d :: ds)
end
mutual
theorem Dv.mono {F F' : Hp} (s : Same F F') : ∀ {v : V} {d : PyData}, Dv F v d → Dv F' v d
  | _, _, .non => .non
  | _, _, .bl b => .bl b
  | _, _, .int i => .int i
  | _, _, .str x => .str x
  | _, _, .lst h hs => .lst (s _ _ h) (DvAll.mono s hs)
  | _, _, .tup h hs => .tup (s _ _ h) (DvAll.mono s hs)
  | _, _, .ob h e hs => .ob (s _ _ h) e (DvAll.mono s hs)
theorem DvAll.mono {F F' : Hp} (s : Same F F') : ∀ {vs : List V} {ds : List PyData}, DvAll F vs ds → DvAll F' vs ds
  | _, _, .nil => .nil
  | _, _, .cons h hs => .cons (Dv.mono s h) (DvAll.mono s hs)
end
mutual
theorem Dv.dp {K : PySem.W.Frag} {F : Hp} : ∀ {v : V} {d : PyData}, d.canLay0 = true → Dv F v d → Dp K F v d
  | _, _, _, .non => .non
  | _, _, _, .bl b => .bl b
  | _, _, _, .int i => .int i
  | _, _, _, .str x => .str x
  | _, _, c, .lst h hs => .lst (SqL.of h) (DvAll.dp (by rw [PyData.canLay0] at c; exact c) hs)
  | _, _, c, .tup h hs => .tup (SqT.of h) (DvAll.dp (by rw [PyData.canLay0] at c; exact c) hs)
  | _, _, c, .ob _ _ _ => by rw [PyData.canLay0] at c; cases c
theorem DvAll.dp {K : PySem.W.Frag} {F : Hp} : ∀ {vs : List V} {ds : List PyData}, PyData.canLayAll0 ds = true → DvAll F vs ds → DpAll K F vs ds
  | _, _, _, .nil => .nil
  | _, _, c, .cons h hs => .cons (Dv.dp (by rw [PyData.canLayAll0, Bool.and_eq_true] at c; exact c.1) h) (DvAll.dp (by rw [PyData.canLayAll0, Bool.and_eq_true] at c; exact c.2) hs)
end
theorem DvAll.length {F : Hp} : ∀ {vs : List V} {ds : List PyData}, DvAll F vs ds → vs.length = ds.length
  | _, _, .nil => rfl
  | _, _, .cons _ hs => congrArg (· + 1) (DvAll.length hs)
theorem DvAll.app {F : Hp} : ∀ {vs ws : List V} {ds es : List PyData}, DvAll F vs ds → DvAll F ws es → DvAll F (vs ++ ws) (ds ++ es)
  | _, _, _, _, .nil, h => h
  | _, _, _, _, .cons h hs, k => .cons h (DvAll.app hs k)
theorem DvAll.get {F : Hp} : ∀ {vs : List V} {ds : List PyData} {i : Nat} {d : PyData}, DvAll F vs ds → ds[i]? = some d → ∃ v, vs[i]? = some v ∧ Dv F v d
  | _, _, 0, _, .cons h _, e => by simp at e; subst e; exact ⟨_, rfl, h⟩
  | _, _, i + 1, d, .cons _ hs, e => by
    obtain ⟨v, h1, h2⟩ := DvAll.get (i := i) (d := d) hs (by simpa using e)
    exact ⟨v, by simpa using h1, h2⟩
theorem DvAll.get' {F : Hp} : ∀ {vs : List V} {ds : List PyData} {i : Nat} {v : V}, DvAll F vs ds → vs[i]? = some v → ∃ d, ds[i]? = some d ∧ Dv F v d
  | _, _, 0, _, .cons h _, e => by simp at e; subst e; exact ⟨_, rfl, h⟩
  | _, _, i + 1, d, .cons _ hs, e => by
    obtain ⟨v, h1, h2⟩ := DvAll.get' (i := i) (v := d) hs (by simpa using e)
    exact ⟨v, by simpa using h1, h2⟩
theorem DvAll.set {F : Hp} {v : V} {d : PyData} (h : Dv F v d) : ∀ {vs : List V} {ds : List PyData} (i : Nat), DvAll F vs ds → DvAll F (vs.set i v) (ds.set i d)
  | _, _, _, .nil => .nil
  | _, _, 0, .cons _ hs => .cons h hs
  | _, _, i + 1, .cons k hs => .cons k (DvAll.set h i hs)
theorem DvAll.take {F : Hp} : ∀ {vs : List V} {ds : List PyData} (n : Nat), DvAll F vs ds → DvAll F (vs.take n) (ds.take n)
  | _, _, 0, _ => .nil
  | _, _, _ + 1, .nil => .nil
  | _, _, n + 1, .cons h hs => .cons h (DvAll.take n hs)
theorem DvAll.drop {F : Hp} : ∀ {vs : List V} {ds : List PyData} (n : Nat), DvAll F vs ds → DvAll F (vs.drop n) (ds.drop n)
  | _, _, 0, h => h
  | _, _, _ + 1, .nil => .nil
  | _, _, n + 1, .cons _ hs => DvAll.drop n hs
theorem DvAll.rep {F : Hp} {vs : List V} {ds : List PyData} (h : DvAll F vs ds) : ∀ n : Nat, DvAll F (List.replicate n vs).flatten (List.replicate n ds).flatten
  | 0 => .nil
  | n + 1 => by rw [List.replicate_succ, List.replicate_succ, List.flatten_cons, List.flatten_cons]; exact h.app (DvAll.rep h n)
/-- data that need no object -/
def flatD : PyData → Bool
  | .none => true
  | .bool _ => true
  | .int _ => true
  | .str _ => true
  | _ => false
theorem Dv.flat {F F' : Hp} {v : V} {d : PyData} (h : Dv F v d) (f : flatD d = true) : Dv F' v d := by
  cases h with
  | non => exact .non
  | bl b => exact .bl b
  | int i => exact .int i
  | str x => exact .str x
  | lst _ _ => cases f
  | tup _ _ => cases f
  | ob _ _ _ => cases f
theorem DvAll.flat {F F' : Hp} : ∀ {vs : List V} {ds : List PyData}, DvAll F vs ds → ds.all flatD = true → DvAll F' vs ds
  | _, _, .nil, _ => .nil
  | _, _, .cons h hs, f => by
    rw [List.all_cons, Bool.and_eq_true] at f
    exact .cons (h.flat f.1) (DvAll.flat hs f.2)
/-- what a slot is told to hold -/
inductive SV where
  | val (d : PyData)
  | own (ds : List PyData)
  | ali (ds : List PyData)
  | raw (v : V)
  | ent (ds : List PyData)
abbrev SD := List (Option SV)
abbrev Zt := List (Option V × Option SV)
def RV (H0 F H : Hp) (v : V) : SV → Prop
  | .val d => Dv F v d
  | .own ds => ∃ a vs, v = .ref a ∧ F a = none ∧ H0 a = none ∧ H a = some (.lst vs) ∧ DvAll F vs ds
  | .ali ds => ∃ a vs, v = .ref a ∧ H0 a = none ∧ H a = some (.lst vs) ∧ DvAll F vs ds
  | .raw u => v = u
  | .ent ds => ∃ a vs, v = .ref a ∧ H0 a = some (.lst vs) ∧ H a = some (.lst vs) ∧ DvAll F vs ds
def PairOk (H0 F H : Hp) (p : Option V × Option SV) : Prop := ∀ sv, p.2 = some sv → ∃ v, p.1 = some v ∧ RV H0 F H v sv
def Apart (p q : Option V × Option SV) : Prop := ∀ a es fs, p.1 = some (.ref a) → p.2 = some (.own es) → q.1 = some (.ref a) → q.2 = some (.own fs) → False
structure Rep (F0 H0 F H : Hp) (Z : Zt) : Prop where
  base : Same F0 F
  low : Same F H
  ent : Same H0 H
  apart : ∀ b, F0 b = none → H0 b ≠ none → F b = none
  ok : ∀ p ∈ Z, PairOk H0 F H p
  dist : Z.Pairwise Apart
variable {F0 H0 F H : Hp} {Z W : Zt}
theorem Rep.sub (r : Rep F0 H0 F H Z) (s : W.Sublist Z) : Rep F0 H0 F H W := ⟨r.base, r.low, r.ent, r.apart, fun p hp => r.ok p (s.subset hp), r.dist.sublist s⟩
theorem Rep.left {A B : Zt} (r : Rep F0 H0 F H (A ++ B)) : Rep F0 H0 F H A := r.sub (List.sublist_append_left A B)
/-- a new object -/
theorem PairOk.grow {p : Option V × Option SV} {a : Addr} {o : HO} (h : PairOk H0 F H p) (n : H a = none) : PairOk H0 F (upd H a o) p := fun sv e => by
  obtain ⟨v, e1, r⟩ := h sv e
  refine ⟨v, e1, ?_⟩
  cases sv with
  | val d => exact r
  | own ds =>
    obtain ⟨b, vs, q1, q2, q3, q4, q5⟩ := r
    exact ⟨b, vs, q1, q2, q3, by rw [upd_ne (ne_of_none q4 n)]; exact q4, q5⟩
  | ali ds =>
    obtain ⟨b, vs, q1, q3, q4, q5⟩ := r
    exact ⟨b, vs, q1, q3, by rw [upd_ne (ne_of_none q4 n)]; exact q4, q5⟩
  | raw u => exact r
  | ent ds =>
    obtain ⟨b, vs, q1, q3, q4, q5⟩ := r
    exact ⟨b, vs, q1, q3, by rw [upd_ne (ne_of_none q4 n)]; exact q4, q5⟩
theorem Rep.grow {a : Addr} {o : HO} (r : Rep F0 H0 F H Z) (n : H a = none) : Rep F0 H0 F (upd H a o) Z :=
  ⟨r.base, same_new r.low n, same_new r.ent n, r.apart, fun p hp => (r.ok p hp).grow n, r.dist⟩
/-- both grow -/
theorem PairOk.both {F' H' : Hp} {p : Option V × Option SV} (h : PairOk H0 F H p) (s : Same F F') (t : Same H H') (k : ∀ b, F b = none → H b ≠ none → F' b = none) : PairOk H0 F' H' p := fun sv e => by
  obtain ⟨v, e1, r⟩ := h sv e
  refine ⟨v, e1, ?_⟩
  cases sv with
  | val d => exact r.mono s
  | own ds =>
    obtain ⟨b, vs, q1, q2, q3, q4, q5⟩ := r
    exact ⟨b, vs, q1, k b q2 (by rw [q4]; simp), q3, t _ _ q4, q5.mono s⟩
  | ali ds =>
    obtain ⟨b, vs, q1, q3, q4, q5⟩ := r
    exact ⟨b, vs, q1, q3, t _ _ q4, q5.mono s⟩
  | raw u => exact r
  | ent ds =>
    obtain ⟨b, vs, q1, q3, q4, q5⟩ := r
    exact ⟨b, vs, q1, q3, t _ _ q4, q5.mono s⟩
theorem Rep.both {F' H' : Hp} (r : Rep F0 H0 F H Z) (s : Same F F') (l : Same F' H') (t : Same H H') (k : ∀ b, F b = none → H b ≠ none → F' b = none) : Rep F0 H0 F' H' Z :=
  ⟨r.base.trans s, l, r.ent.trans t, fun b h0 h1 => k b (r.apart b h0 h1) (by
    cases e : H0 b with
    | none => exact absurd e h1
    | some o => rw [r.ent _ _ e]; simp), fun p hp => (r.ok p hp).both s t k, r.dist⟩
theorem Rep.push {v : V} {sv : SV} (r : Rep F0 H0 F H Z) (h : RV H0 F H v sv) (d : ∀ a es, v = .ref a → sv = .own es → ∀ p ∈ Z, ∀ fs, p.1 = some (.ref a) → p.2 = some (.own fs) → False) : Rep F0 H0 F H (Z ++ [(some v, some sv)]) := by
  refine ⟨r.base, r.low, r.ent, r.apart, fun p hp => ?_, ?_⟩
  · rcases List.mem_append.mp hp with h1 | h1
    · exact r.ok p h1
    · rw [List.mem_singleton] at h1
      subst h1
      exact fun sv' e => ⟨v, rfl, (Option.some.inj e) ▸ h⟩
  · rw [List.pairwise_append]
    refine ⟨r.dist, List.pairwise_singleton _ _, fun p hp q hq => ?_⟩
    rw [List.mem_singleton] at hq
    subst hq
    exact fun a es fs e1 e2 e3 e4 => d a fs (Option.some.inj e3) (Option.some.inj e4) p hp es e1 e2
/-- a value that is no list of one's own -/
theorem Rep.pushV {v : V} {d : PyData} (r : Rep F0 H0 F H Z) (h : Dv F v d) : Rep F0 H0 F H (Z ++ [(some v, some (.val d))]) := r.push h fun _ _ _ e => nomatch e
theorem Rep.pushR {v : V} (r : Rep F0 H0 F H Z) : Rep F0 H0 F H (Z ++ [(some v, some (.raw v))]) := r.push rfl fun _ _ _ e => nomatch e
/-- a new list -/
theorem Rep.pushL {p : Addr} {vs : List V} {ds : List PyData} (r : Rep F0 H0 F H Z) (n : H p = none) (h : DvAll F vs ds) : Rep F0 H0 F (upd H p (.lst vs)) (Z ++ [(some (.ref p), some (.own ds))]) := by
  refine (r.grow n).push ⟨p, vs, rfl, r.low.free n, r.ent.free n, upd_same, h⟩ fun a es e1 _ q hq fs e3 e4 => ?_
  cases e1
  obtain ⟨v, e5, b, ws, e6, _, _, e7, _⟩ := r.ok q hq _ e4
  rw [e3] at e5
  cases e5
  cases e6
  rw [n] at e7
  cases e7
theorem same_two {F H : Hp} {p : Addr} {o : HO} (s : Same F H) (n : H p = none) : Same (upd F p o) (upd H p o) := fun b u e => by
  by_cases h : b = p
  · subst h; rw [upd_same] at e ⊢; exact e
  · rw [upd_ne h] at e ⊢; exact s _ _ e
/-- a new tuple (or a list that never changes) -/
theorem Rep.newF {p : Addr} {o : HO} (r : Rep F0 H0 F H Z) (n : H p = none) : Rep F0 H0 (upd F p o) (upd H p o) Z :=
  r.both (same_upd (r.low.free n)) (same_two r.low n) (same_upd n) fun b h1 h2 => by
    rw [upd_ne (fun e => by subst e; exact h2 n)]; exact h1
theorem Rep.pushT {p : Addr} {vs : List V} {ds : List PyData} (r : Rep F0 H0 F H Z) (n : H p = none) (h : DvAll F vs ds) : Rep F0 H0 (upd F p (.tup vs)) (upd H p (.tup vs)) (Z ++ [(some (.ref p), some (.val (.tuple ds)))]) :=
  (r.newF n).pushV (.tup upd_same (h.mono (same_upd (r.low.free n))))
/-- an own list is let go: it never changes again -/
theorem Rep.freeze {A B : Zt} {x : Option V} {ds : List PyData} (r : Rep F0 H0 F H (A ++ (x, some (.own ds)) :: B)) : ∃ F', Rep F0 H0 F' H (A ++ (x, some (.val (.list ds))) :: B) := by
  have hp := r.ok (x, some (.own ds)) (by simp)
  obtain ⟨v, e1, a, vs, e2, f1, f0, h1, hd⟩ := hp _ rfl
  subst e2
  have e1' : x = some (.ref a) := e1
  subst e1'
  have sF : Same F (upd F a (.lst vs)) := same_upd f1
  have part := r.dist
  rw [List.pairwise_append] at part
  obtain ⟨pA, pB, pAB⟩ := part
  rw [List.pairwise_cons] at pB
  have other : ∀ p, p ∈ A ∨ p ∈ B → PairOk H0 (upd F a (.lst vs)) H p := fun p hm sv e => by
    obtain ⟨w, e3, rr⟩ := r.ok p (by rcases hm with h | h <;> simp [h]) sv e
    refine ⟨w, e3, ?_⟩
    cases sv with
    | val d => exact rr.mono sF
    | own es =>
      obtain ⟨b, ws, q1, q2, q3, q4, q5⟩ := rr
      subst q1
      have ne : b ≠ a := fun z => by
        subst z
        rcases hm with h | h
        · exact pAB p h _ List.mem_cons_self b es ds e3 e rfl rfl
        · exact pB.1 p h b ds es rfl rfl e3 e
      exact ⟨b, ws, rfl, by rw [upd_ne ne]; exact q2, q3, q4, q5.mono sF⟩
    | ali es =>
      obtain ⟨b, ws, q1, q3, q4, q5⟩ := rr
      exact ⟨b, ws, q1, q3, q4, q5.mono sF⟩
    | raw u => exact rr
    | ent es =>
      obtain ⟨b, ws, q1, q3, q4, q5⟩ := rr
      exact ⟨b, ws, q1, q3, q4, q5.mono sF⟩
  refine ⟨upd F a (.lst vs), r.base.trans sF, fun b o e => ?_, r.ent, fun b h0 h1' => ?_, fun p hm => ?_, ?_⟩
  · by_cases h : b = a
    · subst h; rw [upd_same] at e; cases e; exact h1
    · rw [upd_ne h] at e; exact r.low _ _ e
  · rw [upd_ne (fun z => by subst z; exact h1' f0)]; exact r.apart b h0 h1'
  · rcases List.mem_append.mp hm with h | h
    · exact other p (.inl h)
    · rcases List.mem_cons.mp h with h | h
      · subst h
        exact fun sv e => by cases e; exact ⟨.ref a, rfl, .lst upd_same (hd.mono sF)⟩
      · exact other p (.inr h)
  · rw [List.pairwise_append]
    refine ⟨pA, List.pairwise_cons.mpr ⟨fun q hq a' es fs _ e2 _ _ => (by cases e2), pB.2⟩, fun p hp q hq => ?_⟩
    rcases List.mem_cons.mp hq with h | h
    · subst h
      exact fun a' es fs _ _ _ e4 => by cases e4
    · exact pAB p hp q (List.mem_cons_of_mem _ h)
/-- an own list changes -/
theorem Rep.put {A B : Zt} {a : Addr} {ds es : List PyData} {vs : List V} (r : Rep F0 H0 F H (A ++ (some (.ref a), some (.own ds)) :: B)) (na : ∀ p, p ∈ A ∨ p ∈ B → ∀ es, p.2 = some (.ali es) → p.1 ≠ some (.ref a)) (h : DvAll F vs es) :
    Rep F0 H0 F (upd H a (.lst vs)) (A ++ (some (.ref a), some (.own es)) :: B) := by
  obtain ⟨v, e1, a', ws, e2, f1, f0, h1, hd⟩ := r.ok (some (.ref a), some (.own ds)) (by simp) _ rfl
  cases e1
  cases e2
  have part := r.dist
  rw [List.pairwise_append] at part
  obtain ⟨pA, pB, pAB⟩ := part
  rw [List.pairwise_cons] at pB
  have other : ∀ p, p ∈ A ∨ p ∈ B → PairOk H0 F (upd H a (.lst vs)) p := fun p hm sv e => by
    obtain ⟨w, e3, rr⟩ := r.ok p (by rcases hm with h | h <;> simp [h]) sv e
    refine ⟨w, e3, ?_⟩
    cases sv with
    | val d => exact rr
    | own es =>
      obtain ⟨b, ws, q1, q2, q3, q4, q5⟩ := rr
      subst q1
      have ne : b ≠ a := fun z => by
        subst z
        rcases hm with h | h
        · exact pAB p h _ List.mem_cons_self b es ds e3 e rfl rfl
        · exact pB.1 p h b ds es rfl rfl e3 e
      exact ⟨b, ws, rfl, q2, q3, by rw [upd_ne ne]; exact q4, q5⟩
    | ali es =>
      obtain ⟨b, ws, q1, q3, q4, q5⟩ := rr
      subst q1
      exact ⟨b, ws, rfl, q3, by rw [upd_ne (fun z => by subst z; exact na p hm es e e3)]; exact q4, q5⟩
    | raw u => exact rr
    | ent es =>
      obtain ⟨b, ws, q1, q3, q4, q5⟩ := rr
      subst q1
      exact ⟨b, ws, rfl, q3, by rw [upd_ne (fun z => by subst z; rw [f0] at q3; cases q3)]; exact q4, q5⟩
  refine ⟨r.base, fun b o e => ?_, fun b o e => ?_, r.apart, fun p hm => ?_, ?_⟩
  · rw [upd_ne (fun z => by subst z; rw [f1] at e; cases e)]; exact r.low _ _ e
  · rw [upd_ne (fun z => by subst z; rw [f0] at e; cases e)]; exact r.ent _ _ e
  · rcases List.mem_append.mp hm with h' | h'
    · exact other p (.inl h')
    · rcases List.mem_cons.mp h' with h' | h'
      · subst h'
        exact fun sv e => by cases e; exact ⟨.ref a, rfl, a, vs, rfl, f1, f0, upd_same, h⟩
      · exact other p (.inr h')
  · rw [List.pairwise_append]
    refine ⟨pA, List.pairwise_cons.mpr ⟨fun q hq a' es' fs e1 _ e3 e4 => pB.1 q hq a' ds fs e1 rfl e3 e4, pB.2⟩, fun p hp q hq => ?_⟩
    rcases List.mem_cons.mp hq with h' | h'
    · subst h'
      exact fun a' es' fs e1 e2 e3 _ => pAB p hp _ List.mem_cons_self a' es' ds e1 e2 e3 rfl
    · exact pAB p hp q (List.mem_cons_of_mem _ h')
end DL
/-! Reading by data: expressions and tests. -/
namespace DL
open PySem PySem.Spec PyProof.Rows L2 NB
abbrev DX := SD → (SV → Prop) → Prop
abbrev DTX := SD → (Bool → Prop) → Prop
abbrev DAX := SD → (List SV → Prop) → Prop
def SV.al : SV → SV
  | .own ds => .ali ds
  | x => x
def SV.frz : SV → SV
  | .own ds => .val (.list ds)
  | .ali ds => .val (.list ds)
  | x => x
def SV.int? : SV → Option Int
  | .val (.int i) => some i
  | _ => none
def SV.bool? : SV → Option Bool
  | .val (.bool b) => some b
  | _ => none
def SV.dat? : SV → Option PyData
  | .val d => some d
  | .own ds => some (.list ds)
  | .ali ds => some (.list ds)
  | .raw _ => none
  | .ent ds => some (.list ds)
def SV.items? : SV → Option (List PyData)
  | .val (.list ds) => some ds
  | .own ds => some ds
  | .ali ds => some ds
  | .ent ds => some ds
  | _ => none
def SV.tup? : SV → Option (List PyData)
  | .val (.tuple ds) => some ds
  | _ => none
/-- data that stay: an own list is let go -/
def SV.fix? : SV → Option PyData
  | .val d => some d
  | .own ds => some (.list ds)
  | _ => none
def SV.flat : SV → Bool
  | .val d => flatD d
  | .own ds => ds.all flatD
  | .ali _ => false
  | .raw _ => true
  | .ent _ => false
def SV.isEnt : SV → Bool
  | .ent _ => true
  | _ => false
def SV.isAli : SV → Bool
  | .ali _ => true
  | _ => false
section
variable {F0 H0 F H : Hp} {v : V} {sv : SV}
theorem RV.int {i : Int} (r : RV H0 F H v sv) (e : sv.int? = some i) : v = .int i := by
  match sv, r, e with
  | .val (.int j), r, e => cases e; cases r; rfl
theorem RV.bool {b : Bool} (r : RV H0 F H v sv) (e : sv.bool? = some b) : v = .bl b := by
  match sv, r, e with
  | .val (.bool j), r, e => cases e; cases r; rfl
theorem RV.items {ds : List PyData} (r : RV H0 F H v sv) (l : Same F H) (e : sv.items? = some ds) : ∃ a vs, v = .ref a ∧ H a = some (.lst vs) ∧ DvAll F vs ds := by
  match sv, r, e with
  | .val (.list es), r, e =>
    cases e
    cases r with
    | lst h hs => exact ⟨_, _, rfl, l _ _ h, hs⟩
  | .own es, r, e =>
    cases e
    obtain ⟨a, vs, h1, _, _, h2, h3⟩ := r
    exact ⟨a, vs, h1, h2, h3⟩
  | .ali es, r, e =>
    cases e
    obtain ⟨a, vs, h1, _, h2, h3⟩ := r
    exact ⟨a, vs, h1, h2, h3⟩
  | .ent es, r, e =>
    cases e
    obtain ⟨a, vs, h1, _, h2, h3⟩ := r
    exact ⟨a, vs, h1, h2, h3⟩
theorem RV.tup {ds : List PyData} (r : RV H0 F H v sv) (l : Same F H) (e : sv.tup? = some ds) : ∃ a vs, v = .ref a ∧ H a = some (.tup vs) ∧ DvAll F vs ds := by
  match sv, r, e with
  | .val (.tuple es), r, e =>
    cases e
    cases r with
    | tup h hs => exact ⟨_, _, rfl, l _ _ h, hs⟩
theorem RV.dat {d : PyData} {K : PySem.W.Frag} (r : RV H0 F H v sv) (l : Same F H) (e : sv.dat? = some d) (c : d.canLay0 = true) : Dp K H v d := by
  match sv, r, e with
  | .val d', r, e => cases e; exact (r.mono l).dp c
  | .own es, r, e =>
    cases e
    obtain ⟨a, vs, rfl, _, _, h2, h3⟩ := r
    exact .lst (SqL.of h2) ((h3.mono l).dp (by rw [PyData.canLay0] at c; exact c))
  | .ali es, r, e =>
    cases e
    obtain ⟨a, vs, rfl, _, h2, h3⟩ := r
    exact .lst (SqL.of h2) ((h3.mono l).dp (by rw [PyData.canLay0] at c; exact c))
  | .ent es, r, e =>
    cases e
    obtain ⟨a, vs, rfl, _, h2, h3⟩ := r
    exact .lst (SqL.of h2) ((h3.mono l).dp (by rw [PyData.canLay0] at c; exact c))
theorem Rep.last {W : Zt} (r : Rep F0 H0 F H (W ++ [(some v, some sv)])) : RV H0 F H v sv := by
  obtain ⟨w, e, h⟩ := r.ok (some v, some sv) (by simp) _ rfl
  cases e
  exact h
/-- a temp that is an own list is let go -/
theorem Rep.fixLast {W : Zt} {d : PyData} (r : Rep F0 H0 F H (W ++ [(some v, some sv)])) (e : sv.fix? = some d) : ∃ F', Rep F0 H0 F' H (W ++ [(some v, some (.val d))]) := by
  match sv, r, e with
  | .val d', r, e => cases e; exact ⟨F, r⟩
  | .own es, r, e => cases e; exact r.freeze
theorem apart_symm {p q : Option V × Option SV} (h : Apart p q) : Apart q p := fun a es fs e1 e2 e3 e4 => h a fs es e3 e4 e1 e2
theorem Rep.perm {Z W : Zt} (r : Rep F0 H0 F H Z) (p : Z.Perm W) : Rep F0 H0 F H W :=
  ⟨r.base, r.low, r.ent, r.apart, fun q hq => r.ok q (p.mem_iff.mpr hq), (p.pairwise_iff fun h => apart_symm h).mp r.dist⟩
end
/-- an expression -/
class DE (F0 H0 : Hp) (t : TE) (f : outParam DX) : Prop where
  run : ∀ (Z T : Zt) (H : Hp) (P : SV → Prop) (Q : VK), (∃ F, Rep F0 H0 F H (Z ++ T)) → f (Z.map Prod.snd) P → (∀ sv, P sv → ∀ v H', (∃ F, Rep F0 H0 F H' (Z ++ (T ++ [(some v, some sv)]))) → Q v H') → t (Z.map Prod.fst) H Q
class DT (F0 H0 : Hp) (t : TT) (f : outParam DTX) : Prop where
  run : ∀ (Z T : Zt) (H : Hp) (P : Bool → Prop) (Q : Bool → Hp → Prop), (∃ F, Rep F0 H0 F H (Z ++ T)) → f (Z.map Prod.snd) P → (∀ b, P b → ∀ H', (∃ F, Rep F0 H0 F H' (Z ++ T)) → Q b H') → t (Z.map Prod.fst) H Q
def pr (p : V × SV) : Option V × Option SV := (some p.1, some p.2)
class DA (F0 H0 : Hp) (t : TA) (f : outParam DAX) : Prop where
  run : ∀ (Z T : Zt) (H : Hp) (P : List SV → Prop) (Q : List V → Hp → Prop), (∃ F, Rep F0 H0 F H (Z ++ T)) → f (Z.map Prod.snd) P → (∀ A : List (V × SV), P (A.map Prod.snd) → ∀ H', (∃ F, Rep F0 H0 F H' (Z ++ (T ++ A.map pr))) → Q (A.map Prod.fst) H') → t (Z.map Prod.fst) H Q
/-- an operator, by values -/
class OpD (F0 H0 : Hp) (r : R2) (o : outParam (SV → SV → (SV → Prop) → Prop)) : Prop where
  run : ∀ (W : Zt) (x y : V) (sx sy : SV) (H : Hp) (P : SV → Prop) (Q : VK), (∃ F, Rep F0 H0 F H (W ++ [(some x, some sx), (some y, some sy)])) → o sx sy P → (∀ sv, P sv → ∀ v H', (∃ F, Rep F0 H0 F H' (W ++ [(some v, some sv)])) → Q v H') → r x y H Q
/-- a built-in, by values -/
class CbD (F0 H0 : Hp) (r : List V → Hp → VK → Prop) (o : outParam (List SV → (SV → Prop) → Prop)) : Prop where
  run : ∀ (W : Zt) (A : List (V × SV)) (H : Hp) (P : SV → Prop) (Q : VK), (∃ F, Rep F0 H0 F H (W ++ A.map pr)) → o (A.map Prod.snd) P → (∀ sv, P sv → ∀ v H', (∃ F, Rep F0 H0 F H' (W ++ [(some v, some sv)])) → Q v H') → r (A.map Prod.fst) H Q
section
variable {F0 H0 F H : Hp} {K : PySem.W.Frag}
theorem slot_of {Z : Zt} {i : Nat} {sv : SV} (h : (Z.map Prod.snd)[i]? = some (some sv)) : ∃ x, Z[i]? = some (x, some sv) := by
  rw [List.getElem?_map] at h
  cases e : Z[i]? with
  | none => rw [e] at h; cases h
  | some p =>
    rw [e] at h
    obtain ⟨x, y⟩ := p
    have h' : y = some sv := Option.some.inj h
    exact ⟨x, by rw [h']⟩
def dVar (i : Nat) : DX := fun σ P => match σ[i]? with | some (some sv) => P sv.al | _ => False
theorem slot_val {Z T : Zt} {i : Nat} {sv : SV} (r : Rep F0 H0 F H (Z ++ T)) (h : (Z.map Prod.snd)[i]? = some (some sv)) : ∃ v, Z[i]? = some (some v, some sv) ∧ (Z.map Prod.fst)[i]? = some (some v) ∧ RV H0 F H v sv := by
  obtain ⟨x, hx⟩ := slot_of h
  obtain ⟨v, e, rv⟩ := r.ok (x, some sv) (List.mem_append_left _ (List.mem_of_getElem? hx)) _ rfl
  have e' : x = some v := e
  subst e'
  exact ⟨v, hx, by rw [List.getElem?_map, hx]; rfl, rv⟩
theorem RV.al {v : V} {sv : SV} (r : RV H0 F H v sv) : RV H0 F H v sv.al := by
  cases sv with
  | val d => exact r
  | own ds => obtain ⟨a, vs, h1, _, h0, h2, h3⟩ := r; exact ⟨a, vs, h1, h0, h2, h3⟩
  | ali ds => exact r
  | raw u => exact r
  | ent ds => exact r
instance (i : Nat) : DE F0 H0 (tVar i) (dVar i) where
  run Z T H P Q := fun ⟨F, r⟩ h q => by
    unfold dVar at h
    cases e : (Z.map Prod.snd)[i]? with
    | none => rw [e] at h; exact h.elim
    | some o =>
      cases o with
      | none => rw [e] at h; exact h.elim
      | some sv =>
        rw [e] at h
        obtain ⟨v, h1, h2, rv⟩ := slot_val r e
        refine ⟨v, h2, q _ h v H ⟨F, ?_⟩⟩
        rw [← List.append_assoc]
        refine r.push rv.al fun a es _ e2 => ?_
        cases sv <;> cases e2
def dK (d : PyData) : DX := fun _ P => P (.val d)
def dRaw (v : V) : DX := fun _ P => P (.raw v)
instance (i : Int) : DE F0 H0 (tC (.int i)) (dK (.int i)) where
  run Z T H P Q := fun ⟨F, r⟩ h q => q _ h _ H ⟨F, by rw [← List.append_assoc]; exact r.pushV (.int i)⟩
instance (b : Bool) : DE F0 H0 (tC (.bl b)) (dK (.bool b)) where
  run Z T H P Q := fun ⟨F, r⟩ h q => q _ h _ H ⟨F, by rw [← List.append_assoc]; exact r.pushV (.bl b)⟩
instance (x : Str) : DE F0 H0 (tC (.str x)) (dK (.str x)) where
  run Z T H P Q := fun ⟨F, r⟩ h q => q _ h _ H ⟨F, by rw [← List.append_assoc]; exact r.pushV (.str x)⟩
instance : DE F0 H0 (tC .non) (dK .none) where
  run Z T H P Q := fun ⟨F, r⟩ h q => q _ h _ H ⟨F, by rw [← List.append_assoc]; exact r.pushV .non⟩
instance (n : String) : DE F0 H0 (tC (.ty n)) (dRaw (.ty n)) where
  run Z T H P Q := fun ⟨F, r⟩ h q => q _ h _ H ⟨F, by rw [← List.append_assoc]; exact r.pushR⟩
instance (a : Addr) : DE F0 H0 (tC (.ref a)) (dRaw (.ref a)) where
  run Z T H P Q := fun ⟨F, r⟩ h q => q _ h _ H ⟨F, by rw [← List.append_assoc]; exact r.pushR⟩
def dOp (o : SV → SV → (SV → Prop) → Prop) (fa fb : DX) : DX := fun σ P => fa σ fun x => fb σ fun y => o x y P
theorem app3 (Z T : Zt) (p q : Option V × Option SV) : Z ++ ((T ++ [p]) ++ [q]) = (Z ++ T) ++ [p, q] := by simp
instance {r : R2} {o} {ta tb : TE} {fa fb : DX} [ho : OpD F0 H0 r o] [ha : DE F0 H0 ta fa] [hb : DE F0 H0 tb fb] : DE F0 H0 (tOp r ta tb) (dOp o fa fb) where
  run Z T H P Q := fun hr h q => ha.run Z T H _ _ hr h fun x h1 vx H1 r1 => hb.run Z _ H1 _ _ r1 h1 fun y h2 vy H2 r2 => ho.run (Z ++ T) vx vy x y H2 P Q (by rw [← app3]; exact r2) h2 fun sv hp v H3 r3 => q sv hp v H3 (by rw [← List.append_assoc]; exact r3)
/-- two numbers -/
def oI (C : Int → Int → Prop) (g : Int → Int → PyData) : SV → SV → (SV → Prop) → Prop := fun x y P => match x.int?, y.int? with | some i, some j => C i j ∧ P (.val (g i j)) | _, _ => False
def oI0 (g : Int → Int → PyData) : SV → SV → (SV → Prop) → Prop := fun x y P => match x.int?, y.int? with | some i, some j => P (.val (g i j)) | _, _ => False
theorem two {W : Zt} {x y : V} {sx sy : SV} (r : Rep F0 H0 F H (W ++ [(some x, some sx), (some y, some sy)])) : Rep F0 H0 F H W ∧ RV H0 F H x sx ∧ RV H0 F H y sy := by
  refine ⟨r.left, ?_, ?_⟩
  · obtain ⟨w, e, h⟩ := r.ok (some x, some sx) (by simp) _ rfl
    cases e; exact h
  · obtain ⟨w, e, h⟩ := r.ok (some y, some sy) (by simp) _ rfl
    cases e; exact h
theorem oI_of {C : Int → Int → Prop} {g : Int → Int → PyData} {g' : Int → Int → V} {r : R2} (hg : ∀ F i j, Dv F (g' i j) (g i j)) (hr : ∀ i j H Q, C i j → Q (g' i j) H → r (.int i) (.int j) H Q) : OpD F0 H0 r (oI C g) where
  run W x y sx sy H P Q := fun ⟨F, re⟩ h q => by
    obtain ⟨r0, r1, r2⟩ := two re
    unfold oI at h
    cases e1 : sx.int? with
    | none => rw [e1] at h; exact h.elim
    | some i =>
      cases e2 : sy.int? with
      | none => rw [e1, e2] at h; exact h.elim
      | some j =>
        rw [e1, e2] at h
        rw [r1.int e1, r2.int e2]
        exact hr i j H Q h.1 (q _ h.2 _ H ⟨F, r0.pushV (hg _ i j)⟩)
theorem oI0_of {g : Int → Int → PyData} {g' : Int → Int → V} {r : R2} (hg : ∀ F i j, Dv F (g' i j) (g i j)) (hr : ∀ i j H Q, Q (g' i j) H → r (.int i) (.int j) H Q) : OpD F0 H0 r (oI0 g) where
  run W x y sx sy H P Q := fun ⟨F, re⟩ h q => by
    obtain ⟨r0, r1, r2⟩ := two re
    unfold oI0 at h
    cases e1 : sx.int? with
    | none => rw [e1] at h; exact h.elim
    | some i =>
      cases e2 : sy.int? with
      | none => rw [e1, e2] at h; exact h.elim
      | some j =>
        rw [e1, e2] at h
        rw [r1.int e1, r2.int e2]
        exact hr i j H Q (q _ h _ H ⟨F, r0.pushV (hg _ i j)⟩)
instance {C : Int → Int → Prop} {g : Int → Int → Int} : OpD F0 H0 (rI C fun i j => .int (g i j)) (oI C fun i j => .int (g i j)) := oI_of (fun _ i j => .int _) fun i j H Q c q => ⟨i, j, rfl, rfl, c, q⟩
instance {g : Int → Int → Int} : OpD F0 H0 (rI0 fun i j => .int (g i j)) (oI0 fun i j => .int (g i j)) := oI0_of (fun _ i j => .int _) fun i j H Q q => ⟨i, j, rfl, rfl, q⟩
instance {g : Int → Int → Bool} : OpD F0 H0 (rI0 fun i j => .bl (g i j)) (oI0 fun i j => .bool (g i j)) := oI0_of (fun _ i j => .bl _) fun i j H Q q => ⟨i, j, rfl, rfl, q⟩
instance {g : Int → Int → Int} : OpD F0 H0 (ipI g) (oI0 fun i j => .int (g i j)) := oI0_of (fun _ i j => .int _) fun i j H Q q => ⟨i, j, rfl, rfl, q⟩
instance : OpD F0 H0 rEq (oI0 fun i j => .bool (decide (i = j))) := oI0_of (g' := fun i j => .bl (decide (i = j))) (fun _ i j => .bl _) fun i j H Q q => ⟨rfl, by
  have : decide (V.int i = V.int j) = decide (i = j) := by by_cases h : i = j <;> simp [h]
  rw [this]; exact q⟩
instance : OpD F0 H0 rNe (oI0 fun i j => .bool (!decide (i = j))) := oI0_of (g' := fun i j => .bl (!decide (i = j))) (fun _ i j => .bl _) fun i j H Q q => ⟨rfl, by
  have : decide (V.int i = V.int j) = decide (i = j) := by by_cases h : i = j <;> simp [h]
  rw [this]; exact q⟩
/-- == of data -/
structure oEqD (neg : Bool) (x y : SV) (P : SV → Prop) : Prop where
  h : match x.dat?, y.dat? with | some d, some e => SeqAt.shaped d = true ∧ SeqAt.shaped e = true ∧ P (.val (.bool (if neg then !PyData.eqv d e else PyData.eqv d e))) | _, _ => False
theorem oEqD_run {neg : Bool} {r : R2} (hr : ∀ x y H Q d e, Dp K H x d → Dp K H y e → SeqAt.shaped d = true → SeqAt.shaped e = true → Q (.bl (if neg then !PyData.eqv d e else PyData.eqv d e)) H → r x y H Q) : OpD F0 H0 r (oEqD neg) where
  run W x y sx sy H P Q := fun ⟨F, re⟩ h q => by
    obtain ⟨r0, r1, r2⟩ := two re
    obtain ⟨h⟩ := h
    cases e1 : sx.dat? with
    | none => rw [e1] at h; exact h.elim
    | some d =>
      cases e2 : sy.dat? with
      | none => rw [e1, e2] at h; exact h.elim
      | some e =>
        rw [e1, e2] at h
        exact hr x y H Q d e (r1.dat re.low e1 (SeqAt.canLay_of_shaped h.1)) (r2.dat re.low e2 (SeqAt.canLay_of_shaped h.2.1)) h.1 h.2.1 (q _ h.2.2 _ H ⟨F, r0.pushV (.bl _)⟩)
instance : OpD F0 H0 (rEqD K) (oEqD false) := oEqD_run fun x y H Q d e h1 h2 h3 h4 q => ⟨d, e, h1, h2, h3, h4, q⟩
instance : OpD F0 H0 (rNeD K) (oEqD true) := oEqD_run fun x y H Q d e h1 h2 h3 h4 q => ⟨d, e, h1, h2, h3, h4, q⟩
def SV.isN : SV → Bool
  | .val .none => true
  | .raw v => decide (v = .non)
  | _ => false
theorem RV.isN {v : V} {sv : SV} (r : RV H0 F H v sv) : decide (v = .non) = sv.isN := by
  cases sv with
  | val d =>
    cases r <;> first | rfl | simp [SV.isN]
  | own ds => obtain ⟨a, vs, rfl, _⟩ := r; rfl
  | ali ds => obtain ⟨a, vs, rfl, _⟩ := r; rfl
  | raw u => cases r; rfl
  | ent ds => obtain ⟨a, vs, rfl, _⟩ := r; rfl
def oIsN (neg : Bool) : SV → SV → (SV → Prop) → Prop := fun x y P => match y with | .val .none => P (.val (.bool (if neg then !x.isN else x.isN))) | _ => False
theorem oIsN_run {neg : Bool} {r : R2} (hr : ∀ x H Q, Q (.bl (if neg then !decide (x = .non) else decide (x = .non))) H → r x .non H Q) : OpD F0 H0 r (oIsN neg) where
  run W x y sx sy H P Q := fun ⟨F, re⟩ h q => by
    obtain ⟨r0, r1, r2⟩ := two re
    match sy, h, r2 with
    | .val .none, h, r2 =>
      cases r2
      refine hr x H Q ?_
      rw [r1.isN]
      exact q _ h _ H ⟨F, r0.pushV (.bl _)⟩
instance : OpD F0 H0 (fun x y H Q => y = .non ∧ Q (.bl (decide (x = .non))) H) (oIsN false) := oIsN_run fun x H Q q => ⟨rfl, q⟩
instance : OpD F0 H0 (fun x y H Q => y = .non ∧ Q (.bl (!decide (x = .non))) H) (oIsN true) := oIsN_run fun x H Q q => ⟨rfl, q⟩
/-- xs[i] -/
def oIx : SV → SV → (SV → Prop) → Prop := fun x y P => match x.items?, y.int? with | some ds, some i => ∃ d, atI ds i = some d ∧ P (.val d) | _, _ => False
theorem atI_all {vs : List V} {ds : List PyData} {i : Int} {d : PyData} (h : DvAll F vs ds) (e : atI ds i = some d) : ∃ v, atI vs i = some v ∧ Dv F v d := by
  unfold atI at e ⊢
  rw [h.length]
  cases k : ixN ds.length i with
  | none => rw [k] at e; cases e
  | some j =>
    rw [k] at e
    obtain ⟨v, h1, h2⟩ := h.get (i := j) (d := d) e
    exact ⟨v, h1, h2⟩
instance : OpD F0 H0 (rIxL K) oIx where
  run W x y sx sy H P Q := fun ⟨F, re⟩ h q => by
    obtain ⟨r0, r1, r2⟩ := two re
    unfold oIx at h
    cases e1 : sx.items? with
    | none => rw [e1] at h; exact h.elim
    | some ds =>
      cases e2 : sy.int? with
      | none => rw [e1, e2] at h; exact h.elim
      | some i =>
        rw [e1, e2] at h
        obtain ⟨d, hd, hp⟩ := h
        obtain ⟨a, vs, rfl, ha, hv⟩ := r1.items re.low e1
        obtain ⟨v, h1, h2⟩ := atI_all hv hd
        exact ⟨a, vs, i, v, rfl, r2.int e2, SqL.of ha, h1, q _ hp v H ⟨F, r0.pushV h2⟩⟩
def oIxT : SV → SV → (SV → Prop) → Prop := fun x y P => match x.tup?, y.int? with | some ds, some i => ∃ d, atI ds i = some d ∧ P (.val d) | _, _ => False
instance : OpD F0 H0 (rIxT K) oIxT where
  run W x y sx sy H P Q := fun ⟨F, re⟩ h q => by
    obtain ⟨r0, r1, r2⟩ := two re
    unfold oIxT at h
    cases e1 : sx.tup? with
    | none => rw [e1] at h; exact h.elim
    | some ds =>
      cases e2 : sy.int? with
      | none => rw [e1, e2] at h; exact h.elim
      | some i =>
        rw [e1, e2] at h
        obtain ⟨d, hd, hp⟩ := h
        obtain ⟨a, vs, rfl, ha, hv⟩ := r1.tup re.low e1
        obtain ⟨v, h1, h2⟩ := atI_all hv hd
        exact ⟨a, vs, i, v, rfl, r2.int e2, SqT.of ha, h1, q _ hp v H ⟨F, r0.pushV h2⟩⟩
def oCat : SV → SV → (SV → Prop) → Prop := fun x y P => match x.items?, y.items? with | some ds, some es => ds.length + es.length ≤ sizeLine ∧ P (.own (ds ++ es)) | _, _ => False
instance : OpD F0 H0 rCat oCat where
  run W x y sx sy H P Q := fun ⟨F, re⟩ h q => by
    obtain ⟨r0, r1, r2⟩ := two re
    unfold oCat at h
    cases e1 : sx.items? with
    | none => rw [e1] at h; exact h.elim
    | some ds =>
      cases e2 : sy.items? with
      | none => rw [e1, e2] at h; exact h.elim
      | some es =>
        rw [e1, e2] at h
        obtain ⟨hl, hp⟩ := h
        obtain ⟨a, vs, rfl, ha, hv⟩ := r1.items re.low e1
        obtain ⟨b, ws, rfl, hb, hw⟩ := r2.items re.low e2
        exact ⟨a, b, vs, ws, rfl, rfl, ha, hb, by rw [hv.length, hw.length]; exact hl, fun p np => q _ hp _ _ ⟨F, r0.pushL np (hv.app hw)⟩⟩
def oRep : SV → SV → (SV → Prop) → Prop := fun x y P => match x.items?, y.int? with | some ds, some k => k < 2 ^ 63 ∧ -(2 ^ 63) ≤ k ∧ ds.length * k.toNat ≤ sizeLine ∧ P (.own (List.replicate k.toNat ds).flatten) | _, _ => False
instance : OpD F0 H0 rRep oRep where
  run W x y sx sy H P Q := fun ⟨F, re⟩ h q => by
    obtain ⟨r0, r1, r2⟩ := two re
    unfold oRep at h
    cases e1 : sx.items? with
    | none => rw [e1] at h; exact h.elim
    | some ds =>
      cases e2 : sy.int? with
      | none => rw [e1, e2] at h; exact h.elim
      | some k =>
        rw [e1, e2] at h
        obtain ⟨h1, h2, h3, hp⟩ := h
        obtain ⟨a, vs, rfl, ha, hv⟩ := r1.items re.low e1
        exact ⟨a, k, vs, rfl, r2.int e2, ha, h2, h1, by rw [hv.length]; exact h3, fun p np => q _ hp _ _ ⟨F, r0.pushL np (hv.rep _)⟩⟩
/-- one value -/
def dUn (g : Int → Int) (fa : DX) : DX := fun σ P => fa σ fun x => match x.int? with | some i => P (.val (.int (g i))) | none => False
theorem one_tmp {Z T : Zt} {v : V} {sv : SV} (r : Rep F0 H0 F H (Z ++ (T ++ [(some v, some sv)]))) : Rep F0 H0 F H (Z ++ T) ∧ RV H0 F H v sv := by
  rw [← List.append_assoc] at r
  exact ⟨r.left, r.last⟩
theorem put_tmp {Z T : Zt} {v : V} {d : PyData} (r : Rep F0 H0 F H (Z ++ T)) (h : Dv F v d) : Rep F0 H0 F H (Z ++ (T ++ [(some v, some (.val d))])) := by
  rw [← List.append_assoc]
  exact r.pushV h
instance {g : Int → Int} {ta : TE} {fa : DX} [ha : DE F0 H0 ta fa] : DE F0 H0 (tUn (rU fun i => .int (g i)) ta) (dUn g fa) where
  run Z T H P Q := fun hr h q => ha.run Z T H _ _ hr h fun x h1 vx H1 ⟨F, r1⟩ => by
    cases e : x.int? with
    | none => rw [e] at h1; exact h1.elim
    | some i =>
      rw [e] at h1
      obtain ⟨r0, rx⟩ := one_tmp r1
      exact ⟨i, rx.int e, q _ h1 _ _ ⟨F, put_tmp r0 (.int _)⟩⟩
/-! ### tests -/
def dTest (fa : DX) : DTX := fun σ P => fa σ fun x => match x.bool? with | some b => P b | none => False
instance {ta : TE} {fa : DX} [ha : DE F0 H0 ta fa] : DT F0 H0 (tTest ta) (dTest fa) where
  run Z T H P Q := fun hr h q => ha.run Z T H _ _ hr h fun x h1 vx H1 ⟨F, r1⟩ => by
    cases e : x.bool? with
    | none => rw [e] at h1; exact h1.elim
    | some b =>
      rw [e] at h1
      obtain ⟨r0, rx⟩ := one_tmp r1
      exact ⟨b, rx.bool e, q _ h1 _ ⟨F, r0⟩⟩
instance {ta : TE} {fa : DX} [ha : DE F0 H0 ta fa] : DT F0 H0 (tB ta) (dTest fa) where
  run Z T H P Q := fun hr h q => ha.run Z T H _ _ hr h fun x h1 vx H1 ⟨F, r1⟩ => by
    cases e : x.bool? with
    | none => rw [e] at h1; exact h1.elim
    | some b =>
      rw [e] at h1
      obtain ⟨r0, rx⟩ := one_tmp r1
      exact ⟨b, rx.bool e, q _ h1 _ ⟨F, r0⟩⟩
def dAnd (fa fb : DTX) : DTX := fun σ P => fa σ fun b => Br b (fb σ P) (P false)
def dOr (fa fb : DTX) : DTX := fun σ P => fa σ fun b => Br b (P true) (fb σ P)
def dNot (fa : DTX) : DTX := fun σ P => fa σ fun b => P (!b)
instance {ta tb : TT} {fa fb : DTX} [ha : DT F0 H0 ta fa] [hb : DT F0 H0 tb fb] : DT F0 H0 (tAnd ta tb) (dAnd fa fb) where
  run Z T H P Q := fun hr h q => ha.run Z T H _ _ hr h fun b h1 H1 r1 => by
    cases b with
    | true => exact iteT (hb.run Z T H1 P Q r1 h1.t q)
    | false => exact iteF (q _ h1.f _ r1)
instance {ta tb : TT} {fa fb : DTX} [ha : DT F0 H0 ta fa] [hb : DT F0 H0 tb fb] : DT F0 H0 (tOr ta tb) (dOr fa fb) where
  run Z T H P Q := fun hr h q => ha.run Z T H _ _ hr h fun b h1 H1 r1 => by
    cases b with
    | true => exact iteT (q _ h1.t _ r1)
    | false => exact iteF (hb.run Z T H1 P Q r1 h1.f q)
instance {ta : TT} {fa : DTX} [ha : DT F0 H0 ta fa] : DT F0 H0 (tNot ta) (dNot fa) where
  run Z T H P Q := fun hr h q => ha.run Z T H _ _ hr h fun b h1 H1 r1 => q _ h1 _ r1
/-- truth of a value -/
def tTru (K : PySem.W.Frag) (ta : TE) : TT := fun σ H Q => ta σ H fun x H' => ∃ k, TruV K x H' k ∧ Q k H'
theorem pt_tru {X : Cx} {a : Expr} {ta : TE} (ha : PE X a ta) (he : ∀ whole, isTrue a X.env whole = (do let v ← whole; standAt a.pos; holding [v] (truthy v))) : PT X a (tTru X.K ta) := pt_truth ha he
def SV.tru? : SV → Option Bool
  | .val .none => some false
  | .val (.bool b) => some b
  | .val (.int i) => some (i != 0)
  | .val (.list ds) => some (!ds.isEmpty)
  | .own ds => some (!ds.isEmpty)
  | .ali ds => some (!ds.isEmpty)
  | _ => none
def dTru (fa : DX) : DTX := fun σ P => fa σ fun x => match x.tru? with | some b => P b | none => False
theorem all_empty : ∀ {vs : List V} {ds : List PyData}, DvAll F vs ds → vs.isEmpty = ds.isEmpty
  | _, _, .nil => rfl
  | _, _, .cons _ _ => rfl
theorem RV.tru {v : V} {sv : SV} {k : Bool} (r : RV H0 F H v sv) (l : Same F H) (e : sv.tru? = some k) : TruV K v H k := by
  match sv, r, e with
  | .val .none, r, e => cases e; cases r; rfl
  | .val (.bool b), r, e => cases e; cases r; rfl
  | .val (.int i), r, e => cases e; cases r; rfl
  | .val (.list ds), r, e =>
    cases e
    cases r with
    | lst h hs => exact .inl ⟨_, SqL.of (l _ _ h), by rw [all_empty hs]⟩
  | .own ds, r, e => cases e; obtain ⟨a, vs, rfl, _, _, h, hs⟩ := r; exact .inl ⟨_, SqL.of h, by rw [all_empty hs]⟩
  | .ali ds, r, e => cases e; obtain ⟨a, vs, rfl, _, h, hs⟩ := r; exact .inl ⟨_, SqL.of h, by rw [all_empty hs]⟩
instance {ta : TE} {fa : DX} [ha : DE F0 H0 ta fa] : DT F0 H0 (tTru K ta) (dTru fa) where
  run Z T H P Q := fun hr h q => ha.run Z T H _ _ hr h fun x h1 vx H1 ⟨F, r1⟩ => by
    cases e : x.tru? with
    | none => rw [e] at h1; exact h1.elim
    | some b =>
      rw [e] at h1
      obtain ⟨r0, rx⟩ := one_tmp r1
      exact ⟨b, rx.tru r1.low e, q _ h1 _ ⟨F, r0⟩⟩
/-! ### and, or, not as values; a if t else b -/
def dAndV (fa fb : DX) : DX := fun σ P => fa σ fun x => match x.bool? with | some b => Br b (fb σ P) (P (.val (.bool false))) | none => False
def dOrV (fa fb : DX) : DX := fun σ P => fa σ fun x => match x.bool? with | some b => Br b (P (.val (.bool true))) (fb σ P) | none => False
def dNotV (fa : DX) : DX := fun σ P => fa σ fun x => match x.bool? with | some b => P (.val (.bool (!b))) | none => False
def dIf (fc : DTX) (fa fb : DX) : DX := fun σ P => fc σ fun b => Br b (fa σ P) (fb σ P)
instance {ta tb : TE} {fa fb : DX} [ha : DE F0 H0 ta fa] [hb : DE F0 H0 tb fb] : DE F0 H0 (tAndV ta tb) (dAndV fa fb) where
  run Z T H P Q := fun hr h q => ha.run Z T H _ _ hr h fun x h1 vx H1 ⟨F, r1⟩ => by
    cases e : x.bool? with
    | none => rw [e] at h1; exact h1.elim
    | some b =>
      rw [e] at h1
      obtain ⟨r0, rx⟩ := one_tmp r1
      refine ⟨b, rx.bool e, ?_⟩
      cases b with
      | true => exact iteT (hb.run Z T H1 P Q ⟨F, r0⟩ h1.t q)
      | false => exact iteF (q _ h1.f _ _ ⟨F, put_tmp r0 (.bl _)⟩)
instance {ta tb : TE} {fa fb : DX} [ha : DE F0 H0 ta fa] [hb : DE F0 H0 tb fb] : DE F0 H0 (tOrV ta tb) (dOrV fa fb) where
  run Z T H P Q := fun hr h q => ha.run Z T H _ _ hr h fun x h1 vx H1 ⟨F, r1⟩ => by
    cases e : x.bool? with
    | none => rw [e] at h1; exact h1.elim
    | some b =>
      rw [e] at h1
      obtain ⟨r0, rx⟩ := one_tmp r1
      refine ⟨b, rx.bool e, ?_⟩
      cases b with
      | true => exact iteT (q _ h1.t _ _ ⟨F, put_tmp r0 (.bl _)⟩)
      | false => exact iteF (hb.run Z T H1 P Q ⟨F, r0⟩ h1.f q)
instance {ta : TE} {fa : DX} [ha : DE F0 H0 ta fa] : DE F0 H0 (tNotV ta) (dNotV fa) where
  run Z T H P Q := fun hr h q => ha.run Z T H _ _ hr h fun x h1 vx H1 ⟨F, r1⟩ => by
    cases e : x.bool? with
    | none => rw [e] at h1; exact h1.elim
    | some b =>
      rw [e] at h1
      obtain ⟨r0, rx⟩ := one_tmp r1
      exact ⟨b, rx.bool e, q _ h1 _ _ ⟨F, put_tmp r0 (.bl _)⟩⟩
instance {tc : TT} {ta tb : TE} {fc : DTX} {fa fb : DX} [hc : DT F0 H0 tc fc] [ha : DE F0 H0 ta fa] [hb : DE F0 H0 tb fb] : DE F0 H0 (tIf tc ta tb) (dIf fc fa fb) where
  run Z T H P Q := fun hr h q => hc.run Z T H _ _ hr h fun b h1 H1 r1 => by
    cases b with
    | true => exact iteT (ha.run Z T H1 P Q r1 h1.t q)
    | false => exact iteF (hb.run Z T H1 P Q r1 h1.f q)
/-- a < b < c -/
def dChain (o o' : SV → SV → (SV → Prop) → Prop) (fa fb fc : DX) : DX := fun σ P => fa σ fun x => fb σ fun y => o x y.al fun z => match z.bool? with | some b => Br b (fc σ fun w => o' y w P) (P (.val (.bool false))) | none => False
/-! ### arguments, displays -/
def dNil : DAX := fun _ P => P []
def dCons (fa : DX) (fr : DAX) : DAX := fun σ P => fa σ fun x => fr σ fun xs => P (x :: xs)
instance : DA F0 H0 tNil dNil where
  run Z T H P Q := fun hr h q => q [] h H (by simpa using hr)
instance {ta : TE} {tr : TA} {fa : DX} {fr : DAX} [ha : DE F0 H0 ta fa] [hb : DA F0 H0 tr fr] : DA F0 H0 (tCons ta tr) (dCons fa fr) where
  run Z T H P Q := fun hr h q => ha.run Z T H _ _ hr h fun x h1 vx H1 r1 => hb.run Z _ H1 _ _ r1 h1 fun A h2 H2 r2 => q ((vx, x) :: A) h2 H2 (by
    obtain ⟨F, r2⟩ := r2
    refine ⟨F, ?_⟩
    simpa [pr] using r2)
def allFix : List SV → Option (List PyData)
  | [] => some []
  | x :: xs => match x.fix?, allFix xs with | some d, some ds => some (d :: ds) | _, _ => none
theorem Rep.fixAll : ∀ {A : List (V × SV)} {W : Zt} {F : Hp} {ds : List PyData}, Rep F0 H0 F H (W ++ A.map pr) → allFix (A.map Prod.snd) = some ds → ∃ F', Rep F0 H0 F' H W ∧ DvAll F' (A.map Prod.fst) ds
  | [], W, F, ds, r, e => by cases e; exact ⟨F, r.left, .nil⟩
  | (v, sv) :: A, W, F, ds, r, e => by
    simp only [List.map_cons, allFix] at e
    cases e1 : sv.fix? with
    | none => rw [e1] at e; cases e
    | some d =>
      cases e2 : allFix (A.map Prod.snd) with
      | none => rw [e1, e2] at e; cases e
      | some es =>
        rw [e1, e2] at e
        cases e
        have r' : Rep F0 H0 F H (W ++ (some v, some sv) :: A.map pr) := r
        have r1 : ∃ F1, Rep F0 H0 F1 H (W ++ (some v, some (.val d)) :: A.map pr) := by
          match sv, e1, r' with
          | .val d', e1, r' => cases e1; exact ⟨F, r'⟩
          | .own es', e1, r' => cases e1; exact r'.freeze
        obtain ⟨F1, r1⟩ := r1
        have r2 : Rep F0 H0 F1 H ((W ++ [(some v, some (.val d))]) ++ A.map pr) := by simpa using r1
        obtain ⟨F2, r3, hs⟩ := Rep.fixAll (W := W ++ [(some v, some (.val d))]) r2 e2
        exact ⟨F2, r3.left, .cons r3.last hs⟩
def dLst (fa : DAX) : DX := fun σ P => fa σ fun xs => match allFix xs with | some ds => ds.length ≤ sizeLine ∧ P (.own ds) | none => False
def dTup (fa : DAX) : DX := fun σ P => fa σ fun xs => match allFix xs with | some ds => ds.length ≤ sizeLine ∧ P (.val (.tuple ds)) | none => False
instance {ta : TA} {fa : DAX} [ha : DA F0 H0 ta fa] : DE F0 H0 (tLst ta) (dLst fa) where
  run Z T H P Q := fun hr h q => ha.run Z T H _ _ hr h fun A h1 H1 ⟨F, r1⟩ => by
    cases e : allFix (A.map Prod.snd) with
    | none => rw [e] at h1; exact h1.elim
    | some ds =>
      rw [e] at h1
      rw [← List.append_assoc] at r1
      obtain ⟨F', r2, hs⟩ := r1.fixAll e
      exact ⟨by rw [hs.length]; exact h1.1, fun p np => q _ h1.2 _ _ ⟨F', by rw [← List.append_assoc]; exact r2.pushL np hs⟩⟩
instance {ta : TA} {fa : DAX} [ha : DA F0 H0 ta fa] : DE F0 H0 (tTup ta) (dTup fa) where
  run Z T H P Q := fun hr h q => ha.run Z T H _ _ hr h fun A h1 H1 ⟨F, r1⟩ => by
    cases e : allFix (A.map Prod.snd) with
    | none => rw [e] at h1; exact h1.elim
    | some ds =>
      rw [e] at h1
      rw [← List.append_assoc] at r1
      obtain ⟨F', r2, hs⟩ := r1.fixAll e
      exact ⟨by rw [hs.length]; exact h1.1, fun p np => q _ h1.2 _ _ ⟨_, by rw [← List.append_assoc]; exact r2.pushT np hs⟩⟩
end
end DL
/-! Reading by data: built-ins, slices, calls, comprehensions. -/
namespace DL
open PySem PySem.Spec PyProof.Rows L2 NB
section
variable {F0 H0 F H : Hp} {K : PySem.W.Frag}
instance {r r' : R2} {o o'} {ta tb tc : TE} {fa fb fc : DX} [ho : OpD F0 H0 r o] [ho' : OpD F0 H0 r' o'] [ha : DE F0 H0 ta fa] [hb : DE F0 H0 tb fb] [hc : DE F0 H0 tc fc] : DE F0 H0 (tChain r r' ta tb tc) (dChain o o' fa fb fc) where
  run Z T H P Q := fun hr h q => ha.run Z T H _ _ hr h fun x h1 vx H1 r1 => hb.run Z _ H1 _ _ r1 h1 fun y h2 vy H2 ⟨F2, r2⟩ => by
    -- the second value stays
    have r2' : Rep F0 H0 F2 H2 ((Z ++ T ++ [(some vy, some y)]) ++ [(some vx, some x), (some vy, some (SV.al y))]) := by
      have r3 : Rep F0 H0 F2 H2 ((Z ++ T) ++ [(some vx, some x), (some vy, some y)]) := by rw [← app3]; exact r2
      have r4 : Rep F0 H0 F2 H2 ((Z ++ T ++ [(some vy, some y)]) ++ [(some vx, some x)]) := r3.perm (by
        have e : (Z ++ T ++ [(some vy, some y)]) ++ [(some vx, some x)] = (Z ++ T) ++ [(some vy, some y), (some vx, some x)] := by simp
        rw [e]
        exact List.Perm.append_left (Z ++ T) (List.Perm.swap _ _ _))
      have r5 := r4.push (v := vy) (sv := SV.al y) (RV.al (two r3).2.2) (fun a es _ e2 => by cases y <;> cases e2)
      simpa using r5
    refine ho.run _ vx vy x (SV.al y) H2 _ _ ⟨F2, r2'⟩ h2 fun z hz vz H3 ⟨F3, r3⟩ => ?_
    cases e : z.bool? with
    | none => rw [e] at hz; exact hz.elim
    | some b =>
      rw [e] at hz
      have rz := r3.last.bool e
      have r4 := r3.left
      refine ⟨b, rz, ?_⟩
      cases b with
      | true =>
        refine iteT ?_
        have hz' : fc (Z.map Prod.snd) fun w => o' y w P := hz.t
        exact hc.run Z (T ++ [(some vy, some y)]) H3 _ _ ⟨F3, by rw [← List.append_assoc]; exact r4⟩ hz' fun w hw vw H4 r5 => ho'.run (Z ++ T) vy vw y w H4 P Q (by rw [← app3]; exact r5) hw fun sv hp v H5 r6 => q sv hp v H5 (by rw [← List.append_assoc]; exact r6)
      | false => exact iteF (q _ hz.f _ _ ⟨F3, put_tmp r4.left (.bl _)⟩)
/-! ### built-ins -/
instance {r} {o} {ta : TA} {fa : DAX} [hc : CbD F0 H0 r o] [ha : DA F0 H0 ta fa] : DE F0 H0 (tCB r ta) (fun σ P => fa σ fun xs => o xs P) where
  run Z T H P Q := fun hr h q => ha.run Z T H _ _ hr h fun A h1 H1 r1 => hc.run (Z ++ T) A H1 P Q (by rw [List.append_assoc]; exact r1) h1 fun sv hp v H2 r2 => q sv hp v H2 (by rw [← List.append_assoc]; exact r2)
theorem one_arg {W : Zt} {v : V} {sv : SV} (r : Rep F0 H0 F H (W ++ [(v, sv)].map pr)) : Rep F0 H0 F H W ∧ RV H0 F H v sv := ⟨r.left, Rep.last r⟩
theorem two_arg {W : Zt} {v w : V} {sv sw : SV} (r : Rep F0 H0 F H (W ++ [(v, sv), (w, sw)].map pr)) : Rep F0 H0 F H W ∧ RV H0 F H v sv ∧ RV H0 F H w sw := two r
/-- a rule of one argument -/
theorem CbD.one {r : List V → Hp → VK → Prop} {o : SV → (SV → Prop) → Prop}
    (h : ∀ (W : Zt) (x : V) (sx : SV) (H F : Hp) (P : SV → Prop) (Q : VK), Rep F0 H0 F H W → RV H0 F H x sx → Same F H → o sx P → (∀ sv, P sv → ∀ v H', (∃ F, Rep F0 H0 F H' (W ++ [(some v, some sv)])) → Q v H') → r [x] H Q) :
    CbD F0 H0 r (fun xs P => match xs with | [x] => o x P | _ => False) where
  run W A H P Q := fun ⟨F, re⟩ ho q => by
    rcases A with _ | ⟨⟨x, sx⟩, _ | ⟨q, A⟩⟩
    all_goals first | exact False.elim ho | skip
    · obtain ⟨r0, r1⟩ := one_arg re; exact h W x sx H F P Q r0 r1 re.low ho q
theorem CbD.two {r : List V → Hp → VK → Prop} {o : SV → SV → (SV → Prop) → Prop}
    (h : ∀ (W : Zt) (x y : V) (sx sy : SV) (H F : Hp) (P : SV → Prop) (Q : VK), Rep F0 H0 F H W → RV H0 F H x sx → RV H0 F H y sy → Same F H → o sx sy P → (∀ sv, P sv → ∀ v H', (∃ F, Rep F0 H0 F H' (W ++ [(some v, some sv)])) → Q v H') → r [x, y] H Q) :
    CbD F0 H0 r (fun xs P => match xs with | [x, y] => o x y P | _ => False) where
  run W A H P Q := fun ⟨F, re⟩ ho q => by
    rcases A with _ | ⟨⟨x, sx⟩, _ | ⟨⟨y, sy⟩, _ | ⟨q, A⟩⟩⟩
    all_goals first | exact False.elim ho | skip
    · obtain ⟨r0, r1, r2⟩ := two_arg re; exact h W x y sx sy H F P Q r0 r1 r2 re.low ho q
def bLen : SV → (SV → Prop) → Prop := fun x P => match x.items? with
  | some ds => P (.val (.int ds.length))
  | none => match x.tup? with
    | some ds => P (.val (.int ds.length))
    | none => False
instance : CbD F0 H0 (fun xs H Q => ∃ p ys, xs = [.ref p] ∧ (SqL K H p ys ∨ SqT K H p ys) ∧ Q (.int ys.length) H) (fun xs P => match xs with | [x] => bLen x P | _ => False) :=
  .one fun W x sx H F P Q r rx l h q => by
    unfold bLen at h
    cases e : sx.items? with
    | some ds =>
      rw [e] at h
      obtain ⟨a, vs, rfl, ha, hv⟩ := rx.items l e
      exact ⟨a, vs, rfl, .inl (SqL.of ha), q _ h _ _ ⟨F, by rw [hv.length]; exact r.pushV (.int _)⟩⟩
    | none =>
      rw [e] at h
      cases e2 : sx.tup? with
      | none => rw [e2] at h; exact h.elim
      | some ds =>
        rw [e2] at h
        obtain ⟨a, vs, rfl, ha, hv⟩ := rx.tup l e2
        exact ⟨a, vs, rfl, .inr (SqT.of ha), q _ h _ _ ⟨F, by rw [hv.length]; exact r.pushV (.int _)⟩⟩
def bInt : SV → (SV → Prop) → Prop := fun x P => match x.int? with
  | some i => P (.val (.int i))
  | none => match x.bool? with
    | some b => P (.val (.int (if b then 1 else 0)))
    | none => False
instance : CbD F0 H0 (fun xs H Q => (∃ i, xs = [.int i] ∧ Q (.int i) H) ∨ ∃ k, xs = [.bl k] ∧ Q (.int (if k then 1 else 0)) H) (fun xs P => match xs with | [x] => bInt x P | _ => False) :=
  .one fun W x sx H F P Q r rx l h q => by
    unfold bInt at h
    cases e : sx.int? with
    | some i => rw [e] at h; rw [rx.int e]; exact .inl ⟨i, rfl, q _ h _ _ ⟨F, r.pushV (.int _)⟩⟩
    | none =>
      rw [e] at h
      cases e2 : sx.bool? with
      | none => rw [e2] at h; exact h.elim
      | some b => rw [e2] at h; rw [rx.bool e2]; exact .inr ⟨b, rfl, q _ h _ _ ⟨F, r.pushV (.int _)⟩⟩
def bI1 (g : Int → Int) : SV → (SV → Prop) → Prop := fun x P => match x.int? with | some i => P (.val (.int (g i))) | none => False
def bI2 (g : Int → Int → Int) : SV → SV → (SV → Prop) → Prop := fun x y P => match x.int?, y.int? with | some i, some j => P (.val (.int (g i j))) | _, _ => False
instance {g : Int → Int} : CbD F0 H0 (fun xs H Q => ∃ i : Int, xs = [.int i] ∧ Q (.int (g i)) H) (fun xs P => match xs with | [x] => bI1 g x P | _ => False) :=
  .one fun W x sx H F P Q r rx l h q => by
    unfold bI1 at h
    cases e : sx.int? with
    | none => rw [e] at h; exact h.elim
    | some i => rw [e] at h; exact ⟨i, by rw [rx.int e], q _ h _ _ ⟨F, r.pushV (.int _)⟩⟩
instance {g : Int → Int → Int} : CbD F0 H0 (fun xs H Q => ∃ i j : Int, xs = [.int i, .int j] ∧ Q (.int (g i j)) H) (fun xs P => match xs with | [x, y] => bI2 g x y P | _ => False) :=
  .two fun W x y sx sy H F P Q r rx ry l h q => by
    unfold bI2 at h
    cases e : sx.int? with
    | none => rw [e] at h; exact h.elim
    | some i =>
      cases e2 : sy.int? with
      | none => rw [e, e2] at h; exact h.elim
      | some j => rw [e, e2] at h; exact ⟨i, j, by rw [rx.int e, ry.int e2], q _ h _ _ ⟨F, r.pushV (.int _)⟩⟩
def bList : SV → (SV → Prop) → Prop := fun x P => match x.items? with
  | some ds => P (.own ds)
  | none => match x.tup? with
    | some ds => P (.own ds)
    | none => False
instance : CbD F0 H0 (fun xs H Q => ∃ p ys, xs = [.ref p] ∧ (SqL K H p ys ∨ SqT K H p ys) ∧ ∀ l, H l = none → Q (.ref l) (upd H l (.lst ys))) (fun xs P => match xs with | [x] => bList x P | _ => False) :=
  .one fun W x sx H F P Q r rx l h q => by
    unfold bList at h
    cases e : sx.items? with
    | some ds =>
      rw [e] at h
      obtain ⟨a, vs, rfl, ha, hv⟩ := rx.items l e
      exact ⟨a, vs, rfl, .inl (SqL.of ha), fun p np => q _ h _ _ ⟨F, r.pushL np hv⟩⟩
    | none =>
      rw [e] at h
      cases e2 : sx.tup? with
      | none => rw [e2] at h; exact h.elim
      | some ds =>
        rw [e2] at h
        obtain ⟨a, vs, rfl, ha, hv⟩ := rx.tup l e2
        exact ⟨a, vs, rfl, .inr (SqT.of ha), fun p np => q _ h _ _ ⟨F, r.pushL np hv⟩⟩
/-- lists of ints -/
def LI (ns : List Int) : List PyData := ns.map PyData.int
theorem all_ints : ∀ {vs : List V} {ns : List Int}, DvAll F vs (LI ns) → vs = ns.map V.int
  | _, [], h => by cases h; rfl
  | _, n :: ns, h => by
    unfold LI at h
    cases h with
    | cons h hs => cases h; rw [all_ints hs]; rfl
theorem all_bools : ∀ {vs : List V} {bs : List Bool}, DvAll F vs (bs.map PyData.bool) → vs = bs.map V.bl
  | _, [], h => by cases h; rfl
  | _, n :: ns, h => by
    cases h with
    | cons h hs => cases h; rw [all_bools hs]; rfl
def bMax : SV → (SV → Prop) → Prop := fun x P => ∃ ns : List Int, x.items? = some (LI ns) ∧ 0 < ns.length ∧ ∀ m, m ∈ ns → (∀ y, y ∈ ns → y ≤ m) → P (.val (.int m))
def bMin : SV → (SV → Prop) → Prop := fun x P => ∃ ns : List Int, x.items? = some (LI ns) ∧ 0 < ns.length ∧ ∀ m, m ∈ ns → (∀ y, y ∈ ns → m ≤ y) → P (.val (.int m))
def bSum : SV → (SV → Prop) → Prop := fun x P => ∃ ns : List Int, x.items? = some (LI ns) ∧ P (.val (.int ns.sum))
def bAny : SV → (SV → Prop) → Prop := fun x P => ∃ bs : List Bool, x.items? = some (bs.map PyData.bool) ∧ P (.val (.bool (bs.any id)))
def bAll : SV → (SV → Prop) → Prop := fun x P => ∃ bs : List Bool, x.items? = some (bs.map PyData.bool) ∧ P (.val (.bool (bs.all id)))
instance : CbD F0 H0 (rMax K) (fun xs P => match xs with | [x] => bMax x P | _ => False) :=
  .one fun W x sx H F P Q r rx l ⟨ns, e, hl, h⟩ q => by
    obtain ⟨a, vs, rfl, ha, hv⟩ := rx.items l e
    rw [all_ints hv] at ha
    exact ⟨a, ns, rfl, SqL.of ha, hl, fun m h1 h2 => q _ (h m h1 h2) _ _ ⟨F, r.pushV (.int _)⟩⟩
instance : CbD F0 H0 (rMin K) (fun xs P => match xs with | [x] => bMin x P | _ => False) :=
  .one fun W x sx H F P Q r rx l ⟨ns, e, hl, h⟩ q => by
    obtain ⟨a, vs, rfl, ha, hv⟩ := rx.items l e
    rw [all_ints hv] at ha
    exact ⟨a, ns, rfl, SqL.of ha, hl, fun m h1 h2 => q _ (h m h1 h2) _ _ ⟨F, r.pushV (.int _)⟩⟩
instance : CbD F0 H0 (rSum K) (fun xs P => match xs with | [x] => bSum x P | _ => False) :=
  .one fun W x sx H F P Q r rx l ⟨ns, e, h⟩ q => by
    obtain ⟨a, vs, rfl, ha, hv⟩ := rx.items l e
    rw [all_ints hv] at ha
    exact ⟨a, ns, rfl, SqL.of ha, q _ h _ _ ⟨F, r.pushV (.int _)⟩⟩
instance : CbD F0 H0 (rAny K) (fun xs P => match xs with | [x] => bAny x P | _ => False) :=
  .one fun W x sx H F P Q r rx l ⟨ns, e, h⟩ q => by
    obtain ⟨a, vs, rfl, ha, hv⟩ := rx.items l e
    rw [all_bools hv] at ha
    exact ⟨a, ns, rfl, SqL.of ha, q _ h _ _ ⟨F, r.pushV (.bl _)⟩⟩
instance : CbD F0 H0 (rAll K) (fun xs P => match xs with | [x] => bAll x P | _ => False) :=
  .one fun W x sx H F P Q r rx l ⟨ns, e, h⟩ q => by
    obtain ⟨a, vs, rfl, ha, hv⟩ := rx.items l e
    rw [all_bools hv] at ha
    exact ⟨a, ns, rfl, SqL.of ha, q _ h _ _ ⟨F, r.pushV (.bl _)⟩⟩
def bDivmod : SV → SV → (SV → Prop) → Prop := fun x y P => match x.int?, y.int? with | some i, some j => CDiv i j ∧ P (.val (.tuple [.int (i / j), .int (i % j)])) | _, _ => False
instance : CbD F0 H0 (fun xs H Q => ∃ i j, xs = [.int i, .int j] ∧ CDiv i j ∧ ∀ p, H p = none → Q (.ref p) (upd H p (.tup [.int (i / j), .int (i % j)]))) (fun xs P => match xs with | [x, y] => bDivmod x y P | _ => False) :=
  .two fun W x y sx sy H F P Q r rx ry l h q => by
    unfold bDivmod at h
    cases e : sx.int? with
    | none => rw [e] at h; exact h.elim
    | some i =>
      cases e2 : sy.int? with
      | none => rw [e, e2] at h; exact h.elim
      | some j =>
        rw [e, e2] at h
        exact ⟨i, j, by rw [rx.int e, ry.int e2], h.1, fun p np => q _ h.2 _ _ ⟨_, r.pushT np (.cons (.int _) (.cons (.int _) .nil))⟩⟩
/-- isinstance(x, list), isinstance(x, bool) -/
def SV.cls? : SV → Option String
  | .val .none => some "NoneType"
  | .val (.bool _) => some "bool"
  | .val (.int _) => some "int"
  | .val (.list _) => some "list"
  | .val (.tuple _) => some "tuple"
  | .own _ => some "list"
  | .ali _ => some "list"
  | _ => none
/-! ### slices -/
abbrev DOX := SD → (Option Int → Prop) → Prop
class DOc (F0 H0 : Hp) (t : TO) (f : outParam DOX) : Prop where
  run : ∀ (Z T : Zt) (H : Hp) (P : Option Int → Prop) (Q : Option Int → Hp → Prop), (∃ F, Rep F0 H0 F H (Z ++ T)) → f (Z.map Prod.snd) P → (∀ b, P b → ∀ H', (∃ F, Rep F0 H0 F H' (Z ++ T)) → Q b H') → t (Z.map Prod.fst) H Q
def dNoPart : DOX := fun _ P => P none
def dPart (fa : DX) : DOX := fun σ P => fa σ fun x => match x.int? with | some i => P (some i) | none => False
instance : DOc F0 H0 tNoPart dNoPart where
  run Z T H P Q := fun hr h q => q _ h _ hr
instance {ta : TE} {fa : DX} [ha : DE F0 H0 ta fa] : DOc F0 H0 (tPart ta) (dPart fa) where
  run Z T H P Q := fun hr h q => ha.run Z T H _ _ hr h fun x h1 vx H1 ⟨F, r1⟩ => by
    cases e : x.int? with
    | none => rw [e] at h1; exact h1.elim
    | some i =>
      rw [e] at h1
      obtain ⟨r0, rx⟩ := one_tmp r1
      exact ⟨i, rx.int e, q _ h1 _ ⟨F, r0⟩⟩
def cutD (xs : List PyData) (lo hi : Option Int) : List PyData := (xs.drop (HT.sIx xs.length 0 lo)).take (HT.sIx xs.length xs.length hi - HT.sIx xs.length 0 lo)
theorem cut_all {vs : List V} {ds : List PyData} (h : DvAll F vs ds) (lo hi : Option Int) : DvAll F (cutV vs lo hi) (cutD ds lo hi) := by
  unfold cutV cutD
  rw [h.length]
  exact (h.drop _).take _
def dSl (fa : DX) (fl fh : DOX) : DX := fun σ P => fa σ fun x => fl σ fun lo => fh σ fun hi => match x.items? with | some ds => P (.own (cutD ds lo hi)) | none => False
instance {ta : TE} {tl th : TO} {fa : DX} {fl fh : DOX} [ha : DE F0 H0 ta fa] [hl : DOc F0 H0 tl fl] [hh : DOc F0 H0 th fh] : DE F0 H0 (tSl (rSlL K) ta tl th) (dSl fa fl fh) where
  run Z T H P Q := fun hr h q => ha.run Z T H _ _ hr h fun x h1 vx H1 r1 => hl.run Z _ H1 _ _ r1 h1 fun lo h2 H2 r2 => hh.run Z _ H2 _ _ r2 h2 fun hi h3 H3 ⟨F, r3⟩ => by
    cases e : x.items? with
    | none => rw [e] at h3; exact h3.elim
    | some ds =>
      rw [e] at h3
      obtain ⟨r0, rx⟩ := one_tmp r3
      obtain ⟨a, vs, rfl, ha', hv⟩ := rx.items r3.low e
      exact ⟨a, vs, rfl, SqL.of ha', fun p np => q _ h3 _ _ ⟨F, by rw [← List.append_assoc]; exact r0.pushL np (cut_all hv lo hi)⟩⟩
/-! ### calls -/
inductive Rs where
  | ok (sv : SV)
  | er (C : Addr) (i : Int)
/-- a contract: from what stands (F) and the arguments, the set of what may come -/
abbrev RC := Hp → List SV → (Rs → Prop) → Prop
def spF (R : RC) : Sp := fun vs H Q E => ∃ (F : Hp) (A : List (V × SV)) (S : Rs → Prop), vs = A.map Prod.fst ∧ Rep F H F H (A.map pr) ∧ (∀ s ∈ A.map Prod.snd, s.isAli = false) ∧ R F (A.map Prod.snd) S ∧ ∀ r, S r → match r with
  | .ok sv => ∀ v H', (∃ F', Rep F H F' H' [(some v, some sv)]) → Q v H'
  | .er C i => ∀ dd H', Same H H' → H' dd = none → E (.ref C) (some dd) (upd H' dd (.xd [("at", .int i)]))
class MonoR (R : RC) : Prop where
  mono : ∀ {F F' : Hp} {as : List SV} {S : Rs → Prop}, Same F F' → R F as S → R F' as S
/-- a contract that asks nothing of what stands -/
def pur (R : List SV → (Rs → Prop) → Prop) : RC := fun _ => R
instance {R} : MonoR (pur R) := ⟨fun _ h => h⟩
/-- the arguments, let go for the call: the caller's own lists are put into the frozen part that the callee sees -/
def keepArgs (F H : Hp) : List (V × SV) → Hp
  | [] => F
  | (.ref a, .own _) :: A => fun b => if b = a then H b else keepArgs F H A b
  | (.ref a, .ali _) :: A => fun b => if b = a then H b else keepArgs F H A b
  | _ :: A => keepArgs F H A
theorem keepArgs_at (F H : Hp) (l : Same F H) : ∀ A : List (V × SV), Same F (keepArgs F H A) ∧ Same (keepArgs F H A) H
  | [] => ⟨Same.refl _, l⟩
  | (v, sv) :: A => by
    obtain ⟨h1, h2⟩ := keepArgs_at F H l A
    have two : ∀ a : Addr, Same F (fun b => if b = a then H b else keepArgs F H A b) ∧ Same (fun b => if b = a then H b else keepArgs F H A b) H := fun a => ⟨fun b o e => by
      show (if b = a then H b else keepArgs F H A b) = some o
      by_cases z : b = a
      · rw [if_pos z]; exact l _ _ e
      · rw [if_neg z]; exact h1 _ _ e, fun b o e => by
      have e' : (if b = a then H b else keepArgs F H A b) = some o := e
      by_cases z : b = a
      · rw [if_pos z] at e'; exact e'
      · rw [if_neg z] at e'; exact h2 _ _ e'⟩
    cases v <;> cases sv <;> first | exact ⟨h1, h2⟩ | exact two _
theorem keepArgs_sub (F H : Hp) : ∀ (A : List (V × SV)) (b : Addr), keepArgs F H A b ≠ F b → ∃ sv, (V.ref b, sv) ∈ A ∧ ((∃ ds, sv = .own ds) ∨ ∃ ds, sv = .ali ds)
  | [], b, h => absurd rfl h
  | (v, sv) :: A, b, h => by
    have rec_ : keepArgs F H A b ≠ F b → ∃ sv', (V.ref b, sv') ∈ (v, sv) :: A ∧ ((∃ ds, sv' = .own ds) ∨ ∃ ds, sv' = .ali ds) := fun z => by
      obtain ⟨s, m, k⟩ := keepArgs_sub F H A b z
      exact ⟨s, List.mem_cons_of_mem _ m, k⟩
    have two : ∀ (a : Addr) (ds : List PyData), (sv = .own ds ∨ sv = .ali ds) → v = .ref a → (if b = a then H b else keepArgs F H A b) ≠ F b → ∃ sv', (V.ref b, sv') ∈ (v, sv) :: A ∧ ((∃ ds, sv' = .own ds) ∨ ∃ ds, sv' = .ali ds) := fun a ds hs hv z => by
      by_cases e : b = a
      · subst e; subst hv
        refine ⟨sv, List.mem_cons_self, ?_⟩
        rcases hs with hs | hs
        · exact .inl ⟨ds, hs⟩
        · exact .inr ⟨ds, hs⟩
      · rw [if_neg e] at z; exact rec_ z
    cases v <;> cases sv <;> first
      | exact rec_ h
      | exact two _ _ (.inl rfl) rfl h
      | exact two _ _ (.inr rfl) rfl h
theorem keepArgs_mem (F H : Hp) (l : Same F H) : ∀ {A : List (V × SV)} {a : Addr} {sv : SV}, (V.ref a, sv) ∈ A → ((∃ ds, sv = .own ds) ∨ ∃ ds, sv = .ali ds) → ∀ o, H a = some o → keepArgs F H A a = some o
  | (v, sv') :: A, a, sv, m, k, o, e => by
    have rec_ : (V.ref a, sv) ∈ A → keepArgs F H A a = some o := fun z => keepArgs_mem F H l z k o e
    have two : ∀ (c : Addr), (if a = c then H a else keepArgs F H A a) = some o ∨ ¬ (a = c ∨ (V.ref a, sv) ∈ A) := fun c => by
      by_cases z : a = c
      · exact .inl (by rw [if_pos z]; exact e)
      · by_cases z2 : (V.ref a, sv) ∈ A
        · exact .inl (by rw [if_neg z]; exact rec_ z2)
        · exact .inr (by rintro (h | h); exact z h; exact z2 h)
    rcases List.mem_cons.mp m with h | h
    · cases h
      rcases k with ⟨ds, rfl⟩ | ⟨ds, rfl⟩
      · show (if a = a then H a else keepArgs F H A a) = some o
        rw [if_pos rfl]; exact e
      · show (if a = a then H a else keepArgs F H A a) = some o
        rw [if_pos rfl]; exact e
    · cases v <;> cases sv' <;> first
        | exact rec_ h
        | (refine (two _).resolve_right (fun z => z (.inr h)))
theorem all_pw {α : Type} {R : α → α → Prop} (h : ∀ x y, R x y) : ∀ l : List α, l.Pairwise R
  | [] => .nil
  | x :: l => .cons (fun y _ => h x y) (all_pw h l)
/-- the arguments as the callee sees them -/
theorem args_ok {W : Zt} {A : List (V × SV)} (r : Rep F0 H0 F H (W ++ A.map pr)) : Rep (keepArgs F H A) H (keepArgs F H A) H ((A.map fun p => (p.1, p.2.frz)).map pr) := by
  obtain ⟨s1, s2⟩ := keepArgs_at F H r.low A
  refine ⟨Same.refl _, s2, Same.refl _, fun b h _ => h, fun p hp sv e => ?_, ?_⟩
  · rw [List.map_map] at hp
    obtain ⟨⟨v, s⟩, hm, rfl⟩ := List.mem_map.mp hp
    cases e
    obtain ⟨w, e1, rv⟩ := r.ok (some v, some s) (List.mem_append_right _ (List.mem_map.mpr ⟨(v, s), hm, rfl⟩)) _ rfl
    cases e1
    refine ⟨v, rfl, ?_⟩
    cases s with
    | val d => exact rv.mono s1
    | raw u => exact rv
    | ent ds =>
      obtain ⟨a, vs, rfl, _, h3, h4⟩ := rv
      exact ⟨a, vs, rfl, h3, h3, h4.mono s1⟩
    | own ds =>
      obtain ⟨a, vs, rfl, _, _, h3, h4⟩ := rv
      exact .lst (keepArgs_mem F H r.low hm (.inl ⟨_, rfl⟩) _ h3) (h4.mono s1)
    | ali ds =>
      obtain ⟨a, vs, rfl, _, h3, h4⟩ := rv
      exact .lst (keepArgs_mem F H r.low hm (.inr ⟨_, rfl⟩) _ h3) (h4.mono s1)
  · rw [List.pairwise_map, List.pairwise_map]
    refine all_pw (fun x y a es fs _ e2 _ _ => ?_) _
    obtain ⟨v, s⟩ := x
    cases s <;> cases e2
/-- what comes back of a call -/
theorem back_ok {W : Zt} {A : List (V × SV)} {v : V} {sv : SV} {H' : Hp} (r : Rep F0 H0 F H (W ++ A.map pr)) (b : ∃ F', Rep (keepArgs F H A) H F' H' [(some v, some sv)]) (hf : ((A.any fun p => p.2.isAli) || sv.isEnt) = true → sv.flat = true) :
    ∃ F', Rep F0 H0 F' H' (W ++ [(some v, some sv)]) := by
  obtain ⟨F', b⟩ := b
  obtain ⟨s1, s2⟩ := keepArgs_at F H r.low A
  have rW : Rep F0 H0 F H W := r.left
  obtain ⟨v', e0, rv⟩ := b.ok (some v, some sv) (by simp) _ rfl
  cases e0
  have notin : ∀ {a : Addr} {es : List PyData} {p}, p ∈ W → p.1 = some (.ref a) → p.2 = some (.own es) → ∀ sv', sv' = SV.own es → H a ≠ none := fun {a es p} hp e1 e2 _ _ => by
    obtain ⟨w, e3, c, vs, e4, _, _, e5, _⟩ := r.ok p (List.mem_append_left _ hp) _ e2
    rw [e1] at e3; cases e3; cases e4
    rw [e5]; simp
  by_cases ha : (A.any fun p => p.2.isAli) = true
  · -- F stays
    have fl := hf (by rw [ha]; rfl)
    have r1 : Rep F0 H0 F H' W := rW.both (Same.refl _) (rW.low.trans b.ent) b.ent fun _ h _ => h
    cases sv with
    | val d => exact ⟨F, r1.pushV (rv.flat fl)⟩
    | raw u => cases rv; exact ⟨F, r1.pushR⟩
    | ent ds => cases fl
    | ali ds => cases fl
    | own ds =>
      obtain ⟨a, vs, rfl, q1, q2, q3, q4⟩ := rv
      refine ⟨F, r1.push ⟨a, vs, rfl, r.low.free q2, r.ent.free q2, q3, q4.flat fl⟩ fun c es e1 _ p hp fs e3 e4 => ?_⟩
      cases e1
      exact notin hp e3 e4 _ rfl q2
  · -- F grows
    have sF : Same F F' := s1.trans b.base
    have k : ∀ p ∈ W, PairOk H0 F' H' p := fun p hp s e => by
      obtain ⟨w, e1, rr⟩ := rW.ok p hp s e
      refine ⟨w, e1, ?_⟩
      cases s with
      | val d => exact rr.mono sF
      | raw u => exact rr
      | ent ds =>
        obtain ⟨a, vs, q1, q3, q4, q5⟩ := rr
        exact ⟨a, vs, q1, q3, b.ent _ _ q4, q5.mono sF⟩
      | ali ds =>
        obtain ⟨a, vs, q1, q3, q4, q5⟩ := rr
        exact ⟨a, vs, q1, q3, b.ent _ _ q4, q5.mono sF⟩
      | own ds =>
        obtain ⟨a, vs, q1, q2, q3, q4, q5⟩ := rr
        subst q1
        refine ⟨a, vs, rfl, b.apart a ?_ (by rw [q4]; simp), q3, b.ent _ _ q4, q5.mono sF⟩
        -- not among the arguments
        by_cases z : keepArgs F H A a = F a
        · rw [z]; exact q2
        · obtain ⟨sv', hm, kk⟩ := keepArgs_sub F H A a z
          rcases kk with ⟨es, rfl⟩ | ⟨es, rfl⟩
          · have := r.dist
            rw [List.pairwise_append] at this
            exact (this.2.2 p hp (some (.ref a), some (.own es)) (List.mem_map.mpr ⟨_, hm, rfl⟩) a ds es e1 e rfl rfl).elim
          · exact absurd (List.any_eq_true.mpr ⟨_, hm, rfl⟩) ha
    have rF : Rep F0 H0 F' H' W := ⟨r.base.trans sF, b.low, r.ent.trans b.ent, fun c h0 h1 => by
      have hH : H c ≠ none := fun z => by
        cases e : H0 c with
        | none => exact h1 e
        | some o => rw [r.ent _ _ e] at z; cases z
      refine b.apart c ?_ hH
      by_cases z : keepArgs F H A c = F c
      · rw [z]; exact r.apart c h0 h1
      · obtain ⟨sv', hm, kk⟩ := keepArgs_sub F H A c z
        rcases kk with ⟨es, rfl⟩ | ⟨es, rfl⟩
        · obtain ⟨w, e3, d, vs, e4, _, e6, _⟩ := r.ok (some (.ref c), some (.own es)) (List.mem_append_right _ (List.mem_map.mpr ⟨_, hm, rfl⟩)) _ rfl
          cases e3; cases e4
          exact absurd e6 h1
        · exact absurd (List.any_eq_true.mpr ⟨_, hm, rfl⟩) ha, k, rW.dist⟩
    cases sv with
    | val d => exact ⟨F', rF.pushV rv⟩
    | raw u => cases rv; exact ⟨F', rF.pushR⟩
    | ent ds => have := hf (by simp [SV.isEnt]); cases this
    | ali ds =>
      obtain ⟨a, vs, q1, q3, q4, q5⟩ := rv
      exact ⟨F', rF.push ⟨a, vs, q1, r.ent.free q3, q4, q5⟩ fun _ _ _ e => nomatch e⟩
    | own ds =>
      obtain ⟨a, vs, rfl, q1, q2, q3, q4⟩ := rv
      refine ⟨F', rF.push ⟨a, vs, rfl, q1, r.ent.free q2, q3, q4⟩ fun c es e1 _ p hp fs e3 e4 => ?_⟩
      cases e1
      exact notin hp e3 e4 _ rfl q2
/-- what is wanted of an error of one's own -/
class EOk (H0 : Hp) (E : XK) (ER : outParam (Addr → Int → Prop)) : Prop where
  run : ∀ C i, ER C i → ∀ dd H', Same H0 H' → H' dd = none → E (.ref C) (some dd) (upd H' dd (.xd [("at", .int i)]))
def dCall (F0 : Hp) (R : RC) (ER : Addr → Int → Prop) (fa : DAX) : DX := fun σ P => fa σ fun as => ∃ S, R F0 (as.map SV.frz) S ∧ ∀ r, S r → match r with
  | .ok sv => ((as.any SV.isAli || sv.isEnt) = true → sv.flat = true) ∧ P sv
  | .er C i => ER C i
theorem call_run {R : RC} [MonoR R] {ER : Addr → Int → Prop} {E : XK} {W : Zt} {A : List (V × SV)} {P : SV → Prop} {Q : VK} (hE : ∀ C i, ER C i → ∀ dd H', Same H0 H' → H' dd = none → E (.ref C) (some dd) (upd H' dd (.xd [("at", .int i)])))
    (r : Rep F0 H0 F H (W ++ A.map pr)) (h : ∃ S, R F0 ((A.map Prod.snd).map SV.frz) S ∧ ∀ r, S r → match r with
      | .ok sv => (((A.map Prod.snd).any SV.isAli || sv.isEnt) = true → sv.flat = true) ∧ P sv
      | .er C i => ER C i) (q : ∀ sv, P sv → ∀ v H', (∃ F, Rep F0 H0 F H' (W ++ [(some v, some sv)])) → Q v H') : spF R (A.map Prod.fst) H Q E := by
  obtain ⟨S, h1, h2⟩ := h
  obtain ⟨s1, s2⟩ := keepArgs_at F H r.low A
  refine ⟨keepArgs F H A, A.map (fun p => (p.1, p.2.frz)), S, by simp, args_ok r, (fun s hs => by
    rw [List.map_map] at hs
    obtain ⟨p, _, rfl⟩ := List.mem_map.mp hs
    obtain ⟨v, s⟩ := p
    cases s <;> rfl), MonoR.mono (r.base.trans s1) (by simpa [Function.comp_def] using h1), fun rs hs => ?_⟩
  have := h2 rs hs
  cases rs with
  | ok sv => exact fun v H' b => q sv this.2 v H' (back_ok r b fun z => this.1 (by simpa [List.any_map] using z))
  | er C i => exact fun dd H' s n => hE C i this dd H' (r.ent.trans s) n
instance {R : RC} [MonoR R] {ta : TA} {fa : DAX} [ha : DA F0 H0 ta fa] : DE F0 H0 (tCall (spF R) [] (fun _ _ _ => False) ta) (dCall F0 R (fun _ _ => False) fa) where
  run Z T H P Q := fun hr h q => ha.run Z T H _ _ hr h fun A h1 H1 ⟨F, r1⟩ => by
    show spF R (A.map Prod.fst ++ []) H1 Q _
    rw [List.append_nil]
    exact call_run (W := Z ++ T) (fun _ _ z => z.elim) (by rw [List.append_assoc]; exact r1) h1 fun sv hp v H2 r2 => q sv hp v H2 (by rw [← List.append_assoc]; exact r2)
instance {R : RC} [MonoR R] {E : XK} {ER} [he : EOk H0 E ER] {ta : TA} {fa : DAX} [ha : DA F0 H0 ta fa] : DE F0 H0 (tCallS (spF R) (fun _ cls d H => E cls d H) ta) (dCall F0 R ER fa) where
  run Z T H P Q := fun hr h q => ha.run Z T H _ _ hr h fun A h1 H1 ⟨F, r1⟩ =>
    call_run (W := Z ++ T) he.run (by rw [List.append_assoc]; exact r1) h1 fun sv hp v H2 r2 => q sv hp v H2 (by rw [← List.append_assoc]; exact r2)
end
end DL
/-! Reading by data: targets, walks, comprehensions, statements. -/
namespace DL
open PySem PySem.Spec PyProof.Rows L2 NB
section
variable {F0 H0 F H : Hp} {K : PySem.W.Frag}
def NoAli (p : Option V × Option SV) : Prop := ∀ es, p.2 ≠ some (.ali es)
theorem cut_at {α : Type} : ∀ (l : List α) (i : Nat), i < l.length → ∃ A z B, l = A ++ z :: B ∧ A.length = i ∧ ∀ p, l.set i p = A ++ p :: B
  | x :: l, 0, _ => ⟨[], x, l, rfl, rfl, fun _ => rfl⟩
  | x :: l, i + 1, h => by
    obtain ⟨A, z, B, h1, h2, h3⟩ := cut_at l i (by simpa using h)
    exact ⟨x :: A, z, B, by rw [h1]; rfl, by rw [List.length_cons, h2], fun p => by rw [List.set_cons_succ, h3]; rfl⟩
/-- the last temp goes to a slot -/
theorem Rep.store {Z T : Zt} {p : Option V × Option SV} {i : Nat} (r : Rep F0 H0 F H (Z ++ (T ++ [p]))) : Rep F0 H0 F H (Z.set i p ++ T) := by
  by_cases h : i < Z.length
  · obtain ⟨A, z, B, h1, _, h3⟩ := cut_at Z i h
    rw [h3]
    rw [h1] at r
    have r1 : Rep F0 H0 F H ((A ++ B) ++ T ++ [p]) := r.sub (by
      simp only [List.append_assoc, List.cons_append]
      exact List.Sublist.append_left (List.sublist_cons_self _ _) _)
    refine r1.perm ?_
    have : (A ++ B ++ T ++ [p]).Perm (p :: (A ++ B ++ T)) := List.perm_append_singleton _ _
    refine this.trans ?_
    have e : A ++ p :: B ++ T = A ++ p :: (B ++ T) := by simp
    rw [e]
    have e2 : p :: (A ++ B ++ T) = p :: (A ++ (B ++ T)) := by simp
    rw [e2]
    exact List.perm_middle.symm
  · rw [List.set_eq_of_length_le (by omega)]
    rw [← List.append_assoc] at r
    exact r.left
theorem map_set_fst (Z : Zt) (i : Nat) (p : Option V × Option SV) : (Z.set i p).map Prod.fst = (Z.map Prod.fst).set i p.1 := List.map_set
theorem map_set_snd (Z : Zt) (i : Nat) (p : Option V × Option SV) : (Z.set i p).map Prod.snd = (Z.map Prod.snd).set i p.2 := List.map_set
/-! ### targets -/
abbrev DG1 := PyData → SD → (SD → Prop) → Prop
abbrev DGL := List PyData → SD → (SD → Prop) → Prop
/-- what a target does to the slots -/
structure Stored (H : Hp) (F0 H0 : Hp) (F : Hp) (T Z Z' : Zt) (ix : List Nat) : Prop where
  rep : Rep F0 H0 F H (Z' ++ T)
  mem : ∀ p ∈ Z', p ∈ Z ∨ ∃ d, p.2 = some (.val d)
  wip : ∀ vs, (∀ i ∈ ix, i ∈ vs) → wipe (Z'.map Prod.fst) vs = wipe (Z.map Prod.fst) vs
class DGt (F0 H0 : Hp) (g : TG) (f : outParam DG1) (ix : outParam (List Nat)) : Prop where
  run : ∀ (Z T : Zt) (H F : Hp) (x : V) (d : PyData) (P : SD → Prop) (Q : L2.St → Hp → Prop), Rep F0 H0 F H (Z ++ T) → Dv F x d → f d (Z.map Prod.snd) P → (∀ Z', P (Z'.map Prod.snd) → Stored H F0 H0 F T Z Z' ix → Q (Z'.map Prod.fst) H) → g x (Z.map Prod.fst) H Q
class DGs (F0 H0 : Hp) (g : TGs) (f : outParam DGL) (ix : outParam (List Nat)) : Prop where
  run : ∀ (Z T : Zt) (H F : Hp) (xs : List V) (ds : List PyData) (P : SD → Prop) (Q : L2.St → Hp → Prop), Rep F0 H0 F H (Z ++ T) → DvAll F xs ds → f ds (Z.map Prod.snd) P → (∀ Z', P (Z'.map Prod.snd) → Stored H F0 H0 F T Z Z' ix → Q (Z'.map Prod.fst) H) → g xs (Z.map Prod.fst) H Q
theorem wipe_set (σ : L2.St) (i : Nat) (x : Option V) : ∀ {vs : List Nat}, i ∈ vs → wipe (σ.set i x) vs = wipe σ vs
  | v :: vs, h => by
    unfold wipe
    by_cases e : i = v
    · subst e
      by_cases m : i ∈ vs
      · rw [wipe_set σ i x m]
      · have : ∀ ws : List Nat, i ∉ ws → wipe (σ.set i x) ws = (wipe σ ws).set i x := fun ws => by
          induction ws with
          | nil => intro _; rfl
          | cons w ws ih =>
            intro hw
            unfold wipe
            rw [ih (fun z => hw (List.mem_cons_of_mem _ z)), List.set_comm _ _ (fun z => hw (by rw [z]; exact List.mem_cons_self))]
        rw [this vs m, List.set_set]
    · rcases List.mem_cons.mp h with z | z
      · exact absurd z e
      · rw [wipe_set σ i x z]
theorem set_none_set_none (σ : L2.St) (i j : Nat) : (σ.set i none).set j none = (σ.set j none).set i none := by
  by_cases h : i = j
  · subst h; rfl
  · exact List.set_comm _ _ h
theorem wipe_out (σ : L2.St) (v : Nat) : ∀ vs : List Nat, wipe (σ.set v none) vs = (wipe σ vs).set v none
  | [] => rfl
  | w :: vs => by unfold wipe; rw [wipe_out σ v vs, set_none_set_none]
theorem wipe_twice (σ : L2.St) : ∀ vs : List Nat, wipe (wipe σ vs) vs = wipe σ vs
  | [] => rfl
  | v :: vs => by
    have ih := wipe_twice σ vs
    show (wipe ((wipe σ vs).set v none) vs).set v none = (wipe σ vs).set v none
    rw [wipe_out, List.set_set, ih]
instance (i : Nat) : DGt F0 H0 (gName i) (fun d σ P => P (σ.set i (some (.val d)))) [i] where
  run Z T H F x d P Q r hd h q := by
    have := q (Z.set i (some x, some (.val d))) (by rw [map_set_snd]; exact h) ⟨(put_tmp r hd).store, fun p hp => by
      rcases List.mem_or_eq_of_mem_set hp with z | z
      · exact .inl z
      · subst z; exact .inr ⟨d, rfl⟩, fun vs hv => by rw [map_set_fst]; exact wipe_set _ _ _ (hv i (by simp))⟩
    rw [map_set_fst] at this
    exact this
instance : DGs F0 H0 gNil (fun ds σ P => match ds with | [] => P σ | _ => False) [] where
  run Z T H F xs ds P Q r hd h q := by
    match xs, ds, hd, h with
    | [], [], _, h => exact ⟨rfl, q Z h ⟨r, fun p hp => .inl hp, fun _ _ => rfl⟩⟩
    | _, _ :: _, _, h => exact h.elim
instance {t : TG} {u : TGs} {f : DG1} {fs : DGL} {ix jx} [ht : DGt F0 H0 t f ix] [hu : DGs F0 H0 u fs jx] : DGs F0 H0 (gCons t u) (fun ds σ P => match ds with | d :: r => f d σ fun σ' => fs r σ' P | [] => False) (ix ++ jx) where
  run Z T H F xs ds P Q r hd h q := by
    match xs, ds, hd, h with
    | x :: xs, d :: ds, .cons h1 h2, h =>
      refine ⟨x, xs, rfl, ht.run Z T H F x d _ _ r h1 h fun Z1 p1 s1 => ?_⟩
      refine hu.run Z1 T H F xs ds _ _ s1.rep h2 p1 fun Z2 p2 s2 => q Z2 p2 ⟨s2.rep, fun p hp => ?_, fun vs hv => ?_⟩
      · rcases s2.mem p hp with z | z
        · exact s1.mem p z
        · exact .inr z
      · rw [s2.wip vs fun i hi => hv i (List.mem_append_right _ hi), s1.wip vs fun i hi => hv i (List.mem_append_left _ hi)]
    | [], [], _, h => exact h.elim
instance {n : Nat} {t : TGs} {f : DGL} {ix} [ht : DGs F0 H0 t f ix] : DGt F0 H0 (gTup K n t) (fun d σ P => match d with | .tuple ds => ds.length = n ∧ f ds σ P | _ => False) ix where
  run Z T H F x d P Q r hd h q := by
    match d, hd, h with
    | .tuple ds, .tup ha hs, h =>
      exact ⟨_, _, rfl, SqT.of (r.low _ _ ha), by rw [hs.length]; exact h.1, ht.run Z T H F _ ds P Q r hs h.2 q⟩
/-! ### walks -/
structure DWalk (F0 H0 : Hp) (J : It) (items : List PyData) (A : Zt) : Prop where
  goes : ∀ i H F W, i < items.length → Rep F0 H0 F H (W ++ A) → J.go i H
  stops : ∀ H F W, Rep F0 H0 F H (W ++ A) → J.stop items.length H
  yields : ∀ i H x H' F W d, items[i]? = some d → Rep F0 H0 F H (W ++ A) → J.yld i H x H' → ∃ F', Rep F0 H0 F' H' ((W ++ A) ++ [(some x, some (.val d))])
class DI (F0 H0 : Hp) (w : TI) (f : outParam (SD → (List PyData → Bool → Prop) → Prop)) : Prop where
  run : ∀ (Z T : Zt) (H : Hp) (P : List PyData → Bool → Prop) (R : It → Hp → Prop), (∃ F, Rep F0 H0 F H (Z ++ T)) → f (Z.map Prod.snd) P →
    (∀ items b, P items b → ∀ J H' A, (∃ F, Rep F0 H0 F H' (Z ++ (T ++ A))) → (b = true → ∀ p ∈ A, NoAli p) → DWalk F0 H0 J items A → R J H') → w (Z.map Prod.fst) H R
theorem noali_of {v : V} {sv : SV} (h : (!sv.isAli) = true) : ∀ p ∈ [((some v, some sv) : Option V × Option SV)], NoAli p := fun p hp es e => by
  rw [List.mem_singleton] at hp
  subst hp
  cases e
  cases h
theorem walk_lst {v : V} {sv : SV} {ds : List PyData} {a : Addr} (ev : v = .ref a) (e : sv.items? = some ds) : DWalk F0 H0 (Itl K a) ds [(some v, some sv)] where
  goes i H F W hi r := by
    obtain ⟨a', vs, h1, h2, h3⟩ := r.last.items r.low e
    rw [ev] at h1; cases h1
    exact ⟨vs, vs[i]'(by rw [h3.length]; exact hi), SqL.of h2, by simp⟩
  stops H F W r := by
    obtain ⟨a', vs, h1, h2, h3⟩ := r.last.items r.low e
    rw [ev] at h1; cases h1
    exact ⟨vs, SqL.of h2, by rw [h3.length]; exact Nat.le_refl _⟩
  yields i H x H' F W d hd r y := by
    obtain ⟨a', vs, h1, h2, h3⟩ := r.last.items r.low e
    rw [ev] at h1; cases h1
    obtain ⟨rfl, y⟩ := y
    obtain ⟨w, h4, h5⟩ := h3.get hd
    have := y vs (SqL.of h2)
    rw [h4] at this
    cases this
    exact ⟨F, r.pushV h5⟩
def dItems (fa : DX) : SD → (List PyData → Bool → Prop) → Prop := fun σ P => fa σ fun sv => match sv.items? with | some ds => P ds (!sv.isAli) | none => False
instance {ta : TE} {fa : DX} [ha : DE F0 H0 ta fa] : DI F0 H0 (iList K ta) (dItems fa) where
  run Z T H P R := fun hr h q => ha.run Z T H _ _ hr h fun sv h1 v H1 ⟨F, r1⟩ => by
    cases e : sv.items? with
    | none => rw [e] at h1; exact h1.elim
    | some ds =>
      rw [e] at h1
      obtain ⟨r0, rv⟩ := one_tmp r1
      obtain ⟨a, vs, rfl, h2, h3⟩ := rv.items r1.low e
      exact ⟨a, rfl, ⟨vs, SqL.of h2⟩, q ds _ h1 _ _ [(some (.ref a), some sv)] ⟨F, r1⟩ (fun z => noali_of z) (walk_lst rfl e)⟩
def rangeD (lo : Int) (n : Nat) : List PyData := (List.range n).map fun (i : Nat) => PyData.int (lo + (i : Int))
theorem rangeD_len (lo : Int) (n : Nat) : (rangeD lo n).length = n := by unfold rangeD; simp
theorem rangeD_at {lo : Int} {n i : Nat} {d : PyData} (h : (rangeD lo n)[i]? = some d) : i < n ∧ d = .int (lo + i) := by
  unfold rangeD at h
  rw [List.getElem?_map] at h
  by_cases z : i < n
  · rw [List.getElem?_range z] at h
    exact ⟨z, (Option.some.inj h).symm⟩
  · rw [List.getElem?_eq_none (by simp; omega)] at h; cases h
theorem walk_rng (lo : Int) (n : Nat) : DWalk F0 H0 (Itr lo n) (rangeD lo n) [] where
  goes i H F W hi r := by rw [rangeD_len] at hi; exact hi
  stops H F W r := by rw [rangeD_len]; exact Nat.le_refl _
  yields i H x H' F W d hd r y := by
    obtain ⟨rfl, rfl⟩ := y
    obtain ⟨_, rfl⟩ := rangeD_at hd
    exact ⟨F, r.pushV (.int _)⟩
def dRng1 (fa : DAX) : SD → (List PyData → Bool → Prop) → Prop := fun σ P => fa σ fun xs => match xs with
  | [x] => match x.int? with | some j => (-(2 ^ 62) ≤ j ∧ j < 2 ^ 62) ∧ P (rangeD 0 j.toNat) true | none => False
  | _ => False
def dRng2 (fa : DAX) : SD → (List PyData → Bool → Prop) → Prop := fun σ P => fa σ fun xs => match xs with
  | [x, y] => match x.int?, y.int? with | some i, some j => (-(2 ^ 62) ≤ i ∧ i < 2 ^ 62 ∧ -(2 ^ 62) ≤ j ∧ j < 2 ^ 62) ∧ P (rangeD i (j - i).toNat) true | _, _ => False
  | _ => False
instance {ta : TA} {fa : DAX} [ha : DA F0 H0 ta fa] : DI F0 H0 (iRng1 ta) (dRng1 fa) where
  run Z T H P R := fun hr h q => ha.run Z T H _ _ hr h fun A h1 H1 ⟨F, r1⟩ => by
    rcases A with _ | ⟨⟨v, sv⟩, _ | ⟨q, A⟩⟩
    all_goals first | exact False.elim h1 | skip
    · cases e : sv.int? with
      | none => simp only [List.map_cons, List.map_nil] at h1; rw [e] at h1; exact h1.elim
      | some j =>
        simp only [List.map_cons, List.map_nil] at h1
        rw [e] at h1
        obtain ⟨r0, rv⟩ := one_tmp (v := v) (sv := sv) r1
        exact ⟨j, by rw [← rv.int e]; rfl, h1.1.1, h1.1.2, q _ _ h1.2 _ _ [] ⟨F, by simpa using r0⟩ (fun _ p hp => nomatch hp) (walk_rng 0 _)⟩
instance {ta : TA} {fa : DAX} [ha : DA F0 H0 ta fa] : DI F0 H0 (iRng2 ta) (dRng2 fa) where
  run Z T H P R := fun hr h q => ha.run Z T H _ _ hr h fun A h1 H1 ⟨F, r1⟩ => by
    rcases A with _ | ⟨⟨v, sv⟩, _ | ⟨⟨w, sw⟩, _ | ⟨q, A⟩⟩⟩
    all_goals first | exact False.elim h1 | skip
    · simp only [List.map_cons, List.map_nil] at h1
      cases e : sv.int? with
      | none => rw [e] at h1; exact h1.elim
      | some i =>
        cases e2 : sw.int? with
        | none => rw [e, e2] at h1; exact h1.elim
        | some j =>
          rw [e, e2] at h1
          have r1' : Rep F0 H0 F H1 ((Z ++ T) ++ [(some v, some sv), (some w, some sw)]) := by simpa [pr] using r1
          obtain ⟨r0, rv, rw'⟩ := two r1'
          exact ⟨i, j, by rw [← rv.int e, ← rw'.int e2]; rfl, h1.1, q _ _ h1.2 _ _ [] ⟨F, by simpa using r0⟩ (fun _ p hp => nomatch hp) (walk_rng _ _)⟩
/-- enumerate: pairs -/
def enumD (ds : List PyData) : List PyData := ds.mapIdx fun i d => .tuple [.int (i : Nat), d]
theorem enumD_len (ds : List PyData) : (enumD ds).length = ds.length := by unfold enumD; simp
theorem enumD_at {ds : List PyData} {i : Nat} {d : PyData} (h : (enumD ds)[i]? = some d) : ∃ e, ds[i]? = some e ∧ d = .tuple [.int (i : Nat), e] := by
  unfold enumD at h
  rw [List.getElem?_mapIdx] at h
  cases e : ds[i]? with
  | none => rw [e] at h; cases h
  | some x => rw [e] at h; exact ⟨x, rfl, (Option.some.inj h).symm⟩
theorem walk_enm {v : V} {sv : SV} {ds : List PyData} {a : Addr} (ev : v = .ref a) (e : sv.items? = some ds) : DWalk F0 H0 (Ite K a) (enumD ds) [(some v, some sv)] where
  goes i H F W hi r := by
    obtain ⟨a', vs, h1, h2, h3⟩ := r.last.items r.low e
    rw [ev] at h1; cases h1
    exact walk_enum.goes i H (by rw [h3.length, ← enumD_len]; exact hi) (SqL.of h2)
  stops H F W r := by
    obtain ⟨a', vs, h1, h2, h3⟩ := r.last.items r.low e
    rw [ev] at h1; cases h1
    rw [enumD_len, ← h3.length]
    exact walk_enum.stops H (SqL.of h2)
  yields i H x H' F W d hd r y := by
    obtain ⟨a', vs, h1, h2, h3⟩ := r.last.items r.low e
    rw [ev] at h1; cases h1
    obtain ⟨c, hc, rfl⟩ := enumD_at hd
    have hi : i < vs.length := by rw [h3.length]; exact (List.getElem?_eq_some_iff.mp hc).1
    obtain ⟨T, x1, x2, rfl, nT, rfl, e1, e2⟩ := walk_enum.yields i H x H' hi (SqL.of h2) y
    obtain ⟨w, h4, h5⟩ := h3.get hc
    have e2' : vs[i]? = some x2 := e2
    rw [h4] at e2'; cases e2'; cases e1
    exact ⟨_, r.pushT nT (.cons (.int _) (.cons h5 .nil))⟩
def dEnum (fa : DAX) : SD → (List PyData → Bool → Prop) → Prop := fun σ P => fa σ fun xs => match xs with
  | [x] => match x.items? with | some ds => P (enumD ds) (!x.isAli) | none => False
  | _ => False
instance {ta : TA} {fa : DAX} [ha : DA F0 H0 ta fa] : DI F0 H0 (iEnum K ta) (dEnum fa) where
  run Z T H P R := fun hr h q => ha.run Z T H _ _ hr h fun A h1 H1 ⟨F, r1⟩ => by
    rcases A with _ | ⟨⟨v, sv⟩, _ | ⟨q, A⟩⟩
    all_goals first | exact False.elim h1 | skip
    · simp only [List.map_cons, List.map_nil] at h1
      cases e : sv.items? with
      | none => rw [e] at h1; exact h1.elim
      | some ds =>
        rw [e] at h1
        obtain ⟨r0, rv⟩ := one_tmp (v := v) (sv := sv) r1
        obtain ⟨a, vs, rfl, h2, h3⟩ := rv.items r1.low e
        exact ⟨a, vs, rfl, SqL.of h2, q _ _ h1 _ _ [(some (.ref a), some sv)] ⟨F, r1⟩ (fun z => noali_of z) (walk_enm rfl e)⟩
def zipD (ds es : List PyData) : List PyData := List.zipWith (fun d e => .tuple [d, e]) ds es
theorem zipD_len (ds es : List PyData) : (zipD ds es).length = min ds.length es.length := by unfold zipD; simp
theorem zipD_at {ds es : List PyData} {i : Nat} {d : PyData} (h : (zipD ds es)[i]? = some d) : ∃ x y, ds[i]? = some x ∧ es[i]? = some y ∧ d = .tuple [x, y] := by
  unfold zipD at h
  rw [List.getElem?_zipWith] at h
  cases e : ds[i]? with
  | none => rw [e] at h; cases h
  | some x =>
    cases e2 : es[i]? with
    | none => rw [e, e2] at h; cases h
    | some y => rw [e, e2] at h; exact ⟨x, y, rfl, rfl, (Option.some.inj h).symm⟩
theorem walk_zp {v w : V} {sv sw : SV} {ds es : List PyData} {a b : Addr} (ev : v = .ref a) (ew : w = .ref b) (e : sv.items? = some ds) (e2 : sw.items? = some es) : DWalk F0 H0 (Itz K a b) (zipD ds es) [(some v, some sv), (some w, some sw)] where
  goes i H F W hi r := by
    obtain ⟨_, rv, rw'⟩ := two r
    obtain ⟨a', vs, h1, h2, h3⟩ := rv.items r.low e
    obtain ⟨b', ws, k1, k2, k3⟩ := rw'.items r.low e2
    rw [ev] at h1; cases h1
    rw [ew] at k1; cases k1
    exact (walk_zip (xs := vs) (ys := ws) rfl).goes i H (by rw [h3.length, k3.length, ← zipD_len]; exact hi) ⟨SqL.of h2, SqL.of k2⟩
  stops H F W r := by
    obtain ⟨_, rv, rw'⟩ := two r
    obtain ⟨a', vs, h1, h2, h3⟩ := rv.items r.low e
    obtain ⟨b', ws, k1, k2, k3⟩ := rw'.items r.low e2
    rw [ev] at h1; cases h1
    rw [ew] at k1; cases k1
    rw [zipD_len, ← h3.length, ← k3.length]
    exact (walk_zip (xs := vs) (ys := ws) rfl).stops H ⟨SqL.of h2, SqL.of k2⟩
  yields i H x H' F W d hd r y := by
    obtain ⟨_, rv, rw'⟩ := two r
    obtain ⟨a', vs, h1, h2, h3⟩ := rv.items r.low e
    obtain ⟨b', ws, k1, k2, k3⟩ := rw'.items r.low e2
    rw [ev] at h1; cases h1
    rw [ew] at k1; cases k1
    obtain ⟨c, c', hc, hc', rfl⟩ := zipD_at hd
    have hi : i < min vs.length ws.length := by
      have := (List.getElem?_eq_some_iff.mp hc).1
      have := (List.getElem?_eq_some_iff.mp hc').1
      rw [h3.length, k3.length]; omega
    obtain ⟨T, x1, x2, rfl, nT, rfl, q1, q2⟩ := (walk_zip (xs := vs) (ys := ws) rfl).yields i H x H' hi ⟨SqL.of h2, SqL.of k2⟩ y
    obtain ⟨w, h4, h5⟩ := h3.get hc
    obtain ⟨w', h6, h7⟩ := k3.get hc'
    have q1' : vs[i]? = some x1 := q1
    have q2' : ws[i]? = some x2 := q2
    rw [h4] at q1'; cases q1'
    rw [h6] at q2'; cases q2'
    exact ⟨_, r.pushT nT (.cons h5 (.cons h7 .nil))⟩
def dZip (fa : DAX) : SD → (List PyData → Bool → Prop) → Prop := fun σ P => fa σ fun xs => match xs with
  | [x, y] => match x.items?, y.items? with | some ds, some es => P (zipD ds es) (!x.isAli && !y.isAli) | _, _ => False
  | _ => False
instance {ta : TA} {fa : DAX} [ha : DA F0 H0 ta fa] : DI F0 H0 (iZip K ta) (dZip fa) where
  run Z T H P R := fun hr h q => ha.run Z T H _ _ hr h fun A h1 H1 ⟨F, r1⟩ => by
    rcases A with _ | ⟨⟨v, sv⟩, _ | ⟨⟨w, sw⟩, _ | ⟨q, A⟩⟩⟩
    all_goals first | exact False.elim h1 | skip
    · simp only [List.map_cons, List.map_nil] at h1
      cases e : sv.items? with
      | none => rw [e] at h1; exact h1.elim
      | some ds =>
        cases e2 : sw.items? with
        | none => rw [e, e2] at h1; exact h1.elim
        | some es =>
          rw [e, e2] at h1
          have r1' : Rep F0 H0 F H1 ((Z ++ T) ++ [(some v, some sv), (some w, some sw)]) := by simpa [pr] using r1
          obtain ⟨r0, rv, rw'⟩ := two r1'
          obtain ⟨a, vs, rfl, h2, h3⟩ := rv.items r1.low e
          obtain ⟨b, ws, rfl, k2, k3⟩ := rw'.items r1.low e2
          refine ⟨a, b, vs, ws, rfl, SqL.of h2, SqL.of k2, q _ _ h1 _ _ [(some (.ref a), some sv), (some (.ref b), some sw)] ⟨F, r1⟩ (fun z p hp es' e' => ?_) (walk_zp rfl rfl e e2)⟩
          rw [Bool.and_eq_true] at z
          rcases List.mem_cons.mp hp with hp | hp
          · subst hp; cases e'; exact Bool.noConfusion z.1
          · rw [List.mem_singleton] at hp; subst hp; cases e'; exact Bool.noConfusion z.2
theorem walk_rv {v : V} {sv : SV} {ds : List PyData} {a : Addr} (ev : v = .ref a) (e : sv.items? = some ds) : DWalk F0 H0 (Itv K a ds.length) ds.reverse [(some v, some sv)] where
  goes i H F W hi r := by
    obtain ⟨a', vs, h1, h2, h3⟩ := r.last.items r.low e
    rw [ev] at h1; cases h1
    have := (walk_rev (K := K) (a := a) (xs := vs)).goes i H (by rw [h3.length]; simpa using hi) (SqL.of h2)
    rw [h3.length] at this
    exact this
  stops H F W r := by
    obtain ⟨a', vs, h1, h2, h3⟩ := r.last.items r.low e
    rw [ev] at h1; cases h1
    have := (walk_rev (K := K) (a := a) (xs := vs)).stops H (SqL.of h2)
    rw [h3.length] at this
    rw [List.length_reverse]
    exact this
  yields i H x H' F W d hd r y := by
    obtain ⟨a', vs, h1, h2, h3⟩ := r.last.items r.low e
    rw [ev] at h1; cases h1
    have hi : i < ds.length := by have := (List.getElem?_eq_some_iff.mp hd).1; simpa using this
    have := (walk_rev (K := K) (a := a) (xs := vs)).yields i H x H' (by rw [h3.length]; exact hi) (SqL.of h2) (by rw [h3.length]; exact y)
    obtain ⟨rfl, hx⟩ := this
    rw [List.getElem?_reverse hi, ← h3.length] at hd
    obtain ⟨w, h4, h5⟩ := h3.get hd
    rw [h4] at hx; cases hx
    exact ⟨F, r.pushV h5⟩
def dRev (fa : DAX) : SD → (List PyData → Bool → Prop) → Prop := fun σ P => fa σ fun xs => match xs with
  | [x] => match x.items? with | some ds => P ds.reverse (!x.isAli) | none => False
  | _ => False
instance {ta : TA} {fa : DAX} [ha : DA F0 H0 ta fa] : DI F0 H0 (iRev K ta) (dRev fa) where
  run Z T H P R := fun hr h q => ha.run Z T H _ _ hr h fun A h1 H1 ⟨F, r1⟩ => by
    rcases A with _ | ⟨⟨v, sv⟩, _ | ⟨q, A⟩⟩
    all_goals first | exact False.elim h1 | skip
    · simp only [List.map_cons, List.map_nil] at h1
      cases e : sv.items? with
      | none => rw [e] at h1; exact h1.elim
      | some ds =>
        rw [e] at h1
        obtain ⟨r0, rv⟩ := one_tmp (v := v) (sv := sv) r1
        obtain ⟨a, vs, rfl, h2, h3⟩ := rv.items r1.low e
        refine ⟨a, vs, rfl, SqL.of h2, ?_⟩
        rw [h3.length]
        exact q _ _ h1 _ _ [(some (.ref a), some sv)] ⟨F, r1⟩ (fun z => noali_of z) (walk_rv rfl e)
end
end DL
/-! Reading by data: comprehensions. -/
namespace DL
open PySem PySem.Spec PyProof.Rows L2 NB
section
variable {F0 H0 F H : Hp} {K : PySem.W.Frag}
def alP (p : Option V × Option SV) : Option V × Option SV := (p.1, p.2.map SV.al)
def alD (σ : SD) : SD := σ.map (Option.map SV.al)
def wipeD (σ : SD) : List Nat → SD
  | [] => σ
  | v :: vs => (wipeD σ vs).set v none
def wipeZ (Z : Zt) : List Nat → Zt
  | [] => Z
  | v :: vs => (wipeZ Z vs).set v (none, none)
theorem wipeZ_fst (Z : Zt) : ∀ vs, (wipeZ Z vs).map Prod.fst = wipe (Z.map Prod.fst) vs
  | [] => rfl
  | v :: vs => by unfold wipeZ wipe; rw [map_set_fst, wipeZ_fst Z vs]
theorem wipeZ_snd (Z : Zt) : ∀ vs, (wipeZ Z vs).map Prod.snd = wipeD (Z.map Prod.snd) vs
  | [] => rfl
  | v :: vs => by unfold wipeZ wipeD; rw [map_set_snd, wipeZ_snd Z vs]
theorem wipeZ_mem {Z : Zt} {p} : ∀ {vs : List Nat}, p ∈ wipeZ Z vs → p ∈ Z ∨ p.2 = none
  | [], h => .inl h
  | v :: vs, h => by
    unfold wipeZ at h
    rcases List.mem_or_eq_of_mem_set h with z | z
    · exact wipeZ_mem z
    · subst z; exact .inr rfl
theorem alP_fst (Z : Zt) : (Z.map alP).map Prod.fst = Z.map Prod.fst := by rw [List.map_map]; rfl
theorem alP_snd (Z : Zt) : (Z.map alP).map Prod.snd = alD (Z.map Prod.snd) := by unfold alD; rw [List.map_map, List.map_map]; rfl
/-- the slots once more, for reading -/
theorem Rep.again {L G : Zt} (r : Rep F0 H0 F H L) (h : ∀ p ∈ G, (∃ q ∈ L, p = alP q) ∨ p.2 = none) : Rep F0 H0 F H (G ++ L) := by
  have noown : ∀ p ∈ G, ∀ es, p.2 ≠ some (.own es) := fun p hp es e => by
    rcases h p hp with ⟨q, _, rfl⟩ | z
    · obtain ⟨a, b⟩ := q
      cases b with
      | none => cases e
      | some sv => cases sv <;> cases e
    · rw [z] at e; cases e
  refine ⟨r.base, r.low, r.ent, r.apart, fun p hp => ?_, ?_⟩
  · rcases List.mem_append.mp hp with z | z
    · rcases h p z with ⟨q, hq, rfl⟩ | w
      · intro sv e
        obtain ⟨a, b⟩ := q
        cases b with
        | none => cases e
        | some sq =>
          cases e
          obtain ⟨v, e1, rv⟩ := r.ok _ hq _ rfl
          exact ⟨v, e1, rv.al⟩
      · intro sv e; rw [w] at e; cases e
    · exact r.ok p z
  · rw [List.pairwise_append]
    refine ⟨?_, r.dist, fun p hp q hq a es fs _ e _ _ => noown p hp es e⟩
    exact List.Pairwise.imp_of_mem (S := Apart) (fun {p q} hp hq _ a es fs _ e _ _ => noown p hp es e) (all_pw (R := fun _ _ => True) (fun _ _ => trivial) G)
instance : DT F0 H0 tYes (fun _ P => P true) where
  run Z T H P Q := fun hr h q => q _ h _ hr
/-- the list that is made -/
def pD (D : Addr) (acc : List PyData) : Option V × Option SV := (some (.ref D), some (.own acc))
def NaD (D : Addr) (L : Zt) : Prop := ∀ p ∈ L, ∀ es, p.2 = some (.ali es) → p.1 ≠ some (.ref D)
abbrev TB := L2.St → Hp → (Hp → Prop) → Prop
abbrev DB := SD → List PyData → (List PyData → Prop) → Prop
def BodyOk (F0 H0 : Hp) (D : Addr) (tb : TB) (fb : DB) : Prop := ∀ (Z T1 T2 : Zt) (H : Hp) (acc : List PyData) (k : List PyData → Prop) (Nx : Hp → Prop), (∃ F, Rep F0 H0 F H (Z ++ (T1 ++ pD D acc :: T2))) → NaD D Z → NaD D T1 → NaD D T2 → fb (Z.map Prod.snd) acc k →
  (∀ acc', k acc' → ∀ H', (∃ F, Rep F0 H0 F H' (T1 ++ pD D acc' :: T2)) → Nx H') → tb (Z.map Prod.fst) H Nx
def eltB (te : TE) (D : Addr) : TB := fun σ2 H3 Nx => te σ2 H3 fun y H4 => ∃ acc, H4 D = some (.lst acc) ∧ acc.length < sizeLine ∧ Nx (upd H4 D (.lst (acc ++ [y])))
def eltF (fe : DX) : DB := fun σ acc k => fe σ fun sv => match sv.fix? with | some e => acc.length < sizeLine ∧ k (acc ++ [e]) | none => False
theorem elt_body {te : TE} {fe : DX} [he : DE F0 H0 te fe] (D : Addr) : BodyOk F0 H0 D (eltB te D) (eltF fe) := fun Z T1 T2 H acc k Nx hr _ n1 n2 h q =>
  he.run Z _ H _ _ hr h fun sv h1 y H4 ⟨F, r⟩ => by
    cases e : sv.fix? with
    | none => rw [e] at h1; exact h1.elim
    | some d =>
      rw [e] at h1
      have r1 : Rep F0 H0 F H4 ((T1 ++ pD D acc :: T2) ++ [(some y, some sv)]) := r.sub (List.sublist_append_right _ _)
      obtain ⟨F', r2⟩ := r1.fixLast e
      obtain ⟨v, e1, a, vs, e2, f1, f0, hD, hv⟩ := r2.left.ok (pD D acc) (by simp) _ rfl
      cases e1; cases e2
      exact ⟨vs, hD, by rw [hv.length]; exact h1.1, q _ h1.2 _ ⟨F', r2.left.put (fun p hp es e => by
        rcases hp with z | z
        · exact n1 p z es e
        · exact n2 p z es e) (hv.app (.cons r2.last .nil))⟩⟩
/-- the turns of a comprehension -/
def lcG (g : DG1) (tt : DTX) (fb : DB) (σ0 : SD) (items : List PyData) (acc0 : List PyData) (k : List PyData → Prop) : Prop := ∃ I : Nat → List PyData → Prop, I 0 acc0 ∧
  (∀ i d acc, items[i]? = some d → I i acc → g d σ0 fun σ2 => tt σ2 fun b => Br b (fb σ2 acc (I (i + 1))) (I (i + 1) acc)) ∧ ∀ acc, I items.length acc → k acc
theorem lc_loop {D : Addr} {g : TG} {tt : TT} {tb : TB} {fg : DG1} {ix : List Nat} {ft : DTX} {fb : DB} [hg : DGt F0 H0 g fg ix] [ht : DT F0 H0 tt ft] (hb : BodyOk F0 H0 D tb fb) {J : It} {items : List PyData} {A : Zt} (w : DWalk F0 H0 J items A)
    {Z T1 T3 : Zt} {vs : List Nat} {acc0 : List PyData} {k : List PyData → Prop} {H : Hp} {Nd : Hp → Prop} (hix : ∀ i ∈ ix, i ∈ vs) (hr : ∃ F, Rep F0 H0 F H ((Z ++ T1) ++ pD D acc0 :: (T3 ++ A))) (n1 : NaD D (Z ++ T1)) (n2 : NaD D (T3 ++ A))
    (h : lcG fg ft fb (wipeD (alD (Z.map Prod.snd)) vs) items acc0 k) (hd : ∀ acc, k acc → ∀ H', (∃ F, Rep F0 H0 F H' ((Z ++ T1) ++ pD D acc :: (T3 ++ A))) → Nd H') :
    ∃ W : Nat → Nat → Hp → Prop, (∃ m, W 0 m H) ∧ ∀ i m H, W i m H → (J.stop i H ∧ Nd H) ∨ (J.go i H ∧ ∃ Nx : Hp → Prop, (∀ H', Nx H' → ∃ m', m' < m ∧ W (i + 1) m' H') ∧ ∀ x H', J.yld i H x H' →
      g x (wipe (Z.map Prod.fst) vs) H' fun σ2 H2 => wipe σ2 vs = wipe (Z.map Prod.fst) vs ∧ tt σ2 H2 fun b H3 => if b = true then tb σ2 H3 Nx else Nx H3) := by
  obtain ⟨I, h0, hs, hk⟩ := h
  refine ⟨fun i m H => m = items.length - i ∧ i ≤ items.length ∧ ∃ acc, I i acc ∧ ∃ F, Rep F0 H0 F H ((Z ++ T1) ++ pD D acc :: (T3 ++ A)), ⟨items.length, by simp, Nat.zero_le _, acc0, h0, hr⟩, ?_⟩
  rintro i m H ⟨rfl, hi, acc, hI, F, r⟩
  have r' : Rep F0 H0 F H (((Z ++ T1) ++ pD D acc :: T3) ++ A) := by simpa using r
  by_cases hlt : i < items.length
  · refine .inr ⟨w.goes i H F _ hlt r', fun H' => ∃ acc, I (i + 1) acc ∧ ∃ F, Rep F0 H0 F H' ((Z ++ T1) ++ pD D acc :: (T3 ++ A)), fun H' hn => ⟨items.length - (i + 1), by omega, rfl, hlt, hn⟩, fun x H' y => ?_⟩
    have hd' : items[i]? = some items[i] := List.getElem?_eq_getElem hlt
    obtain ⟨F', r2⟩ := w.yields i H x H' F _ _ hd' r' y
    generalize items[i] = d at hd' r2
    have turn := hs i d acc hd' hI
    let L : Zt := (Z ++ T1) ++ pD D acc :: (T3 ++ A ++ [(some x, some (.val d))])
    have rL : Rep F0 H0 F' H' L := by
      have e : (((Z ++ T1) ++ pD D acc :: T3) ++ A) ++ [(some x, some (SV.val d))] = L := by simp [L]
      rw [← e]; exact r2
    have rG : Rep F0 H0 F' H' (wipeZ (Z.map alP) vs ++ L) := rL.again fun p hp => by
      rcases wipeZ_mem hp with z | z
      · obtain ⟨q, hq, rfl⟩ := List.mem_map.mp z
        exact .inl ⟨q, by simp [L, hq], rfl⟩
      · exact .inr z
    have e1 : (wipeZ (Z.map alP) vs).map Prod.fst = wipe (Z.map Prod.fst) vs := by rw [wipeZ_fst, alP_fst]
    have e2 : (wipeZ (Z.map alP) vs).map Prod.snd = wipeD (alD (Z.map Prod.snd)) vs := by rw [wipeZ_snd, alP_snd]
    rw [← e2] at turn
    have sub1 : ∀ {acc' : List PyData}, ((Z ++ T1) ++ pD D acc' :: (T3 ++ A)).Sublist ((Z ++ T1) ++ pD D acc' :: (T3 ++ A ++ [(some x, some (.val d))])) := fun {acc'} => List.Sublist.append_left (List.Sublist.cons₂ _ (List.sublist_append_left _ _)) _
    have := hg.run (wipeZ (Z.map alP) vs) L H' F' x d _ (fun σ2 H2 => wipe σ2 vs = wipe (Z.map Prod.fst) vs ∧ tt σ2 H2 fun b H3 => if b = true then tb σ2 H3 (fun H' => ∃ acc, I (i + 1) acc ∧ ∃ F, Rep F0 H0 F H' ((Z ++ T1) ++ pD D acc :: (T3 ++ A))) else ∃ acc, I (i + 1) acc ∧ ∃ F, Rep F0 H0 F H3 ((Z ++ T1) ++ pD D acc :: (T3 ++ A))) rG (Rep.last r2) turn fun Z' p1 s1 => by
      refine ⟨by rw [s1.wip vs hix, e1, wipe_twice], ht.run Z' L H' _ _ ⟨F', s1.rep⟩ p1 fun b p2 H3 r3 => ?_⟩
      cases b with
      | true =>
        rw [if_pos rfl]
        have p2' : fb (Z'.map Prod.snd) acc (I (i + 1)) := p2.t
        refine hb Z' (Z ++ T1) (T3 ++ A ++ [(some x, some (.val d))]) H3 acc _ _ r3 (fun p hp es e z => ?_) n1 (fun p hp es e => ?_) p2' fun acc' ha H4 ⟨F4, r4⟩ => ⟨acc', ha, F4, r4.sub sub1⟩
        · rcases s1.mem p hp with m | ⟨d', m⟩
          · rcases wipeZ_mem m with m | m
            · obtain ⟨⟨a, b⟩, hq, rfl⟩ := List.mem_map.mp m
              cases b with
              | none => cases e
              | some sv =>
                cases sv with
                | val _ => cases e
                | raw _ => cases e
                | ent _ => cases e
                | ali es' => exact n1 _ (List.mem_append_left _ hq) es' rfl z
                | own es' =>
                  have dd := r.dist
                  rw [List.pairwise_append] at dd
                  exact dd.2.2 _ (List.mem_append_left _ hq) _ List.mem_cons_self D es' acc z rfl rfl rfl
            · rw [m] at e; cases e
          · rw [m] at e; cases e
        · rcases List.mem_append.mp hp with z | z
          · exact n2 p z es e
          · rw [List.mem_singleton] at z; subst z; cases e
      | false =>
        rw [if_neg Bool.false_ne_true]
        obtain ⟨F3, r3⟩ := r3
        exact ⟨acc, p2.f, F3, r3.sub (sub1.trans (List.sublist_append_right _ _))⟩
    rw [e1] at this
    exact this
  · have e : i = items.length := by omega
    subst e
    exact .inl ⟨w.stops H F _ r', hd acc (hk acc hI) H ⟨F, r⟩⟩
theorem naD_new {L : Zt} {D : Addr} (r : Rep F0 H0 F H L) (n : H D = none) : NaD D L := fun p hp es e z => by
  obtain ⟨v, e1, a, vs, e2, _, h1, _⟩ := r.ok p hp _ e
  rw [z] at e1; cases e1; cases e2
  rw [n] at h1; cases h1
def ixIn (ix vs : List Nat) : Prop := (ix.all fun i => vs.contains i) = true
theorem ixIn.mem {ix vs : List Nat} (h : ixIn ix vs) : ∀ i ∈ ix, i ∈ vs := fun i hi => by
  have := List.all_eq_true.mp h i hi
  simpa using this
def dLc (fi : SD → (List PyData → Bool → Prop) → Prop) (fg : DG1) (ix : List Nat) (ft : DTX) (fe : DX) (vs : List Nat) : DX := fun σ P => fi σ fun items _ => ixIn ix vs ∧ lcG fg ft (eltF fe) (wipeD (alD σ) vs) items [] fun acc => P (.own acc)
instance {wi : TI} {g : TG} {tt : TT} {te : TE} {vs : List Nat} {fi fg ix ft fe} [hi : DI F0 H0 wi fi] [hg : DGt F0 H0 g fg ix] [ht : DT F0 H0 tt ft] [he : DE F0 H0 te fe] : DE F0 H0 (tLc wi g tt te vs) (dLc fi fg ix ft fe vs) where
  run Z T H P Q := fun hr h q => hi.run Z T H _ _ hr h fun items b h1 J H1 A ⟨F, r1⟩ _ w => fun D nD => by
    have r2 : Rep F0 H0 F H1 (Z ++ T ++ A) := by rw [List.append_assoc]; exact r1
    have r3 : Rep F0 H0 F (upd H1 D (.lst [])) ((Z ++ T) ++ pD D [] :: ([] ++ A)) := by
      have := r2.pushL nD .nil
      refine this.perm ?_
      have e : (Z ++ T ++ A) ++ [(some (V.ref D), some (SV.own []))] = (Z ++ T) ++ (A ++ [pD D []]) := by simp [pD]
      rw [e, List.nil_append]
      exact List.Perm.append_left _ (List.perm_append_singleton _ _)
    have n := naD_new r2 nD
    exact lc_loop (elt_body D) w (ixIn.mem h1.1) ⟨F, r3⟩ (fun p hp => n p (List.mem_append_left _ hp)) (fun p hp => n p (List.mem_append_right _ hp)) h1.2 fun acc ha H' ⟨F', r'⟩ => q _ ha _ _ ⟨F', by
      have : Rep F0 H0 F' H' ((Z ++ T) ++ [pD D acc]) := r'.sub (List.Sublist.append_left (List.Sublist.cons₂ _ (List.nil_sublist _)) _)
      rw [← List.append_assoc]; exact this⟩
/-- the inner clause -/
def inF (fi : SD → (List PyData → Bool → Prop) → Prop) (fg : DG1) (ix : List Nat) (ft : DTX) (fb : DB) (vs : List Nat) : DB := fun σ acc k => fi σ fun items b => b = true ∧ ixIn ix vs ∧ lcG fg ft fb (wipeD (alD σ) vs) items acc k
def inB (wi1 : TI) (g1 : TG) (tt1 : TT) (tb : TB) (vs1 : List Nat) : TB := fun σ2 H3 Nx => wi1 σ2 H3 fun J1 H4 => ∃ W1 : Nat → Nat → Hp → Prop, (∃ m, W1 0 m H4) ∧ ∀ j k H, W1 j k H →
      (J1.stop j H ∧ Nx H) ∨ (J1.go j H ∧ ∃ Nx1 : Hp → Prop, (∀ H', Nx1 H' → ∃ k', k' < k ∧ W1 (j + 1) k' H') ∧ ∀ x H', J1.yld j H x H' → g1 x (wipe σ2 vs1) H' fun σ3 H5 => wipe σ3 vs1 = wipe σ2 vs1 ∧ tt1 σ3 H5 fun b H6 => if b = true then tb σ3 H6 Nx1 else Nx1 H6)
theorem in_body {wi : TI} {g : TG} {tt : TT} {tb : TB} {vs : List Nat} {fi fg ix ft fb} [hi : DI F0 H0 wi fi] [hg : DGt F0 H0 g fg ix] [ht : DT F0 H0 tt ft] {D : Addr} (hb : BodyOk F0 H0 D tb fb) : BodyOk F0 H0 D (inB wi g tt tb vs) (inF fi fg ix ft fb vs) := fun Z T1 T2 H acc k Nx hr n0 n1 n2 h q =>
  hi.run Z (T1 ++ pD D acc :: T2) H _ _ hr h fun items b h1 J H1 A ⟨F, r1⟩ nb w => by
    have r2 : Rep F0 H0 F H1 ((Z ++ T1) ++ pD D acc :: (T2 ++ A)) := by simpa using r1
    exact lc_loop hb w (ixIn.mem h1.2.1) ⟨F, r2⟩ (fun p hp => by rcases List.mem_append.mp hp with z | z; exact n0 p z; exact n1 p z) (fun p hp es e => by rcases List.mem_append.mp hp with z | z; exact n2 p z es e; exact absurd e (nb h1.1 p z es)) h1.2.2 fun acc' ha H' ⟨F', r'⟩ => q _ ha _ ⟨F', r'.sub (by
      have e : (Z ++ T1) ++ pD D acc' :: (T2 ++ A) = Z ++ ((T1 ++ pD D acc' :: T2) ++ A) := by simp
      rw [e]
      exact (List.sublist_append_left _ _).trans (List.sublist_append_right _ _))⟩
def dLc2 (fi : SD → (List PyData → Bool → Prop) → Prop) (fg : DG1) (ix : List Nat) (ft : DTX) (fb : DB) (vs : List Nat) : DX := fun σ P => fi σ fun items _ => ixIn ix vs ∧ lcG fg ft fb (wipeD (alD σ) vs) items [] fun acc => P (.own acc)
instance {wi wi1 : TI} {g g1 : TG} {tt tt1 : TT} {te : TE} {vs vs1 : List Nat} {fi fg ix ft fi1 fg1 ix1 ft1 fe} [hi : DI F0 H0 wi fi] [hg : DGt F0 H0 g fg ix] [ht : DT F0 H0 tt ft] [hi1 : DI F0 H0 wi1 fi1] [hg1 : DGt F0 H0 g1 fg1 ix1] [ht1 : DT F0 H0 tt1 ft1] [he : DE F0 H0 te fe] :
    DE F0 H0 (tLc2 wi g tt wi1 g1 tt1 te vs vs1) (dLc2 fi fg ix ft (inF fi1 fg1 ix1 ft1 (eltF fe) vs1) vs) where
  run Z T H P Q := fun hr h q => hi.run Z T H _ _ hr h fun items b h1 J H1 A ⟨F, r1⟩ _ w => fun D nD => by
    have r2 : Rep F0 H0 F H1 (Z ++ T ++ A) := by rw [List.append_assoc]; exact r1
    have r3 : Rep F0 H0 F (upd H1 D (.lst [])) ((Z ++ T) ++ pD D [] :: ([] ++ A)) := by
      have := r2.pushL nD .nil
      refine this.perm ?_
      have e : (Z ++ T ++ A) ++ [(some (V.ref D), some (SV.own []))] = (Z ++ T) ++ (A ++ [pD D []]) := by simp [pD]
      rw [e, List.nil_append]
      exact List.Perm.append_left _ (List.perm_append_singleton _ _)
    have n := naD_new r2 nD
    exact lc_loop (in_body (elt_body D)) w (ixIn.mem h1.1) ⟨F, r3⟩ (fun p hp => n p (List.mem_append_left _ hp)) (fun p hp => n p (List.mem_append_right _ hp)) h1.2 fun acc ha H' ⟨F', r'⟩ => q _ ha _ _ ⟨F', by
      have : Rep F0 H0 F' H' ((Z ++ T) ++ [pD D acc]) := r'.sub (List.Sublist.append_left (List.Sublist.cons₂ _ (List.nil_sublist _)) _)
      rw [← List.append_assoc]; exact this⟩
end
end DL
/-! Reading by data: statements, defs. -/
namespace DL
open PySem PySem.Spec PyProof.Rows L2 NB
structure DEnds where
  nx : SD → Prop
  rt : SV → Prop
  bk : SD → Prop := fun _ => False
  ct : SD → Prop := fun _ => False
abbrev DSX := DEnds → SD → Prop
def RepS (F0 H0 H : Hp) (W : Zt) : Prop := (∃ F, Rep F0 H0 F H W) ∧ ∀ p ∈ W, NoAli p
structure Low (F0 H0 : Hp) (T : Zt) (E : DEnds) (D : Ends) : Prop where
  nx : ∀ Z H, RepS F0 H0 H (Z ++ T) → E.nx (Z.map Prod.snd) → D.nx (Z.map Prod.fst) H
  bk : ∀ Z H, RepS F0 H0 H (Z ++ T) → E.bk (Z.map Prod.snd) → D.bk (Z.map Prod.fst) H
  ct : ∀ Z H, RepS F0 H0 H (Z ++ T) → E.ct (Z.map Prod.snd) → D.ct (Z.map Prod.fst) H
  rt : ∀ sv v H, E.rt sv → (∃ F, Rep F0 H0 F H [(some v, some sv)]) → D.rt v H
class DS (F0 H0 : Hp) (t : TS) (g : outParam DSX) : Prop where
  run : ∀ (Z T : Zt) (H : Hp) (E : DEnds) (D : Ends), RepS F0 H0 H (Z ++ T) → g E (Z.map Prod.snd) → Low F0 H0 T E D → t D (Z.map Prod.fst) H
section
variable {F0 H0 F H : Hp} {K : PySem.W.Frag}
theorem Low.nx' {T : Zt} {E : DEnds} {D : Ends} (l : Low F0 H0 T E D) (f : L2.St → Hp → Prop) (p : SD → Prop) (h : ∀ Z H, RepS F0 H0 H (Z ++ T) → p (Z.map Prod.snd) → f (Z.map Prod.fst) H) : Low F0 H0 T { E with nx := p } { D with nx := f } := ⟨h, l.bk, l.ct, l.rt⟩
instance : DS F0 H0 tNext (fun E σ => E.nx σ) where
  run Z T H E D r h l := l.nx Z H r h
instance : DS F0 H0 tBreak (fun E σ => E.bk σ) where
  run Z T H E D r h l := l.bk Z H r h
instance : DS F0 H0 tCont (fun E σ => E.ct σ) where
  run Z T H E D r h l := l.ct Z H r h
def dSeq (g1 g2 : DSX) : DSX := fun E σ => g1 { E with nx := g2 E } σ
instance {t u : TS} {g1 g2 : DSX} [h1 : DS F0 H0 t g1] [h2 : DS F0 H0 u g2] : DS F0 H0 (tSeq t u) (dSeq g1 g2) where
  run Z T H E D r h l := h1.run Z T H _ _ r h (l.nx' _ _ fun Z' H' r' h' => h2.run Z' T H' E D r' h' l)
def dCut (g1 g2 : DSX) : DSX := fun E σ => ∃ M : SD → Prop, g1 { E with nx := M } σ ∧ ∀ σ', M σ' → g2 E σ'
instance {t u : TS} {g1 g2 : DSX} [h1 : DS F0 H0 t g1] [h2 : DS F0 H0 u g2] : DS F0 H0 (C8.tCut t u) (dCut g1 g2) where
  run Z T H E D r h l := by
    obtain ⟨M, h, k⟩ := h
    refine ⟨fun σ' H' => ∃ Z', Z'.map Prod.fst = σ' ∧ RepS F0 H0 H' (Z' ++ T) ∧ M (Z'.map Prod.snd), h1.run Z T H _ _ r h (l.nx' _ _ fun Z' H' r' h' => ⟨Z', rfl, r', h'⟩), ?_⟩
    rintro σ' H' ⟨Z', rfl, r', h'⟩
    exact h2.run Z' T H' E D r' (k _ h') l
def dIfS (fc : DTX) (g1 g2 : DSX) : DSX := fun E σ => fc σ fun b => Br b (g1 E σ) (g2 E σ)
theorem noali_left {A B : Zt} (h : ∀ p ∈ A ++ B, NoAli p) : ∀ p ∈ A, NoAli p := fun p hp => h p (List.mem_append_left _ hp)
instance {c : TT} {t u : TS} {fc : DTX} {g1 g2 : DSX} [hc : DT F0 H0 c fc] [h1 : DS F0 H0 t g1] [h2 : DS F0 H0 u g2] : DS F0 H0 (tIfS c t u) (dIfS fc g1 g2) where
  run Z T H E D r h l := hc.run Z T H _ _ r.1 h fun b hb H1 r1 => by
    cases b with
    | true => exact iteT (h1.run Z T H1 E D ⟨r1, r.2⟩ hb.t l)
    | false => exact iteF (h2.run Z T H1 E D ⟨r1, r.2⟩ hb.f l)
/-- x = e -/
def dSet (i : Nat) (f : DX) : DSX := fun E σ => f σ fun sv => match sv with
  | .own ds => E.nx (σ.set i (some (.own ds))) ∨ E.nx (σ.set i (some (.val (.list ds))))
  | .ali _ => False
  | .ent _ => False
  | sv => E.nx (σ.set i (some sv))
theorem store_S {Z T : Zt} {v : V} {sv : SV} {i : Nat} (r : ∃ F, Rep F0 H0 F H (Z ++ (T ++ [(some v, some sv)]))) (n : ∀ p ∈ Z ++ T, NoAli p) (ns : ∀ es, sv ≠ .ali es) : RepS F0 H0 H (Z.set i (some v, some sv) ++ T) := by
  obtain ⟨F, r⟩ := r
  refine ⟨⟨F, r.store⟩, fun p hp => ?_⟩
  rcases List.mem_append.mp hp with z | z
  · rcases List.mem_or_eq_of_mem_set z with z | z
    · exact n p (List.mem_append_left _ z)
    · subst z; exact fun es e => ns es (Option.some.inj e)
  · exact n p (List.mem_append_right _ z)
theorem low_set {Z T : Zt} {E : DEnds} {D : Ends} {i : Nat} {v : V} {sv : SV} (l : Low F0 H0 T E D) (r : RepS F0 H0 H (Z.set i (some v, some sv) ++ T)) (h : E.nx ((Z.map Prod.snd).set i (some sv))) : D.nx ((Z.map Prod.fst).set i (some v)) H := by
  have := l.nx _ _ r (by rw [map_set_snd]; exact h)
  rw [map_set_fst] at this
  exact this
instance {te : TE} {f : DX} {i : Nat} [he : DE F0 H0 te f] : DS F0 H0 (tAsg te (gName i)) (dSet i f) where
  run Z T H E D r h l := he.run Z T H _ _ r.1 h fun sv hs v H' r' => by
    show D.nx ((Z.map Prod.fst).set i (some v)) H'
    cases sv with
    | val d => exact low_set l (store_S r' r.2 (by intro _ e; cases e)) hs
    | raw u => exact low_set l (store_S r' r.2 (by intro _ e; cases e)) hs
    | ent u => exact hs.elim
    | ali ds => exact hs.elim
    | own ds =>
      rcases hs with hs | hs
      · exact low_set l (store_S r' r.2 (by intro _ e; cases e)) hs
      · obtain ⟨F', r'⟩ := r'
        rw [← List.append_assoc] at r'
        obtain ⟨F2, r2⟩ := r'.freeze
        exact low_set l (store_S ⟨F2, by rw [← List.append_assoc]; exact r2⟩ r.2 (by intro _ e; cases e)) hs
/-- a, b = e -/
def dUnp (g : DG1) (f : DX) : DSX := fun E σ => f σ fun sv => match sv with | .val d => g d σ E.nx | _ => False
instance {te : TE} {f : DX} {n : Nat} {t : TGs} {g : DG1} {ix} [he : DE F0 H0 te f] [hg : DGt F0 H0 (gTup K n t) g ix] : DS F0 H0 (tAsg te (gTup K n t)) (dUnp g f) where
  run Z T H E D r h l := he.run Z T H _ _ r.1 h fun sv hs v H' ⟨F, r'⟩ => by
    cases sv with
    | own _ => exact hs.elim
    | ali _ => exact hs.elim
    | raw _ => exact hs.elim
    | ent _ => exact hs.elim
    | val d =>
      obtain ⟨r0, rv⟩ := one_tmp r'
      exact hg.run Z T H' F v d _ _ r0 rv hs fun Z' p' s' => l.nx Z' H' ⟨⟨F, s'.rep⟩, fun p hp => by
        rcases List.mem_append.mp hp with z | z
        · rcases s'.mem p z with z | ⟨d', z⟩
          · exact r.2 p (List.mem_append_left _ z)
          · exact fun es e => by rw [z] at e; cases e
        · exact r.2 p (List.mem_append_right _ z)⟩ p'
/-- x[k] = e, x an own list -/
def dPut (i : Nat) (fk fe : DX) : DSX := fun E σ => fe σ fun sv => match sv.fix?, σ[i]? with
  | some e, some (some (.own ds)) => fk σ fun sk => match sk.int? with
    | some k => ∃ j, ixN ds.length k = some j ∧ E.nx (σ.set i (some (.own (ds.set j e))))
    | none => False
  | _, _ => False
theorem own_put {Z T : Zt} {i : Nat} {ds es : List PyData} {vs : List V} {a : Addr} (r : Rep F0 H0 F H (Z ++ T)) (n : ∀ p ∈ Z ++ T, NoAli p) (h : Z[i]? = some (some (.ref a), some (.own ds))) (hv : DvAll F vs es) : RepS F0 H0 (upd H a (.lst vs)) (Z.set i (some (.ref a), some (.own es)) ++ T) := by
  have hi : i < Z.length := (List.getElem?_eq_some_iff.mp h).1
  obtain ⟨A, z, B, h1, h2, h3⟩ := cut_at Z i hi
  have hz : z = (some (.ref a), some (.own ds)) := by
    rw [h1, List.getElem?_append_right (by omega), h2, Nat.sub_self] at h
    exact Option.some.inj h
  subst hz
  rw [h3]
  rw [h1] at r n
  have r1 : Rep F0 H0 F H (A ++ (some (.ref a), some (.own ds)) :: (B ++ T)) := by simpa using r
  have nn : ∀ p, p ∈ A ∨ p ∈ B ++ T → NoAli p := fun p hp => n p (by
    rcases hp with z | z
    · simp [z]
    · rcases List.mem_append.mp z with z | z <;> simp [z])
  have r2 := r1.put (fun p hp es e => absurd e (nn p hp es)) hv
  refine ⟨⟨F, by simpa using r2⟩, fun p hp => ?_⟩
  have hp' : p ∈ A ++ (some (.ref a), some (.own es)) :: (B ++ T) := by simpa using hp
  rcases List.mem_append.mp hp' with z | z
  · exact nn p (.inl z)
  · rcases List.mem_cons.mp z with z | z
    · subst z; exact fun es e => nomatch e
    · exact nn p (.inr z)
theorem own_slot {Z T : Zt} {i : Nat} {ds : List PyData} (r : Rep F0 H0 F H (Z ++ T)) (h : (Z.map Prod.snd)[i]? = some (some (.own ds))) : ∃ a vs, Z[i]? = some (some (.ref a), some (.own ds)) ∧ (Z.map Prod.fst)[i]? = some (some (.ref a)) ∧ H a = some (.lst vs) ∧ DvAll F vs ds := by
  obtain ⟨v, h1, h2, a, vs, rfl, _, _, h3, h4⟩ := slot_val r h
  exact ⟨a, vs, h1, h2, h3, h4⟩
instance {te tk : TE} {fe fk : DX} {i : Nat} [he : DE F0 H0 te fe] [hk : DE F0 H0 tk fk] : DS F0 H0 (tAsg te (gSub (tVar i) tk rSetL)) (dPut i fk fe) where
  run Z T H E D r h l := he.run Z T H _ _ r.1 h fun sv hs v H1 ⟨F1, r1⟩ => by
    cases e : sv.fix? with
    | none => rw [e] at hs; exact hs.elim
    | some d =>
      rw [e] at hs
      rw [← List.append_assoc] at r1
      obtain ⟨F2, r2⟩ := r1.fixLast e
      cases e3 : (Z.map Prod.snd)[i]? with
      | none => rw [e3] at hs; exact hs.elim
      | some o =>
        match o, e3 with
        | none, e3 => rw [e3] at hs; exact hs.elim
        | some (.val _), e3 => rw [e3] at hs; exact hs.elim
        | some (.ali _), e3 => rw [e3] at hs; exact hs.elim
        | some (.raw _), e3 => rw [e3] at hs; exact hs.elim
        | some (.ent _), e3 => rw [e3] at hs; exact hs.elim
        | some (.own ds), e3 =>
          rw [e3] at hs
          obtain ⟨a, vs, z1, z2, _, _⟩ := own_slot r2.left e3
          have hs' : fk (Z.map Prod.snd) fun sk => match sk.int? with
            | some k => ∃ j, ixN ds.length k = some j ∧ E.nx ((Z.map Prod.snd).set i (some (.own (ds.set j d))))
            | none => False := hs
          refine ⟨.ref a, z2, hk.run Z (T ++ [(some v, some (.val d))]) H1 _ _ ⟨F2, by rw [← List.append_assoc]; exact r2⟩ hs' fun sk hk' w H3 ⟨F3, r3⟩ => ?_⟩
          cases e4 : sk.int? with
          | none => rw [e4] at hk'; exact hk'.elim
          | some k =>
            rw [e4] at hk'
            obtain ⟨j, hj, hn⟩ := hk'
            have r4 : Rep F0 H0 F3 H3 ((Z ++ T ++ [(some v, some (.val d))]) ++ [(some w, some sk)]) := by simpa using r3
            have rv := r4.left.last
            have rw' := r4.last.int e4
            obtain ⟨a', vs3, z3, z4, z5, z6⟩ := own_slot r4.left.left e3
            rw [z1] at z3; cases z3
            refine ⟨a, vs3, k, j, rfl, rw', z5, by rw [z6.length]; exact hj, ?_⟩
            have r5 := own_put r4.left.left r.2 z1 (z6.set (show Dv F3 v d from rv) j)
            have := l.nx _ _ r5 (by rw [map_set_snd]; exact hn)
            rw [map_set_fst] at this
            have e5 : (Z.map Prod.fst).set i (some (V.ref a)) = Z.map Prod.fst := by
              refine List.ext_getElem? fun n => ?_
              rw [List.getElem?_set]
              by_cases hin : i = n
              · subst hin
                rw [if_pos rfl, if_pos (List.getElem?_eq_some_iff.mp z2).1]; exact z2.symm
              · rw [if_neg hin]
            rw [e5] at this
            exact this
theorem set_self {Z : Zt} {i : Nat} {x : Option V} (h : (Z.map Prod.fst)[i]? = some x) : (Z.map Prod.fst).set i x = Z.map Prod.fst := by
  refine List.ext_getElem? fun n => ?_
  rw [List.getElem?_set]
  by_cases hin : i = n
  · subst hin
    rw [if_pos rfl, if_pos (List.getElem?_eq_some_iff.mp h).1]; exact h.symm
  · rw [if_neg hin]
/-- x += e -/
def dAug (i : Nat) (o : SV → SV → (SV → Prop) → Prop) (f : DX) : DSX := fun E σ => match σ[i]? with
  | some (some (.val d)) => f σ fun sy => o (.val d) sy fun sv => match sv with
    | .val e => E.nx (σ.set i (some (.val e)))
    | _ => False
  | _ => False
instance {te : TE} {f : DX} {i : Nat} {r : R2} {o} [he : DE F0 H0 te f] [ho : OpD F0 H0 r o] : DS F0 H0 (tAug i te r) (dAug i o f) where
  run Z T H E D r h l := by
    unfold dAug at h
    cases e3 : (Z.map Prod.snd)[i]? with
    | none => rw [e3] at h; exact h.elim
    | some ov =>
      match ov, e3 with
      | none, e3 => rw [e3] at h; exact h.elim
      | some (.own _), e3 => rw [e3] at h; exact h.elim
      | some (.ali _), e3 => rw [e3] at h; exact h.elim
      | some (.raw _), e3 => rw [e3] at h; exact h.elim
      | some (.ent _), e3 => rw [e3] at h; exact h.elim
      | some (.val d), e3 =>
        rw [e3] at h
        obtain ⟨F, r0⟩ := r.1
        obtain ⟨v, z1, z2, rv⟩ := slot_val r0 e3
        have h' : f (Z.map Prod.snd) fun sy => o (.val d) sy fun sv => match sv with
          | .val e => E.nx ((Z.map Prod.snd).set i (some (.val e)))
          | _ => False := h
        refine ⟨v, z2, he.run Z T H _ _ ⟨F, r0⟩ h' fun sy hy y H1 ⟨F1, r1⟩ => ?_⟩
        obtain ⟨r1', ry⟩ := one_tmp r1
        obtain ⟨v', z3, _, rv'⟩ := slot_val r1' e3
        rw [z1] at z3; cases z3
        have r2 : Rep F0 H0 F1 H1 ((Z ++ T) ++ [(some v, some (.val d)), (some y, some sy)]) := by
          have q1 : Rep F0 H0 F1 H1 ((Z ++ T) ++ [(some y, some sy)]) := by rw [List.append_assoc]; exact r1
          have q2 := q1.pushV (v := v) (d := d) rv'
          refine q2.perm ?_
          have e : ((Z ++ T) ++ [(some y, some sy)]) ++ [(some v, some (SV.val d))] = (Z ++ T) ++ [(some y, some sy), (some v, some (SV.val d))] := by simp
          rw [e]
          exact List.Perm.append_left _ (List.Perm.swap _ _ _)
        refine ho.run (Z ++ T) v y (.val d) sy H1 _ _ ⟨F1, r2⟩ hy fun sv hs w H2 ⟨F2, r3⟩ => ?_
        cases sv with
        | own _ => exact hs.elim
        | ali _ => exact hs.elim
        | raw _ => exact hs.elim
        | ent _ => exact hs.elim
        | val e => exact low_set l (store_S ⟨F2, by rw [← List.append_assoc]; exact r3⟩ r.2 (by intro _ e; cases e)) hs
/-- an expression alone -/
def dDrop (f : DX) : DSX := fun E σ => f σ fun _ => E.nx σ
instance (priority := low) {te : TE} {f : DX} [he : DE F0 H0 te f] : DS F0 H0 (tDrop te) (dDrop f) where
  run Z T H E D r h l := he.run Z T H _ _ r.1 h fun sv hs v H' ⟨F, r'⟩ => l.nx Z H' ⟨⟨F, (one_tmp r').1⟩, r.2⟩ hs
/-- x.append(e), x an own list -/
def dApp (i : Nat) (f : DX) : DSX := fun E σ => match σ[i]? with
  | some (some (.own ds)) => f σ fun sv => match sv.fix? with
    | some e => ds.length < sizeLine ∧ E.nx (σ.set i (some (.own (ds ++ [e]))))
    | none => False
  | _ => False
instance {te : TE} {f : DX} {i : Nat} [he : DE F0 H0 te f] : DS F0 H0 (tDrop (tBM K "list" rAppend (tVar i) (tCons te tNil))) (dApp i f) where
  run Z T H E D r h l := by
    unfold dApp at h
    cases e3 : (Z.map Prod.snd)[i]? with
    | none => rw [e3] at h; exact h.elim
    | some ov =>
      match ov, e3 with
      | none, e3 => rw [e3] at h; exact h.elim
      | some (.val _), e3 => rw [e3] at h; exact h.elim
      | some (.ali _), e3 => rw [e3] at h; exact h.elim
      | some (.raw _), e3 => rw [e3] at h; exact h.elim
      | some (.ent _), e3 => rw [e3] at h; exact h.elim
      | some (.own ds), e3 =>
        rw [e3] at h
        obtain ⟨F, r0⟩ := r.1
        obtain ⟨a, vs, z1, z2, z3, _⟩ := own_slot r0 e3
        have h' : f (Z.map Prod.snd) fun sv => match sv.fix? with
          | some e => ds.length < sizeLine ∧ E.nx ((Z.map Prod.snd).set i (some (.own (ds ++ [e]))))
          | none => False := h
        refine ⟨.ref a, z2, .inl ⟨rfl, _, SqL.of z3⟩, he.run Z T H _ _ ⟨F, r0⟩ h' fun sv hs y H1 ⟨F1, r1⟩ => ?_⟩
        cases e : sv.fix? with
        | none => rw [e] at hs; exact hs.elim
        | some d =>
          rw [e] at hs
          rw [← List.append_assoc] at r1
          obtain ⟨F2, r2⟩ := r1.fixLast e
          obtain ⟨a', vs2, q1, q2, q3, q4⟩ := own_slot r2.left e3
          rw [z1] at q1; cases q1
          refine ⟨a, vs2, y, rfl, rfl, q3, by rw [q4.length]; exact hs.1, ?_⟩
          have := l.nx _ _ (own_put r2.left r.2 z1 (q4.app (.cons r2.last .nil))) (by rw [map_set_snd]; exact hs.2)
          rw [map_set_fst, set_self z2] at this
          exact this
/-! ### return -/
def frzD (σ : SD) : SD := σ.map (Option.map SV.frz)
def frzP (p : Option V × Option SV) : Option V × Option SV := (p.1, p.2.map SV.frz)
theorem Rep.frzAll : ∀ (Z A B : Zt) (F : Hp), (∀ p ∈ Z, NoAli p) → Rep F0 H0 F H (A ++ Z ++ B) → ∃ F', Rep F0 H0 F' H (A ++ Z.map frzP ++ B)
  | [], A, B, F, _, r => ⟨F, by simpa using r⟩
  | (x, none) :: Z, A, B, F, n, r => by
    obtain ⟨F', r'⟩ := Rep.frzAll Z (A ++ [(x, none)]) B F (fun p hp => n p (List.mem_cons_of_mem _ hp)) (by simpa using r)
    exact ⟨F', by simpa [frzP] using r'⟩
  | (x, some (.val d)) :: Z, A, B, F, n, r => by
    obtain ⟨F', r'⟩ := Rep.frzAll Z (A ++ [(x, some (.val d))]) B F (fun p hp => n p (List.mem_cons_of_mem _ hp)) (by simpa using r)
    exact ⟨F', by simpa [frzP, SV.frz] using r'⟩
  | (x, some (.raw d)) :: Z, A, B, F, n, r => by
    obtain ⟨F', r'⟩ := Rep.frzAll Z (A ++ [(x, some (.raw d))]) B F (fun p hp => n p (List.mem_cons_of_mem _ hp)) (by simpa using r)
    exact ⟨F', by simpa [frzP, SV.frz] using r'⟩
  | (x, some (.ent d)) :: Z, A, B, F, n, r => by
    obtain ⟨F', r'⟩ := Rep.frzAll Z (A ++ [(x, some (.ent d))]) B F (fun p hp => n p (List.mem_cons_of_mem _ hp)) (by simpa using r)
    exact ⟨F', by simpa [frzP, SV.frz] using r'⟩
  | (x, some (.ali d)) :: Z, A, B, F, n, r => absurd rfl (n _ List.mem_cons_self d)
  | (x, some (.own d)) :: Z, A, B, F, n, r => by
    have r0 : Rep F0 H0 F H (A ++ (x, some (.own d)) :: (Z ++ B)) := by simpa using r
    obtain ⟨F1, r1⟩ := r0.freeze
    obtain ⟨F', r'⟩ := Rep.frzAll Z (A ++ [(x, some (.val (.list d)))]) B F1 (fun p hp => n p (List.mem_cons_of_mem _ hp)) (by simpa using r1)
    exact ⟨F', by simpa [frzP, SV.frz] using r'⟩
theorem frz_fst (Z : Zt) : (Z.map frzP).map Prod.fst = Z.map Prod.fst := by rw [List.map_map]; rfl
theorem frz_snd (Z : Zt) : (Z.map frzP).map Prod.snd = frzD (Z.map Prod.snd) := by unfold frzD; rw [List.map_map, List.map_map]; rfl
def dRet (f : DX) : DSX := fun E σ => f (frzD σ) E.rt
instance (priority := low) {te : TE} {f : DX} [he : DE F0 H0 te f] : DS F0 H0 (tRet te) (dRet f) where
  run Z T H E D r h l := by
    obtain ⟨F, r0⟩ := r.1
    obtain ⟨F1, r1⟩ := Rep.frzAll (F0 := F0) (H0 := H0) Z [] T F (noali_left r.2) r0
    have h' : f ((Z.map frzP).map Prod.snd) E.rt := by rw [frz_snd]; exact h
    have := he.run (Z.map frzP) T H _ D.rt ⟨F1, r1⟩ h' fun sv hs v H' ⟨F2, r2⟩ => l.rt sv v H' hs ⟨F2, r2.sub ((List.sublist_append_right _ _).trans (List.sublist_append_right _ _))⟩
    rw [frz_fst] at this
    exact this
/-- return x -/
def dRetV (i : Nat) : DSX := fun E σ => match σ[i]? with | some (some sv) => E.rt sv | _ => False
instance {i : Nat} : DS F0 H0 (tRet (tVar i)) (dRetV i) where
  run Z T H E D r h l := by
    unfold dRetV at h
    cases e : (Z.map Prod.snd)[i]? with
    | none => rw [e] at h; exact h.elim
    | some o =>
      cases o with
      | none => rw [e] at h; exact h.elim
      | some sv =>
        rw [e] at h
        obtain ⟨F, r0⟩ := r.1
        obtain ⟨v, h1, h2, rv⟩ := slot_val r0 e
        exact ⟨v, h2, l.rt sv v H h ⟨F, r0.sub (List.singleton_sublist.mpr (List.mem_append_left _ (List.mem_of_getElem? h1)))⟩⟩
instance : DS F0 H0 tRetN (fun E σ => E.rt (.val .none)) where
  run Z T H E D r h l := by
    obtain ⟨F, r0⟩ := r.1
    exact l.rt _ _ H h ⟨F, by simpa using (r0.pushV (v := .non) (d := .none) .non).sub (List.sublist_append_right _ _)⟩
/-! ### raise -/
def dRaise (C : Addr) (ER : Addr → Int → Prop) (fa : DAX) : DSX := fun _ σ => fa σ fun as => match as with
  | [x] => match x.int? with | some i => i.natAbs.log2 < 1920 ∧ ER C i | none => False
  | _ => False
instance {C : Addr} {E' : XK} {ER} [hE : EOk H0 E' ER] {ta : TA} {fa : DAX} [ha : DA F0 H0 ta fa] : DS F0 H0 (_root_.ER.tRaise C (fun cls d _ H => E' cls d H) ta) (dRaise C ER fa) where
  run Z T H E D r h l := ha.run Z T H _ _ r.1 h fun A h1 H1 ⟨F, r1⟩ => by
    rcases A with _ | ⟨⟨v, sv⟩, _ | ⟨q, A⟩⟩
    all_goals first | exact False.elim h1 | skip
    · simp only [List.map_cons, List.map_nil] at h1
      cases e : sv.int? with
      | none => rw [e] at h1; exact h1.elim
      | some i =>
        rw [e] at h1
        obtain ⟨r0, rv⟩ := one_tmp (v := v) (sv := sv) r1
        exact ⟨i, by rw [← rv.int e]; rfl, h1.1, fun d nd => hE.run C i h1.2 d H1 r1.ent nd⟩
/-! ### loops -/
def dWhile (fc : DTX) (g : DSX) : DSX := fun E σ => ∃ (I : SD → Prop) (μ : SD → Nat), I σ ∧ ∀ σ, I σ → fc σ fun b => Br b (g { E with nx := fun σ' => I σ' ∧ μ σ' < μ σ, ct := fun σ' => I σ' ∧ μ σ' < μ σ, bk := E.nx } σ) (E.nx σ)
instance {c : TT} {t : TS} {fc : DTX} {g : DSX} [hc : DT F0 H0 c fc] [hg : DS F0 H0 t g] : DS F0 H0 (tWhile c t) (dWhile fc g) where
  run Z T H E D r h l := by
    obtain ⟨I, μ, h0, hs⟩ := h
    refine ⟨fun m σ H => ∃ Z', Z'.map Prod.fst = σ ∧ RepS F0 H0 H (Z' ++ T) ∧ I (Z'.map Prod.snd) ∧ m = μ (Z'.map Prod.snd), ⟨_, Z, rfl, r, h0, rfl⟩, ?_⟩
    rintro m σ H' ⟨Z', rfl, r', h', rfl⟩
    refine hc.run Z' T H' _ _ r'.1 (hs _ h') fun b hb H1 r1 => ?_
    cases b with
    | true =>
      refine iteT ⟨fun σ H => ∃ Z2, Z2.map Prod.fst = σ ∧ RepS F0 H0 H (Z2 ++ T) ∧ I (Z2.map Prod.snd) ∧ μ (Z2.map Prod.snd) < μ (Z'.map Prod.snd), fun σ' H' ⟨Z2, a, b, c, d⟩ => ⟨_, d, Z2, a, b, c, rfl⟩, ?_⟩
      exact hg.run Z' T H1 _ _ ⟨r1, r'.2⟩ hb.t ⟨fun Z2 H2 q p => ⟨Z2, rfl, q, p.1, p.2⟩, l.nx, fun Z2 H2 q p => ⟨Z2, rfl, q, p.1, p.2⟩, l.rt⟩
    | false => exact iteF (l.nx Z' H1 ⟨r1, r'.2⟩ hb.f)
/-- what a for walks is let go first -/
class FV (w : TI) (is : outParam (List Nat)) : Prop where
  triv : True
instance (priority := low) {w : TI} : FV w [] := ⟨trivial⟩
instance {i : Nat} : FV (iList K (tVar i)) [i] := ⟨trivial⟩
instance {i : Nat} : FV (iEnum K (tCons (tVar i) tNil)) [i] := ⟨trivial⟩
instance {i : Nat} : FV (iRev K (tCons (tVar i) tNil)) [i] := ⟨trivial⟩
instance {i j : Nat} : FV (iZip K (tCons (tVar i) (tCons (tVar j) tNil))) [i, j] := ⟨trivial⟩
def frz1 (i : Nat) (σ : SD) : SD := match σ[i]? with | some (some (.own ds)) => σ.set i (some (.val (.list ds))) | _ => σ
def frzL : List Nat → SD → SD
  | [], σ => σ
  | i :: is, σ => frzL is (frz1 i σ)
theorem Rep.frz1 {Z T : Zt} (i : Nat) (r : RepS F0 H0 H (Z ++ T)) : ∃ Z', Z'.map Prod.fst = Z.map Prod.fst ∧ Z'.map Prod.snd = frz1 i (Z.map Prod.snd) ∧ RepS F0 H0 H (Z' ++ T) := by
  cases e : (Z.map Prod.snd)[i]? with
  | none => exact ⟨Z, rfl, by unfold DL.frz1; rw [e], r⟩
  | some o =>
    match o, e with
    | none, e => exact ⟨Z, rfl, by unfold DL.frz1; rw [e], r⟩
    | some (.val _), e => exact ⟨Z, rfl, by unfold DL.frz1; rw [e], r⟩
    | some (.ali _), e => exact ⟨Z, rfl, by unfold DL.frz1; rw [e], r⟩
    | some (.raw _), e => exact ⟨Z, rfl, by unfold DL.frz1; rw [e], r⟩
    | some (.ent _), e => exact ⟨Z, rfl, by unfold DL.frz1; rw [e], r⟩
    | some (.own ds), e =>
      obtain ⟨F, r0⟩ := r.1
      obtain ⟨a, vs, z1, z2, _, _⟩ := own_slot r0 e
      have hi : i < Z.length := (List.getElem?_eq_some_iff.mp z1).1
      obtain ⟨A, z, B, h1, h2, h3⟩ := cut_at Z i hi
      have hz : z = (some (.ref a), some (.own ds)) := by
        rw [h1, List.getElem?_append_right (by omega), h2, Nat.sub_self] at z1
        exact Option.some.inj z1
      subst hz
      have r1 : Rep F0 H0 F H (A ++ (some (.ref a), some (.own ds)) :: (B ++ T)) := by rw [h1] at r0; simpa using r0
      obtain ⟨F', r2⟩ := r1.freeze
      refine ⟨Z.set i (some (.ref a), some (.val (.list ds))), by rw [map_set_fst, set_self z2], by rw [map_set_snd]; unfold DL.frz1; rw [e], ⟨F', by rw [h3]; simpa using r2⟩, fun p hp => ?_⟩
      rcases List.mem_append.mp hp with w | w
      · rcases List.mem_or_eq_of_mem_set w with w | w
        · exact r.2 p (List.mem_append_left _ w)
        · subst w; exact fun es e => nomatch e
      · exact r.2 p (List.mem_append_right _ w)
theorem Rep.frzL {T : Zt} : ∀ (is : List Nat) {Z : Zt}, RepS F0 H0 H (Z ++ T) → ∃ Z', Z'.map Prod.fst = Z.map Prod.fst ∧ Z'.map Prod.snd = frzL is (Z.map Prod.snd) ∧ RepS F0 H0 H (Z' ++ T)
  | [], Z, r => ⟨Z, rfl, rfl, r⟩
  | i :: is, Z, r => by
    obtain ⟨Z1, a1, a2, a3⟩ := Rep.frz1 i r
    obtain ⟨Z2, b1, b2, b3⟩ := Rep.frzL is a3
    exact ⟨Z2, b1.trans a1, by rw [b2, a2]; rfl, b3⟩
def loopD (g : DG1) (body : DSX) (items : List PyData) : DSX := fun E σ => ∃ I : Nat → SD → Prop, I 0 σ ∧
  (∀ i d σ, items[i]? = some d → I i σ → g d σ fun σ' => body { E with nx := I (i + 1), ct := I (i + 1), bk := E.nx } σ') ∧ ∀ σ, I items.length σ → E.nx σ
def dFor (is : List Nat) (fi : SD → (List PyData → Bool → Prop) → Prop) (g : DG1) (body : DSX) : DSX := fun E σ => fi (frzL is σ) fun items b => b = true ∧ loopD g body items E (frzL is σ)
instance {wi : TI} {is fi} {g : TG} {fg ix} {tb : TS} {gb : DSX} [FV wi is] [hi : DI F0 H0 wi fi] [hg : DGt F0 H0 g fg ix] [hb : DS F0 H0 tb gb] : DS F0 H0 (tFor wi g tb) (dFor is fi fg gb) where
  run Z T H E D r h l := by
    obtain ⟨Z0, e1, e2, r0⟩ := Rep.frzL is r
    unfold dFor at h
    rw [← e2] at h
    rw [← e1]
    refine hi.run Z0 T H _ _ r0.1 h fun items b h1 J H1 A ⟨F1, r1⟩ na w => ?_
    obtain ⟨rfl, I, h0, hs, hk⟩ := h1
    have nA := na rfl
    have nTA : ∀ {Z' : Zt}, (∀ p ∈ Z' ++ T, NoAli p) → ∀ p ∈ Z' ++ (T ++ A), NoAli p := fun n p hp => by
      rw [← List.append_assoc] at hp
      rcases List.mem_append.mp hp with z | z
      · exact n p z
      · exact nA p z
    have back : ∀ {Z' : Zt} {H' : Hp}, RepS F0 H0 H' (Z' ++ (T ++ A)) → RepS F0 H0 H' (Z' ++ T) := fun {Z' H'} q => by
      obtain ⟨⟨F', q1⟩, q2⟩ := q
      rw [← List.append_assoc] at q1 q2
      exact ⟨⟨F', q1.left⟩, noali_left q2⟩
    refine ⟨fun i m σ H => m = items.length - i ∧ i ≤ items.length ∧ ∃ Z', Z'.map Prod.fst = σ ∧ RepS F0 H0 H (Z' ++ (T ++ A)) ∧ I i (Z'.map Prod.snd), ⟨items.length, by simp, Nat.zero_le _, Z0, rfl, ⟨⟨F1, r1⟩, nTA r0.2⟩, h0⟩, ?_⟩
    rintro i m σ H' ⟨rfl, hle, Z', rfl, r', hI⟩
    obtain ⟨⟨F', r1'⟩, n'⟩ := r'
    have r2 : Rep F0 H0 F' H' ((Z' ++ T) ++ A) := by rw [List.append_assoc]; exact r1'
    by_cases hlt : i < items.length
    · refine .inr ⟨w.goes i H' F' _ hlt r2, fun σ H => ∃ Z', Z'.map Prod.fst = σ ∧ RepS F0 H0 H (Z' ++ (T ++ A)) ∧ I (i + 1) (Z'.map Prod.snd), fun σ2 H2 hn => ⟨items.length - (i + 1), by omega, rfl, hlt, hn⟩, fun x H2 y => ?_⟩
      have hd : items[i]? = some items[i] := List.getElem?_eq_getElem hlt
      obtain ⟨F2, r3⟩ := w.yields i H' x H2 F' _ _ hd r2 y
      refine hg.run Z' (T ++ A) H2 F2 x items[i] _ _ (by rw [← List.append_assoc]; exact r3.left) r3.last (hs i _ _ hd hI) fun Z3 p3 s3 => ?_
      refine hb.run Z3 (T ++ A) H2 _ _ ⟨⟨F2, s3.rep⟩, fun p hp => ?_⟩ p3 ⟨fun Z4 H4 q p => ⟨Z4, rfl, q, p⟩, fun Z4 H4 q p => l.nx Z4 H4 (back q) p, fun Z4 H4 q p => ⟨Z4, rfl, q, p⟩, l.rt⟩
      rcases List.mem_append.mp hp with z | z
      · rcases s3.mem p z with z | ⟨d', z⟩
        · exact n' p (List.mem_append_left _ z)
        · exact fun es e => by rw [z] at e; cases e
      · exact n' p (List.mem_append_right _ z)
    · have e : i = items.length := by omega
      subst e
      exact .inl ⟨w.stops H' F' _ r2, l.nx Z' H' (back ⟨⟨F', r1'⟩, n'⟩) (hk _ hI)⟩
end
end DL
/-! Reading by data: rules with K named, small things. -/
namespace DL
open PySem PySem.Spec PyProof.Rows L2 NB
theorem pe_z {X : Cx} (n : Int) {j pos} {i : Int} (h : i = n := by rfl) : PE X (.Constant (.int i) j pos) (tC (.int n)) := by subst h; exact pe_int
theorem pass00 {X : Cx} : Passes CX0 X (fun _ _ _ => False) := pass0
section
variable {X : Cx} {K : PySem.W.Frag}
theorem call_lenK (h : X.K = K) : CallR X (.builtin "len") (fun xs H Q => ∃ p ys, xs = [.ref p] ∧ (SqL K H p ys ∨ SqT K H p ys) ∧ Q (.int ys.length) H) := h ▸ call_len_seq
end
end DL
/-! Data: lists of ints, equality. -/
namespace DL
open PySem PySem.Spec PyProof.Rows L2 NB
theorem D_at {α : Type} {ds : List α} {i : Int} (h0 : 0 ≤ i) (h : i < ds.length) : atI ds i = some (ds[i.toNat]'(by omega)) := by
  unfold atI ixN
  rw [if_pos h0, if_pos h]
  simp
theorem D_atN {α : Type} {ds : List α} {i : Nat} {d : α} (h : ds[i]? = some d) : atI ds (i : Int) = some d := by
  have hl := (List.getElem?_eq_some_iff.mp h).1
  rw [D_at (by omega) (by omega)]
  simp only [Int.toNat_natCast]
  rw [← List.getElem?_eq_getElem, h]
theorem ixN_pos {n : Nat} {i : Int} (h0 : 0 ≤ i) (h : i < n) : ixN n i = some i.toNat := by unfold ixN; rw [if_pos h0, if_pos h]
theorem LI_len (ns : List Int) : (LI ns).length = ns.length := by unfold LI; simp
theorem LI_inv {ns : List Int} {i : Nat} {d : PyData} (h : (LI ns)[i]? = some d) : ∃ z, ns[i]? = some z ∧ d = .int z := by
  unfold LI at h
  rw [List.getElem?_map] at h
  cases e : ns[i]? with
  | none => rw [e] at h; cases h
  | some z => rw [e] at h; exact ⟨z, rfl, (Option.some.inj h).symm⟩
theorem LI_at {ns : List Int} {i : Int} (h0 : 0 ≤ i) (h : i < ns.length) : ∃ z, ns[i.toNat]? = some z ∧ atI (LI ns) i = some (.int z) := by
  refine ⟨ns[i.toNat]'(by omega), List.getElem?_eq_getElem _, ?_⟩
  rw [D_at h0 (by rw [LI_len]; exact h)]
  unfold LI
  simp
theorem LI_snoc (a : List Int) (z : Int) : LI a ++ [.int z] = LI (a ++ [z]) := by unfold LI; simp
theorem LI_drop (a : List Int) (n : Nat) : (LI a).drop n = LI (a.drop n) := by unfold LI; rw [List.map_drop]
theorem cutD_to {ds : List PyData} {hi : Nat} : cutD ds none (some (hi : Int)) = ds.take hi := by
  unfold cutD
  have e : HT.sIx ds.length 0 none = 0 := by rfl
  rw [e, HT.sIx_nat, List.drop_zero, Nat.sub_zero]
  by_cases h : hi ≤ ds.length
  · rw [Nat.min_eq_left h]
  · rw [Nat.min_eq_right (by omega), List.take_of_length_le (by omega), List.take_of_length_le (by omega)]
theorem cutD_from {ds : List PyData} {lo : Nat} : cutD ds (some (lo : Int)) none = ds.drop lo := by
  unfold cutD
  have e : HT.sIx ds.length ds.length none = ds.length := by rfl
  rw [e, HT.sIx_nat]
  by_cases h : lo ≤ ds.length
  · rw [Nat.min_eq_left h, List.take_of_length_le (by rw [List.length_drop]; exact Nat.le_refl _)]
  · rw [Nat.min_eq_right (by omega), Nat.sub_self, List.take_zero, List.drop_of_length_le (by omega)]
/-! equality of plain things -/
def flat0 : PyData → Bool
  | .none => true
  | .bool _ => true
  | .int _ => true
  | _ => false
theorem flat_lay {d : PyData} (h : flat0 d = true) : PyData.canLay0 d = true := by cases d <;> first | rfl | (simp [PyData.canLay0]; done) | exact Bool.noConfusion h
theorem flat_dep {d : PyData} (h : flat0 d = true) : PyData.depth d = 0 := by cases d <;> first | rfl | (simp [PyData.depth]; done) | exact Bool.noConfusion h
theorem flat_eqv {d : PyData} (h : flat0 d = true) : PyData.eqv d d = true := by cases d <;> first | rfl | (simp [PyData.eqv]; done) | exact Bool.noConfusion h
/-- plain things in lists and tuples, n deep -/
def flatN : Nat → PyData → Bool
  | 0, d => flat0 d
  | n + 1, .list ds => ds.all (flatN n)
  | n + 1, .tuple ds => ds.all (flatN n)
  | _ + 1, d => flat0 d
mutual
theorem N_lay : ∀ (n : Nat) (d : PyData), flatN n d = true → PyData.canLay0 d = true ∧ PyData.depth d ≤ 2 * n ∧ PyData.eqv d d = true
  | 0, d, h => ⟨flat_lay h, by rw [flat_dep h]; omega, flat_eqv h⟩
  | n + 1, .list ds, h => by
    obtain ⟨a, b, c⟩ := Ns_lay n ds h
    refine ⟨by simpa [PyData.canLay0] using a, by simp only [PyData.depth]; omega, by simpa [PyData.eqv] using c⟩
  | n + 1, .tuple ds, h => by
    obtain ⟨a, b, c⟩ := Ns_lay n ds h
    refine ⟨by simpa [PyData.canLay0] using a, by simp only [PyData.depth]; omega, by simpa [PyData.eqv] using c⟩
  | n + 1, .none, h => ⟨flat_lay rfl, by rw [flat_dep rfl]; omega, flat_eqv rfl⟩
  | n + 1, .bool _, h => ⟨flat_lay rfl, by rw [flat_dep rfl]; omega, flat_eqv rfl⟩
  | n + 1, .int _, h => ⟨flat_lay rfl, by rw [flat_dep rfl]; omega, flat_eqv rfl⟩
theorem Ns_lay : ∀ (n : Nat) (ds : List PyData), ds.all (flatN n) = true → PyData.canLayAll0 ds = true ∧ PyData.depthAll ds ≤ 2 * n + 1 ∧ PyData.eqvAll ds ds = true
  | n, [], _ => ⟨by simp [PyData.canLayAll0], by simp [PyData.depthAll], by simp [PyData.eqvAll]⟩
  | n, d :: ds, h => by
    rw [List.all_cons, Bool.and_eq_true] at h
    obtain ⟨a, b, c⟩ := N_lay n d h.1
    obtain ⟨a', b', c'⟩ := Ns_lay n ds h.2
    exact ⟨by simp [PyData.canLayAll0, a, a'], by simp only [PyData.depthAll]; omega, by simp [PyData.eqvAll, c, c']⟩
end
theorem shp {n : Nat} {d : PyData} (h : flatN n d = true) (hn : n ≤ 8 := by decide) : SeqAt.shaped d = true := by
  obtain ⟨a, b, c⟩ := N_lay n d h
  unfold SeqAt.shaped
  rw [Bool.and_eq_true]
  exact ⟨a, decide_eq_true (by omega)⟩
theorem eqv_self {n : Nat} {d : PyData} (h : flatN n d = true) : PyData.eqv d d = true := (N_lay n d h).2.2
theorem neD_self {n : Nat} {sx sy : SV} {d : PyData} {P : SV → Prop} (e1 : sx.dat? = some d) (e2 : sy.dat? = some d) (h : flatN n d = true) (hp : P (.val (.bool false))) (hn : n ≤ 8 := by decide) : oEqD true sx sy P := by
  constructor
  rw [e1, e2]
  refine ⟨shp h hn, shp h hn, ?_⟩
  rw [eqv_self h]
  exact hp
theorem neD2 {sx sy : SV} {d : PyData} {P : SV → Prop} (e1 : sx.dat? = some d) (e2 : sy.dat? = some d) (h : flatN 2 d = true) (hp : P (.val (.bool false))) : oEqD true sx sy P := neD_self e1 e2 h hp
theorem LI_flat (ns : List Int) : (LI ns).all flat0 = true := by unfold LI; rw [List.all_map]; exact List.all_eq_true.mpr fun _ _ => rfl
theorem LI_flatN (ns : List Int) : flatN 1 (.list (LI ns)) = true := LI_flat ns
theorem LI_flatD (ns : List Int) : (LI ns).all flatD = true := by unfold LI; rw [List.all_map]; exact List.all_eq_true.mpr fun _ _ => rfl
end DL
/-! Data: try .. except at a def's own level. -/
namespace DL
open PySem PySem.Spec PyProof.Rows L2 NB ER
/-- what is told of the error that a suite holds: it is at a, of the class C, its at is n -/
class EInf (F0 : Hp) (K : PySem.W.Frag) (a : Addr) (cls : Value) (d : Option Addr) (C : outParam Addr) (n : outParam Int) : Prop where
  inf : cls = .ref C ∧ (∃ dd, d = some dd ∧ F0 dd = some (.xd [("at", .int n)])) ∧ ∃ mg x fI CH, XC K mg x C fI CH
/-- what is wanted of an error that leaves a try's body -/
class EOkW (F0 H0 : Hp) (W : WX) (ER : outParam (Addr → Int → SD → Prop)) : Prop where
  run : ∀ C n (Z T : Zt) H' dd, ER C n (Z.map Prod.snd) → (∃ F, Rep F0 H0 F H' (Z ++ T)) → (∀ p ∈ Z, NoAli p) → H' dd = none → W (.ref C) (some dd) (Z.map Prod.fst) (upd H' dd (.xd [("at", .int n)]))
class DS0 (F0 H0 : Hp) (t : TS) (g : outParam DSX) : Prop where
  run : ∀ (Z : Zt) (H : Hp) (E : DEnds) (D : Ends), RepS F0 H0 H (Z ++ []) → g E (Z.map Prod.snd) → Low F0 H0 [] E D → t D (Z.map Prod.fst) H
/-- a statement within a try, whose errors are told by ER -/
class DSW (F0 H0 : Hp) (t : TS) (g : outParam DSX) : Prop where
  run : ∀ (Z : Zt) (H : Hp) (E : DEnds) (D : Ends), RepS F0 H0 H (Z ++ []) → g E (Z.map Prod.snd) → Low F0 H0 [] E D → t D (Z.map Prod.fst) H
section
variable {F0 H0 F H : Hp} {K : PySem.W.Frag}
instance (priority := low) {t : TS} {g : DSX} [h : DS F0 H0 t g] : DS0 F0 H0 t g where
  run Z H E D := h.run Z [] H E D
instance {t u : TS} {g1 g2 : DSX} [h1 : DS0 F0 H0 t g1] [h2 : DS0 F0 H0 u g2] : DS0 F0 H0 (tSeq t u) (dSeq g1 g2) where
  run Z H E D r h l := h1.run Z H _ _ r h (l.nx' _ _ fun Z' H' r' h' => h2.run Z' H' E D r' h' l)
instance {t u : TS} {g1 g2 : DSX} [h1 : DS0 F0 H0 t g1] [h2 : DS0 F0 H0 u g2] : DS0 F0 H0 (C8.tCut t u) (dCut g1 g2) where
  run Z H E D r h l := by
    obtain ⟨M, h, k⟩ := h
    refine ⟨fun σ' H' => ∃ Z', Z'.map Prod.fst = σ' ∧ RepS F0 H0 H' (Z' ++ []) ∧ M (Z'.map Prod.snd), h1.run Z H _ _ r h (l.nx' _ _ fun Z' H' r' h' => ⟨Z', rfl, r', h'⟩), ?_⟩
    rintro σ' H' ⟨Z', rfl, r', h'⟩
    exact h2.run Z' H' E D r' (k _ h') l
instance {c : TT} {t u : TS} {fc : DTX} {g1 g2 : DSX} [hc : DT F0 H0 c fc] [h1 : DS0 F0 H0 t g1] [h2 : DS0 F0 H0 u g2] : DS0 F0 H0 (tIfS c t u) (dIfS fc g1 g2) where
  run Z H E D r h l := hc.run Z [] H _ _ r.1 h fun b hb H1 r1 => by
    cases b with
    | true => exact iteT (h1.run Z H1 E D ⟨r1, r.2⟩ hb.t l)
    | false => exact iteF (h2.run Z H1 E D ⟨r1, r.2⟩ hb.f l)
/-! the suite -/
def bIsE (K : PySem.W.Frag) (a C : Addr) : SV → SV → (SV → Prop) → Prop := fun x y P => x = .raw (.ref a) ∧ ∃ D b, y = .raw (.ref D) ∧ PySem.W.kitOne K (.ref C) (.ref D) = some b ∧ P (.val (.bool b))
instance {a : Addr} {cls : Value} {d : Option Addr} {C : Addr} {n : Int} [e : EInf F0 K a cls d C n] : CbD F0 H0 (rIsE K a cls d) (fun xs P => match xs with | [x, y] => bIsE K a C x y P | _ => False) :=
  .two fun W x y sx sy H F P Q r rx ry l ⟨ex, D, b, ey, hk, hp⟩ q => by
    obtain ⟨rfl, ⟨dd, rfl, hd⟩, T⟩ := e.inf
    subst ex ey
    cases rx
    cases ry
    exact ⟨C, .ref D, .ref D, b, dd, _, rfl, rfl, T, rfl, l _ _ (r.base _ _ hd), fun u h => h, hk, q _ hp _ _ ⟨F, r.pushV (.bl _)⟩⟩
def dAt (a : Addr) (n : Int) (f : DX) : DX := fun σ P => f σ fun sv => sv = .raw (.ref a) ∧ P (.val (.int n))
instance {a : Addr} {cls : Value} {d : Option Addr} {C : Addr} {n : Int} {te : TE} {f : DX} [e : EInf F0 K a cls d C n] [h : DE F0 H0 te f] : DE F0 H0 (tAt K a cls d te) (dAt a n f) where
  run Z T H P Q := fun hr hh q => h.run Z T H _ _ hr hh fun sv ⟨e1, hp⟩ v H' ⟨F, r⟩ => by
    obtain ⟨rfl, ⟨dd, rfl, hd⟩, X⟩ := e.inf
    subst e1
    obtain ⟨r0, rv⟩ := one_tmp r
    cases rv
    exact ⟨C, dd, n, rfl, rfl, X, rfl, r0.low _ _ (r0.base _ _ hd), q _ hp _ _ ⟨F, put_tmp r0 (.int _)⟩⟩
/-! the body -/
def dCallW (F0 : Hp) (R : RC) (ER : Addr → Int → SD → Prop) (fa : DAX) : DX := fun σ P => fa σ fun as => ∃ S, R F0 (as.map SV.frz) S ∧ ∀ r, S r → match r with
  | .ok sv => ((as.any SV.isAli || sv.isEnt) = true → sv.flat = true) ∧ P sv
  | .er C i => ER C i σ
/-- an expression within a try -/
class DEW (F0 H0 : Hp) (t : TE) (f : outParam DX) : Prop where
  run : ∀ (Z T : Zt) (H : Hp) (P : SV → Prop) (Q : VK), (∃ F, Rep F0 H0 F H (Z ++ T)) → (∀ p ∈ Z, NoAli p) → f (Z.map Prod.snd) P → (∀ sv, P sv → ∀ v H', (∃ F, Rep F0 H0 F H' (Z ++ (T ++ [(some v, some sv)]))) → Q v H') → t (Z.map Prod.fst) H Q
instance (priority := low) {t : TE} {f : DX} [h : DE F0 H0 t f] : DEW F0 H0 t f where
  run Z T H P Q r _ := h.run Z T H P Q r
instance {R : RC} [MonoR R] {W : WX} {ER} [he : EOkW F0 H0 W ER] {ta : TA} {fa : DAX} [ha : DA F0 H0 ta fa] : DEW F0 H0 (tCallS (spF R) (WE W) ta) (dCallW F0 R ER fa) where
  run Z T H P Q := fun hr na h q => ha.run Z T H _ _ hr h fun A h1 H1 ⟨F, r1⟩ => by
    have r1' : Rep F0 H0 F H1 ((Z ++ T) ++ A.map pr) := by rw [List.append_assoc]; exact r1
    obtain ⟨S, h1, h2⟩ := h1
    obtain ⟨s1, s2⟩ := keepArgs_at F H1 r1'.low A
    refine ⟨keepArgs F H1 A, A.map (fun p => (p.1, p.2.frz)), S, by simp, args_ok r1', (fun s hs => by
      rw [List.map_map] at hs
      obtain ⟨p, _, rfl⟩ := List.mem_map.mp hs
      obtain ⟨v, s⟩ := p
      cases s <;> rfl), MonoR.mono (r1'.base.trans s1) (by simpa [Function.comp_def] using h1), fun rs hs => ?_⟩
    have := h2 rs hs
    cases rs with
    | ok sv => exact fun v H' b => q sv this.2 v H' (by
        have := back_ok r1' b fun z => this.1 (by simpa [List.any_map] using z)
        simpa using this)
    | er C i =>
      intro dd H' sm nd
      refine he.run C i Z [] H' dd this ?_ na nd
      have rZ : Rep F0 H0 F H1 Z := r1'.left.left
      exact ⟨F, by rw [List.append_nil]; exact rZ.both (Same.refl _) (rZ.low.trans sm) sm fun _ h _ => h⟩
instance (priority := low) {t : TS} {g : DSX} [h : DS F0 H0 t g] : DSW F0 H0 t g where
  run Z H E D := h.run Z [] H E D
instance {te : TE} {f : DX} [he : DEW F0 H0 te f] : DSW F0 H0 (tDrop te) (dDrop f) where
  run Z H E D r h l := he.run Z [] H _ _ r.1 (noali_left r.2) h fun sv hs v H' ⟨F, r'⟩ => l.nx Z H' ⟨⟨F, (one_tmp r').1⟩, r.2⟩ hs
instance {te : TE} {f : DX} {i : Nat} [he : DEW F0 H0 te f] : DSW F0 H0 (tAsg te (gName i)) (dSet i f) where
  run Z H E D r h l := he.run Z [] H _ _ r.1 (noali_left r.2) h fun sv hs v H' r' => by
    show D.nx ((Z.map Prod.fst).set i (some v)) H'
    cases sv with
    | val d => exact low_set l (store_S r' r.2 (by intro _ e; cases e)) hs
    | raw u => exact low_set l (store_S r' r.2 (by intro _ e; cases e)) hs
    | ent u => exact hs.elim
    | ali ds => exact hs.elim
    | own ds =>
      rcases hs with hs | hs
      · exact low_set l (store_S r' r.2 (by intro _ e; cases e)) hs
      · obtain ⟨F', r'⟩ := r'
        rw [← List.append_assoc] at r'
        obtain ⟨F2, r2⟩ := r'.freeze
        exact low_set l (store_S ⟨F2, by rw [← List.append_assoc]; exact r2⟩ r.2 (by intro _ e; cases e)) hs
instance {te : TE} {f : DX} [he : DEW F0 H0 te f] : DSW F0 H0 (tRet te) (dRet f) where
  run Z H E D r h l := by
    obtain ⟨F, r0⟩ := r.1
    obtain ⟨F1, r1⟩ := Rep.frzAll (F0 := F0) (H0 := H0) Z [] [] F (noali_left r.2) r0
    have h' : f ((Z.map frzP).map Prod.snd) E.rt := by rw [frz_snd]; exact h
    have := he.run (Z.map frzP) [] H _ D.rt ⟨F1, r1⟩ (fun p hp es e => by
      obtain ⟨q, _, rfl⟩ := List.mem_map.mp hp
      obtain ⟨x, s⟩ := q
      cases s with
      | none => cases e
      | some s => cases s <;> cases e) h' fun sv hs v H' ⟨F2, r2⟩ => l.rt sv v H' hs ⟨F2, r2.sub ((List.sublist_append_right _ _).trans (List.sublist_append_right _ _))⟩
    rw [frz_fst] at this
    exact this
instance {t u : TS} {g1 g2 : DSX} [h1 : DSW F0 H0 t g1] [h2 : DSW F0 H0 u g2] : DSW F0 H0 (tSeq t u) (dSeq g1 g2) where
  run Z H E D r h l := h1.run Z H _ _ r h (l.nx' _ _ fun Z' H' r' h' => h2.run Z' H' E D r' h' l)
instance {c : TT} {t u : TS} {fc : DTX} {g1 g2 : DSX} [hc : DT F0 H0 c fc] [h1 : DSW F0 H0 t g1] [h2 : DSW F0 H0 u g2] : DSW F0 H0 (tIfS c t u) (dIfS fc g1 g2) where
  run Z H E D r h l := hc.run Z [] H _ _ r.1 h fun b hb H1 r1 => by
    cases b with
    | true => exact iteT (h1.run Z H1 E D ⟨r1, r.2⟩ hb.t l)
    | false => exact iteF (h2.run Z H1 E D ⟨r1, r.2⟩ hb.f l)
theorem DS0.seq {t u : TS} {g1 g2 : DSX} (h1 : DS0 F0 H0 t g1) (h2 : DS0 F0 H0 u g2) : DS0 F0 H0 (tSeq t u) (dSeq g1 g2) := inferInstance
/-! the try -/
end
end DL
/-! Data: defs keep contracts. -/
namespace DL
open PySem PySem.Spec PyProof.Rows L2 NB
section
variable {F0 H0 F H : Hp} {K : PySem.W.Frag}
/-! ### defs -/
/-- from data to a def's reading -/
theorem def_run {R : RC} {N ps : List Str} {t : TS} {vs : List V} {Q : VK} {E : XK} (h : spF R vs H Q E) (hlen : ∀ F as S, R F as S → as.length = ps.length) {g : Hp → DSX} (inst : ∀ F0, DS0 F0 H t (g F0))
    (hx : ∀ F0 as S, R F0 as S → g F0 { nx := fun _ => S (.ok (.val .none)), rt := fun sv => S (.ok sv) } (as.map some ++ List.replicate (N.length - ps.length) none)) :
    t { nx := fun _ H' => Q .non H', rt := Q } (L2.start N vs) H := by
  obtain ⟨F, A, S, rfl, r, na, hR, hS⟩ := h
  have hl : A.length = ps.length := by have := hlen F _ S hR; simpa using this
  have e1 : (A.map pr ++ List.replicate (N.length - ps.length) ((none : Option V), (none : Option SV))).map Prod.fst = L2.start N (A.map Prod.fst) := by
    unfold L2.start
    rw [List.map_append, List.map_map, List.map_replicate, List.length_map, hl, List.map_map]; rfl
  have e2 : (A.map pr ++ List.replicate (N.length - ps.length) ((none : Option V), (none : Option SV))).map Prod.snd = (A.map Prod.snd).map some ++ List.replicate (N.length - ps.length) none := by
    rw [List.map_append, List.map_map, List.map_map, List.map_replicate]; rfl
  have rep : Rep F H F H (A.map pr ++ List.replicate (N.length - ps.length) ((none : Option V), (none : Option SV))) := by
    refine ⟨r.base, r.low, r.ent, r.apart, fun p hp => ?_, ?_⟩
    · rcases List.mem_append.mp hp with z | z
      · exact r.ok p z
      · rw [List.mem_replicate] at z
        rw [z.2]; intro sv e; cases e
    · rw [List.pairwise_append]
      refine ⟨r.dist, List.pairwise_replicate.mpr (.inr fun a es fs e => by cases e), fun p hp q hq a es fs _ _ e => ?_⟩
      rw [List.mem_replicate] at hq
      rw [hq.2] at e; cases e
  have noali : ∀ p ∈ A.map pr ++ List.replicate (N.length - ps.length) ((none : Option V), (none : Option SV)), NoAli p := fun p hp es e => by
    rcases List.mem_append.mp hp with z | z
    · obtain ⟨q, hq, rfl⟩ := List.mem_map.mp z
      have := na q.2 (List.mem_map.mpr ⟨q, hq, rfl⟩)
      rw [Option.some.inj e] at this; cases this
    · rw [List.mem_replicate] at z
      rw [z.2] at e; cases e
  have := (inst F).run _ H { nx := fun _ => S (.ok (.val .none)), rt := fun sv => S (.ok sv) } { nx := fun _ H' => Q .non H', rt := Q } ⟨⟨F, by rw [List.append_nil]; exact rep⟩, by rw [List.append_nil]; exact noali⟩ (by rw [e2]; exact hx F _ S hR)
    ⟨fun Z H' r' h' => hS _ h' .non H' (by
      obtain ⟨⟨F', q⟩, _⟩ := r'
      exact ⟨F', by simpa using (q.pushV (v := .non) (d := .none) .non).sub (List.sublist_append_right _ _)⟩), fun _ _ _ h => h.elim, fun _ _ _ h => h.elim, fun sv v H' h' b => hS _ h' v H' b⟩
  rw [e1] at this
  exact this
end
section
variable {P : Program} {w : World} {K : PySem.W.Frag} {mg : Str → Option Value} {base : Heap}
/-- a def that no error leaves keeps its contract -/
theorem okF {x qual : Str} {st : Stmt} {f : Addr} {fd : FuncData} {N ps : List Str} {k : Nat} {R : RC} (F : Fun K x qual st f fd) (S : FnScope N ps (defScope st)) (hlen : ∀ F as S, R F as S → as.length = ps.length)
    (body : ∀ (cdv : Value) (A : Around) (outer : List Env) (s : Shared) (H : Hp) (E : XK), Room k (A.deeper (envOfC qual (defScope st) s.heap.objs.size f cdv)) →
      ∃ (t : TS) (g : Hp → DSX), PSs (cxOf CX0 P w K mg base N qual (defScope st) f cdv A outer s H E).nox (defBody st) t ∧ (∀ F0, DS0 F0 H t (g F0)) ∧
        ∀ F0 as S, R F0 as S → g F0 { nx := fun _ => S (.ok (.val .none)), rt := fun sv => S (.ok sv) } (as.map some ++ List.replicate (N.length - ps.length) none)) : FnOk P w K mg base CX0 (k + 1) f fd ps (spF R) := by
  refine F.ok S (fun vs H Q E h => ?_) (fun cdv A outer s H vs Q E hr h => ?_)
  · obtain ⟨F, A, S, rfl, r, na, hR, hS⟩ := h
    simpa using hlen _ _ _ hR
  · obtain ⟨t, g, h1, h2, h3⟩ := body cdv A outer s H E hr
    exact ⟨t, h1, def_run h hlen h2 h3⟩
/-- the same of a def that errors may leave -/
theorem okFX {x qual : Str} {st : Stmt} {f : Addr} {fd : FuncData} {N ps : List Str} {k : Nat} {R : RC} (F : Fun K x qual st f fd) (S : FnScope N ps (defScope st)) (hlen : ∀ F as S, R F as S → as.length = ps.length)
    (body : ∀ (cdv : Value) (A : Around) (outer : List Env) (s : Shared) (H : Hp) (E : XK), Room k (A.deeper (envOfC qual (defScope st) s.heap.objs.size f cdv)) →
      ∃ (t : TS) (g : (Addr → Int → Prop) → Hp → DSX), PSs (cxOf (L2.CX P w) P w K mg base N qual (defScope st) f cdv A outer s H E) (defBody st) t ∧ (∀ F0 ER, EOk H E ER → DS0 F0 H t (g ER F0)) ∧
        ∀ F0 as (S : Rs → Prop), R F0 as S → g (fun C i => S (.er C i)) F0 { nx := fun _ => S (.ok (.val .none)), rt := fun sv => S (.ok sv) } (as.map some ++ List.replicate (N.length - ps.length) none)) : FnOk P w K mg base (L2.CX P w) (k + 1) f fd ps (spF R) := by
  refine F.okX S (fun vs H Q E h => ?_) (fun cdv A outer s H vs Q E hr h => ?_)
  · obtain ⟨F, A, S, rfl, r, na, hR, hS⟩ := h
    simpa using hlen _ _ _ hR
  · obtain ⟨t, g, h1, h2, h3⟩ := body cdv A outer s H E hr
    refine ⟨t, h1, ?_⟩
    obtain ⟨F1, A1, S1, e1, r1, na1, hR1, hS1⟩ := h
    refine def_run (R := fun F as S => S = S1 ∧ R F as S) (g := g (fun C i => S1 (.er C i))) ⟨F1, A1, S1, e1, r1, na1, ⟨rfl, hR1⟩, hS1⟩ (fun F as S h => hlen _ _ _ h.2) (fun F0 => h2 F0 _ ⟨fun C i hs dd H' sm nd => hS1 _ hs dd H' sm nd⟩) fun F0 as S h => ?_
    obtain ⟨rfl, h⟩ := h
    exact h3 F0 as S h
end
section
variable {F0 H0 F H : Hp}
/-- a law's rest, behind its first statement (which told the script's numbers): all that stands is let go -/
theorem law_rest {t : TS} {g : DSX} {Q : VK} {Z : Zt} {H : Hp} [inst : DS0 H H t g] (hz : ∀ p ∈ Z, ∀ sv, p.2 = some sv → ∃ v d, p.1 = some v ∧ sv = .val d ∧ Dv H v d) (hQ : ∀ H', Q (.bl true) H')
    (h : g { nx := fun _ => False, rt := fun sv => sv = .val (.bool true) } (Z.map Prod.snd)) : t { nx := fun _ H' => Q .non H', rt := Q } (Z.map Prod.fst) H := by
  refine inst.run Z H _ _ ⟨⟨H, Same.refl _, Same.refl _, Same.refl _, fun _ h _ => h, fun p hp => ?_, ?_⟩, fun p hp es e => ?_⟩ h ⟨fun _ _ _ h => h.elim, fun _ _ _ h => h.elim, fun _ _ _ h => h.elim, fun sv v H' e ⟨F, r⟩ => ?_⟩
  · intro sv e
    rw [List.append_nil] at hp
    obtain ⟨v, d, e1, rfl, hd⟩ := hz p hp sv e
    exact ⟨v, e1, hd⟩
  · refine List.Pairwise.imp_of_mem (S := Apart) (fun {p q} hp hq _ a es fs _ e _ _ => ?_) (all_pw (R := fun _ _ => True) (fun _ _ => trivial) _)
    rw [List.append_nil] at hp
    obtain ⟨v, d, _, z, _⟩ := hz p hp _ e
    cases z
  · rw [List.append_nil] at hp
    obtain ⟨v, d, _, z, _⟩ := hz p hp _ e
    cases z
  · subst e
    obtain ⟨w, e1, rv⟩ := r.ok (some v, some (SV.val (PyData.bool true))) (by simp) _ rfl
    cases e1
    cases rv
    exact hQ H'
theorem dv_ints (H : Hp) {l : Addr} {xs : List Int} (h : H l = some (.lst (xs.map V.int))) : Dv H (.ref l) (.list (LI xs)) := by
  have : ∀ ys : List Int, DvAll H (ys.map V.int) (LI ys) := fun ys => by
    unfold LI
    induction ys with
    | nil => exact .nil
    | cons y ys ih => exact .cons (.int y) ih
  exact .lst h (this xs)
end
section
variable {P : Program} {w : World} {K : PySem.W.Frag} {mg : Str → Option Value} {base : Heap}
def sp_draws (K : PySem.W.Frag) : Sp := fun vs H Q _ => ∃ (a : Addr) (ns : List Int), vs = [.ref a] ∧ SqL K H a (ns.map V.int) ∧ ns.length ≤ 63 ∧
  ∀ (l : Addr) (xs : List Int) H', Same H H' → H l = none → H' l = some (.lst (xs.map V.int)) → xs.length ≤ 4000 → Q (.ref l) H'
def sp_law (K : PySem.W.Frag) : Sp := fun vs H Q _ => ∃ (a : Addr) (ns : List Int), vs = [.ref a] ∧ SqL K H a (ns.map V.int) ∧ ns.length ≤ 63 ∧ ∀ H', Q (.bl true) H'
def lawEnds : DEnds := { nx := fun _ => False, rt := fun sv => sv = .val (.bool true) }
/-- a law that begins with draws = _law_draws(script) -/
theorem okLaw {x qual : Str} {st : Stmt} {f : Addr} {fd : FuncData} {N : List Str} {k : Nat} (F : Fun K x qual st f fd) (S : FnScope N ["script"] (defScope st)) (hN : 2 ≤ N.length)
    (body : ∀ (cdv : Value) (A : Around) (outer : List Env) (s : Shared) (H : Hp) (E : XK), Room k (A.deeper (envOfC qual (defScope st) s.heap.objs.size f cdv)) →
      ∃ (t : TS) (g : Hp → DSX), PSs (cxOf CX0 P w K mg base N qual (defScope st) f cdv A outer s H E).nox (defBody st) (tSeq (tAsg (tCall (sp_draws K) [] (fun _ _ _ => False) (tCons (tVar 0) tNil)) (gName 1)) t) ∧ (∀ F0, DS0 F0 F0 t (g F0)) ∧
        ∀ F0 (xs : List Int), xs.length ≤ 4000 → g F0 lawEnds (none :: some (.val (.list (LI xs))) :: List.replicate (N.length - 2) none)) : FnOk P w K mg base CX0 (k + 1) f fd ["script"] (sp_law K) := by
  refine F.ok S (fun vs H Q E h => ?_) (fun cdv A outer s H vs Q E hr h => ?_)
  · obtain ⟨a, ns, rfl, _⟩ := h; rfl
  · obtain ⟨a, ns, rfl, hS, hl, hQ⟩ := h
    obtain ⟨t, g, h1, h2, h3⟩ := body cdv A outer s H E hr
    refine ⟨_, h1, ?_⟩
    refine ⟨.ref a, rfl, a, ns, rfl, hS, hl, fun l xs H1 s1 nl hx hlen => ?_⟩
    have e : L2.start N [V.ref a] = some (.ref a) :: none :: List.replicate (N.length - 2) none := by
      unfold L2.start
      obtain ⟨m, hm⟩ : ∃ m, N.length = m + 2 := ⟨N.length - 2, by omega⟩
      rw [hm]
      show some (V.ref a) :: List.replicate (m + 2 - 1) none = some (V.ref a) :: none :: List.replicate (m + 2 - 2) none
      have : m + 2 - 1 = m + 1 := by omega
      rw [this, List.replicate_succ]; rfl
    show t _ ((L2.start N [V.ref a]).set 1 (some (.ref l))) H1
    rw [e]
    have inst := h2 H1
    have := law_rest (t := t) (g := g H1) (Q := Q) (Z := (some (.ref a), none) :: (some (.ref l), some (.val (.list (LI xs)))) :: List.replicate (N.length - 2) (none, none)) (H := H1) (fun p hp sv e => ?_) hQ (by
      simp only [List.map_cons, List.map_replicate]
      exact h3 H1 xs hlen)
    · simpa using this
    · rcases List.mem_cons.mp hp with z | hp
      · subst z; cases e
      · rcases List.mem_cons.mp hp with z | hp
        · subst z; cases e; exact ⟨_, _, rfl, rfl, dv_ints H1 hx⟩
        · rw [List.mem_replicate] at hp
          rw [hp.2] at e; cases e
end
end DL
/-! Data: isinstance, the draws of a law. -/
namespace DL
open PySem PySem.Spec PyProof.Rows L2 NB
section
variable {F0 H0 F H : Hp} {K : PySem.W.Frag}
theorem RV.ty {v : V} {sv : SV} {t : String} (r : RV H0 F H v sv) (l : Same F H) (e : sv.cls? = some t) : TyX K H v (.type t) := by
  match sv, r, e with
  | .val .none, r, e => cases e; cases r; exact .base .non
  | .val (.bool b), r, e => cases e; cases r; exact .base (.bl _)
  | .val (.int i), r, e => cases e; cases r; exact .base (.int _)
  | .val (.list ds), r, e =>
    cases e
    cases r with
    | lst h hs => exact .base (.lst (l _ _ h))
  | .val (.tuple ds), r, e =>
    cases e
    cases r with
    | tup h hs => exact .base (.tup (l _ _ h))
  | .own ds, r, e => cases e; obtain ⟨a, vs, rfl, _, _, h, hs⟩ := r; exact .base (.lst h)
  | .ali ds, r, e => cases e; obtain ⟨a, vs, rfl, _, h, hs⟩ := r; exact .base (.lst h)
def bIsi : SV → SV → (SV → Prop) → Prop := fun x y P => match x.cls?, y with | some t, .raw (.ty n) => ∃ b, kitB t n = some b ∧ P (.val (.bool b)) | _, _ => False
instance : CbD F0 H0 (rIsi K) (fun xs P => match xs with | [x, y] => bIsi x y P | _ => False) :=
  .two fun W x y sx sy H F P Q r rx ry l h q => by
    unfold bIsi at h
    cases e : sx.cls? with
    | none => rw [e] at h; exact h.elim
    | some t =>
      rw [e] at h
      match sy, h, ry with
      | .raw (.ty n), ⟨b, hb, hp⟩, ry =>
        cases ry
        exact ⟨x, .ty n, .type t, .type n, b, rfl, .ty n, rx.ty l e, kit_ty hb, q _ hp _ _ ⟨F, r.pushV (.bl _)⟩⟩
end
def rcMix : RC := pur fun as S => ∃ (ds : List Int) (k many : Int), as = [.val (.list (LI ds)), .val (.int k), .val (.int many)] ∧ 0 ≤ k ∧ k < 2 ^ 40 ∧ 0 < many ∧ ∀ v : Int, 0 ≤ v → v < many → S (.ok (.val (.int v)))
instance : MonoR rcMix := inferInstanceAs (MonoR (pur _))
/-- what a call that gives one value asks -/
theorem mix_go {F0 : Hp} {ds : List Int} {k many : Int} {al : SV → Bool} {P : SV → Prop} {ER : Addr → Int → Prop} (h : ∀ v : Int, 0 ≤ v → v < many → P (.val (.int v))) (hk : 0 ≤ k := by decide) (hk2 : k < 2 ^ 40 := by decide) (hm : 0 < many := by decide) :
    ∃ S, rcMix F0 [.val (.list (LI ds)), .val (.int k), .val (.int many)] S ∧ ∀ r, S r → match r with
      | .ok sv => (al sv = true → sv.flat = true) ∧ P sv
      | .er C i => ER C i := by
  refine ⟨fun r => ∃ v : Int, r = .ok (.val (.int v)) ∧ 0 ≤ v ∧ v < many, ⟨ds, k, many, rfl, hk, hk2, hm, fun v h1 h2 => ⟨v, rfl, h1, h2⟩⟩, ?_⟩
  rintro r ⟨v, rfl, h1, h2⟩
  exact ⟨fun _ => rfl, h v h1 h2⟩
/-! rules with K named: within a comprehension -/
section
variable {X : Cx} {K : PySem.W.Frag}
theorem pi_listK {tg l : Expr} {tl : TE} (h : X.K = K) (hl : PE X l tl) : PI X tg l (iList K tl) := h ▸ pi_list hl
end
end DL
/-! Data: sums of bools. -/
namespace DL
open PySem PySem.Spec PyProof.Rows L2 NB
def b2n : V → Int
  | .bl true => 1
  | _ => 0
def rSumB (K : PySem.W.Frag) : List V → Hp → VK → Prop := fun vs H Q => ∃ (a : Addr) (bs : List Bool), vs = [V.ref a] ∧ SqL K H a (bs.map V.bl) ∧ Q (.int ((bs.map V.bl).map b2n).sum) H
/-- how many are true -/
def cntB (bs : List Bool) : Nat := (bs.filter id).length
theorem sum_cnt : ∀ bs : List Bool, ((bs.map V.bl).map b2n).sum = (cntB bs : Int)
  | [] => rfl
  | b :: bs => by
    have ih := sum_cnt bs
    simp only [List.map_cons, List.sum_cons, ih]
    cases b with
    | true => show (1 : Int) + (cntB bs : Int) = ((cntB (true :: bs) : Nat) : Int); unfold cntB; simp; omega
    | false => show (0 : Int) + (cntB bs : Int) = ((cntB (false :: bs) : Nat) : Int); unfold cntB; simp
section
variable {F0 H0 : Hp} {K : PySem.W.Frag}
def bSumB : SV → (SV → Prop) → Prop := fun x P => ∃ bs : List Bool, x.items? = some (bs.map PyData.bool) ∧ P (.val (.int (cntB bs)))
instance : CbD F0 H0 (rSumB K) (fun xs P => match xs with | [x] => bSumB x P | _ => False) :=
  .one fun W x sx H F P Q r rx l ⟨ns, e, h⟩ q => by
    obtain ⟨a, vs, rfl, ha, hv⟩ := rx.items l e
    rw [all_bools hv] at ha
    exact ⟨a, ns, rfl, SqL.of ha, by rw [sum_cnt]; exact q _ h _ _ ⟨F, r.pushV (.int _)⟩⟩
end
end DL
/-! Data: objects that never change behind their making. -/
namespace DL
open PySem PySem.Spec PyProof.Rows L2 NB MKX
/-- an object of the class at C, its attributes in their order -/
def Ob (C : Addr) (fs : List (Str × PyData)) : PyData := .dict [(.int (.ofNat C), .tuple (fs.map fun p => PyData.str p.1)), (.none, .list (fs.map Prod.snd))]
/-- the attributes of an object, as they stand and as data -/
structure FsOk (F : Hp) (fs' : List (Str × V)) (fs : List (Str × PyData)) : Prop where
  nm : fs'.map Prod.fst = fs.map Prod.fst
  al : DvAll F (fs'.map Prod.snd) (fs.map Prod.snd)
theorem str_names {xs ys : List Str} (h : xs.map PyData.str = ys.map PyData.str) : xs = ys := (List.map_inj_right (fun a b e => PyData.str.inj e)).mp h
theorem Dv.obE {F : Hp} {v : V} {C : Addr} {fs : List (Str × PyData)} (h : Dv F v (Ob C fs)) : ∃ a dx fs', v = .ref a ∧ F a = some (.ins C dx fs') ∧ FsOk F fs' fs := by
  unfold Ob at h
  generalize hn : (fs.map fun p => PyData.str p.1) = ns at h
  generalize hd : fs.map Prod.snd = ds at h
  cases h with
  | ob h1 h2 h3 =>
    rename_i a dx fs'
    refine ⟨a, dx, fs', rfl, h1, str_names ?_, hd ▸ h3⟩
    rw [List.map_map, List.map_map]
    have := hn.trans h2
    exact this.symm
theorem Dv.obI {F : Hp} {a dx C : Addr} {fs' : List (Str × V)} {fs : List (Str × PyData)} (h : F a = some (.ins C dx fs')) (k : FsOk F fs' fs) : Dv F (.ref a) (Ob C fs) := .ob h (by
  have := congrArg (List.map PyData.str) k.nm
  rw [List.map_map, List.map_map] at this
  exact this.symm) k.al
theorem FsOk.mono {F F' : Hp} {fs' fs} (k : FsOk F fs' fs) (s : Same F F') : FsOk F' fs' fs := ⟨k.nm, k.al.mono s⟩
theorem FsOk.get {F : Hp} {f : Str} : ∀ {fs' : List (Str × V)} {fs : List (Str × PyData)} {d : PyData}, FsOk F fs' fs → fs.lookup f = some d → ∃ v, fs'.lookup f = some v ∧ Dv F v d
  | [], [], _, _, e => by cases e
  | [], _ :: _, _, k, _ => by have := k.nm; cases this
  | _ :: _, [], _, k, _ => by have := k.nm; cases this
  | (n, v) :: fs', (m, d') :: fs, d, k, e => by
    obtain ⟨h1, h2⟩ := k
    have e1 : n = m := (List.cons.inj h1).1
    subst e1
    cases h2 with
    | cons h hs =>
      by_cases z : f = n
      · subst z
        rw [List.lookup_cons_self] at e ⊢
        cases e
        exact ⟨v, rfl, h⟩
      · have z' : (f == n) = false := beq_eq_false_iff_ne.mpr z
        rw [List.lookup_cons, z'] at e ⊢
        exact FsOk.get ⟨(List.cons.inj h1).2, hs⟩ e
theorem FsOk.no {F : Hp} {f : Str} : ∀ {fs' : List (Str × V)} {fs : List (Str × PyData)}, FsOk F fs' fs → fs.lookup f = none → fs'.lookup f = none
  | [], [], _, _ => rfl
  | [], _ :: _, k, _ => by have := k.nm; cases this
  | _ :: _, [], k, _ => by have := k.nm; cases this
  | (n, v) :: fs', (m, d') :: fs, k, e => by
    obtain ⟨h1, h2⟩ := k
    have e1 : n = m := (List.cons.inj h1).1
    subst e1
    cases h2 with
    | cons h hs =>
      cases z : (f == n) with
      | true => rw [List.lookup_cons, z] at e; cases e
      | false =>
        rw [List.lookup_cons, z] at e ⊢
        exact FsOk.no ⟨(List.cons.inj h1).2, hs⟩ e
theorem FsOk.len {F : Hp} {fs' fs} (k : FsOk F fs' fs) : fs'.length = fs.length := by have := congrArg List.length k.nm; simpa using this
section
variable {F0 H0 F H : Hp} {K : PySem.W.Frag}
/-- e.f -/
def dFld (K : PySem.W.Frag) (f : Str) (g : DX) : DX := fun σ P => g σ fun sv => ∃ C fs d, sv = .val (Ob C fs) ∧ Cls K C ∧ NoAttr K C f ∧ fs.lookup f = some d ∧ P (.val d)
instance {te : TE} {g : DX} {f : Str} [he : DE F0 H0 te g] : DE F0 H0 (tFld K te f) (dFld K f g) where
  run Z T H P Q := fun hr h q => he.run Z T H _ _ hr h fun sv ⟨C, fs, d, e, c, n, l, hp⟩ v H' ⟨F, r⟩ => by
    subst e
    obtain ⟨r0, rv⟩ := one_tmp r
    obtain ⟨a, dx, fs', rfl, ha, k⟩ := Dv.obE rv
    obtain ⟨w, hw, hd⟩ := k.get l
    exact ⟨a, C, dx, fs', w, rfl, r0.low _ _ ha, c, n, hw, q _ hp _ _ ⟨F, put_tmp r0 hd⟩⟩
/-- o.m(..) -/
def dMeth (F0 : Hp) (C : Addr) (m : Str) (R : RC) (ER : Addr → Int → Prop) (f : DX) (fa : DAX) : DX := fun σ P => f σ fun x => ∃ fs, x = .val (Ob C fs) ∧ fs.lookup m = none ∧ fa σ fun as => ∃ S, R F0 (x :: as.map SV.frz) S ∧ ∀ r, S r → match r with
  | .ok sv => ((as.any SV.isAli || sv.isEnt) = true → sv.flat = true) ∧ P sv
  | .er C i => ER C i
theorem meth_run {R : RC} [MonoR R] {ER : Addr → Int → Prop} {E : XK} {C : Addr} {m : Str} {te : TE} {ta : TA} {f : DX} {fa : DAX} [he : DE F0 H0 te f] [ha : DA F0 H0 ta fa] (hE : ∀ C i, ER C i → ∀ dd H', Same H0 H' → H' dd = none → E (.ref C) (some dd) (upd H' dd (.xd [("at", .int i)])))
    {Z T : Zt} {H : Hp} {P : SV → Prop} {Q : VK} (hr : ∃ F, Rep F0 H0 F H (Z ++ T)) (h : dMeth F0 C m R ER f fa (Z.map Prod.snd) P) (q : ∀ sv, P sv → ∀ v H', (∃ F, Rep F0 H0 F H' (Z ++ (T ++ [(some v, some sv)]))) → Q v H') :
    te (Z.map Prod.fst) H fun x H1 => ∃ a dx fs, x = .ref a ∧ H1 a = some (.ins C dx fs) ∧ fs.lookup m = none ∧ ta (Z.map Prod.fst) H1 fun vs H2 => spF R (x :: vs) H2 Q E :=
  he.run Z T H _ _ hr h fun x ⟨fs, e, nl, h1⟩ v H1 ⟨F, r⟩ => by
    subst e
    obtain ⟨r0, rv⟩ := one_tmp r
    obtain ⟨a, dx, fs', rfl, hA, k⟩ := Dv.obE rv
    refine ⟨a, dx, fs', rfl, r0.low _ _ hA, k.no nl, ha.run Z (T ++ [(some (.ref a), some (.val (Ob C fs)))]) H1 _ _ ⟨F, r⟩ h1 fun A h2 H2 ⟨F2, r2⟩ => ?_⟩
    obtain ⟨S, h3, h4⟩ := h2
    exact call_run (ER := ER) (W := Z ++ T) (A := (.ref a, .val (Ob C fs)) :: A) (P := P) hE (by
      have := r2
      simp only [List.map_cons, List.append_assoc, List.cons_append, List.nil_append] at this ⊢
      exact this) ⟨S, h3, fun r hs => by
      have := h4 r hs
      cases r with
      | ok sv => exact ⟨fun z => this.1 (by simpa [SV.isAli] using z), this.2⟩
      | er C i => exact this⟩ fun sv hp v H3 r3 => q sv hp v H3 (by rw [← List.append_assoc]; exact r3)
instance {R : RC} [MonoR R] {C : Addr} {m : Str} {te : TE} {ta : TA} {f : DX} {fa : DAX} [he : DE F0 H0 te f] [ha : DA F0 H0 ta fa] : DE F0 H0 (tMeth C m (spF R) [] (fun _ _ _ => False) te ta) (dMeth F0 C m R (fun _ _ => False) f fa) where
  run Z T H P Q := fun hr h q => by
    have := meth_run (te := te) (ta := ta) (E := fun _ _ _ => False) (fun _ _ z => z.elim) hr h q
    unfold tMeth
    simpa only [List.append_nil] using this
instance {R : RC} [MonoR R] {E : XK} {ER} [hE : EOk H0 E ER] {C : Addr} {m : Str} {te : TE} {ta : TA} {f : DX} {fa : DAX} [he : DE F0 H0 te f] [ha : DA F0 H0 ta fa] : DE F0 H0 (tMtS C m (spF R) (fun _ cls d H => E cls d H) te ta) (dMeth F0 C m R ER f fa) where
  run Z T H P Q := fun hr h q => meth_run (te := te) (ta := ta) hE.run hr h q
end
end DL
/-! Data: objects are made. -/
namespace DL
open PySem PySem.Spec PyProof.Rows L2 NB MKX
/-- __init__: R tells of the arguments (without self) which objects may come -/
def spI (C : Addr) (R : RC) : Sp := fun vs H Q E => ∃ (x dx : Addr) (Hb F : Hp) (A : List (V × SV)) (S : Rs → Prop), vs = .ref x :: A.map Prod.fst ∧ Hb x = none ∧ Hb dx = none ∧ dx ≠ x ∧ H = upd (upd Hb dx (.own x)) x (.ins C dx []) ∧
  Rep F Hb F Hb (A.map pr) ∧ (∀ s ∈ A.map Prod.snd, s.isAli = false) ∧ R F (A.map Prod.snd) S ∧ ∀ r, S r → match r with
  | .ok sv => ∀ H', (∃ F', Rep F Hb F' H' [(some (.ref x), some sv)]) → Q .non H'
  | .er C i => ∀ dd H', Same Hb H' → H' dd = none → E (.ref C) (some dd) (upd H' dd (.xd [("at", .int i)]))
section
variable {F0 H0 F H : Hp} {K : PySem.W.Frag}
/-- a list as __init__ sees it: it stands at the entry, and stays -/
def SV.entz : SV → SV
  | .own ds => .ent ds
  | .ali ds => .ent ds
  | .val (.list ds) => .ent ds
  | x => x
theorem ent_ok {W : Zt} {A : List (V × SV)} (r : Rep F0 H0 F H (W ++ A.map pr)) : Rep F H F H ((A.map fun p => (p.1, p.2.entz)).map pr) := by
  refine ⟨Same.refl _, r.low, Same.refl _, fun b h _ => h, fun p hp sv e => ?_, ?_⟩
  · rw [List.map_map] at hp
    obtain ⟨⟨v, s⟩, hm, rfl⟩ := List.mem_map.mp hp
    cases e
    obtain ⟨w, e1, rv⟩ := r.ok (some v, some s) (List.mem_append_right _ (List.mem_map.mpr ⟨(v, s), hm, rfl⟩)) _ rfl
    cases e1
    refine ⟨v, rfl, ?_⟩
    cases s with
    | val d =>
      have rv' : Dv F v d := rv
      cases rv' with
      | lst h hs => exact ⟨_, _, rfl, r.low _ _ h, r.low _ _ h, hs⟩
      | non => exact Dv.non
      | bl b => exact Dv.bl b
      | int i => exact Dv.int i
      | str x => exact Dv.str x
      | tup h hs => exact Dv.tup h hs
      | ob h e hs => exact Dv.ob h e hs
    | raw u => exact rv
    | own ds =>
      obtain ⟨a, vs, rfl, _, _, h3, h4⟩ := rv
      exact ⟨a, vs, rfl, h3, h3, h4⟩
    | ali ds =>
      obtain ⟨a, vs, rfl, _, h3, h4⟩ := rv
      exact ⟨a, vs, rfl, h3, h3, h4⟩
    | ent ds =>
      obtain ⟨a, vs, rfl, _, h3, h4⟩ := rv
      exact ⟨a, vs, rfl, h3, h3, h4⟩
  · rw [List.pairwise_map, List.pairwise_map]
    refine all_pw (fun x y a es fs _ e2 _ _ => ?_) _
    obtain ⟨v, s⟩ := x
    cases s with
    | val d => cases d <;> cases e2
    | own _ => cases e2
    | ali _ => cases e2
    | raw _ => cases e2
    | ent _ => cases e2
theorem ent_na {A : List (V × SV)} : ∀ s ∈ (A.map fun p => (p.1, p.2.entz)).map Prod.snd, s.isAli = false := fun s hs => by
  rw [List.map_map] at hs
  obtain ⟨p, _, rfl⟩ := List.mem_map.mp hs
  obtain ⟨v, s⟩ := p
  cases s with
  | val d => cases d <;> rfl
  | own _ => rfl
  | ali _ => rfl
  | raw _ => rfl
  | ent _ => rfl
theorem made_ok {W : Zt} {v : V} {d : PyData} {H' : Hp} (r : Rep F0 H0 F H W) (b : ∃ F', Rep F H F' H' [(some v, some (.val d))]) : ∃ F', Rep F0 H0 F' H' (W ++ [(some v, some (.val d))]) := by
  obtain ⟨F', b⟩ := b
  have rF : Rep F0 H0 F' H' W := r.both b.base b.low b.ent b.apart
  obtain ⟨v', e0, rv⟩ := b.ok (some v, some (.val d)) (by simp) _ rfl
  cases e0
  exact ⟨F', rF.pushV rv⟩
/-- C(..), as data -/
def dMake (F0 : Hp) (R : RC) (ER : Addr → Int → Prop) (fa : DAX) : DX := fun σ P => fa σ fun as => ∃ S, R F0 (as.map SV.entz) S ∧ ∀ r, S r → match r with
  | .ok sv => (∃ d, sv = .val d) ∧ P sv
  | .er C i => ER C i
theorem make_run {C : Addr} {R : RC} [MonoR R] {ER : Addr → Int → Prop} {E : XK} {W : Zt} {A : List (V × SV)} {P : SV → Prop} {Q : VK} (hE : ∀ C i, ER C i → ∀ dd H', Same H0 H' → H' dd = none → E (.ref C) (some dd) (upd H' dd (.xd [("at", .int i)])))
    (r : Rep F0 H0 F H (W ++ A.map pr)) (h : ∃ S, R F0 ((A.map Prod.snd).map SV.entz) S ∧ ∀ r, S r → match r with
      | .ok sv => (∃ d, sv = .val d) ∧ P sv
      | .er C i => ER C i) (q : ∀ sv, P sv → ∀ v H', (∃ F, Rep F0 H0 F H' (W ++ [(some v, some sv)])) → Q v H') {x dx : Addr} (nx : H x = none) (nd : H dx = none) (ne : dx ≠ x) :
    spI C R (.ref x :: A.map Prod.fst) (upd (upd H dx (.own x)) x (.ins C dx [])) (fun v H2 => v = .non ∧ Q (.ref x) H2) E := by
  obtain ⟨S, h1, h2⟩ := h
  refine ⟨x, dx, H, F, A.map (fun p => (p.1, p.2.entz)), S, by simp, nx, nd, ne, rfl, ent_ok r, ent_na, MonoR.mono r.base (by simpa [Function.comp_def] using h1), fun rs hs => ?_⟩
  have := h2 rs hs
  cases rs with
  | ok sv =>
    obtain ⟨⟨d, rfl⟩, hp⟩ := this
    exact fun H' b => ⟨rfl, q _ hp (.ref x) H' (made_ok r.left b)⟩
  | er C i => exact fun dd H' s n => hE C i this dd H' (r.ent.trans s) n
instance {C : Addr} {R : RC} [MonoR R] {ta : TA} {fa : DAX} [ha : DA F0 H0 ta fa] : DE F0 H0 (tMake C (spI C R) [] (fun _ _ _ => False) ta) (dMake F0 R (fun _ _ => False) fa) where
  run Z T H P Q := fun hr h q => ha.run Z T H _ _ hr h fun A h1 H1 ⟨F, r1⟩ => by
    intro x dx nx nd ne
    rw [List.append_nil]
    exact make_run (W := Z ++ T) (P := P) (fun _ _ z => z.elim) (by rw [List.append_assoc]; exact r1) h1 (fun sv hp v H2 r2 => q sv hp v H2 (by rw [← List.append_assoc]; exact r2)) nx nd ne
instance {C : Addr} {R : RC} [MonoR R] {E : XK} {ER} [he : EOk H0 E ER] {ta : TA} {fa : DAX} [ha : DA F0 H0 ta fa] : DE F0 H0 (tMkS C (spI C R) (fun _ cls d H => E cls d H) ta) (dMake F0 R ER fa) where
  run Z T H P Q := fun hr h q => ha.run Z T H _ _ hr h fun A h1 H1 ⟨F, r1⟩ => by
    intro x dx nx nd ne
    exact make_run (W := Z ++ T) (P := P) he.run (by rw [List.append_assoc]; exact r1) h1 (fun sv hp v H2 r2 => q sv hp v H2 (by rw [← List.append_assoc]; exact r2)) nx nd ne
def dMakeW (F0 : Hp) (R : RC) (ER : Addr → Int → SD → Prop) (fa : DAX) : DX := fun σ P => fa σ fun as => ∃ S, R F0 (as.map SV.entz) S ∧ ∀ r, S r → match r with
  | .ok sv => (∃ d, sv = .val d) ∧ P sv
  | .er C i => ER C i σ
instance {C : Addr} {R : RC} [MonoR R] {W : WX} {ER} [he : EOkW F0 H0 W ER] {ta : TA} {fa : DAX} [ha : DA F0 H0 ta fa] : DEW F0 H0 (tMkS C (spI C R) (WE W) ta) (dMakeW F0 R ER fa) where
  run Z T H P Q := fun hr na h q => ha.run Z T H _ _ hr h fun A h1 H1 ⟨F, r1⟩ => by
    have r1' : Rep F0 H0 F H1 ((Z ++ T) ++ A.map pr) := by rw [List.append_assoc]; exact r1
    obtain ⟨S, h1, h2⟩ := h1
    intro x dx nx nd ne
    refine ⟨x, dx, H1, F, A.map (fun p => (p.1, p.2.entz)), S, by simp, nx, nd, ne, rfl, ent_ok r1', ent_na, MonoR.mono r1'.base (by simpa [Function.comp_def] using h1), fun rs hs => ?_⟩
    have := h2 rs hs
    cases rs with
    | ok sv =>
      obtain ⟨⟨d, rfl⟩, hp⟩ := this
      exact fun H' b => ⟨rfl, q _ hp (.ref x) H' (by
        have := made_ok r1'.left b
        simpa using this)⟩
    | er C i =>
      intro dd H' sm nd
      refine he.run C i Z [] H' dd this ?_ na nd
      have rZ : Rep F0 H0 F H1 Z := r1'.left.left
      exact ⟨F, by rw [List.append_nil]; exact rZ.both (Same.refl _) (rZ.low.trans sm) sm fun _ h _ => h⟩
/-! ### the body of __init__ -/
abbrev DIE := List (Str × PyData) → SD → Prop
abbrev DIX := DIE → List (Str × PyData) → SD → Prop
/-- what stands while self at x is being made -/
structure Mkg (F0 Hb : Hp) (C x : Addr) (fs' : List (Str × V)) (fs : List (Str × PyData)) (dx : Addr) (F1 : Hp) (H : Hp) (Z : Zt) : Prop where
  base : Same F0 F1
  apart : ∀ b, F0 b = none → Hb b ≠ none → F1 b = none
  nx : F1 x = none
  rep : RepS F1 (upd Hb x (.ins C dx fs')) H (Z ++ [])
  ok : FsOk F1 fs' fs
  slf : (Z.map Prod.snd)[0]? = some (some (.raw (.ref x)))
class DIn (F0 Hb : Hp) (C x : Addr) (t : TS) (g : outParam DIX) : Prop where
  run : ∀ (F1 H : Hp) (Z : Zt) (dx : Addr) (fs' : List (Str × V)) (fs : List (Str × PyData)) (E : DIE) (D : Ends), Mkg F0 Hb C x fs' fs dx F1 H Z → g E fs (Z.map Prod.snd) →
    (∀ F2 H' Z' fs2' fs2, Mkg F0 Hb C x fs2' fs2 dx F2 H' Z' → E fs2 (Z'.map Prod.snd) → D.nx (Z'.map Prod.fst) H') → t D (Z.map Prod.fst) H
variable {Hb : Hp} {C x : Addr}
/-- a statement that leaves self alone -/
def dStm (F0 : Hp) (g : Hp → DSX) : DIX := fun E fs σ => ∀ F1, Same F0 F1 → g F1 { nx := fun σ' => σ'[0]? = σ[0]? ∧ E fs σ', rt := fun _ => False } σ
theorem eok_at {Ex : XK} {ER : Addr → Int → Prop} {o : HO} (he : EOk Hb Ex ER) (nx : Hb x = none) : EOk (upd Hb x o) Ex ER := ⟨fun C i h dd H' s n => he.run C i h dd H' ((same_upd nx).trans s) n⟩
theorem DIn.stm {t : TS} {g : Hp → DSX} (h : ∀ F1 o, DS0 F1 (upd Hb x o) t (g F1)) : DIn F0 Hb C x t (dStm F0 g) where
  run F1 H Z dx fs' fs E D m hg k := (h F1 (.ins C dx fs')).run Z H _ D m.rep (hg F1 m.base) ⟨fun Z' H' r' h' => k F1 H' Z' fs' fs ⟨m.base, m.apart, m.nx, r', m.ok, h'.1.trans m.slf⟩ h'.2, fun _ _ _ h => h.elim, fun _ _ _ h => h.elim, fun _ _ _ h => h.elim⟩
def dISeq (g1 g2 : DIX) : DIX := fun E fs σ => g1 (fun fs σ => g2 E fs σ) fs σ
theorem DIn.seq {t u : TS} {g1 g2 : DIX} (h1 : DIn F0 Hb C x t g1) (h2 : DIn F0 Hb C x u g2) : DIn F0 Hb C x (tSeq t u) (dISeq g1 g2) where
  run F1 H Z dx fs' fs E D m hg k := h1.run F1 H Z dx fs' fs _ _ m hg fun F2 H' Z' fs2' fs2 m2 h' => h2.run F2 H' Z' dx fs2' fs2 E D m2 h' k
theorem putF_new {f : Str} {v : V} : ∀ {fs : List (Str × V)}, fs.lookup f = none → putF f v fs = fs ++ [(f, v)]
  | [], _ => rfl
  | (g, y) :: fs, e => by
    cases z : (f == g) with
    | true => rw [List.lookup_cons, z] at e; cases e
    | false =>
      rw [List.lookup_cons, z] at e
      show (if g = f then _ else _) = _
      rw [if_neg (fun w => by subst w; simp at z), putF_new e]; rfl
/-- self.f = e -/
def dIFld (F0 : Hp) (K : PySem.W.Frag) (C : Addr) (f : Str) (g : Hp → DX) : DIX := fun E fs σ => Cls K C ∧ NoAttr K C f ∧ fs.length < 1000 ∧ fs.lookup f = none ∧ ∀ F1, Same F0 F1 → g F1 σ fun sv => ∃ d, sv.fix? = some d ∧ E (fs ++ [(f, d)]) σ
theorem DIn.fld {f : Str} {te : TE} {g : Hp → DX} (he : ∀ F1 o, DE F1 (upd Hb x o) te (g F1)) : DIn F0 Hb C x (sFld K (tVar 0) te f) (dIFld F0 K C f g) where
  run F1 H Z dx fs' fs E D m hg k := by
    obtain ⟨hc, hn, hl, hf, hg⟩ := hg
    refine (he F1 (.ins C dx fs')).run Z [] H _ _ m.rep.1 (hg F1 m.base) fun sv ⟨d, e, hE⟩ v H1 ⟨F, r⟩ => ?_
    obtain ⟨F2, r2⟩ := Rep.fixLast (by rw [List.nil_append] at r; exact r) e
    have rv := r2.last
    have rZ := r2.left
    have m0 := m.slf
    rw [List.getElem?_map] at m0
    cases eZ : Z[0]? with
    | none => rw [eZ] at m0; cases m0
    | some p =>
      rw [eZ] at m0
      obtain ⟨y, s⟩ := p
      have e1 : s = some (.raw (.ref x)) := Option.some.inj m0
      subst e1
      obtain ⟨w, e2, e3⟩ := rZ.ok (y, some (.raw (.ref x))) (List.mem_of_getElem? eZ) _ rfl
      have e2' : y = some w := e2
      subst e2'
      have e3' : w = .ref x := e3
      subst e3'
      have hx : H1 x = some (.ins C dx fs') := rZ.ent _ _ upd_same
      have fx : F2 x = none := rZ.apart x m.nx (by rw [upd_same]; simp)
      refine ⟨.ref x, by rw [List.getElem?_map, eZ]; rfl, x, C, dx, fs', rfl, hx, hc, hn, by rw [m.ok.len]; exact hl, ?_⟩
      have nl := m.ok.no hf
      rw [putF_new nl]
      have sF : Same F1 F2 := rZ.base
      refine k F2 _ Z (fs' ++ [(f, v)]) (fs ++ [(f, d)]) ⟨m.base.trans sF, fun b h0 h1 => ?_, fx, ⟨⟨F2, Same.refl _, fun b o e => ?_, fun b o e => ?_, fun _ h _ => h, fun p hp sv' e => ?_, ?_⟩, m.rep.2⟩, ⟨by
        rw [List.map_append, List.map_append, m.ok.nm]; rfl, by
        rw [List.map_append, List.map_append]
        exact (m.ok.al.mono sF).app (.cons rv .nil)⟩, m.slf⟩ hE
      · refine rZ.apart b (m.apart b h0 h1) ?_
        by_cases z : b = x
        · subst z; rw [upd_same]; simp
        · rw [upd_ne z]; exact h1
      · have : b ≠ x := fun z => by subst z; rw [fx] at e; cases e
        rw [upd_ne this]; exact rZ.low _ _ e
      · by_cases z : b = x
        · subst z; rw [upd_same] at e ⊢; exact e
        · rw [upd_ne z] at e ⊢
          exact rZ.ent _ _ (by rw [upd_ne z]; exact e)
      · have hp' : p ∈ Z := by simpa using hp
        obtain ⟨w, e1, rr⟩ := rZ.ok p hp' sv' e
        refine ⟨w, e1, ?_⟩
        cases sv' with
        | val d' => exact rr
        | raw u => exact rr
        | ali ds => exact absurd e (m.rep.2 p hp ds)
        | ent ds =>
          obtain ⟨a, vs, q1, q3, q4, q5⟩ := rr
          subst q1
          by_cases z : a = x
          · subst z; rw [hx] at q4; cases q4
          · exact ⟨a, vs, rfl, by rw [upd_ne z] at q3 ⊢; exact q3, by rw [upd_ne z]; exact q4, q5⟩
        | own ds =>
          obtain ⟨a, vs, q1, q2, q3, q4, q5⟩ := rr
          have : a ≠ x := fun z => by subst z; rw [upd_same] at q3; cases q3
          exact ⟨a, vs, q1, q2, by rw [upd_ne this] at q3 ⊢; exact q3, by rw [upd_ne this]; exact q4, q5⟩
      · rw [List.append_nil]; exact rZ.dist
/-- the end: the object stays as it is -/
theorem Mkg.done {F1 : Hp} {Z : Zt} {dx : Addr} {fs' fs} (hb : Hb x = none) (m : Mkg F0 Hb C x fs' fs dx F1 H Z) : ∃ F', Rep F0 Hb F' H [(some (.ref x), some (.val (Ob C fs)))] := by
  obtain ⟨⟨F, r⟩, _⟩ := m.rep
  have fx : F x = none := r.apart x m.nx (by rw [upd_same]; simp)
  have hx : H x = some (.ins C dx fs') := r.ent _ _ upd_same
  have s1 : Same F (upd F x (.ins C dx fs')) := same_upd fx
  have r0 : Rep F0 Hb (upd F x (.ins C dx fs')) H [] := ⟨m.base.trans (r.base.trans s1), fun b o e => by
      by_cases z : b = x
      · subst z; rw [upd_same] at e; rw [← e]; exact hx
      · rw [upd_ne z] at e; exact r.low _ _ e, (same_upd hb).trans r.ent, fun b h0 h1 => by
      have z : b ≠ x := fun z => by subst z; exact h1 hb
      rw [upd_ne z]
      exact r.apart b (m.apart b h0 h1) (by rw [upd_ne z]; exact h1), fun p hp => (by cases hp), .nil⟩
  refine ⟨upd F x (.ins C dx fs'), ?_⟩
  exact r0.pushV (.obI upd_same ((m.ok.mono r.base).mono s1))
end
section
variable {P : Program} {w : World} {K : PySem.W.Frag} {mg : Str → Option Value} {base : Heap}
/-- __init__ keeps its contract -/
theorem okInit {x qual : Str} {st : Stmt} {f C : Addr} {fd : FuncData} {N ps : List Str} {k : Nat} {R : RC} (F : Fun K x qual st f fd) (S : FnScope N ps (defScope st)) (hlen : ∀ F as S, R F as S → as.length + 1 = ps.length)
    (body : ∀ (cdv : Value) (A : Around) (outer : List Env) (s : Shared) (H : Hp) (E : XK), Room k (A.deeper (envOfC qual (defScope st) s.heap.objs.size f cdv)) →
      ∃ (t : TS) (g : (Addr → Int → Prop) → Hp → DIX), PSs (cxOf (L2.CX P w) P w K mg base N qual (defScope st) f cdv A outer s H E) (defBody st) t ∧ (∀ F0 Hb x ER, Hb x = none → EOk Hb E ER → DIn F0 Hb C x t (g ER F0)) ∧
        ∀ F0 as (S : Rs → Prop) x, R F0 as S → g (fun C i => S (.er C i)) F0 (fun fs _ => S (.ok (.val (Ob C fs)))) [] (some (.raw (.ref x)) :: as.map some ++ List.replicate (N.length - ps.length) none)) : FnOk P w K mg base (L2.CX P w) (k + 1) f fd ps (spI C R) := by
  refine F.okX S (fun vs H Q E h => ?_) (fun cdv A outer s H vs Q E hr h => ?_)
  · obtain ⟨x, dx, Hb, F, A, S, rfl, _, _, _, _, r, na, hR, hS⟩ := h
    simpa using hlen _ _ _ hR
  · obtain ⟨t, g, h1, h2, h3⟩ := body cdv A outer s H E hr
    refine ⟨t, h1, ?_⟩
    obtain ⟨x, dx, Hb, F, A, S1, rfl, nx, nd, ne, rfl, r, na, hR, hS⟩ := h
    have hl : A.length + 1 = ps.length := by have := hlen F _ S1 hR; simpa using this
    have fx : F x = none := r.low.free nx
    let H1 : Hp := upd (upd Hb dx (.own x)) x (.ins C dx [])
    have sH : Same Hb H1 := (same_upd nd).trans (same_upd (by rw [upd_ne (Ne.symm ne)]; exact nx))
    have ex : ∀ rest : List (Option V × Option SV), (((some (V.ref x), some (SV.raw (.ref x))) :: A.map pr ++ rest).map Prod.fst) = some (V.ref x) :: (A.map Prod.fst).map some ++ rest.map Prod.fst := fun rest => by
      simp [pr, Function.comp_def]
    have e1 : (((some (V.ref x), some (SV.raw (.ref x))) :: A.map pr ++ List.replicate (N.length - ps.length) ((none : Option V), (none : Option SV))).map Prod.fst) = L2.start N (.ref x :: A.map Prod.fst) := by
      rw [ex]
      unfold L2.start
      rw [List.map_replicate, List.map_cons, List.length_cons, List.length_map, hl]
    have e2 : (((some (V.ref x), some (SV.raw (.ref x))) :: A.map pr ++ List.replicate (N.length - ps.length) ((none : Option V), (none : Option SV))).map Prod.snd) = some (.raw (.ref x)) :: (A.map Prod.snd).map some ++ List.replicate (N.length - ps.length) none := by
      simp [pr, Function.comp_def]
    have rA : Rep F (upd Hb x (.ins C dx [])) F H1 (A.map pr) := ⟨Same.refl _, r.low.trans sH, fun b o e => by
        by_cases z : b = x
        · subst z; rw [upd_same] at e; rw [← e]; exact upd_same
        · rw [upd_ne z] at e; exact sH _ _ e, fun _ h _ => h, fun p hp sv e => by
        obtain ⟨v, e1, rv⟩ := r.ok p hp sv e
        refine ⟨v, e1, ?_⟩
        cases sv with
        | val d => exact rv
        | raw u => exact rv
        | own ds => obtain ⟨a, vs, q1, q2, q3, q4, q5⟩ := rv; rw [q3] at q4; cases q4
        | ent ds =>
          obtain ⟨a, vs, q1, q3, q4, q5⟩ := rv
          have z : a ≠ x := fun z => by subst z; rw [nx] at q3; cases q3
          exact ⟨a, vs, q1, by rw [upd_ne z]; exact q3, sH _ _ q4, q5⟩
        | ali ds => (obtain ⟨a, vs, q1, q3, q4, q5⟩ := rv; exact absurd (q3.symm.trans q4) (by simp)), r.dist⟩
    have noali : ∀ p ∈ ((some (V.ref x), some (SV.raw (.ref x))) :: A.map pr ++ List.replicate (N.length - ps.length) ((none : Option V), (none : Option SV))), NoAli p := fun p hp es e => by
      rcases List.mem_append.mp hp with z | z
      · rcases List.mem_cons.mp z with z | z
        · subst z; cases e
        · obtain ⟨q, hq, rfl⟩ := List.mem_map.mp z
          have := na q.2 (List.mem_map.mpr ⟨q, hq, rfl⟩)
          rw [Option.some.inj e] at this; cases this
      · rw [List.mem_replicate] at z
        rw [z.2] at e; cases e
    have rep : Rep F (upd Hb x (.ins C dx [])) F H1 ((some (V.ref x), some (SV.raw (.ref x))) :: A.map pr ++ List.replicate (N.length - ps.length) ((none : Option V), (none : Option SV))) := by
      refine ⟨rA.base, rA.low, rA.ent, rA.apart, fun p hp => ?_, ?_⟩
      · rcases List.mem_append.mp hp with z | z
        · rcases List.mem_cons.mp z with z | z
          · subst z; intro sv e; cases e; exact ⟨_, rfl, rfl⟩
          · exact rA.ok p z
        · rw [List.mem_replicate] at z
          rw [z.2]; intro sv e; cases e
      · rw [List.cons_append, List.pairwise_cons]
        refine ⟨fun q hq a es fs _ e => (by cases e), ?_⟩
        rw [List.pairwise_append]
        refine ⟨rA.dist, List.pairwise_replicate.mpr (.inr fun a es fs e => by cases e), fun p hp q hq a es fs _ _ e => ?_⟩
        rw [List.mem_replicate] at hq
        rw [hq.2] at e; cases e
    have he : EOk Hb E (fun C i => S1 (.er C i)) := ⟨fun C i hs dd H' sm nd => hS _ hs dd H' sm nd⟩
    have := (h2 F Hb x _ nx he).run F H1 _ dx [] [] (fun fs _ => S1 (.ok (.val (Ob C fs)))) { nx := fun _ H' => Q .non H', rt := Q } ⟨Same.refl _, fun b h _ => h, fx, ⟨⟨F, by rw [List.append_nil]; exact rep⟩, by rw [List.append_nil]; exact noali⟩, ⟨rfl, .nil⟩, rfl⟩ (by rw [e2]; exact h3 F _ S1 x hR)
      fun F2 H' Z' fs2' fs2 m2 h' => hS _ h' H' (m2.done nx)
    rw [e1] at this
    exact this
end
end DL
/-! Data: further built-ins and statements. -/
namespace DL
open PySem PySem.Spec PyProof.Rows L2 NB MKX
/-! any of ints -/
def rAnyI (K : PySem.W.Frag) : List V → Hp → VK → Prop := fun vs H Q => ∃ (a : Addr) (ns : List Int), vs = [V.ref a] ∧ SqL K H a (ns.map V.int) ∧ Q (.bl (ns.any fun n => decide (n ≠ 0))) H
section
variable {F0 H0 F H : Hp} {K : PySem.W.Frag}
def bAnyI : SV → (SV → Prop) → Prop := fun x P => ∃ ns : List Int, x.items? = some (LI ns) ∧ P (.val (.bool (ns.any fun n => decide (n ≠ 0))))
instance : CbD F0 H0 (rAnyI K) (fun xs P => match xs with | [x] => bAnyI x P | _ => False) :=
  .one fun W x sx H F P Q r rx l ⟨ns, e, h⟩ q => by
    obtain ⟨a, vs, rfl, ha, hv⟩ := rx.items l e
    rw [all_ints hv] at ha
    exact ⟨a, ns, rfl, SqL.of ha, q _ h _ _ ⟨F, r.pushV (.bl _)⟩⟩
/-! x.extend(e), x an own list -/
def dExt (i : Nat) (f : DX) : DSX := fun E σ => match σ[i]? with
  | some (some (.own ds)) => f σ fun sv => match sv.items? with
    | some es => ds.length + es.length ≤ sizeLine ∧ E.nx (σ.set i (some (.own (ds ++ es))))
    | none => False
  | _ => False
instance {te : TE} {f : DX} {i : Nat} [he : DE F0 H0 te f] : DS F0 H0 (tDrop (tBM K "list" rExtend (tVar i) (tCons te tNil))) (dExt i f) where
  run Z T H E D r h l := by
    unfold dExt at h
    cases e3 : (Z.map Prod.snd)[i]? with
    | none => rw [e3] at h; exact h.elim
    | some ov =>
      match ov, e3 with
      | none, e3 => rw [e3] at h; exact h.elim
      | some (.val _), e3 => rw [e3] at h; exact h.elim
      | some (.ali _), e3 => rw [e3] at h; exact h.elim
      | some (.raw _), e3 => rw [e3] at h; exact h.elim
      | some (.ent _), e3 => rw [e3] at h; exact h.elim
      | some (.own ds), e3 =>
        rw [e3] at h
        obtain ⟨F, r0⟩ := r.1
        obtain ⟨a, vs, z1, z2, z3, _⟩ := own_slot r0 e3
        have h' : f (Z.map Prod.snd) fun sv => match sv.items? with
          | some es => ds.length + es.length ≤ sizeLine ∧ E.nx ((Z.map Prod.snd).set i (some (.own (ds ++ es))))
          | none => False := h
        refine ⟨.ref a, z2, .inl ⟨rfl, _, SqL.of z3⟩, he.run Z T H _ _ ⟨F, r0⟩ h' fun sv hs y H1 ⟨F1, r1⟩ => ?_⟩
        cases e : sv.items? with
        | none => rw [e] at hs; exact hs.elim
        | some es =>
          rw [e] at hs
          rw [← List.append_assoc] at r1
          obtain ⟨b, zs, rfl, hb, hz⟩ := r1.last.items r1.low e
          obtain ⟨a', vs2, q1, q2, q3, q4⟩ := own_slot r1.left e3
          rw [z1] at q1; cases q1
          refine ⟨a, b, vs2, zs, rfl, rfl, q3, hb, by rw [q4.length, hz.length]; exact hs.1, ?_⟩
          have := l.nx _ _ (own_put r1.left r.2 z1 (q4.app hz)) (by rw [map_set_snd]; exact hs.2)
          rw [map_set_fst, set_self z2] at this
          exact this
/-! a, b = e, f -/
theorem sndK1 {A : List (V × SV)} {x : SV} (e : A.map Prod.snd = [x]) : ∃ v, A = [(v, x)] := by
  obtain ⟨⟨v, s⟩, B, rfl, hs, hB⟩ := List.map_eq_cons_iff.mp e
  cases hs
  cases List.map_eq_nil_iff.mp hB
  exact ⟨v, rfl⟩
theorem sndK2 {A : List (V × SV)} {x y : SV} (e : A.map Prod.snd = [x, y]) : ∃ v w, A = [(v, x), (w, y)] := by
  obtain ⟨⟨v, s⟩, B, rfl, hs, hB⟩ := List.map_eq_cons_iff.mp e
  cases hs
  obtain ⟨w, rfl⟩ := sndK1 hB
  exact ⟨v, w, rfl⟩
def dPar (i j : Nat) (fa : DAX) : DSX := fun E σ => fa σ fun as => ∃ d e, as = [.val d, .val e] ∧ E.nx ((σ.set i (some (.val d))).set j (some (.val e)))
instance {ta : TA} {fa : DAX} {i j : Nat} [ha : DA F0 H0 ta fa] : DS F0 H0 (tPar i j ta) (dPar i j fa) where
  run Z T H E D r h l := ha.run Z T H _ _ r.1 h fun A ⟨d, e, hA, hn⟩ H1 ⟨F, r1⟩ => by
    · obtain ⟨v, w, rfl⟩ := sndK2 hA
      refine ⟨v, w, rfl, ?_⟩
      have r2 : RepS F0 H0 H1 (Z.set i (some v, some (.val d)) ++ (T ++ [(some w, some (.val e))])) := store_S (T := T ++ [(some w, some (.val e))]) ⟨F, by
        have r1' : Rep F0 H0 F H1 (Z ++ (T ++ [(some v, some (.val d)), (some w, some (.val e))])) := r1
        refine r1'.perm ?_
        refine List.Perm.append_left _ ?_
        rw [List.append_assoc]
        exact List.Perm.append_left _ (List.Perm.swap _ _ _)⟩ (fun p hp es e => by
          rcases List.mem_append.mp hp with z | z
          · exact r.2 p (List.mem_append_left _ z) es e
          · rcases List.mem_append.mp z with z | z
            · exact r.2 p (List.mem_append_right _ z) es e
            · simp at z; subst z; cases e) (by intro _ e; cases e)
      have r3 : RepS F0 H0 H1 ((Z.set i (some v, some (.val d))).set j (some w, some (.val e)) ++ T) := store_S r2.1 (fun p hp => r2.2 p (by
        rcases List.mem_append.mp hp with z | z
        · exact List.mem_append_left _ z
        · exact List.mem_append_right _ (List.mem_append_left _ z))) (by intro _ e; cases e)
      have := l.nx _ _ r3 (by rw [map_set_snd, map_set_snd]; exact hn)
      rw [map_set_fst, map_set_fst] at this
      exact this
/-! e.append(f), e a new list that nobody keeps -/
def dAppT (f fe : DX) : DSX := fun E σ => f σ fun x => ∃ ds, x = .own ds ∧ fe σ fun sv => (∃ d, sv.fix? = some d) ∧ ds.length < sizeLine ∧ E.nx σ
theorem dAppT_run {to te : TE} {f fe : DX} (ho : DE F0 H0 to f) (he : DE F0 H0 te fe) : DS F0 H0 (tDrop (tBM K "list" rAppend to (tCons te tNil))) (dAppT f fe) where
  run Z T H E D r h l := ho.run Z T H _ _ r.1 h fun x ⟨ds, ex, h2⟩ v H1 ⟨F1, r1⟩ => by
    subst ex
    obtain ⟨a, vs, rfl, _, _, ha, hv⟩ := (show RV H0 F1 H1 v (.own ds) from by
      have := r1
      rw [← List.append_assoc] at this
      exact this.last)
    refine ⟨.inl ⟨rfl, _, SqL.of ha⟩, he.run Z (T ++ [(some (.ref a), some (.own ds))]) H1 _ _ ⟨F1, r1⟩ h2 fun sv hs y H2 ⟨F2, r2⟩ => ?_⟩
    obtain ⟨⟨d, hd⟩, hl, hn⟩ := hs
    rw [← List.append_assoc] at r2
    obtain ⟨F3, r3⟩ := r2.fixLast hd
    have r4 : Rep F0 H0 F3 H2 ((Z ++ T) ++ (some (.ref a), some (.own ds)) :: []) := by have := r3.left; rw [← List.append_assoc] at this; exact this
    obtain ⟨w, e1, a', ws, e2, f1, f0, h1, hd2⟩ := r4.ok (some (.ref a), some (.own ds)) (by simp) _ rfl
    cases e1
    cases e2
    have r5 := r4.put (es := ds ++ [d]) (vs := ws ++ [y]) (fun p hp es e => by
      rcases hp with z | z
      · exact absurd e (r.2 p z es)
      · cases z) (hd2.app (.cons r3.last .nil))
    refine ⟨a, ws, y, rfl, rfl, h1, by rw [hd2.length]; exact hl, ?_⟩
    exact l.nx Z _ ⟨⟨F3, r5.left⟩, r.2⟩ hn
instance {C : Addr} {m : Str} {sp : Sp} {E : XK} {ta : TE} {t : TA} {te : TE} {f fe : DX} [ho : DE F0 H0 (tMeth C m sp [] E ta t) f] [he : DE F0 H0 te fe] : DS F0 H0 (tDrop (tBM K "list" rAppend (tMeth C m sp [] E ta t) (tCons te tNil))) (dAppT f fe) := dAppT_run ho he
end
end DL
/-! Data: enumerate(list, start=k). -/
namespace DL
open PySem PySem.Spec PyProof.Rows L2 NB
theorem callWith_typeK {M : Model} {A : Around} {E : Value → Shared → Prop} {s : Shared} {pos : Pos} {T : String} {args : List (Bool × Sem Value)} {keywords : List (Option Str × Sem Value)} {Q : Value → Shared → Prop}
    (hplain : args.any (·.1) = false) (hkw : keywords.any (·.1.isNone) = false)
    (h : wpAny M A (evalArgs (.type T) true args keywords) (fun a s₁ => wpAny M A (call (.type T) ([] ++ a.pos) a.kw) Q E s₁) E s) :
    wpAny M A (callWith pos (.type T) [] args keywords) Q E s := by
  unfold callWith
  refine wpAny_bind (wpAny_holding (wpAny_mono h (fun a s₁ h₁ => wpAny_bind (wpAny_standAt ?_)) fun _ _ x => x))
  simp only [hplain, hkw, Bool.or_false]
  refine wpAny_bind (wpAny_pure ?_)
  exact wpAny_bind (wpAny_mono h₁ (fun r s₂ hr => wpAny_bind (wpAny_holding (wpAny_point (wpAny_pure hr)))) fun _ _ x => x)
def ItS (K : PySem.W.Frag) (a : Addr) (k0 : Int) : It :=
  ⟨fun i H => ∃ (xs : List V) (x : V), SqL K H a xs ∧ xs[i]? = some x, fun i H v H' => ∃ T x, v = .ref T ∧ H T = none ∧ H' = upd H T (.tup [.int (k0 + (i : Nat)), x]) ∧ ∀ xs, SqL K H a xs → xs[i]? = some x, fun i H => ∃ xs : List V, SqL K H a xs ∧ xs.length ≤ i⟩
theorem turn_enumS {P : Program} {w : World} {K : PySem.W.Frag} {elts : List Expr} {kk : Nat} {tpos : Pos} (k0 : Int) (a e it : Addr) :
    Turn P w K (.Tuple elts kk tpos) (ItS K a k0) [e, it] e (fun i h => (∃ old, IsEnum h e it (k0 + (i : Nat)) old) ∧ h.IsListIter it a i ∧ e ≠ it) where
  mem := by simp
  obj := fun i h st b hb => by
    obtain ⟨⟨old, he⟩, ⟨o, ho, hc, hd⟩, _⟩ := st
    have e' : b = e ∨ b = it := by simpa using hb
    rcases e' with z | z
    · rw [z]; exact ⟨_, he, fun v q => nomatch q⟩
    · rw [z]; exact ⟨o, ho, fun v q => by rw [hd] at q; cases q⟩
  keep := fun i h h' st k => let ⟨⟨old, he⟩, hi, hne⟩ := st; ⟨⟨old, k e (by simp) _ he⟩, hi.at fun o q => k it (by simp) o q, hne⟩
  item := by
    intro X hP hw hK hc i pins s σ H E I hf st hg
    subst hP hw hK
    obtain ⟨⟨old, he⟩, hit, hne⟩ := st
    obtain ⟨xs, x, hq, hx⟩ := hg
    obtain ⟨its, rv, p, hz⟩ := I.list hq
    obtain ⟨u, hu, ru⟩ := rv.get hx
    have hel : e < s.heap.objs.size := Heap.lt_size he
    have hil : it < s.heap.objs.size := by obtain ⟨_, q, _⟩ := hit; exact Heap.lt_size q
    have ha : a ≠ it := fun z => by
      obtain ⟨o, ho, hc1, _⟩ := p.isList
      obtain ⟨o2, ho2, hc2, _⟩ := hit
      rw [z, ho2] at ho
      cases ho
      rw [hc1] at hc2
      exact absurd hc2 (by decide)
    have hae : e ≠ a := fun z => by
      obtain ⟨o, ho, hc1, _⟩ := p.isList
      have he' : s.heap.get? e = _ := he
      rw [z, ho] at he'
      cases he'
      exact absurd (show Value.type "enumerate" = Value.type "list" from hc1) (by decide)
    have hu' : its.toArray[i]? = some u := by simpa using hu
    refine wpAny_pyNext_enum_itemC (n := its.toArray.size) (Draws.list (A := X.A.in1) (I.ok.hd hc) it a ha its.toArray) he ⟨hit, p.isList⟩ (Array.getElem?_eq_some_iff.mp hu').1 hne (by simp [hne, hae]) fun y h' tk hy ho st' hT hsz hk => ?_
    rw [hu'] at hy
    cases hy
    obtain ⟨hit', _⟩ := st'
    refine ⟨_, rfl, wpAny_letOwnedTupleGo_enum (s := { s with heap := h', toks := tk + 1 }) ho fun h'' he' sb => ?_⟩
    have hT2 : h''.get? s.heap.objs.size = some { cls := .type "tuple", data := .seq #[.int (k0 + (i : Nat)) tk, u] } := (sb.2 _ (Nat.ne_of_gt hel)).trans hT
    have new : ObjOk X.prog X.w (upd H s.heap.objs.size (.tup [.int (k0 + (i : Nat)), x])) h'' s.heap.objs.size (.tup [.int (k0 + (i : Nat)), x]) :=
      ⟨by show 2 ≤ sizeLine; decide, [.int (k0 + (i : Nat)) tk, u], .cons ⟨_, rfl⟩ (.cons ru .nil), ⟨_, hT2, rfl, _, rfl⟩⟩
    have I1 : Inv X pins σ (upd H s.heap.objs.size (.tup [.int (k0 + (i : Nat)), x])) { s with heap := h'', toks := tk + 1 } :=
      I.turnedNew (ch := [e, it]) (fun b ob hb q => (sb.2 b (fun z => hb (by simp [z]))).trans (hk b ob (fun z => hb (by simp [z])) (fun z => hb (by simp [z])) q)) hf (Nat.le_refl _) new
    refine ⟨.ref s.heap.objs.size, _, I1, rfl, ⟨_, x, rfl, I.hok.fresh (Nat.le_refl _), rfl, fun ys hy => by rw [I.list_inj hy hq]; exact hx⟩, ⟨⟨u, ?_⟩, hit'.at fun o q => (sb.2 it (Ne.symm hne)).trans q, hne⟩, fun b hb => ?_⟩
    · have e1 : k0 + ((i + 1 : Nat) : Int) = k0 + (i : Int) + 1 := by omega
      rw [e1]; exact he'
    · have hb' : b < s.heap.objs.size := by
        have e' : b = e ∨ b = it := by simpa using hb
        rcases e' with z | z
        · rw [z]; exact hel
        · rw [z]; exact hil
      rw [upd_ne (Nat.ne_of_lt hb')]
      exact (hf b hb).1
  done := by
    intro X hP hw hK hc i pins s σ H E I hf st hg
    subst hP hw hK
    obtain ⟨⟨old, he⟩, hit, hne⟩ := st
    obtain ⟨xs, hq, hx⟩ := hg
    obtain ⟨its, rv, p, hz⟩ := I.list hq
    obtain ⟨f0, f1, f2, f3, f4, f5⟩ := hf it (by simp)
    have hl := rv.length
    have hT : s.TypeIs (.ref e) "enumerate" := ⟨_, he, rfl⟩
    unfold pyNext
    refine wpAny_bind (wpAny_attempt (wpAny_callSpecial?_slot (name := Str.ofString "__next__") hT F.slot_enumerate_next
      (wpAny_call_entry F.slot_enumerate_next hT F.entry_enumerate_next ?_ (F.args_enumerate_next_1 _))))
    show wpAny _ _ (field (.ref e) 2 >>= _) _ _ _
    refine wpAny_bind (wpAny_field he rfl (x := .ref it) rfl ?_)
    refine wpAny_bind (wpAny_nextOf_list_end (I.ok.hd hc) hit p.isList (by simp; omega) fun h' x he' hx' => ?_)
    obtain ⟨o, ho, hc'⟩ := hx'
    refine wpAny_bind (wpAny_isInstance (T := "StopIteration") (b := true) ⟨o, ho, hc'⟩ isSubtype_stop ?_)
    exact wpAny_pure ⟨rfl, I.turned (t' := s.toks) (fun b o hb q => he' b o hb q) f0 f1 f3 f4 f5⟩
  self := fun A i s Q E st h => let ⟨⟨_, he⟩, _⟩ := st; wpAny_pyIter_enum he h
def iEnumS (K : PySem.W.Frag) (ta tk : TA) : TI := fun σ H R => ta σ H fun vs H1 => tk σ H1 fun zs H2 => ∃ a xs k0, vs = [.ref a] ∧ zs = [.int k0] ∧ SqL K H2 a xs ∧ -(2 ^ 63) ≤ k0 ∧ k0 < 2 ^ 63 ∧ R (ItS K a k0) H2
theorem pi_enumS {X : Cx} {e f : Expr} {ta tk : TA} {p pos tpos kpos : Pos} {elts : List Expr} {kk : Nat} (hg : Gl X "enumerate") (hm : X.mg "enumerate" = none) (ha : PA X [e] ta) (hk : PK X [⟨some (Str.ofString "start"), f, kpos⟩] tk) (hs : starEach [e] X.env = [(false, eval e X.env)] := by rfl) :
    PI X (.Tuple elts kk tpos) (.Call (.Name "enumerate" p) [e] [⟨some (Str.ofString "start"), f, kpos⟩] pos) (iEnumS X.K ta tk) := by
  refine ⟨fun pins s σ H R I h => ?_⟩
  refine wpAny_Call_Name_kw (ld_blt I hg hm boot_enumerate (callWith_typeK (by rw [hs]; rfl) rfl (evalArgs_kw2 rfl (thn (ha.run pos pins s σ H _ I h) fun us s1 ⟨vs, H1, I1, r1, q1⟩ => ?_) hs)))
  refine thn (hk.run pos pins s1 σ H1 _ I1 q1) fun ws s2 ⟨zs, H2, I2, r2, q2⟩ => ?_
  obtain ⟨a, xs, k0, ex, ez, hq, k1, k2, q⟩ := q2
  subst ex ez
  cases r1 with
  | cons r rr =>
    cases rr
    cases r
    cases r2 with
    | cons rk rrk =>
      cases rrk
      obtain ⟨tk0, rfl⟩ := rk
      obtain ⟨its, rv, p', hz⟩ := I2.list hq
      show wpAny _ _ (call (.type "enumerate") [.ref a] [(Str.ofString "start", .int k0 tk0)]) _ _ s2
      refine enum_begins_start (begins_list a its.toArray) p'.isList k1 k2 fun h' he hit hsz hk' => wpAny_pyIter_enum he ?_
      have I3 : Inv X pins σ H2 { s2 with heap := h' } := I2.kept (t' := s2.toks) hk'
      refine ⟨s2.heap.objs.size + 1, [s2.heap.objs.size + 1, s2.heap.objs.size], _, _, H2, rfl, I3, turn_enumS k0 a (s2.heap.objs.size + 1) s2.heap.objs.size, ⟨⟨.none, by rw [show k0 + ((0 : Nat) : Int) = k0 from by omega]; exact he⟩, ⟨_, hit, rfl, rfl⟩, Nat.succ_ne_self _⟩, fun b hb => ?_, q⟩
      have e' : b = s2.heap.objs.size + 1 ∨ b = s2.heap.objs.size := by simpa using hb
      have hle : s2.heap.objs.size ≤ b := by
        rcases e' with z | z
        · rw [z]; exact Nat.le_add_right _ _
        · rw [z]; exact Nat.le_refl _
      exact I2.fpOk hle (I2.hok.fresh hle)
section
variable {F0 H0 F H : Hp} {K : PySem.W.Frag}
theorem enumS_go {H : Hp} {a : Addr} {xs : List V} {k0 : Int} {i : Nat} (hi : i < xs.length) (h : SqL K H a xs) : (ItS K a k0).go i H := ⟨xs, xs[i], h, List.getElem?_eq_getElem hi⟩
/-- enumerate from k0: pairs -/
def enumS (k0 : Int) (ds : List PyData) : List PyData := ds.mapIdx fun i d => .tuple [.int (k0 + (i : Nat)), d]
theorem enumS_len (k0 : Int) (ds : List PyData) : (enumS k0 ds).length = ds.length := by unfold enumS; simp
theorem enumS_at {k0 : Int} {ds : List PyData} {i : Nat} {d : PyData} (h : (enumS k0 ds)[i]? = some d) : ∃ e, ds[i]? = some e ∧ d = .tuple [.int (k0 + (i : Nat)), e] := by
  unfold enumS at h
  rw [List.getElem?_mapIdx] at h
  cases e : ds[i]? with
  | none => rw [e] at h; cases h
  | some x => rw [e] at h; exact ⟨x, rfl, (Option.some.inj h).symm⟩
theorem walk_enmS {v : V} {sv : SV} {ds : List PyData} {a : Addr} (k0 : Int) (ev : v = .ref a) (e : sv.items? = some ds) : DWalk F0 H0 (ItS K a k0) (enumS k0 ds) [(some v, some sv)] where
  goes i H F W hi r := by
    obtain ⟨a', vs, h1, h2, h3⟩ := r.last.items r.low e
    rw [ev] at h1; cases h1
    exact enumS_go (by rw [h3.length, ← enumS_len k0]; exact hi) (SqL.of h2)
  stops H F W r := by
    obtain ⟨a', vs, h1, h2, h3⟩ := r.last.items r.low e
    rw [ev] at h1; cases h1
    rw [enumS_len, ← h3.length]
    exact ⟨vs, SqL.of h2, Nat.le_refl _⟩
  yields i H x H' F W d hd r y := by
    obtain ⟨a', vs, h1, h2, h3⟩ := r.last.items r.low e
    rw [ev] at h1; cases h1
    obtain ⟨c, hc, rfl⟩ := enumS_at hd
    obtain ⟨T, x2, rfl, nT, rfl, e2⟩ := y
    obtain ⟨w, h4, h5⟩ := h3.get hc
    have e2' := e2 vs (SqL.of h2)
    rw [h4] at e2'; cases e2'
    exact ⟨_, r.pushT nT (.cons (.int _) (.cons h5 .nil))⟩
def dEnumS (fa fk : DAX) : SD → (List PyData → Bool → Prop) → Prop := fun σ P => fa σ fun xs => fk σ fun ks => match xs, ks with
  | [x], [k] => match x.items?, k.int? with | some ds, some k0 => -(2 ^ 63) ≤ k0 ∧ k0 < 2 ^ 63 ∧ P (enumS k0 ds) (!x.isAli) | _, _ => False
  | _, _ => False
instance {ta tk : TA} {fa fk : DAX} [ha : DA F0 H0 ta fa] [hk : DA F0 H0 tk fk] : DI F0 H0 (iEnumS K ta tk) (dEnumS fa fk) where
  run Z T H P R := fun hr h q => ha.run Z T H _ _ hr h fun A h1 H1 r1 => hk.run Z _ H1 _ _ r1 h1 fun B h2 H2 ⟨F, r2⟩ => by
    match A, B, h2, r2 with
    | [(v, sv)], [(u, su)], h2', r2 =>
      have h2 : (match sv.items?, su.int? with | some ds, some k0 => -(2 ^ 63) ≤ k0 ∧ k0 < 2 ^ 63 ∧ P (enumS k0 ds) (!sv.isAli) | _, _ => False) := h2'
      clear h2'
      cases e : sv.items? with
      | none => rw [e] at h2; exact h2.elim
      | some ds =>
        cases e2 : su.int? with
        | none => rw [e, e2] at h2; exact h2.elim
        | some k0 =>
          rw [e, e2] at h2
          have r3 : Rep F0 H0 F H2 (((Z ++ T) ++ [(some v, some sv)]) ++ [(some u, some su)]) := by simpa [pr] using r2
          have ru := r3.last.int e2
          obtain ⟨a, vs, rfl, h4, h5⟩ := r3.left.last.items r3.low e
          refine ⟨a, vs, k0, rfl, ?_, SqL.of h4, h2.1, h2.2.1, q _ _ h2.2.2 _ _ [(some (.ref a), some sv)] ⟨F, by rw [← List.append_assoc]; exact r3.left⟩ (fun z => noali_of z) (walk_enmS k0 rfl e)⟩
          show [u] = _
          rw [ru]
    | [], _, h2, r2 => exact h2.elim
    | _ :: _ :: _, _, h2, r2 => exact h2.elim
    | [_], [], h2, r2 => exact h2.elim
    | [_], _ :: _ :: _, h2, r2 => exact h2.elim
end
end DL
/-! Data: texts are compared; a cut with lists let go. -/
namespace DL
open PySem PySem.Spec PyProof.Rows L2 NB
def rNeS : R2 := rNe
def rEqS : R2 := rEq
def oS (neg : Bool) : SV → SV → (SV → Prop) → Prop := fun x y P => ∃ a b : Str, x = .val (.str a) ∧ y = .val (.str b) ∧ P (.val (.bool (if neg then !decide (a = b) else decide (a = b))))
theorem str_dec (a b : Str) : decide (V.str a = V.str b) = decide (a = b) := by by_cases h : a = b <;> simp [h]
instance {F0 H0 : Hp} : OpD F0 H0 rNeS (oS true) where
  run W x y sx sy H P Q := fun ⟨F, re⟩ ⟨a, b, e1, e2, h⟩ q => by
    subst e1 e2
    obtain ⟨r0, r1, r2⟩ := two re
    cases r1
    cases r2
    exact ⟨rfl, by rw [str_dec]; exact q _ h _ H ⟨F, r0.pushV (.bl _)⟩⟩
instance {F0 H0 : Hp} : OpD F0 H0 rEqS (oS false) where
  run W x y sx sy H P Q := fun ⟨F, re⟩ ⟨a, b, e1, e2, h⟩ q => by
    subst e1 e2
    obtain ⟨r0, r1, r2⟩ := two re
    cases r1
    cases r2
    exact ⟨rfl, by rw [str_dec]; exact q _ h _ H ⟨F, r0.pushV (.bl _)⟩⟩
end DL
/-! Data: objects that change stand in a region of their own, which the rest takes for what stood at the entry. -/
namespace DL
open PySem PySem.Spec PyProof.Rows L2 NB
/-- what stood, but for fp, stands -/
def Frm (fp : List Addr) (H H' : Hp) : Prop := ∀ b o, H b = some o → b ∉ fp → H' b = some o
theorem Frm.refl (fp : List Addr) (H : Hp) : Frm fp H H := fun b o e _ => e
theorem Frm.put {fp : List Addr} {H H' : Hp} (h : Frm fp H H') {a : Addr} {o : HO} (n : a ∈ fp) : Frm fp H (upd H' a o) := fun b u e nb => by
  rw [upd_ne (fun z => by subst z; exact nb n)]; exact h b u e nb
theorem Frm.trans {fp : List Addr} {H H' H2 : Hp} (h : Frm fp H H') (k : Frm fp H' H2) : Frm fp H H2 := fun b u e nb => k b u (h b u e nb) nb
theorem Frm.sub {fp gp : List Addr} {H H' : Hp} (h : Frm fp H H') (s : ∀ a ∈ fp, a ∈ gp) : Frm gp H H' := fun b u e nb => h b u e fun z => nb (s b z)
/-- the entry, and the region as it stands in H2 -/
def rg (H0 : Hp) (fp : List Addr) (H2 : Hp) : Hp := fun b => if b ∈ fp then H2 b else H0 b
theorem rg_in {H0 H2 : Hp} {fp : List Addr} {a : Addr} (h : a ∈ fp) : rg H0 fp H2 a = H2 a := if_pos h
theorem rg_out {H0 H2 : Hp} {fp : List Addr} {a : Addr} (h : a ∉ fp) : rg H0 fp H2 a = H0 a := if_neg h
theorem snd1 {A : List (V × SV)} {x : SV} (e : A.map Prod.snd = [x]) : ∃ v, A = [(v, x)] := by
  obtain ⟨⟨v, s⟩, B, rfl, hs, hB⟩ := List.map_eq_cons_iff.mp e
  cases hs
  cases List.map_eq_nil_iff.mp hB
  exact ⟨v, rfl⟩
theorem snd2 {A : List (V × SV)} {x y : SV} (e : A.map Prod.snd = [x, y]) : ∃ v w, A = [(v, x), (w, y)] := by
  obtain ⟨⟨v, s⟩, B, rfl, hs, hB⟩ := List.map_eq_cons_iff.mp e
  cases hs
  obtain ⟨w, rfl⟩ := snd1 hB
  exact ⟨v, w, rfl⟩
theorem two_val {A : List (V × SV)} {i j : Int} (e : A.map Prod.snd = [.val (.int i), .val (.int j)]) (h : ∀ p ∈ A, ∀ i, p.2 = .val (.int i) → p.1 = .int i) : A.map Prod.fst = [.int i, .int j] := by
  obtain ⟨v, w, rfl⟩ := snd2 e
  show [v, w] = _
  rw [show v = .int i from h (v, _) List.mem_cons_self i rfl, show w = .int j from h (w, _) (List.mem_cons_of_mem _ List.mem_cons_self) j rfl]
end DL
/-! Data: statements beside a region that changes. -/
namespace DL
open PySem PySem.Spec PyProof.Rows L2 NB
/-- what is no list of __init__'s arguments -/
def NoEnt (p : Option V × Option SV) : Prop := ∀ es, p.2 ≠ some (.ent es)
/-- a kind of region: what it holds, and where -/
structure Reg (γ : Type) where
  at_ : γ → Hp → List Addr → Prop
  loc : ∀ {c : γ} {H H' : Hp} {fp : List Addr}, at_ c H fp → (∀ a ∈ fp, H' a = H a) → at_ c H' fp
  has : ∀ {c : γ} {H : Hp} {fp : List Addr} {a : Addr}, at_ c H fp → a ∈ fp → H a ≠ none
structure StR {γ : Type} (R : Reg γ) (F0 Hb : Hp) (fp : List Addr) (F H : Hp) (W : Zt) (c : γ) : Prop where
  reg : R.at_ c H fp
  nb : ∀ a ∈ fp, Hb a = none
  nf : ∀ a ∈ fp, F0 a = none
  rep : Rep F0 (rg Hb fp H) F H W
def StN {γ : Type} (R : Reg γ) (F0 Hb H : Hp) (W : Zt) (c : γ) : Prop := (∃ fp F, StR R F0 Hb fp F H W c) ∧ ∀ p ∈ W, NoAli p
structure REnds (γ : Type) where
  nx : γ → SD → Prop
  rt : γ → SV → Prop
  bk : γ → SD → Prop := fun _ _ => False
  ct : γ → SD → Prop := fun _ _ => False
abbrev RX (γ : Type) := REnds γ → γ → SD → Prop
section
variable {γ : Type} {R : Reg γ} {F0 Hb F H : Hp} {W Z T : Zt} {c : γ} {fp : List Addr} {K : PySem.W.Frag}
structure LowR (R : Reg γ) (F0 Hb : Hp) (T : Zt) (E : REnds γ) (D : Ends) : Prop where
  nx : ∀ Z H c, StN R F0 Hb H (Z ++ T) c → E.nx c (Z.map Prod.snd) → D.nx (Z.map Prod.fst) H
  bk : ∀ Z H c, StN R F0 Hb H (Z ++ T) c → E.bk c (Z.map Prod.snd) → D.bk (Z.map Prod.fst) H
  ct : ∀ Z H c, StN R F0 Hb H (Z ++ T) c → E.ct c (Z.map Prod.snd) → D.ct (Z.map Prod.fst) H
  rt : ∀ sv v H c, E.rt c sv → (∃ fp F, StR R F0 Hb fp F H [(some v, some sv)] c) → D.rt v H
/-- a statement -/
structure DSR (R : Reg γ) (F0 Hb : Hp) (t : TS) (g : RX γ) : Prop where
  run : ∀ (Z T : Zt) (H : Hp) (c : γ) (E : REnds γ) (D : Ends), (∀ p ∈ T, NoEnt p) → StN R F0 Hb H (Z ++ T) c → g E c (Z.map Prod.snd) → LowR R F0 Hb T E D → t D (Z.map Prod.fst) H
theorem LowR.nx' {E : REnds γ} {D : Ends} (l : LowR R F0 Hb T E D) (f : L2.St → Hp → Prop) (p : γ → SD → Prop) (h : ∀ Z H c, StN R F0 Hb H (Z ++ T) c → p c (Z.map Prod.snd) → f (Z.map Prod.fst) H) : LowR R F0 Hb T { E with nx := p } { D with nx := f } := ⟨h, l.bk, l.ct, l.rt⟩
def rSeq (g1 g2 : RX γ) : RX γ := fun E c σ => g1 { E with nx := g2 E } c σ
theorem DSR.seq {t u : TS} {g1 g2 : RX γ} (h1 : DSR R F0 Hb t g1) (h2 : DSR R F0 Hb u g2) : DSR R F0 Hb (tSeq t u) (rSeq g1 g2) where
  run Z T H c E D hT s hg l := h1.run Z T H c _ _ hT s hg (l.nx' _ _ fun Z' H' c' s' h' => h2.run Z' T H' c' E D hT s' h' l)
/-! walks beside a region -/
theorem noent_of {v : V} {sv : SV} (h : sv.isEnt = false) : ∀ p ∈ [((some v, some sv) : Option V × Option SV)], NoEnt p := fun p hp es e => by
  rw [List.mem_singleton] at hp
  subst hp
  cases e
  cases h
class DIA (F0 : Hp) (w : TI) (f : outParam (SD → (List PyData → Bool → Prop) → Prop)) : Prop where
  run : ∀ (H0 : Hp) (Z T : Zt) (H : Hp) (P : List PyData → Bool → Prop) (R : It → Hp → Prop), (∃ F, Rep F0 H0 F H (Z ++ T)) → f (Z.map Prod.snd) P →
    (∀ items b, P items b → ∀ J H' A, (∃ F, Rep F0 H0 F H' (Z ++ (T ++ A))) → (b = true → ∀ p ∈ A, NoAli p ∧ NoEnt p) → (∀ H0', DWalk F0 H0' J items A) → R J H') → w (Z.map Prod.fst) H R
instance {ta : TE} {fa : DX} [ha : ∀ H0, DE F0 H0 ta fa] : DIA F0 (iList K ta) (fun σ P => fa σ fun sv => sv.isEnt = false ∧ match sv.items? with | some ds => P ds (!sv.isAli) | none => False) where
  run H0 Z T H P R := fun hr h q => (ha H0).run Z T H _ _ hr h fun sv ⟨ne, h1⟩ v H1 ⟨F, r1⟩ => by
    cases e : sv.items? with
    | none => rw [e] at h1; exact h1.elim
    | some ds =>
      rw [e] at h1
      obtain ⟨r0, rv⟩ := one_tmp r1
      obtain ⟨a, vs, rfl, h2, h3⟩ := rv.items r1.low e
      exact ⟨a, rfl, ⟨vs, SqL.of h2⟩, q ds _ h1 _ _ [(some (.ref a), some sv)] ⟨F, r1⟩ (fun z p hp => ⟨noali_of z p hp, noent_of ne p hp⟩) (fun H0' => walk_lst rfl e)⟩
theorem DIA.rng1 {ta : TA} {fa : DAX} (ha : ∀ H0, DA F0 H0 ta fa) : DIA F0 (iRng1 ta) (dRng1 fa) where
  run H0 Z T H P R := fun hr h q => (ha H0).run Z T H _ _ hr h fun A h1 H1 ⟨F, r1⟩ => by
    rcases A with _ | ⟨⟨v, sv⟩, _ | ⟨q, A⟩⟩
    all_goals first | exact False.elim h1 | skip
    · cases e : sv.int? with
      | none => simp only [List.map_cons, List.map_nil] at h1; rw [e] at h1; exact h1.elim
      | some j =>
        simp only [List.map_cons, List.map_nil] at h1
        rw [e] at h1
        obtain ⟨r0, rv⟩ := one_tmp (v := v) (sv := sv) r1
        exact ⟨j, by rw [← rv.int e]; rfl, h1.1.1, h1.1.2, q _ _ h1.2 _ _ [] ⟨F, by simpa using r0⟩ (fun _ p hp => nomatch hp) (fun H0' => walk_rng 0 _)⟩
instance {ta : TA} {fa : DAX} [ha : ∀ H0, DA F0 H0 ta fa] : DIA F0 (iRng1 ta) (dRng1 fa) := DIA.rng1 ha
instance {ta : TA} {fa : DAX} [ha : ∀ H0, DA F0 H0 ta fa] : DIA F0 (iRng2 ta) (dRng2 fa) where
  run H0 Z T H P R := fun hr h q => (ha H0).run Z T H _ _ hr h fun A h1 H1 ⟨F, r1⟩ => by
    rcases A with _ | ⟨⟨v, sv⟩, _ | ⟨⟨w, sw⟩, _ | ⟨q, A⟩⟩⟩
    all_goals first | exact False.elim h1 | skip
    · simp only [List.map_cons, List.map_nil] at h1
      cases e : sv.int? with
      | none => rw [e] at h1; exact h1.elim
      | some i =>
        cases e2 : sw.int? with
        | none => rw [e, e2] at h1; exact h1.elim
        | some j =>
          rw [e, e2] at h1
          have r1' : Rep F0 H0 F H1 ((Z ++ T) ++ [(some v, some sv), (some w, some sw)]) := by simpa [pr] using r1
          obtain ⟨r0, rv, rw'⟩ := two r1'
          exact ⟨i, j, by rw [← rv.int e, ← rw'.int e2]; rfl, h1.1, q _ _ h1.2 _ _ [] ⟨F, by simpa using r0⟩ (fun _ p hp => nomatch hp) (fun H0' => walk_rng _ _)⟩
theorem DIA.enum {ta : TA} {fa : DAX} (ha : ∀ H0, DA F0 H0 ta fa) : DIA F0 (iEnum K ta) (fun σ P => fa σ fun as => match as with | [sv] => sv.isEnt = false ∧ (match sv.items? with | some ds => P (enumD ds) (!sv.isAli) | none => False) | _ => False) where
  run H0 Z T H P R := fun hr h q => (ha H0).run Z T H _ _ hr h fun A h1 H1 ⟨F, r1⟩ => by
    rcases A with _ | ⟨⟨v, sv⟩, _ | ⟨q, A⟩⟩
    all_goals first | exact False.elim h1 | skip
    · simp only [List.map_cons, List.map_nil] at h1
      obtain ⟨ne, h1⟩ := h1
      cases e : sv.items? with
      | none => rw [e] at h1; exact h1.elim
      | some ds =>
        rw [e] at h1
        obtain ⟨r0, rv⟩ := one_tmp (v := v) (sv := sv) r1
        obtain ⟨a, vs, rfl, h2, h3⟩ := rv.items r1.low e
        exact ⟨a, vs, rfl, SqL.of h2, q _ _ h1 _ _ [(some (.ref a), some sv)] ⟨F, r1⟩ (fun z p hp => ⟨noali_of z p hp, noent_of ne p hp⟩) (fun H0' => walk_enm rfl e)⟩
instance {ta : TA} {fa : DAX} [ha : ∀ H0, DA F0 H0 ta fa] : DIA F0 (iEnum K ta) (fun σ P => fa σ fun as => match as with | [sv] => sv.isEnt = false ∧ (match sv.items? with | some ds => P (enumD ds) (!sv.isAli) | none => False) | _ => False) := DIA.enum ha
theorem Rep.drop (r : Rep F0 (rg Hb fp H) F H W) (nb : ∀ a ∈ fp, Hb a = none) (has : ∀ a ∈ fp, H a ≠ none) (ne : ∀ p ∈ W, NoEnt p) : Rep F0 Hb F H W where
  base := r.base
  low := r.low
  ent := fun b o e => r.ent b o (by rw [rg_out (fun z => by rw [nb b z] at e; cases e)]; exact e)
  apart := fun b h0 h1 => r.apart b h0 (by rw [rg_out (fun z => h1 (nb b z))]; exact h1)
  ok := fun p hp sv e => by
    obtain ⟨v, e1, rv⟩ := r.ok p hp sv e
    refine ⟨v, e1, ?_⟩
    cases sv with
    | val d => exact rv
    | raw u => exact rv
    | own ds =>
      obtain ⟨a, vs, q1, q2, q3, q4, q5⟩ := rv
      have z : a ∉ fp := fun z => by rw [rg_in z] at q3; exact has a z q3
      exact ⟨a, vs, q1, q2, by rw [rg_out z] at q3; exact q3, q4, q5⟩
    | ali ds =>
      obtain ⟨a, vs, q1, q3, q4, q5⟩ := rv
      have z : a ∉ fp := fun z => by rw [rg_in z] at q3; exact has a z q3
      exact ⟨a, vs, q1, by rw [rg_out z] at q3; exact q3, q4, q5⟩
    | ent ds => exact absurd e (ne p hp ds)
  dist := r.dist
end
end DL
/-! Data: statements beside a region that changes. -/
/-! Data: a dict that changes, kept by one slot; in. -/
namespace DL
open PySem PySem.Spec PyProof.Rows L2 NB
/-! a dict with integer keys -/
section
variable {F0 Hb : Hp} {K : PySem.W.Frag}
def NoEd (σ : SD) : Prop := ∀ o ∈ σ, ∀ es, o ≠ some (.ent es)
theorem NoEd.all {Z T : Zt} (h : NoEd (Z.map Prod.snd)) (hT : ∀ p ∈ T, NoEnt p) : ∀ p ∈ Z ++ T, NoEnt p := fun p hp => by
  rcases List.mem_append.mp hp with z | z
  · exact h p.2 (List.mem_map.mpr ⟨p, z, rfl⟩)
  · exact hT p z
end
/-! n in a list of ints -/
section
variable {F0 H0 : Hp} {K : PySem.W.Frag}
theorem inV_ints (n : Int) : ∀ ns : List Int, inV (.int n) (ns.map V.int) = decide (n ∈ ns)
  | [] => by simp [inV]
  | k :: ns => by
    have ih := inV_ints n ns
    unfold inV at ih ⊢
    rw [List.map_cons, List.any_cons, ih]
    by_cases h : n = k
    · subst h; simp [eqV]
    · simp [h, Ne.symm h, eqV]
def oIn (neg : Bool) : SV → SV → (SV → Prop) → Prop := fun x y P => ∃ (n : Int) (ns : List Int), x = .val (.int n) ∧ y.items? = some (LI ns) ∧ P (.val (.bool (if neg then !decide (n ∈ ns) else decide (n ∈ ns))))
instance {neg : Bool} : OpD F0 H0 (rIn K neg) (oIn neg) where
  run W x y sx sy H P Q := fun ⟨F, re⟩ ⟨n, ns, e1, e2, h⟩ q => by
    subst e1
    obtain ⟨r0, r1, r2⟩ := two re
    have r1 : Dv F x (.int n) := r1
    cases r1
    obtain ⟨a, vs, rfl, ha, hv⟩ := r2.items re.low e2
    have evs := all_ints hv
    subst evs
    refine ⟨a, _, rfl, .inl (SqL.of ha), rfl, ?_, ?_⟩
    · rw [List.all_map]; exact List.all_eq_true.mpr fun _ _ => rfl
    · rw [inV_ints]
      exact q _ h _ H ⟨F, by
        cases neg
        · exact r0.pushV (.bl _)
        · exact r0.pushV (.bl _)⟩
end
end DL
/-! Data: an object looked at while it is being made. -/
namespace DL
open PySem PySem.Spec PyProof.Rows L2 NB MKX
section
variable {F0 Hb H0 F H : Hp} {K : PySem.W.Frag} {C x : Addr}
/-- self.f = e, where e may look at self -/
def dIFldF (F0 : Hp) (K : PySem.W.Frag) (C : Addr) (f : Str) (g : Hp → Addr → List (Str × PyData) → DX) : DIX := fun E fs σ => Cls K C ∧ NoAttr K C f ∧ fs.length < 1000 ∧ fs.lookup f = none ∧ ∀ F1 y, σ[0]? = some (some (.raw (.ref y))) → Same F0 F1 → g F1 y fs σ fun sv => ∃ d, sv.fix? = some d ∧ E (fs ++ [(f, d)]) σ
theorem DIn.fldF {f : Str} {te : TE} {g : Hp → Addr → List (Str × PyData) → DX} (he : ∀ F1 dx fs' fs, FsOk F1 fs' fs → DE F1 (upd Hb x (.ins C dx fs')) te (g F1 x fs)) : DIn F0 Hb C x (sFld K (tVar 0) te f) (dIFldF F0 K C f g) where
  run F1 H Z dx fs' fs E D m hg k := by
    obtain ⟨hc, hn, hl, hf, hg⟩ := hg
    refine (he F1 dx fs' fs m.ok).run Z [] H _ _ m.rep.1 (hg F1 x m.slf m.base) fun sv ⟨d, e, hE⟩ v H1 ⟨F, r⟩ => ?_
    obtain ⟨F2, r2⟩ := Rep.fixLast (by rw [List.nil_append] at r; exact r) e
    have rv := r2.last
    have rZ := r2.left
    have m0 := m.slf
    rw [List.getElem?_map] at m0
    cases eZ : Z[0]? with
    | none => rw [eZ] at m0; cases m0
    | some p =>
      rw [eZ] at m0
      obtain ⟨y, s⟩ := p
      have e1 : s = some (.raw (.ref x)) := Option.some.inj m0
      subst e1
      obtain ⟨w, e2, e3⟩ := rZ.ok (y, some (.raw (.ref x))) (List.mem_of_getElem? eZ) _ rfl
      have e2' : y = some w := e2
      subst e2'
      have e3' : w = .ref x := e3
      subst e3'
      have hx : H1 x = some (.ins C dx fs') := rZ.ent _ _ upd_same
      have fx : F2 x = none := rZ.apart x m.nx (by rw [upd_same]; simp)
      refine ⟨.ref x, by rw [List.getElem?_map, eZ]; rfl, x, C, dx, fs', rfl, hx, hc, hn, by rw [m.ok.len]; exact hl, ?_⟩
      have nl := m.ok.no hf
      rw [putF_new nl]
      have sF : Same F1 F2 := rZ.base
      refine k F2 _ Z (fs' ++ [(f, v)]) (fs ++ [(f, d)]) ⟨m.base.trans sF, fun b h0 h1 => ?_, fx, ⟨⟨F2, Same.refl _, fun b o e => ?_, fun b o e => ?_, fun _ h _ => h, fun p hp sv' e => ?_, ?_⟩, m.rep.2⟩, ⟨by
        rw [List.map_append, List.map_append, m.ok.nm]; rfl, by
        rw [List.map_append, List.map_append]
        exact (m.ok.al.mono sF).app (.cons rv .nil)⟩, m.slf⟩ hE
      · refine rZ.apart b (m.apart b h0 h1) ?_
        by_cases z : b = x
        · subst z; rw [upd_same]; simp
        · rw [upd_ne z]; exact h1
      · have : b ≠ x := fun z => by subst z; rw [fx] at e; cases e
        rw [upd_ne this]; exact rZ.low _ _ e
      · by_cases z : b = x
        · subst z; rw [upd_same] at e ⊢; exact e
        · rw [upd_ne z] at e ⊢
          exact rZ.ent _ _ (by rw [upd_ne z]; exact e)
      · have hp' : p ∈ Z := by simpa using hp
        obtain ⟨w, e1, rr⟩ := rZ.ok p hp' sv' e
        refine ⟨w, e1, ?_⟩
        cases sv' with
        | val d' => exact rr
        | raw u => exact rr
        | ali ds => exact absurd e (m.rep.2 p hp ds)
        | ent ds =>
          obtain ⟨a, vs, q1, q3, q4, q5⟩ := rr
          subst q1
          by_cases z : a = x
          · subst z; rw [hx] at q4; cases q4
          · exact ⟨a, vs, rfl, by rw [upd_ne z] at q3 ⊢; exact q3, by rw [upd_ne z]; exact q4, q5⟩
        | own ds =>
          obtain ⟨a, vs, q1, q2, q3, q4, q5⟩ := rr
          have : a ≠ x := fun z => by subst z; rw [upd_same] at q3; cases q3
          exact ⟨a, vs, q1, q2, by rw [upd_ne this] at q3 ⊢; exact q3, by rw [upd_ne this]; exact q4, q5⟩
      · rw [List.append_nil]; exact rZ.dist
/-- lists of this def as they stand -/
def entO : Option SV → Option SV
  | some (.own ds) => some (.ent ds)
  | some (.ali ds) => some (.ent ds)
  | s => s
def entQ (p : Option V × Option SV) : Option V × Option SV := (p.1, entO p.2)
/-- the slots, self as data -/
def selfV (C : Addr) (fs : List (Str × PyData)) (σ : SD) : SD := (σ.map entO).set 0 (some (.val (Ob C fs)))
/-- an expression that looks at self: what it gives is flat -/
theorem de_self {te : TE} {g : Hp → DX} {dx : Addr} {fs' : List (Str × V)} {fs : List (Str × PyData)} (hx : H0 x = some (.ins C dx fs')) (ok : FsOk F0 fs' fs) (he : ∀ FF G, Same F0 FF → Same H0 G → DE FF G te (g FF)) :
    DE F0 H0 te (fun σ P => σ[0]? = some (some (.raw (.ref x))) ∧ ∀ FF, Same F0 FF → g FF (selfV C fs σ) fun sv => sv.flat = true ∧ sv.isEnt = false ∧ P sv) where
  run Z T H P Q := fun hr h q => by
    obtain ⟨F, r⟩ := hr
    obtain ⟨h0, hg⟩ := h
    have hxH : H x = some (.ins C dx fs') := r.ent _ _ hx
    let FF : Hp := fun b => if b = x then some (.ins C dx fs') else F b
    have FFx : FF x = some (.ins C dx fs') := if_pos rfl
    have FFo : ∀ {b}, b ≠ x → FF b = F b := fun h => if_neg h
    have sF : Same F FF := fun b o e => by
      by_cases z : b = x
      · subst z
        rw [FFx, ← hxH]; exact r.low _ _ e
      · rw [FFo z]; exact e
    have low : Same FF H := fun b o e => by
      by_cases z : b = x
      · subst z; rw [FFx] at e; rw [← e]; exact hxH
      · rw [FFo z] at e; exact r.low _ _ e
    have entOk : ∀ p, p ∈ Z ++ T → PairOk H FF H (entQ p) := fun p hp sv e => by
      obtain ⟨y, s⟩ := p
      cases s with
      | none => cases e
      | some s =>
        obtain ⟨w, e1, rv⟩ := r.ok _ hp _ rfl
        refine ⟨w, e1, ?_⟩
        cases s with
        | val d => cases e; exact Dv.mono sF rv
        | raw u => cases e; exact rv
        | own ds => cases e; obtain ⟨c, vs, q1, _, _, q4, q5⟩ := rv; exact ⟨c, vs, q1, q4, q4, q5.mono sF⟩
        | ali ds => cases e; obtain ⟨c, vs, q1, _, q4, q5⟩ := rv; exact ⟨c, vs, q1, q4, q4, q5.mono sF⟩
        | ent ds => cases e; obtain ⟨c, vs, q1, _, q4, q5⟩ := rv; exact ⟨c, vs, q1, q4, q4, q5.mono sF⟩
    have noOwn : ∀ p, (entQ p).2 = none ∨ ∀ es, (entQ p).2 ≠ some (.own es) := fun p => by
      obtain ⟨y, s⟩ := p
      cases s with
      | none => exact .inl rfl
      | some s => cases s <;> exact .inr fun es e => by cases e
    rw [List.getElem?_map] at h0
    match Z, h0 with
    | [], h0 => cases h0
    | (y, s) :: Z, h0 =>
      have e1 : s = some (.raw (.ref x)) := Option.some.inj h0
      subst e1
      obtain ⟨w, e2, e3⟩ := r.ok (y, some (.raw (.ref x))) (by simp) _ rfl
      have e2' : y = some w := e2
      subst e2'
      have e3' : w = .ref x := e3
      subst e3'
      let Z' : Zt := (some (.ref x), some (.val (Ob C fs))) :: Z.map entQ
      have eZ1 : Z'.map Prod.fst = ((some (V.ref x), some (SV.raw (.ref x))) :: Z).map Prod.fst := by
        show some (V.ref x) :: (Z.map entQ).map Prod.fst = some (V.ref x) :: Z.map Prod.fst
        rw [List.map_map]; rfl
      have eZ2 : Z'.map Prod.snd = selfV C fs (((some (V.ref x), some (SV.raw (.ref x))) :: Z).map Prod.snd) := by
        show some (SV.val (Ob C fs)) :: (Z.map entQ).map Prod.snd = some (SV.val (Ob C fs)) :: (Z.map Prod.snd).map entO
        rw [List.map_map, List.map_map]; rfl
      have rM : Rep FF H FF H (Z' ++ T.map entQ) := by
        refine ⟨Same.refl _, low, Same.refl _, fun b h _ => h, fun p hp => ?_, ?_⟩
        · rcases List.mem_append.mp hp with z | z
          · rcases List.mem_cons.mp z with z | z
            · subst z
              exact fun sv e => by cases e; exact ⟨_, rfl, Dv.obI FFx (ok.mono (r.base.trans sF))⟩
            · obtain ⟨p', hp', rfl⟩ := List.mem_map.mp z
              exact entOk p' (by simp [hp'])
          · obtain ⟨p', hp', rfl⟩ := List.mem_map.mp z
            exact entOk p' (by simp [hp'])
        · refine List.Pairwise.imp_of_mem (S := Apart) (fun {p q} hp hq _ a' es' fs' _ e _ _ => ?_) (all_pw (R := fun _ _ => True) (fun _ _ => trivial) _)
          rcases List.mem_append.mp hp with z | z
          · rcases List.mem_cons.mp z with z | z
            · subst z; cases e
            · obtain ⟨p', _, rfl⟩ := List.mem_map.mp z
              rcases noOwn p' with y | y
              · rw [y] at e; cases e
              · exact y _ e
          · obtain ⟨p', _, rfl⟩ := List.mem_map.mp z
            rcases noOwn p' with y | y
            · rw [y] at e; cases e
            · exact y _ e
      have := (he FF H (r.base.trans sF) r.ent).run Z' (T.map entQ) H (fun sv => sv.flat = true ∧ sv.isEnt = false ∧ P sv) Q ⟨FF, rM⟩ (by rw [eZ2]; exact hg FF (r.base.trans sF)) fun sv hs v H1 ⟨F2, r2⟩ => by
        obtain ⟨fl, ne, hP⟩ := hs
        have sm : Same H H1 := r2.ent
        have rZ := r.both (Same.refl F) (r.low.trans sm) sm fun _ h _ => h
        have r3 : Rep FF H F2 H1 ((Z' ++ T.map entQ) ++ [(some v, some sv)]) := by rw [List.append_assoc]; exact r2
        have rv := r3.last
        refine q sv hP v H1 ⟨F, ?_⟩
        rw [← List.append_assoc]
        cases sv with
        | val d => exact rZ.pushV (Dv.flat rv fl)
        | raw u => cases rv; exact rZ.pushR
        | ent ds => cases ne
        | ali ds => cases fl
        | own ds =>
          obtain ⟨a, vs, rfl, q1, q2, q3, q4⟩ := rv
          refine rZ.push ⟨a, vs, rfl, ?_, r.ent.free q2, q3, q4.flat fl⟩ fun c es e1 _ p hp fs e3 e4 => ?_
          · exact r.low.free q2
          · cases e1
            obtain ⟨w, e5, c, ws, e6, _, _, e7, _⟩ := r.ok p hp _ e4
            rw [e3] at e5; cases e5; cases e6
            rw [q2] at e7; cases e7
      rw [eZ1] at this
      exact this
end
end DL
/-! Data: sorted, of ints. -/
namespace DL
open PySem PySem.Spec PyProof.Rows L2 NB
def bSorted : SV → (SV → Prop) → Prop := fun x P => ∃ ns : List Int, x.items? = some (LI ns) ∧ ns.length < 64 ∧ ∀ ns' : List Int, ns'.Perm ns → ns'.Pairwise (· ≤ ·) → P (.own (LI ns'))
theorem ints_dv {F : Hp} : ∀ ns : List Int, DvAll F (ns.map V.int) (LI ns)
  | [] => .nil
  | n :: ns => .cons (.int n) (ints_dv ns)
section
variable {F0 H0 : Hp} {K : PySem.W.Frag}
instance : CbD F0 H0 (rSorted K) (fun xs P => match xs with | [x] => bSorted x P | _ => False) :=
  .one fun W x sx H F P Q r rx l ⟨ns, e, hl, h⟩ q => by
    obtain ⟨a, vs, rfl, ha, hv⟩ := rx.items l e
    rw [all_ints hv] at ha
    refine ⟨a, ns, rfl, SqL.of ha, hl, fun ns' p h1 h2 np => q _ (h ns' h1 h2) _ _ ⟨F, r.pushL np (ints_dv ns')⟩⟩
end
end DL
/-! Data: the order of data that are alike: <, min, min with a default, sorted. -/
namespace DL
open PySem PySem.Spec PyProof.Rows L2 NB
open PySem.W (alike alikeAll dataLt AlikeAll AllAlike Sortable minD dataLe EachIs)
def rLtD (K : PySem.W.Frag) : R2 := fun x y H Q => ∃ d e, Dp K H x d ∧ Dp K H y e ∧ alike d e = true ∧ d ≠ .none ∧ d.depth ≤ 60 ∧ Q (.bl (dataLt d e)) H
def rMinD (K : PySem.W.Frag) : List V → Hp → VK → Prop := fun vs H Q => ∃ (a : Addr) (xs : List V) (d : PyData) (ds : List PyData), vs = [V.ref a] ∧ SqL K H a xs ∧ DpAll K H xs (d :: ds) ∧ AlikeAll (d :: ds) ∧ PyData.depthAll (d :: ds) ≤ 60 ∧
  ∀ (i : Nat) v, xs[i]? = some v → (d :: ds)[i]? = some (minD d ds) → Q v H
def rMinF (K : PySem.W.Frag) : List V → List V → Hp → VK → Prop := fun vs zs H Q => ∃ (a : Addr) (xs : List V) (ds : List PyData), vs = [V.ref a] ∧ zs = [V.non] ∧ SqL K H a xs ∧ DpAll K H xs ds ∧ AlikeAll ds ∧ PyData.depthAll ds ≤ 60 ∧
  (ds = [] → Q .non H) ∧ ∀ d es (i : Nat) v, ds = d :: es → xs[i]? = some v → ds[i]? = some (minD d es) → Q v H
def rSortedD (K : PySem.W.Frag) : List V → Hp → VK → Prop := fun vs H Q => ∃ (a : Addr) (bs : List (V × PyData)), vs = [V.ref a] ∧ SqL K H a (bs.map Prod.fst) ∧ DpAll K H (bs.map Prod.fst) (bs.map Prod.snd) ∧ AllAlike (bs.map Prod.snd) ∧ Sortable (bs.map Prod.snd) ∧ (∀ b ∈ bs, b.2.depth ≤ 60) ∧
  ∀ p, H p = none → Q (.ref p) (upd H p (.lst ((bs.mergeSort (dataLe false Prod.snd)).map Prod.fst)))
section
variable {X : Cx}
theorem each_of {I' : Prop} {h : Heap} : ∀ {bs : List (V × PyData)} {us : List Value} {as : List Addr}, Vals (bs.map Prod.fst) us → ReadsAll h us (bs.map Prod.snd) as → EachIs (fun u b => RelV b.1 u) us bs ∧ EachIs (fun u b => ∃ as, Reads h u b.2 as) us bs
  | [], _, _, r, q => by cases r; exact ⟨.nil, .nil⟩
  | b :: bs, _, _, r, q => by
    rw [List.map_cons] at r q
    cases r with
    | cons r1 r2 =>
      cases q with
      | cons q1 q2 =>
        obtain ⟨a, c⟩ := each_of (I' := I') r2 q2
        exact ⟨.cons r1 a, .cons ⟨_, q1⟩ c⟩
theorem vals_each : ∀ {bs : List (V × PyData)} {us : List Value}, EachIs (fun u b => RelV b.1 u) us bs → Vals (bs.map Prod.fst) us
  | _, _, .nil => .nil
  | _, _, .cons h t => .cons h (vals_each t)
theorem cr_sortedD (hu : X.A.units + 64 < cLine) : CallR X (.builtin "sorted") (rSortedD X.K) := by
  intro pins s σ H vs us Q I r h
  obtain ⟨a, bs, rfl, hs, hd, al, so, dp, q⟩ := h
  obtain ⟨its, rv, hl, hz⟩ := I.list hs
  rw [Vals.ref1 r]
  obtain ⟨as, ra⟩ := Dp.readsAll I _ _ its hd rv
  obtain ⟨e1, e2⟩ := each_of (I' := True) rv ra
  have bz : bs.length ≤ sizeLine := by rw [List.length_map] at hz; exact hz
  refine PySem.W.sorted_data hl.isList e1 e2 al so bz (fun b hb => by have := dp b hb; omega) fun out ol oe => ?_
  obtain ⟨ep, he'⟩ := PyProof.Rows.sortedAll_at s.heap its out.toArray
  have oz : ((bs.mergeSort (dataLe false Prod.snd)).map Prod.fst).length ≤ sizeLine := by rw [List.length_map, List.length_mergeSort]; exact bz
  exact ⟨.ref _, upd H (s.heap.objs.size + 1) (.lst ((bs.mergeSort (dataLe false Prod.snd)).map Prod.fst)), I.laid (t' := s.toks) (fun _ _ => PyProof.Rows.sortedAll_old) (Nat.le_succ _) ⟨oz, out, ep, vals_each oe, by simpa using he'⟩, rfl, q _ (I.hok.fresh (Nat.le_succ _))⟩
end
/-! ### the same by data -/
theorem lt_negTrans {a b c : PyData} (h : dataLt a c = true) : dataLt a b = true ∨ dataLt b c = true := lex_negTrans _ _ _ h
theorem lt_trans' {a b c : PyData} (h : dataLt a b = true) (k : dataLt b c = true) : dataLt a c = true := lex_trans _ _ _ h k
theorem lt_irrefl' (a : PyData) : dataLt a a = false := lex_irrefl _
theorem sorted_pw (bs : List (V × PyData)) : ((bs.mergeSort (dataLe false Prod.snd)).map Prod.snd).Pairwise fun a b => dataLt b a = false := by
  rw [List.pairwise_map]
  have e : ∀ a b : V × PyData, dataLe false Prod.snd a b = !dataLt b.2 a.2 := fun a b => by rw [PySem.W.dataLe_eq]; rfl
  have := List.pairwise_mergeSort (le := dataLe false Prod.snd) (fun a b c h k => by
    rw [e] at h k ⊢
    cases q : dataLt c.2 a.2 with
    | false => rfl
    | true =>
      rcases lt_negTrans (b := b.2) q with z | z
      · rw [z] at k; cases k
      · rw [z] at h; cases h) (fun a b => by
    rw [e, e]
    cases q : dataLt b.2 a.2 with
    | false => rfl
    | true =>
      cases q2 : dataLt a.2 b.2 with
      | false => rfl
      | true => have := lt_trans' q q2; rw [lt_irrefl'] at this; cases this) bs
  exact this.imp fun {a b} h => by rw [e] at h; simpa using h
section
variable {F0 H0 F H : Hp} {K : PySem.W.Frag}
def oLtD : SV → SV → (SV → Prop) → Prop := fun x y P => ∃ d e, x.dat? = some d ∧ y.dat? = some e ∧ d.canLay0 = true ∧ e.canLay0 = true ∧ alike d e = true ∧ d ≠ .none ∧ d.depth ≤ 60 ∧ P (.val (.bool (dataLt d e)))
instance : OpD F0 H0 (rLtD K) oLtD where
  run W x y sx sy H P Q := fun ⟨F, re⟩ ⟨d, e, h1, h2, c1, c2, al, nn, dp, h⟩ q => by
    obtain ⟨r0, r1, r2⟩ := two re
    exact ⟨d, e, r1.dat re.low h1 c1, r2.dat re.low h2 c2, al, nn, dp, q _ h _ H ⟨F, r0.pushV (.bl _)⟩⟩
def bMinD : SV → (SV → Prop) → Prop := fun x P => ∃ d ds, x.items? = some (d :: ds) ∧ PyData.canLayAll0 (d :: ds) = true ∧ AlikeAll (d :: ds) ∧ PyData.depthAll (d :: ds) ≤ 60 ∧ P (.val (minD d ds))
instance : CbD F0 H0 (rMinD K) (fun xs P => match xs with | [x] => bMinD x P | _ => False) :=
  .one fun W x sx H F P Q r rx l ⟨d, ds, e, cl, al, dp, h⟩ q => by
    obtain ⟨a, vs, rfl, ha, hv⟩ := rx.items l e
    refine ⟨a, vs, d, ds, rfl, SqL.of ha, (hv.mono l).dp cl, al, dp, fun i v e1 e2 => q _ h _ _ ⟨F, r.pushV ?_⟩⟩
    obtain ⟨d2, e3, dv⟩ := hv.get' e1
    rw [e2] at e3; cases e3
    exact dv
def bMinF : SV → (SV → Prop) → Prop := fun x P => ∃ ds, x.items? = some ds ∧ PyData.canLayAll0 ds = true ∧ AlikeAll ds ∧ PyData.depthAll ds ≤ 60 ∧ (ds = [] → P (.val .none)) ∧ ∀ d es, ds = d :: es → P (.val (minD d es))
/-- min(x, default=None) -/
instance {ta : TE} {fa : DX} [ha : DE F0 H0 ta fa] : DE F0 H0 (tCKw (rMinF K) (tCons ta tNil) (tCons (tC .non) tNil)) (fun σ P => fa σ fun x => bMinF x P) where
  run Z T H P Q := fun hr h q => ha.run Z T H _ _ hr h fun sx ⟨ds, e, cl, al, dp, h0, h1⟩ vx H1 ⟨F, r⟩ => by
    obtain ⟨r0, rx⟩ := one_tmp r
    obtain ⟨a, vs, rfl, ha', hv⟩ := rx.items r.low e
    have dv : ∀ d es (i : Nat) (v : V), vs[i]? = some v → ds[i]? = some (minD d es) → Dv F v (minD d es) := fun d es i v e1 e2 => by
      obtain ⟨d2, e3, dv⟩ := hv.get' e1
      rw [e2] at e3; cases e3
      exact dv
    exact ⟨a, vs, ds, rfl, rfl, SqL.of ha', (hv.mono r.low).dp cl, al, dp, fun e0 => q _ (h0 e0) _ _ ⟨F, by rw [← List.append_assoc]; exact r0.pushV .non⟩, fun d es i v e0 e1 e2 => q _ (h1 d es e0) _ _ ⟨F, by rw [← List.append_assoc]; exact r0.pushV (dv d es i v e1 e2)⟩⟩
def bSortedD : SV → (SV → Prop) → Prop := fun x P => ∃ ds, x.items? = some ds ∧ PyData.canLayAll0 ds = true ∧ AllAlike ds ∧ Sortable ds ∧ (∀ d ∈ ds, d.depth ≤ 60) ∧ ∀ es : List PyData, es.Perm ds → es.Pairwise (fun a b => dataLt b a = false) → P (.own es)
theorem dvall_zip : ∀ {vs : List V} {ds : List PyData}, DvAll F vs ds → (vs.zip ds).map Prod.fst = vs ∧ (vs.zip ds).map Prod.snd = ds ∧ ∀ p ∈ vs.zip ds, Dv F p.1 p.2
  | _, _, .nil => ⟨rfl, rfl, fun p hp => by simp at hp⟩
  | _, _, .cons h hs => by
    obtain ⟨a, b, c⟩ := dvall_zip hs
    refine ⟨by rw [List.zip_cons_cons, List.map_cons, a], by rw [List.zip_cons_cons, List.map_cons, b], fun p hp => ?_⟩
    rw [List.zip_cons_cons] at hp
    rcases List.mem_cons.mp hp with z | z
    · subst z; exact h
    · exact c p z
theorem dvall_pairs : ∀ {bs : List (V × PyData)}, (∀ p ∈ bs, Dv F p.1 p.2) → DvAll F (bs.map Prod.fst) (bs.map Prod.snd)
  | [], _ => .nil
  | b :: bs, h => .cons (h b List.mem_cons_self) (dvall_pairs fun p hp => h p (List.mem_cons_of_mem _ hp))
instance : CbD F0 H0 (rSortedD K) (fun xs P => match xs with | [x] => bSortedD x P | _ => False) :=
  .one fun W x sx H F P Q r rx l ⟨ds, e, cl, al, so, dp, h⟩ q => by
    obtain ⟨a, vs, rfl, ha, hv⟩ := rx.items l e
    obtain ⟨z1, z2, z3⟩ := dvall_zip hv
    refine ⟨a, vs.zip ds, rfl, by rw [z1]; exact SqL.of ha, by rw [z1, z2]; exact (hv.mono l).dp cl, by rw [z2]; exact al, by rw [z2]; exact so, fun b hb => dp _ (by rw [← z2]; exact List.mem_map_of_mem hb), fun p np => ?_⟩
    have pm := List.mergeSort_perm (vs.zip ds) (dataLe false Prod.snd)
    refine q _ (h (((vs.zip ds).mergeSort (dataLe false Prod.snd)).map Prod.snd) ?_ (sorted_pw _)) _ _ ⟨F, r.pushL np (dvall_pairs fun b hb => z3 b (pm.mem_iff.mp hb))⟩
    have := pm.map Prod.snd
    rw [z2] at this
    exact this
end
end DL
/-! Data: an operator's value under another name. -/
namespace DL
theorem oI0_go {g : Int → Int → PySem.PyData} {i j : Int} {d : PySem.PyData} {P : SV → Prop} (e : g i j = d) (h : P (.val d)) : oI0 g (.val (.int i)) (.val (.int j)) P := by subst e; exact h
end DL
/-! A def that is called where nothing is being printed: repr of lists. -/
namespace GR
open PySem PySem.Spec PyProof.Rows L2 NB
/-- repr of a list or tuple of plain things, where nothing is being printed -/
def rRepr (K : PySem.W.Frag) : List V → Hp → VK → Prop := fun xs H Q => ∃ (a : Addr) (d : PyData), xs = [.ref a] ∧ Dp K H (.ref a) d ∧ d.showable = true ∧ d.hasDict = false ∧ d.depth ≤ 60 ∧ d.shown.length ≤ sizeLine ∧ Q (.str d.shown) H
end GR
/-! Data: repr of lists and tuples, where nothing is being printed. -/
namespace DL
open PySem PySem.Spec PyProof.Rows L2 NB
def isSeqD : PyData → Bool
  | .list _ => true
  | .tuple _ => true
  | _ => false
/-- what repr asks of a list or tuple -/
structure ReprOk (d : PyData) : Prop where
  sq : isSeqD d = true
  lay : d.canLay0 = true
  sh : d.showable = true
  dp : d.depth ≤ 60
  ln : d.shown.length ≤ sizeLine
section
variable {F0 H0 F H : Hp} {K : PySem.W.Frag}
def bRepr : SV → (SV → Prop) → Prop := fun x P => ∃ d, x.dat? = some d ∧ ReprOk d ∧ P (.val (.str d.shown))
instance : CbD F0 H0 (GR.rRepr K) (fun xs P => match xs with | [x] => bRepr x P | _ => False) :=
  .one fun W x sx H F P Q r rx l ⟨d, e, ok, h⟩ q => by
    have dp := rx.dat (K := K) l e ok.lay
    cases dp with
    | non => cases ok.sq
    | bl b => cases ok.sq
    | int i => cases ok.sq
    | str x => cases ok.sq
    | lst h1 h2 => exact ⟨_, _, rfl, .lst h1 h2, ok.sh, PySem.PyData.hasDict_of_canLay _ ok.lay, ok.dp, ok.ln, q _ h _ _ ⟨F, r.pushV (.str _)⟩⟩
    | tup h1 h2 => exact ⟨_, _, rfl, .tup h1 h2, ok.sh, PySem.PyData.hasDict_of_canLay _ ok.lay, ok.dp, ok.ln, q _ h _ _ ⟨F, r.pushV (.str _)⟩⟩
end
/-- what repr asks, by the size -/
theorem ReprOk.of {d : PyData} (sq : isSeqD d = true) (lay : PyData.layable0 d = true) (short : d.intsShort 13 = true) (sh : d.showable = true) (dp : d.depth ≤ 60) : ReprOk d :=
  ⟨sq, SeqAt.canLay_of_layable lay, sh, dp, by have := PyProof.Rows.shown_le13 lay short; have := sizeLine_eq; omega⟩
section
variable {F0 H0 F H : Hp} {K : PySem.W.Frag}
/-- x += e, x an own list -/
instance {te : TE} {f : DX} {i : Nat} [he : DE F0 H0 te f] : DS F0 H0 (tAug i te rExt2) (dExt i f) where
  run Z T H E D r h l := by
    unfold dExt at h
    cases e3 : (Z.map Prod.snd)[i]? with
    | none => rw [e3] at h; exact h.elim
    | some ov =>
      match ov, e3 with
      | none, e3 => rw [e3] at h; exact h.elim
      | some (.val _), e3 => rw [e3] at h; exact h.elim
      | some (.ali _), e3 => rw [e3] at h; exact h.elim
      | some (.raw _), e3 => rw [e3] at h; exact h.elim
      | some (.ent _), e3 => rw [e3] at h; exact h.elim
      | some (.own ds), e3 =>
        rw [e3] at h
        obtain ⟨F, r0⟩ := r.1
        obtain ⟨a, vs, z1, z2, z3, _⟩ := own_slot r0 e3
        have h' : f (Z.map Prod.snd) fun sv => match sv.items? with
          | some es => ds.length + es.length ≤ sizeLine ∧ E.nx ((Z.map Prod.snd).set i (some (.own (ds ++ es))))
          | none => False := h
        refine ⟨.ref a, z2, he.run Z T H _ _ ⟨F, r0⟩ h' fun sv hs y H1 ⟨F1, r1⟩ => ?_⟩
        cases e : sv.items? with
        | none => rw [e] at hs; exact hs.elim
        | some es =>
          rw [e] at hs
          rw [← List.append_assoc] at r1
          obtain ⟨b, zs, rfl, hb, hz⟩ := r1.last.items r1.low e
          obtain ⟨a', vs2, q1, q2, q3, q4⟩ := own_slot r1.left e3
          rw [z1] at q1; cases q1
          refine ⟨a, b, vs2, zs, rfl, rfl, q3, hb, by rw [q4.length, hz.length]; exact hs.1, ?_⟩
          have := l.nx _ _ (own_put r1.left r.2 z1 (q4.app hz)) (by rw [map_set_snd]; exact hs.2)
          rw [map_set_fst] at this
          exact this
end
section
variable {F0 H0 F H : Hp} {K : PySem.W.Frag}
/-! for x in reversed(range(n)) -/
def stepD (a c : Int) (n : Nat) : List PyData := (List.range n).map fun (i : Nat) => PyData.int (a + (i : Int) * c)
theorem stepD_len (a c : Int) (n : Nat) : (stepD a c n).length = n := by unfold stepD; simp
theorem stepD_at {a c : Int} {n i : Nat} {d : PyData} (h : (stepD a c n)[i]? = some d) : i < n ∧ d = .int (a + (i : Int) * c) := by
  unfold stepD at h
  rw [List.getElem?_map] at h
  by_cases z : i < n
  · rw [List.getElem?_range z] at h
    exact ⟨z, (Option.some.inj h).symm⟩
  · rw [List.getElem?_eq_none (by simp; omega)] at h; cases h
theorem walk_stp (a c : Int) (n : Nat) : DWalk F0 H0 (Itc a c n) (stepD a c n) [] where
  goes i H F W hi r := by rw [stepD_len] at hi; exact hi
  stops H F W r := by rw [stepD_len]; exact Nat.le_refl _
  yields i H x H' F W d hd r y := by
    obtain ⟨rfl, rfl⟩ := y
    obtain ⟨_, rfl⟩ := stepD_at hd
    exact ⟨F, r.pushV (.int _)⟩
def dRevR1 (fa : DX) : SD → (List PyData → Bool → Prop) → Prop := fun σ P => fa σ fun x => match x.int? with | some j => (-(2 ^ 62) ≤ j ∧ j < 2 ^ 62) ∧ P (stepD ((j.toNat : Int) - 1) (-1) j.toNat) true | none => False
instance {ta : TE} {fa : DX} [ha : DE F0 H0 ta fa] : DI F0 H0 (iRevR (tRg1 ta)) (dRevR1 fa) where
  run Z T H P R := fun hr h q => ha.run Z T H _ _ hr h fun sv h1 v H1 ⟨F, r1⟩ => by
    cases e : sv.int? with
    | none => rw [e] at h1; exact h1.elim
    | some j =>
      rw [e] at h1
      obtain ⟨r0, rv⟩ := one_tmp r1
      have ev := rv.int e
      have := q _ _ h1.2 _ _ [] ⟨F, by simpa using r0⟩ (fun _ p hp => nomatch hp) (walk_stp ((j.toNat : Int) - 1) (-1) j.toNat)
      refine ⟨j, ev, by decide, by decide, h1.1.1, h1.1.2, ?_⟩
      have e0 : (j - 0).toNat = j.toNat := by rw [Int.sub_zero]
      rw [e0, Int.zero_add]
      exact this
end
/-! what repr asks, put together -/
structure Rp (d : PyData) (n b : Nat) : Prop where
  sh : d.intsShort 13 = true
  wt : d.weight ≤ n
  sw : d.showable = true
  ly : d.canLay0 = true
  dp : d.depth ≤ b
structure RpA (ds : List PyData) (n b : Nat) : Prop where
  sh : PyData.intsShortAll 13 ds = true
  wt : PyData.weightAll ds ≤ n
  sw : PyData.showableAll ds = true
  ly : PyData.canLayAll0 ds = true
  dp : PyData.depthAll ds ≤ b
theorem RpA.nil {n b : Nat} : RpA [] n b := ⟨by simp [PyData.intsShortAll], by simp [PyData.weightAll], by simp [PyData.showableAll], by simp [PyData.canLayAll0], by simp [PyData.depthAll]⟩
theorem RpA.cons {d : PyData} {ds : List PyData} {n m N b : Nat} (h : Rp d n b) (k : RpA ds m b) (e : n + 1 + m ≤ N) : RpA (d :: ds) N b :=
  ⟨by rw [PyData.intsShortAll, h.sh, k.sh]; rfl, by rw [PyData.weightAll]; have := h.wt; have := k.wt; omega, by rw [PyData.showableAll, h.sw, k.sw]; rfl, by rw [PyData.canLayAll0, h.ly, k.ly]; rfl, by rw [PyData.depthAll]; have := h.dp; have := k.dp; omega⟩
theorem RpA.lst {ds : List PyData} {n b : Nat} (k : RpA ds n b) : Rp (.list ds) n (b + 1) :=
  ⟨by rw [PyData.intsShort]; exact k.sh, by rw [PyData.weight]; exact k.wt, by rw [PyData.showable]; exact k.sw, by rw [PyData.canLay0]; exact k.ly, by rw [PyData.depth]; have := k.dp; omega⟩
theorem RpA.tup {ds : List PyData} {n b : Nat} (k : RpA ds n b) : Rp (.tuple ds) n (b + 1) :=
  ⟨by rw [PyData.intsShort]; exact k.sh, by rw [PyData.weight]; exact k.wt, by rw [PyData.showable]; exact k.sw, by rw [PyData.canLay0]; exact k.ly, by rw [PyData.depth]; have := k.dp; omega⟩
theorem Rp.mono {d : PyData} {n m b c : Nat} (h : Rp d n b) (e : n ≤ m) (f : b ≤ c) : Rp d m c := ⟨h.sh, Nat.le_trans h.wt e, h.sw, h.ly, Nat.le_trans h.dp f⟩
theorem Rp.int {c : Int} (h0 : 0 ≤ c) (h : c < 256) : Rp (.int c) 10 1 := by
  obtain ⟨n, rfl⟩ := Int.eq_ofNat_of_zero_le h0
  have hn : n < 256 := by omega
  have hl : (n : Int).natAbs.log2 < 10 := by
    rw [Int.natAbs_natCast]
    by_cases z : n = 0
    · rw [z]; decide
    · exact Nat.lt_of_lt_of_le ((Nat.log2_lt (k := 8) z).mpr hn) (by decide)
  have hs : (PyData.shown (.int (n : Int))).length ≤ 13 := by
    have e := int_text_length_le (k := 10) (by decide) hl
    show (Str.ofString (toString (n : Int))).length ≤ 13
    rw [PySem.ofString_length]
    omega
  refine ⟨?_, ?_, ?_, ?_, ?_⟩
  · simp only [PyData.intsShort]; exact decide_eq_true hs
  · simp only [PyData.weight]
    split <;> omega
  · simp only [PyData.showable]; exact decide_eq_true (by omega)
  · simp [PyData.canLay0]
  · simp [PyData.depth]
theorem Rp.ok {d : PyData} {n b : Nat} (h : Rp d n b) (sq : isSeqD d = true) (hn : n ≤ 2 ^ 20) (hb : b ≤ 60) : ReprOk d :=
  .of sq (by
    unfold PyData.layable0
    rw [Bool.and_eq_true, Bool.and_eq_true]
    exact ⟨⟨h.ly, decide_eq_true (by have := h.dp; omega)⟩, decide_eq_true (by have := h.wt; omega)⟩) h.sh h.sw (Nat.le_trans h.dp hb)
end DL
/-! Data: a def that gives a number and a new list in a tuple, of which the caller takes the list. -/
namespace DL
open PySem PySem.Spec PyProof.Rows L2 NB
/-- the contract of a def that returns (n, l), l a new list that nobody else holds -/
def spB (R : List SV → (Int → List PyData → Prop) → Prop) : Sp := fun vs H Q _ => ∃ (F : Hp) (A : List (V × SV)) (S : Int → List PyData → Prop), vs = A.map Prod.fst ∧ Rep F H F H (A.map pr) ∧ (∀ s ∈ A.map Prod.snd, s.isAli = false) ∧ R (A.map Prod.snd) S ∧
  ∀ n es, S n es → ∀ a b H', (∃ F', Rep F H F' H' [(some (.ref b), some (.own es))]) → H' a = some (.tup [.int n, .ref b]) → Q (.ref a) H'
section
variable {F0 H0 F H : Hp} {K : PySem.W.Frag}
theorem callB_run {R : List SV → (Int → List PyData → Prop) → Prop} {E : XK} {W : Zt} {A : List (V × SV)} {P : SV → Prop} {Q : VK}
    (r : Rep F0 H0 F H (W ++ A.map pr)) (h : ∃ S, R ((A.map Prod.snd).map SV.frz) S ∧ ∀ n es, S n es → ((A.map Prod.snd).any SV.isAli = true → es.all flatD = true) ∧ P (.own es))
    (q : ∀ es, P (.own es) → ∀ a b n H', (∃ F, Rep F0 H0 F H' (W ++ [(some (.ref b), some (.own es))])) → H' a = some (.tup [.int n, .ref b]) → Q (.ref a) H') : spB R (A.map Prod.fst) H Q E := by
  obtain ⟨S, h1, h2⟩ := h
  obtain ⟨s1, s2⟩ := keepArgs_at F H r.low A
  refine ⟨keepArgs F H A, A.map (fun p => (p.1, p.2.frz)), S, by simp, args_ok r, (fun s hs => by
    rw [List.map_map] at hs
    obtain ⟨p, _, rfl⟩ := List.mem_map.mp hs
    obtain ⟨v, s⟩ := p
    cases s <;> rfl), by simpa [Function.comp_def] using h1, fun n es hs a b H' bk ha => ?_⟩
  have := h2 n es hs
  exact q es this.2 a b n H' (back_ok r bk fun z => this.1 (by simpa [List.any_map, SV.isEnt] using z)) ha
/-- o.m(..)[1] -/
def dMethB (C : Addr) (m : Str) (R : List SV → (Int → List PyData → Prop) → Prop) (f : DX) (fa : DAX) : DX := fun σ P => f σ fun x => ∃ fs, x = .val (Ob C fs) ∧ fs.lookup m = none ∧ fa σ fun as => ∃ S, R (x :: as.map SV.frz) S ∧ ∀ n es, S n es →
  (as.any SV.isAli = true → es.all flatD = true) ∧ P (.own es)
instance (priority := 2000) {R : List SV → (Int → List PyData → Prop) → Prop} {C : Addr} {m : Str} {te : TE} {ta : TA} {f : DX} {fa : DAX} [he : DE F0 H0 te f] [ha : DA F0 H0 ta fa] : DE F0 H0 (tOp (rIxT K) (tMeth C m (spB R) [] (fun _ _ _ => False) te ta) (tC (.int 1))) (dMethB C m R f fa) where
  run Z T H P Q := fun hr h q => he.run Z T H _ _ hr h fun x ⟨fs, e, nl, h1⟩ v H1 ⟨F, r⟩ => by
    subst e
    obtain ⟨r0, rv⟩ := one_tmp r
    obtain ⟨a, dx, fs', rfl, hA, k⟩ := Dv.obE rv
    refine ⟨a, dx, fs', rfl, r0.low _ _ hA, k.no nl, ha.run Z (T ++ [(some (.ref a), some (.val (Ob C fs)))]) H1 _ _ ⟨F, r⟩ h1 fun A h2 H2 ⟨F2, r2⟩ => ?_⟩
    obtain ⟨S, h3, h4⟩ := h2
    rw [List.append_nil]
    exact callB_run (W := Z ++ T) (A := (.ref a, .val (Ob C fs)) :: A) (P := P) (by
      have := r2
      simp only [List.map_cons, List.append_assoc, List.cons_append, List.nil_append] at this ⊢
      exact this) ⟨S, h3, fun n es hs => by
      have := h4 n es hs
      exact ⟨fun z => this.1 (by simpa [SV.isAli] using z), this.2⟩⟩ fun es hp c b n H3 r3 hc => ⟨c, [.int n, .ref b], 1, .ref b, rfl, rfl, SqT.of hc, rfl, q _ hp _ H3 (by rw [← List.append_assoc]; exact r3)⟩
end
end DL
/-! Data: list.index; x = f(..), a test, x[1].append(0): the list within what a call gave is new. -/
namespace DL
open PySem PySem.Spec PyProof.Rows L2 NB
/-- a contract that asks nothing of what stands -/
class PureR (R : RC) : Prop where
  pure : ∀ {F F' : Hp} {as : List SV} {S : Rs → Prop}, R F as S → R F' as S
instance {R : List SV → (Rs → Prop) → Prop} : PureR (pur R) := ⟨fun h => h⟩
def argFlat : SV → Bool
  | .val (.list ds) => ds.all flatD
  | .val d => flatD d
  | _ => false
def noOwnS : Option SV → Bool
  | some (.own _) => false
  | _ => true
/-- x = f(..); if c: return ..; if c2: x[1].append(0) -/
def dFresh (i : Nat) (R : RC) (fa : DAX) (fc fc2 : DTX) : DSX := fun E σ => fa σ fun as => (as.map SV.frz).all argFlat = true ∧ σ.all noOwnS = true ∧ i < σ.length ∧ ∃ S, R (fun _ => none) (as.map SV.frz) S ∧ ∀ r, S r →
  (r = .ok (.val .none) ∧ fc (σ.set i (some (.val .none))) (· = false) ∧ fc2 (σ.set i (some (.val .none))) (· = false) ∧ E.nx (σ.set i (some (.val .none)))) ∨
  (∃ n es, r = .ok (.val (.tuple [.int n, .list es])) ∧ (∀ s ∈ as.map SV.frz, s ≠ .val (.list es)) ∧ es.all flatD = true ∧ es.length < sizeLine ∧
    fc (σ.set i (some (.val (.tuple [.int n, .list es])))) (· = false) ∧ fc2 (σ.set i (some (.val (.tuple [.int n, .list es])))) (· = true) ∧ E.nx (σ.set i none))
section
variable {F0 H0 F H : Hp} {K : PySem.W.Frag}
def convP (p : Option V × Option SV) : Option V × Option SV := (p.1, match p.2 with
  | some (.own ds) => some (.ent ds)
  | some (.ali ds) => some (.ent ds)
  | x => x)
theorem flat_det {F F' : Hp} : ∀ {vs : List V} {ds es : List PyData}, DvAll F vs ds → DvAll F' vs es → es.all flatD = true → ds = es
  | _, _, _, .nil, .nil, _ => rfl
  | _, _, _, .cons h hs, .cons k ks, f => by
    rw [List.all_cons, Bool.and_eq_true] at f
    have e := flat_det hs ks f.2
    have : ∀ {v : V} {d e : PyData}, Dv F v d → Dv F' v e → flatD e = true → d = e := fun h k f => by
      cases k with
      | non => cases h; rfl
      | bl b => cases h; rfl
      | int i => cases h; rfl
      | str x => cases h; rfl
      | lst _ _ => cases f
      | tup _ _ => cases f
      | ob _ _ _ => cases f
    rw [this h k f.1, e]
instance {R : RC} [pR : PureR R] {ta : TA} {fa : DAX} {i : Nat} {tc tc2 : TT} {fc fc2 : DTX} {tv : TE} [ha : DA F0 H0 ta fa] [hc : ∀ G0 G1, DT G0 G1 tc fc] [hc2 : ∀ G0 G1, DT G0 G1 tc2 fc2] :
    DS F0 H0 (tSeq (tAsg (tCall (spF R) [] (fun _ _ _ => False) ta) (gName i)) (tSeq (tIfS tc (tRet tv) tNext) (tIfS tc2 (tDrop (tBM K "list" rAppend (tOp (rIxT K) (tVar i) (tC (.int 1))) (tCons (tC (.int 0)) tNil))) tNext))) (dFresh i R fa fc fc2) where
  run Z T H E D r h l := ha.run Z T H _ _ r.1 h fun A hA H1 ⟨F1, r1⟩ => by
    obtain ⟨fl, nOwn, hiZ0, S, hR, hS⟩ := hA
    have hiZ : i < Z.length := by simpa using hiZ0
    have rZ : Rep F0 H0 F1 H1 (Z ++ T) := r1.sub (by rw [← List.append_assoc]; exact List.sublist_append_left _ _)
    let L : List Addr := A.filterMap fun p => match p.1 with | .ref a => some a | _ => none
    let Fs : Hp := fun a => if a ∈ L then H1 a else none
    have inL : ∀ {a s}, ((V.ref a, s) : V × SV) ∈ A → a ∈ L := fun {a s} hm => List.mem_filterMap.mpr ⟨_, hm, rfl⟩
    have ofL : ∀ {a}, a ∈ L → ∃ s, ((V.ref a, s) : V × SV) ∈ A := fun {a} hm => by
      obtain ⟨⟨v, s⟩, h1, h2⟩ := List.mem_filterMap.mp hm
      cases v with
      | ref c => cases h2; exact ⟨s, h1⟩
      | _ => cases h2
    have FsIn : ∀ {a}, a ∈ L → Fs a = H1 a := fun h => if_pos h
    have FsOut : ∀ {a}, a ∉ L → Fs a = none := fun h => if_neg h
    have argOk : ∀ v s, (v, s) ∈ A → argFlat s.frz = true := fun v s hm => List.all_eq_true.mp fl _ (List.mem_map.mpr ⟨s, by
      have := hm
      exact List.mem_map.mpr ⟨(v, s), hm, rfl⟩, rfl⟩)
    have rvA : ∀ v s, (v, s) ∈ A → RV H0 F1 H1 v s := fun v s hm => by
      obtain ⟨w, e1, rv⟩ := r1.ok (some v, some s) (List.mem_append_right _ (List.mem_append_right _ (List.mem_map.mpr ⟨(v, s), hm, rfl⟩))) _ rfl
      cases e1; exact rv
    have small : ∀ v s, (v, s) ∈ A → RV H1 Fs H1 v s.frz := fun v s hm => by
      have fl := argOk v s hm
      have rv := rvA v s hm
      cases s with
      | val d =>
        cases d with
        | list ds =>
          cases rv with
          | lst h1 h2 => exact .lst (by rw [FsIn (inL hm)]; exact r1.low _ _ h1) (h2.flat fl)
        | none => exact Dv.flat rv rfl
        | bool b => exact Dv.flat rv rfl
        | int n => exact Dv.flat rv rfl
        | str x => exact Dv.flat rv rfl
        | _ => cases fl
      | own ds =>
        obtain ⟨a, vs, rfl, _, _, h3, h4⟩ := rv
        exact .lst (by rw [FsIn (inL hm)]; exact h3) (h4.flat fl)
      | ali ds =>
        obtain ⟨a, vs, rfl, _, h3, h4⟩ := rv
        exact .lst (by rw [FsIn (inL hm)]; exact h3) (h4.flat fl)
      | raw u => cases fl
      | ent ds => cases fl
    have lowS : Same Fs H1 := fun b o e => by
      by_cases z : b ∈ L
      · rw [FsIn z] at e; exact e
      · rw [FsOut z] at e; cases e
    have repA : Rep Fs H1 Fs H1 ((A.map fun p => (p.1, p.2.frz)).map pr) := by
      refine ⟨Same.refl _, lowS, Same.refl _, fun b h _ => h, fun p hp sv e => ?_, ?_⟩
      · rw [List.map_map] at hp
        obtain ⟨⟨v, s⟩, hm, rfl⟩ := List.mem_map.mp hp
        cases e
        exact ⟨v, rfl, small v s hm⟩
      · rw [List.pairwise_map, List.pairwise_map]
        refine all_pw (fun x y a es fs _ e2 _ _ => ?_) _
        obtain ⟨v, s⟩ := x
        cases s <;> cases e2
    show spF R (A.map Prod.fst ++ []) H1 _ _
    rw [List.append_nil]
    refine ⟨Fs, A.map (fun p => (p.1, p.2.frz)), S, by simp, repA, (fun s hs => by
      rw [List.map_map] at hs
      obtain ⟨⟨v, s⟩, _, rfl⟩ := List.mem_map.mp hs
      cases s <;> rfl), pR.pure (by simpa [Function.comp_def] using hR), fun rs hs => ?_⟩
    rcases hS rs hs with ⟨rfl, g1, g2, g3⟩ | ⟨n, es, rfl, hne, hfl, hlen, g1, g2, g3⟩
    · intro v H2 ⟨F', b⟩
      have b0 := b.last (W := [])
      cases b0
      have rb : Rep F0 H0 F1 H2 (Z ++ T) := rZ.both (Same.refl _) (rZ.low.trans b.ent) b.ent fun _ h _ => h
      have st := store_S (i := i) (T := T) (v := .non) (sv := .val .none) ⟨F1, by have := rb.pushV (v := .non) (d := .none) .non; rw [List.append_assoc] at this; exact this⟩ r.2 (fun es e => nomatch e)
      show tc _ H2 _
      have e1 : (Z.map Prod.fst).set i (some V.non) = (Z.set i (some V.non, some (SV.val .none))).map Prod.fst := by rw [List.map_set]
      show tc ((Z.map Prod.fst).set i (some V.non)) H2 _
      rw [e1]
      refine (hc F0 H0).run _ T H2 (· = false) _ st.1 (by rw [map_set_snd]; exact g1) fun bb hb H3 r3 => ?_
      subst hb
      show tc2 _ H3 _
      refine (hc2 F0 H0).run _ T H3 (· = false) _ r3 (by rw [map_set_snd]; exact g2) fun bb hb H4 r4 => ?_
      subst hb
      exact l.nx _ H4 ⟨r4, st.2⟩ (by rw [map_set_snd]; exact g3)
    · intro v H2 ⟨F', bk⟩
      have b0 := bk.last (W := [])
      cases b0 with
      | @tup a xs ds q1 q2 =>
        cases q2 with
        | cons q3 q4 =>
          cases q3
          cases q4 with
          | cons q5 q6 =>
            cases q6
            cases q5 with
            | @lst b ws ds q7 q8 =>
              have bL : b ∉ L := fun z => by
                obtain ⟨s, hm⟩ := ofL z
                have hb : Fs b = some (.lst ws) := by
                  have hs0 : Fs b = H1 b := FsIn z
                  cases e : Fs b with
                  | none =>
                    have fl := argOk _ _ hm
                    have rv := rvA _ _ hm
                    rw [e] at hs0
                    cases s with
                    | val d =>
                      cases rv with
                      | lst k1 k2 => rw [r1.low _ _ k1] at hs0; cases hs0
                      | tup _ _ => cases fl
                      | ob _ _ _ => cases fl
                    | own ds => obtain ⟨a, vs, e1, _, _, h3, h4⟩ := rv; cases e1; rw [h3] at hs0; cases hs0
                    | ali ds => obtain ⟨a, vs, e1, _, h3, h4⟩ := rv; cases e1; rw [h3] at hs0; cases hs0
                    | raw u => cases fl
                    | ent ds => cases fl
                  | some o => rw [bk.base _ _ e] at q7; exact q7
                have h1 := small _ _ hm
                have hfr : ∃ ds0, s.frz = .val (.list ds0) ∧ DvAll Fs ws ds0 := by
                  have fl := argOk _ _ hm
                  revert h1 fl
                  cases s.frz with
                  | val d =>
                    intro h1 fl
                    cases h1 with
                    | lst k1 k2 => rw [hb] at k1; cases k1; exact ⟨_, rfl, k2⟩
                    | tup _ _ => cases fl
                    | ob _ _ _ => cases fl
                  | _ => intro h1 fl; cases fl
                obtain ⟨ds0, e1, k2⟩ := hfr
                have := flat_det k2 q8 hfl
                subst this
                exact hne _ (List.mem_map.mpr ⟨s, List.mem_map.mpr ⟨_, hm, rfl⟩, rfl⟩) e1
              have aL : a ∉ L := fun z => by
                obtain ⟨s, hm⟩ := ofL z
                have h1 := small _ _ hm
                have fl := argOk _ _ hm
                revert h1 fl
                cases s.frz with
                | val d =>
                  intro h1 fl
                  cases h1 with
                  | lst k1 k2 => rw [bk.base _ _ k1] at q1; cases q1
                  | tup _ _ => cases fl
                  | ob _ _ _ => cases fl
                | _ => intro h1 fl; cases fl
              have nb : H1 b = none := by
                cases e : H1 b with
                | none => rfl
                | some o => have := bk.apart b (FsOut bL) (by rw [e]; simp); rw [q7] at this; cases this
              have na : H1 a = none := by
                cases e : H1 a with
                | none => rfl
                | some o => have := bk.apart a (FsOut aL) (by rw [e]; simp); rw [q1] at this; cases this
              have ha2 : H2 a = some (.tup [.int n, .ref b]) := bk.low _ _ q1
              have hb2 : H2 b = some (.lst ws) := bk.low _ _ q7
              have ab : a ≠ b := fun z => by rw [z, hb2] at ha2; cases ha2
              let F2 : Hp := fun x => if x = a then H2 a else if x = b then H2 b else F1 x
              have F2a : F2 a = H2 a := if_pos rfl
              have F2b : F2 b = H2 b := by show (if b = a then H2 a else if b = b then H2 b else F1 b) = _; rw [if_neg (Ne.symm ab), if_pos rfl]
              have F2o : ∀ {x}, x ≠ a → x ≠ b → F2 x = F1 x := fun h1 h2 => by show (if _ = a then H2 a else if _ = b then H2 b else F1 _) = _; rw [if_neg h1, if_neg h2]
              have s12 : Same F1 F2 := fun x o e => by
                have hx := rZ.low _ _ e
                rw [F2o (fun z => by rw [z, na] at hx; cases hx) (fun z => by rw [z, nb] at hx; cases hx)]; exact e
              have l2 : Same F2 H2 := fun x o e => by
                by_cases z : x = a
                · subst z; rw [F2a] at e; exact e
                · by_cases y : x = b
                  · subst y; rw [F2b] at e; exact e
                  · rw [F2o z y] at e; exact bk.ent _ _ (rZ.low _ _ e)
              have conv : ∀ p, p ∈ Z ++ T → PairOk H2 F2 H2 (convP p) := fun p hp sv e => by
                obtain ⟨x, s⟩ := p
                cases s with
                | none => cases e
                | some s =>
                  obtain ⟨w, e1, rv⟩ := rZ.ok _ hp _ rfl
                  refine ⟨w, e1, ?_⟩
                  cases s with
                  | val d => cases e; exact rv.mono s12
                  | raw u => cases e; exact rv
                  | own ds => cases e; obtain ⟨c, vs, q1, _, _, q4, q5⟩ := rv; exact ⟨c, vs, q1, bk.ent _ _ q4, bk.ent _ _ q4, q5.mono s12⟩
                  | ali ds => cases e; obtain ⟨c, vs, q1, _, q4, q5⟩ := rv; exact ⟨c, vs, q1, bk.ent _ _ q4, bk.ent _ _ q4, q5.mono s12⟩
                  | ent ds => cases e; obtain ⟨c, vs, q1, _, q4, q5⟩ := rv; exact ⟨c, vs, q1, bk.ent _ _ q4, bk.ent _ _ q4, q5.mono s12⟩
              have convZ : ∀ p ∈ Z, convP p = p := fun p hp => by
                obtain ⟨x, s⟩ := p
                cases s with
                | none => rfl
                | some s =>
                  cases s with
                  | own ds => have := List.all_eq_true.mp nOwn (some (.own ds)) (List.mem_map.mpr ⟨_, hp, rfl⟩); cases this
                  | ali ds => exact absurd rfl (r.2 _ (List.mem_append_left _ hp) ds)
                  | _ => rfl
              let Z1 : Zt := Z.set i (some (.ref a), some (.val (.tuple [.int n, .list es])))
              have tupV : Dv F2 (.ref a) (.tuple [.int n, .list es]) := .tup (by rw [F2a]; exact ha2) (.cons (.int n) (.cons (.lst (by rw [F2b]; exact hb2) (q8.flat hfl)) .nil))
              have rM : Rep F2 H2 F2 H2 (Z1 ++ T.map convP) := by
                refine ⟨Same.refl _, l2, Same.refl _, fun b h _ => h, fun p hp => ?_, ?_⟩
                · rcases List.mem_append.mp hp with z | z
                  · rcases List.mem_or_eq_of_mem_set z with z | z
                    · have := conv p (List.mem_append_left _ z)
                      rw [convZ p z] at this; exact this
                    · subst z
                      exact fun sv e => by cases e; exact ⟨_, rfl, tupV⟩
                  · obtain ⟨p', hp', rfl⟩ := List.mem_map.mp z
                    exact conv p' (List.mem_append_right _ hp')
                · refine List.Pairwise.imp_of_mem (S := Apart) (fun {p q} hp hq _ a' es' fs' _ e _ _ => ?_) (all_pw (R := fun _ _ => True) (fun _ _ => trivial) _)
                  rcases List.mem_append.mp hp with z | z
                  · rcases List.mem_or_eq_of_mem_set z with z | z
                    · have := List.all_eq_true.mp nOwn p.2 (List.mem_map.mpr ⟨_, z, rfl⟩)
                      rw [e] at this; cases this
                    · subst z; cases e
                  · obtain ⟨p, hp, rfl⟩ := List.mem_map.mp z
                    obtain ⟨x, s⟩ := p
                    cases s with
                    | none => cases e
                    | some s => cases s <;> cases e
              have e1 : (Z.map Prod.fst).set i (some (V.ref a)) = Z1.map Prod.fst := by show _ = (Z.set i _).map Prod.fst; rw [List.map_set]
              have e2 : Z1.map Prod.snd = (Z.map Prod.snd).set i (some (.val (.tuple [.int n, .list es]))) := by show (Z.set i _).map Prod.snd = _; rw [List.map_set]
              show tc ((Z.map Prod.fst).set i (some (V.ref a))) H2 _
              rw [e1]
              refine (hc F2 H2).run _ (T.map convP) H2 (· = false) _ ⟨F2, rM⟩ (by rw [e2]; exact g1) fun bb hb H3 r3 => ?_
              subst hb
              show tc2 _ H3 _
              refine (hc2 F2 H2).run _ (T.map convP) H3 (· = true) _ r3 (by rw [e2]; exact g2) fun bb hb H4 r4 => ?_
              subst hb
              obtain ⟨F4, r4⟩ := r4
              have s24 : Same H2 H4 := r4.ent
              have ha4 := s24 _ _ ha2
              have hb4 := s24 _ _ hb2
              have hi : (Z1.map Prod.fst)[i]? = some (some (V.ref a)) := by
                rw [← e1, List.getElem?_set_self (by rw [List.length_map]; exact hiZ)]
              show ∃ v, (Z1.map Prod.fst)[i]? = some (some v) ∧ _
              refine ⟨.ref a, hi, ?_⟩
              refine ⟨a, [.int n, .ref b], 1, .ref b, rfl, rfl, SqT.of ha4, rfl, .inl ⟨rfl, _, SqL.of hb4⟩, ?_⟩
              refine ⟨b, ws, .int 0, rfl, rfl, hb4, by rw [q8.length]; exact hlen, ?_⟩
              have s14 : Same H1 H4 := bk.ent.trans s24
              have s15 : Same H1 (upd H4 b (.lst (ws ++ [.int 0]))) := fun x o e => by
                rw [upd_ne (fun z => by rw [z, nb] at e; cases e)]; exact s14 _ _ e
              have rE : Rep F0 H0 F1 (upd H4 b (.lst (ws ++ [.int 0]))) (Z ++ T) := rZ.both (Same.refl _) (rZ.low.trans s15) s15 fun _ h _ => h
              have rS : Rep F0 H0 F1 (upd H4 b (.lst (ws ++ [.int 0]))) (Z.set i (some (.ref a), none) ++ T) := by
                refine ⟨rE.base, rE.low, rE.ent, rE.apart, fun p hp => ?_, ?_⟩
                · rcases List.mem_append.mp hp with z | z
                  · rcases List.mem_or_eq_of_mem_set z with z | z
                    · exact rE.ok p (List.mem_append_left _ z)
                    · subst z; exact fun sv e => by cases e
                  · exact rE.ok p (List.mem_append_right _ z)
                · have hT := rE.dist
                  rw [List.pairwise_append] at hT ⊢
                  have noZ : ∀ p ∈ Z.set i (some (V.ref a), (none : Option SV)), ∀ es', p.2 ≠ some (.own es') := fun p hp es' e => by
                    rcases List.mem_or_eq_of_mem_set hp with z | z
                    · have := List.all_eq_true.mp nOwn p.2 (List.mem_map.mpr ⟨_, z, rfl⟩)
                      rw [e] at this; cases this
                    · subst z; cases e
                  refine ⟨List.Pairwise.imp_of_mem (S := Apart) (fun {p q} hp hq _ a' es' fs' _ e _ _ => noZ p hp es' e) (all_pw (R := fun _ _ => True) (fun _ _ => trivial) _), hT.2.1, fun p hp q hq a' es' fs' _ e _ _ => noZ p hp es' e⟩
              have := l.nx (Z.set i (some (.ref a), none)) _ ⟨⟨F1, rS⟩, fun p hp => by
                rcases List.mem_append.mp hp with z | z
                · rcases List.mem_or_eq_of_mem_set z with z | z
                  · exact r.2 p (List.mem_append_left _ z)
                  · subst z; intro es' e; cases e
                · exact r.2 p (List.mem_append_right _ z)⟩ (by rw [map_set_snd]; exact g3)
              rw [map_set_fst] at this
              rw [← e1]
              exact this
/-- e.index(f) of a list of numbers -/
def dIdx (f fe : DX) : DX := fun σ P => f σ fun x => ∃ ns : List Int, x.items? = some (LI ns) ∧ fe σ fun y => ∃ (k : Int) (j : Nat), y.int? = some k ∧ ns[j]? = some k ∧ (∀ m, m < j → ns[m]? ≠ some k) ∧ P (.val (.int (j : Int)))
instance {to te : TE} {f fe : DX} [ho : DE F0 H0 to f] [he : DE F0 H0 te fe] : DE F0 H0 (tBM K "list" (rIndex K) to (tCons te tNil)) (dIdx f fe) where
  run Z T H P Q := fun hr h q => ho.run Z T H _ _ hr h fun x ⟨ns, e1, hx⟩ v H1 ⟨F1, r1⟩ => by
    have isL : ∃ a vs, v = .ref a ∧ H1 a = some (.lst vs) := by
      obtain ⟨b, ws, eb, hb, _⟩ := (one_tmp r1).2.items r1.low e1
      exact ⟨b, ws, eb, hb⟩
    obtain ⟨a, vs, rfl, hv⟩ := isL
    refine ⟨.inl ⟨rfl, _, SqL.of hv⟩, he.run Z (T ++ [(some (.ref a), some x)]) H1 _ _ ⟨F1, r1⟩ hx fun y hy u H2 ⟨F2, r2⟩ => ?_⟩
    obtain ⟨k, j, e2, g1, g2, hp⟩ := hy
    obtain ⟨r0, ry⟩ := one_tmp r2
    obtain ⟨r00, rx⟩ := one_tmp r0
    have eu := ry.int e2
    subst eu
    obtain ⟨b, ws, eb, hb, hw⟩ := rx.items r0.low e1
    cases eb
    rw [all_ints hw] at hb
    refine ⟨a, ns.map V.int, .int k, j, .int k, rfl, rfl, SqL.of hb, rfl, ?_, by rw [List.getElem?_map, g1]; rfl, ?_, fun m z hm hz => ?_, q _ hp _ _ ⟨F2, put_tmp r00 (.int _)⟩⟩
    · rw [List.all_map]; exact List.all_eq_true.mpr fun _ _ => rfl
    · simp [eqV]
    · rw [List.getElem?_map] at hz
      obtain ⟨c, hc, rfl⟩ := Option.map_eq_some_iff.mp hz
      have : c ≠ k := fun e => g2 m hm (by rw [hc, e])
      simp [eqV, this]
/-! for x in range(a, b, c) -/
def dRng3 (fa : DAX) : SD → (List PyData → Bool → Prop) → Prop := fun σ P => fa σ fun xs => match xs with
  | [x, y, z] => ∃ i j c n, x.int? = some i ∧ y.int? = some j ∧ z.int? = some c ∧ RgC i j c n ∧ P (stepD i c n) true
  | _ => False
instance {ta : TA} {fa : DAX} [ha : DA F0 H0 ta fa] : DI F0 H0 (iRng3 ta) (dRng3 fa) where
  run Z T H P R := fun hr h q => ha.run Z T H _ _ hr h fun A h1 H1 ⟨F, r1⟩ => by
    rcases A with _ | ⟨⟨v, sv⟩, _ | ⟨⟨w, sw⟩, _ | ⟨⟨u, su⟩, _ | ⟨q, A⟩⟩⟩⟩
    all_goals first | exact False.elim h1 | skip
    · obtain ⟨i, j, c, n, e1, e2, e3, hc, hp⟩ := h1
      have rv : ∀ p s, (some p, some s) ∈ Z ++ (T ++ [(some v, some sv), (some w, some sw), (some u, some su)]) → RV H0 F H1 p s := fun p s hm => by
        obtain ⟨p', e, rr⟩ := r1.ok _ hm _ rfl
        cases e; exact rr
      have a1 := (rv v sv (by simp)).int e1
      have a2 := (rv w sw (by simp)).int e2
      have a3 := (rv u su (by simp)).int e3
      refine ⟨i, j, c, n, by rw [← a1, ← a2, ← a3]; rfl, hc, q _ _ hp _ _ [] ⟨F, ?_⟩ (fun _ p hp => nomatch hp) (walk_stp i c n)⟩
      rw [List.append_nil]
      refine r1.sub ?_
      rw [← List.append_assoc]
      exact List.sublist_append_left _ _
end
end DL
/-! Data: for x in [a, e, ..], a a list of one's own that stays so behind the loop. -/
namespace DL
open PySem PySem.Spec PyProof.Rows L2 NB
end DL
namespace GF
/-! # Polynomials over two elements, as natural numbers -/
theorem xor_mod2 (b c : Nat) : (b ^^^ c) % 2 = (b % 2 + c % 2) % 2 := by
  have := Nat.xor_mod_two_pow (a := b) (b := c) (n := 1)
  simp at this
  rw [this]
  rcases Nat.mod_two_eq_zero_or_one b with h | h <;> rcases Nat.mod_two_eq_zero_or_one c with g | g <;> rw [h, g] <;> rfl
theorem xor_div2 (b c : Nat) : (b ^^^ c) / 2 = (b / 2) ^^^ (c / 2) := by
  apply Nat.eq_of_testBit_eq
  intro i
  simp [Nat.testBit_div_two]
theorem two_mul_xor (b c : Nat) : 2 * (b ^^^ c) = (2 * b) ^^^ (2 * c) := by
  have := Nat.shiftLeft_xor_distrib (a := b) (b := c) (i := 1)
  simp only [Nat.shiftLeft_eq, Nat.pow_one] at this
  rw [Nat.mul_comm 2, Nat.mul_comm 2, Nat.mul_comm 2]
  exact this
theorem split2 (b : Nat) : b = (b % 2) ^^^ (2 * (b / 2)) := by
  apply Nat.eq_of_testBit_eq
  intro i
  cases i with
  | zero => simp [Nat.testBit_zero, Nat.mod_mod]
  | succ i =>
    rw [Nat.testBit_xor, Nat.testBit_succ, Nat.testBit_succ, Nat.testBit_succ]
    have h : b % 2 / 2 = 0 := by omega
    have g : 2 * (b / 2) / 2 = b / 2 := by omega
    rw [h, g]; simp
/-- the product, by n bits of b -/
def pm : Nat → Nat → Nat → Nat
  | 0, _, _ => 0
  | n + 1, a, b => (if b % 2 = 1 then a else 0) ^^^ (2 * pm n a (b / 2))
def mul (a b : Nat) : Nat := pm (b.log2 + 1) a b
theorem pm_zero_right (n a : Nat) : pm n a 0 = 0 := by
  induction n with
  | zero => rfl
  | succ n ih => simp [pm, ih]
theorem pm_zero_left (n b : Nat) : pm n 0 b = 0 := by
  induction n generalizing b with
  | zero => rfl
  | succ n ih => simp [pm, ih]
theorem pm_stable (n : Nat) : ∀ {k a b : Nat}, b < 2 ^ n → n ≤ k → pm k a b = pm n a b := by
  induction n with
  | zero =>
    intro k a b h _
    have : b = 0 := by simpa using h
    subst this
    rw [pm_zero_right, pm_zero_right]
  | succ n ih =>
    intro k a b h hk
    obtain ⟨k, rfl⟩ : ∃ j, k = j + 1 := ⟨k - 1, by omega⟩
    simp only [pm]
    rw [ih (a := a) (b := b / 2) (k := k) (by rw [Nat.pow_succ] at h; omega) (by omega)]
theorem lt_log2 (b : Nat) : b < 2 ^ (b.log2 + 1) := Nat.lt_log2_self
theorem pm_eq {n a b : Nat} (h : b < 2 ^ n) : pm n a b = mul a b := by
  unfold mul
  by_cases hk : n ≤ b.log2 + 1
  · exact (pm_stable n h hk).symm
  · exact pm_stable (b.log2 + 1) (lt_log2 b) (by omega)
theorem mul_zero (a : Nat) : mul a 0 = 0 := pm_zero_right _ _
theorem zero_mul (b : Nat) : mul 0 b = 0 := pm_zero_left _ _
theorem mul_step (a b : Nat) : mul a b = (if b % 2 = 1 then a else 0) ^^^ (2 * mul a (b / 2)) := by
  have h1 : b < 2 ^ (b.log2 + 2) := Nat.lt_of_lt_of_le (lt_log2 b) (Nat.pow_le_pow_right (by decide) (by omega))
  rw [← pm_eq h1]
  show (if b % 2 = 1 then a else 0) ^^^ (2 * pm (b.log2 + 1) a (b / 2)) = _
  rw [pm_eq (n := b.log2 + 1)]
  have := lt_log2 b
  omega
/-- an induction by halves -/
theorem half_ind {P : Nat → Prop} (h0 : P 0) (h : ∀ b, b ≠ 0 → P (b / 2) → P b) (b : Nat) : P b := by
  induction b using Nat.strongRecOn with
  | ind b ih =>
    by_cases hb : b = 0
    · subst hb; exact h0
    · exact h b hb (ih _ (by omega))
theorem if_xor_left (p q r : Prop) [Decidable p] [Decidable q] [Decidable r] (a : Nat) (h : r ↔ ¬ (p ↔ q)) : (if r then a else 0) = (if p then a else 0) ^^^ (if q then a else 0) := by
  by_cases hp : p <;> by_cases hq : q <;> simp_all
theorem mul_xor (a b c : Nat) : mul a (b ^^^ c) = mul a b ^^^ mul a c := by
  induction b using half_ind generalizing c with
  | h0 => rw [mul_zero, Nat.zero_xor, Nat.zero_xor]
  | h b hb ih =>
    rw [mul_step a (b ^^^ c), mul_step a b, mul_step a c, xor_div2, ih, two_mul_xor,
      if_xor_left (b % 2 = 1) (c % 2 = 1) ((b ^^^ c) % 2 = 1) a (by rw [xor_mod2]; omega)]
    ac_rfl
theorem xor_mul (a d b : Nat) : mul (a ^^^ d) b = mul a b ^^^ mul d b := by
  induction b using half_ind with
  | h0 => simp [mul_zero]
  | h b hb ih =>
    rw [mul_step (a ^^^ d) b, mul_step a b, mul_step d b, ih, two_mul_xor]
    by_cases h : b % 2 = 1
    · simp only [h, if_true]; ac_rfl
    · simp only [h, if_false, Nat.zero_xor]
theorem two_mul (a b : Nat) : mul (2 * a) b = 2 * mul a b := by
  induction b using half_ind with
  | h0 => simp [mul_zero]
  | h b hb ih =>
    rw [mul_step (2 * a) b, mul_step a b, ih, two_mul_xor]
    by_cases h : b % 2 = 1 <;> simp [h]
theorem mul_two (a b : Nat) : mul a (2 * b) = 2 * mul a b := by
  rw [mul_step a (2 * b)]
  have h1 : 2 * b % 2 = 0 := by omega
  have h2 : 2 * b / 2 = b := by omega
  rw [h1, h2]; simp
theorem mul_one (a : Nat) : mul a 1 = a := by
  rw [mul_step]; simp [mul_zero]
theorem one_mul (b : Nat) : mul 1 b = b := by
  induction b using half_ind with
  | h0 => exact mul_zero 1
  | h b hb ih =>
    rw [mul_step, ih]
    have := split2 b
    by_cases h : b % 2 = 1
    · rw [if_pos h]; rw [h] at this; exact this.symm
    · have h0 : b % 2 = 0 := by omega
      rw [if_neg h]; rw [h0] at this; exact this.symm
theorem mul_comm (a b : Nat) : mul a b = mul b a := by
  induction b using half_ind generalizing a with
  | h0 => rw [mul_zero, zero_mul]
  | h b hb ih =>
    rw [mul_step]
    conv => rhs; rw [split2 b, xor_mul, two_mul, ← ih]
    congr 1
    by_cases h : b % 2 = 1
    · rw [if_pos h, h, one_mul]
    · have h0 : b % 2 = 0 := by omega
      rw [if_neg h, h0, zero_mul]
theorem mul_assoc (a b c : Nat) : mul (mul a b) c = mul a (mul b c) := by
  induction c using half_ind with
  | h0 => simp [mul_zero]
  | h c hc ih =>
    rw [mul_step (mul a b) c, mul_step b c, mul_xor, mul_two, ih]
    by_cases h : c % 2 = 1
    · simp [h]
    · simp [h, mul_zero]
theorem mul_pow (a i : Nat) : mul a (2 ^ i) = 2 ^ i * a := by
  induction i with
  | zero => simp [mul_one]
  | succ i ih => rw [Nat.pow_succ, Nat.mul_comm (2 ^ i) 2, mul_two, ih]; rw [Nat.mul_assoc]
theorem pow_mul (i b : Nat) : mul (2 ^ i) b = 2 ^ i * b := by rw [mul_comm, mul_pow]
theorem xor_self_cancel (a b : Nat) : a ^^^ (a ^^^ b) = b := by rw [← Nat.xor_assoc, Nat.xor_self, Nat.zero_xor]
theorem xor_eq_iff {a b c : Nat} : a ^^^ b = c ↔ b = a ^^^ c := by
  constructor
  · intro h; rw [← h, xor_self_cancel]
  · intro h; rw [h, xor_self_cancel]
theorem xor_eq_zero {a b : Nat} (h : a ^^^ b = 0) : a = b := by
  have := xor_eq_iff.mp h
  rw [Nat.xor_zero] at this
  exact this.symm
theorem xor_lt {a b n : Nat} (ha : a < 2 ^ n) (hb : b < 2 ^ n) : a ^^^ b < 2 ^ n := Nat.xor_lt_two_pow ha hb
/-! ## Degrees: a is of the degree n if 2 ^ n ≤ a < 2 ^ (n + 1) -/
def Deg (a n : Nat) : Prop := 2 ^ n ≤ a ∧ a < 2 ^ (n + 1)
theorem deg_log {a : Nat} (h : a ≠ 0) : Deg a a.log2 := ⟨Nat.log2_self_le h, Nat.lt_log2_self⟩
theorem Deg.ne {a n : Nat} (h : Deg a n) : a ≠ 0 := by
  have := Nat.two_pow_pos n
  have := h.1
  omega
theorem Deg.log {a n : Nat} (h : Deg a n) : a.log2 = n := (Nat.log2_eq_iff h.ne).mpr h
theorem deg_top {a n : Nat} (h : a < 2 ^ (n + 1)) : Deg a n ↔ a.testBit n = true := by
  constructor
  · intro d
    rw [Nat.testBit_eq_decide_div_mod_eq]
    have : a / 2 ^ n = 1 := by
      rw [Nat.div_eq_of_lt_le (k := 1)]
      · rw [Nat.one_mul]; exact d.1
      · rw [Nat.pow_succ] at h; omega
    simp [this]
  · intro t
    exact ⟨Nat.ge_two_pow_of_testBit t, h⟩
/-- the top bits cancel -/
theorem deg_xor {a b n : Nat} (ha : Deg a n) (hb : Deg b n) : a ^^^ b < 2 ^ n := by
  apply Nat.lt_pow_two_of_testBit
  intro i hi
  rw [Nat.testBit_xor]
  by_cases e : i = n
  · subst e
    rw [(deg_top ha.2).mp ha, (deg_top hb.2).mp hb]; rfl
  · have : n + 1 ≤ i := by omega
    rw [Nat.testBit_lt_two_pow (Nat.lt_of_lt_of_le ha.2 (Nat.pow_le_pow_right (by decide) this)),
      Nat.testBit_lt_two_pow (Nat.lt_of_lt_of_le hb.2 (Nat.pow_le_pow_right (by decide) this))]; rfl
theorem deg_xor_lt {a b n : Nat} (ha : Deg a n) (hb : b < 2 ^ n) : Deg (a ^^^ b) n := by
  have hb' : b < 2 ^ (n + 1) := by rw [Nat.pow_succ]; omega
  rw [deg_top (xor_lt ha.2 hb'), Nat.testBit_xor, (deg_top ha.2).mp ha, Nat.testBit_lt_two_pow hb]
  rfl
theorem deg_shift {a n : Nat} (h : Deg a n) (i : Nat) : Deg (2 ^ i * a) (i + n) := by
  refine ⟨?_, ?_⟩
  · rw [Nat.pow_add]; exact Nat.mul_le_mul_left _ h.1
  · have := Nat.mul_lt_mul_of_pos_left h.2 (Nat.two_pow_pos i)
    rw [Nat.add_assoc, Nat.pow_add]; exact this
theorem mul_deg {a n : Nat} (ha : Deg a n) : ∀ {b k : Nat}, Deg b k → Deg (mul a b) (n + k) := by
  intro b k
  induction k generalizing b with
  | zero =>
    intro hb
    have : b = 1 := by have := hb.1; have := hb.2; simp at *; omega
    subst this
    rw [mul_one]; exact ha
  | succ k ih =>
    intro hb
    have h2 : Deg (b / 2) k := by
      have h1 := hb.1
      have h3 := hb.2
      rw [Nat.pow_succ] at h1 h3
      exact ⟨by omega, by omega⟩
    have h3 := deg_shift (ih h2) 1
    rw [mul_step, Nat.xor_comm]
    have e : 1 + (n + k) = n + (k + 1) := by omega
    rw [e] at h3
    rw [Nat.pow_one] at h3
    refine deg_xor_lt h3 ?_
    have hl : a < 2 ^ (n + (k + 1)) := Nat.lt_of_lt_of_le ha.2 (Nat.pow_le_pow_right (by decide) (by omega))
    by_cases hh : b % 2 = 1
    · rw [if_pos hh]; exact hl
    · rw [if_neg hh]; exact Nat.two_pow_pos _
theorem mul_log {a b : Nat} (ha : a ≠ 0) (hb : b ≠ 0) : (mul a b).log2 = a.log2 + b.log2 := (mul_deg (deg_log ha) (deg_log hb)).log
/-! ## Division -/
theorem div_unique {q k k' r r' : Nat} (hq : q ≠ 0) (hr : r < 2 ^ q.log2) (hr' : r' < 2 ^ q.log2) (h : mul k q ^^^ r = mul k' q ^^^ r') : k = k' ∧ r = r' := by
  have e : mul (k ^^^ k') q = r ^^^ r' := by
    rw [xor_mul]
    have h2 : mul k q ^^^ r ^^^ (mul k' q ^^^ r) = mul k' q ^^^ r' ^^^ (mul k' q ^^^ r) := by rw [h]
    have l : mul k q ^^^ r ^^^ (mul k' q ^^^ r) = mul k q ^^^ mul k' q := by
      rw [Nat.xor_assoc, Nat.xor_comm r, Nat.xor_assoc, Nat.xor_self, Nat.xor_zero]
    have rr : mul k' q ^^^ r' ^^^ (mul k' q ^^^ r) = r ^^^ r' := by
      rw [Nat.xor_comm (mul k' q) r', Nat.xor_assoc, xor_self_cancel, Nat.xor_comm]
    rw [l, rr] at h2
    exact h2
  by_cases hk : k ^^^ k' = 0
  · have := xor_eq_zero hk
    subst this
    rw [hk, zero_mul] at e
    exact ⟨rfl, xor_eq_zero e.symm⟩
  · have d := mul_deg (deg_log hk) (deg_log hq)
    rw [e] at d
    have l := xor_lt hr hr'
    have := d.1
    have m : 2 ^ q.log2 ≤ 2 ^ ((k ^^^ k').log2 + q.log2) := Nat.pow_le_pow_right (by decide) (by omega)
    omega
/-- quotient and rest, by n turns -/
def dm : Nat → Nat → Nat → Nat × Nat
  | 0, _, r => (0, r)
  | n + 1, q, r => if r.testBit (n + q.log2) then
      let z := dm n q (r ^^^ 2 ^ n * q)
      (2 ^ n ^^^ z.1, z.2)
    else dm n q r
theorem dm_spec {q : Nat} (hq : q ≠ 0) : ∀ (n r : Nat), r < 2 ^ (n + q.log2) → r = mul (dm n q r).1 q ^^^ (dm n q r).2 ∧ (dm n q r).2 < 2 ^ q.log2 := by
  intro n
  induction n with
  | zero => intro r h; simp [dm, zero_mul]; simpa using h
  | succ n ih =>
    intro r h
    have h' : r < 2 ^ (n + q.log2 + 1) := by
      have : n + 1 + q.log2 = n + q.log2 + 1 := by omega
      rw [← this]; exact h
    simp only [dm]
    by_cases t : r.testBit (n + q.log2) = true
    · rw [if_pos t]
      have dr : Deg r (n + q.log2) := (deg_top h').mpr t
      have dq := deg_shift (deg_log hq) n
      obtain ⟨e1, e2⟩ := ih _ (deg_xor dr dq)
      refine ⟨?_, e2⟩
      simp only []
      rw [xor_mul, pow_mul, Nat.xor_assoc, ← e1, Nat.xor_comm r, xor_self_cancel]
    · rw [if_neg t]
      refine ih r ?_
      rcases Nat.lt_or_ge r (2 ^ (n + q.log2)) with l | g
      · exact l
      · exact absurd ((deg_top h').mp ⟨g, h'⟩) t
def pdiv (p q : Nat) : Nat := (dm (p.log2 + 1) q p).1
def pmod (p q : Nat) : Nat := (dm (p.log2 + 1) q p).2
theorem dm_room (p q : Nat) : p < 2 ^ (p.log2 + 1 + q.log2) := Nat.lt_of_lt_of_le (lt_log2 p) (Nat.pow_le_pow_right (by decide) (by omega))
theorem div_eq {p q : Nat} (hq : q ≠ 0) : p = mul (pdiv p q) q ^^^ pmod p q := (dm_spec hq _ p (dm_room p q)).1
theorem mod_lt {p q : Nat} (hq : q ≠ 0) : pmod p q < 2 ^ q.log2 := (dm_spec hq _ p (dm_room p q)).2
theorem mod_of {p q k r : Nat} (hq : q ≠ 0) (hr : r < 2 ^ q.log2) (h : p = mul k q ^^^ r) : pdiv p q = k ∧ pmod p q = r :=
  div_unique hq (mod_lt hq) hr ((div_eq hq).symm.trans h)
theorem mod_small {p q : Nat} (hq : q ≠ 0) (h : p < 2 ^ q.log2) : pmod p q = p := (mod_of (k := 0) hq h (by rw [zero_mul, Nat.zero_xor])).2
theorem mod_xor {a b q : Nat} (hq : q ≠ 0) : pmod (a ^^^ b) q = pmod a q ^^^ pmod b q := by
  refine (mod_of (k := pdiv a q ^^^ pdiv b q) hq (xor_lt (mod_lt hq) (mod_lt hq)) ?_).2
  rw [xor_mul]
  conv => lhs; rw [div_eq (p := a) hq, div_eq (p := b) hq]
  ac_rfl
theorem mod_mul_self {k q : Nat} (hq : q ≠ 0) : pmod (mul k q) q = 0 :=
  (mod_of (k := k) hq (Nat.two_pow_pos _) (by rw [Nat.xor_zero])).2
theorem mod_mod {p q : Nat} (hq : q ≠ 0) : pmod (pmod p q) q = pmod p q := mod_small hq (mod_lt hq)
theorem mod_mul_left {a b q : Nat} (hq : q ≠ 0) : pmod (mul (pmod a q) b) q = pmod (mul a b) q := by
  conv => rhs; rw [div_eq (p := a) hq, xor_mul, mod_xor hq, mul_assoc, mul_comm q b, ← mul_assoc, mod_mul_self hq, Nat.zero_xor]
theorem mod_mul_right {a b q : Nat} (hq : q ≠ 0) : pmod (mul a (pmod b q)) q = pmod (mul a b) q := by
  rw [mul_comm, mod_mul_left hq, mul_comm]
/-! ## Divisors -/
def Dvd (q p : Nat) : Prop := ∃ k, p = mul k q
theorem dvd_mod {q p : Nat} (hq : q ≠ 0) : Dvd q p ↔ pmod p q = 0 := by
  constructor
  · rintro ⟨k, rfl⟩; exact mod_mul_self hq
  · intro h
    exact ⟨pdiv p q, by have := div_eq (p := p) hq; rw [h, Nat.xor_zero] at this; exact this⟩
theorem Dvd.xor {q a b : Nat} (ha : Dvd q a) (hb : Dvd q b) : Dvd q (a ^^^ b) := by
  obtain ⟨k, rfl⟩ := ha
  obtain ⟨l, rfl⟩ := hb
  exact ⟨k ^^^ l, by rw [xor_mul]⟩
theorem Dvd.mul {q a : Nat} (c : Nat) (ha : Dvd q a) : Dvd q (GF.mul c a) := by
  obtain ⟨k, rfl⟩ := ha
  exact ⟨GF.mul c k, by rw [mul_assoc]⟩
theorem Dvd.trans {a b c : Nat} (h : Dvd a b) (g : Dvd b c) : Dvd a c := by
  obtain ⟨k, rfl⟩ := g
  exact h.mul k
theorem dvd_self (a : Nat) : Dvd a a := ⟨1, (one_mul a).symm⟩
theorem dvd_zero (a : Nat) : Dvd a 0 := ⟨0, (zero_mul a).symm⟩
theorem Dvd.le {q p : Nat} (h : Dvd q p) (hp : p ≠ 0) : q.log2 ≤ p.log2 ∧ q ≠ 0 := by
  obtain ⟨k, rfl⟩ := h
  have hk : k ≠ 0 := fun e => hp (by rw [e, zero_mul])
  have hq : q ≠ 0 := fun e => hp (by rw [e, mul_zero])
  rw [mul_log hk hq]
  exact ⟨by omega, hq⟩
theorem dvd_mod_iff {d p q : Nat} (hq : q ≠ 0) (hd : Dvd d q) : Dvd d (pmod p q) ↔ Dvd d p := by
  have e := div_eq (p := p) hq
  constructor
  · intro h
    rw [e]
    exact (hd.mul _).xor h
  · intro h
    have e2 : pmod p q = mul (pdiv p q) q ^^^ p := by rw [eq_comm, xor_eq_iff]; exact e
    rw [e2]
    exact (hd.mul _).xor h
/-! ## The common divisor -/
def gcdF : Nat → Nat → Nat → Nat
  | 0, a, _ => a
  | n + 1, a, b => if b = 0 then a else gcdF n b (pmod a b)
/-- the measure: one more than the degree, 0 for 0 -/
def siz (b : Nat) : Nat := if b = 0 then 0 else b.log2 + 1
theorem siz_le {b n : Nat} : siz b ≤ n ↔ b < 2 ^ n := by
  unfold siz
  by_cases h : b = 0
  · subst h; simp [Nat.two_pow_pos]
  · rw [if_neg h]
    constructor
    · intro k; exact Nat.lt_of_lt_of_le (lt_log2 b) (Nat.pow_le_pow_right (by decide) k)
    · intro k
      have := (Nat.log2_lt h).mpr k
      omega
theorem siz_mod {a b : Nat} (hb : b ≠ 0) : siz (pmod a b) < siz b := by
  have : siz (pmod a b) ≤ b.log2 := siz_le.mpr (mod_lt hb)
  unfold siz at *
  rw [if_neg hb]
  omega
def gcd (a b : Nat) : Nat := gcdF (siz b) a b
theorem gcdF_zero (n a : Nat) : gcdF n a 0 = a := by cases n <;> simp [gcdF]
theorem gcdF_stable : ∀ (n k a b : Nat), siz b ≤ n → siz b ≤ k → gcdF n a b = gcdF k a b := by
  intro n
  induction n with
  | zero =>
    intro k a b h _
    have : b = 0 := by simpa using siz_le.mp h
    subst this
    rw [gcdF_zero, gcdF_zero]
  | succ n ih =>
    intro k a b h hk
    by_cases hb : b = 0
    · subst hb; rw [gcdF_zero, gcdF_zero]
    · have hm := siz_mod (a := a) hb
      obtain ⟨k, rfl⟩ : ∃ j, k = j + 1 := ⟨k - 1, by omega⟩
      simp only [gcdF, if_neg hb]
      exact ih k _ _ (by omega) (by omega)
theorem gcd_zero (a : Nat) : gcd a 0 = a := gcdF_zero _ _
theorem gcd_step (a : Nat) {b : Nat} (hb : b ≠ 0) : gcd a b = gcd b (pmod a b) := by
  have hm := siz_mod (a := a) hb
  unfold gcd
  obtain ⟨n, e⟩ : ∃ n, siz b = n + 1 := ⟨siz b - 1, by omega⟩
  rw [e]
  simp only [gcdF, if_neg hb]
  exact gcdF_stable _ _ _ _ (by omega) (by omega)
theorem gcd_ind {P : Nat → Nat → Prop} (h0 : ∀ a, P a 0) (h : ∀ a b, b ≠ 0 → P b (pmod a b) → P a b) (a b : Nat) : P a b := by
  generalize e : siz b = n
  induction n using Nat.strongRecOn generalizing a b with
  | ind n ih =>
    by_cases hb : b = 0
    · subst hb; exact h0 a
    · exact h a b hb (ih _ (by have := siz_mod (a := a) hb; omega) _ _ rfl)
theorem gcd_dvd (a b : Nat) : Dvd (gcd a b) a ∧ Dvd (gcd a b) b := by
  induction a, b using gcd_ind with
  | h0 a => rw [gcd_zero]; exact ⟨dvd_self a, dvd_zero a⟩
  | h a b hb ih =>
    rw [gcd_step a hb]
    exact ⟨(dvd_mod_iff hb ih.1).mp ih.2, ih.1⟩
theorem dvd_gcd {d : Nat} (a b : Nat) : Dvd d a → Dvd d b → Dvd d (gcd a b) := by
  induction a, b using gcd_ind with
  | h0 a => intro h _; rw [gcd_zero]; exact h
  | h a b hb ih =>
    intro h1 h2
    rw [gcd_step a hb]
    exact ih h2 ((dvd_mod_iff hb h2).mpr h1)
theorem bezout (a b : Nat) : ∃ u v, gcd a b = mul u a ^^^ mul v b := by
  induction a, b using gcd_ind with
  | h0 a => exact ⟨1, 0, by rw [gcd_zero, one_mul, zero_mul, Nat.xor_zero]⟩
  | h a b hb ih =>
    obtain ⟨u, v, e⟩ := ih
    refine ⟨v, u ^^^ mul v (pdiv a b), ?_⟩
    rw [gcd_step a hb, e]
    have e2 : pmod a b = mul (pdiv a b) b ^^^ a := by rw [eq_comm, xor_eq_iff]; exact div_eq hb
    rw [e2, mul_xor, xor_mul, mul_assoc]
    ac_rfl
/-! ## Irreducible ones -/
/-- no divisor of a degree from 1 to half the degree -/
def Irr (p : Nat) : Prop := 2 ≤ p ∧ ∀ q, 2 ≤ q → q.log2 ≤ p.log2 / 2 → ¬ Dvd q p
theorem log_pos {q : Nat} (h : 2 ≤ q) : 1 ≤ q.log2 := by
  rw [Nat.le_log2 (by omega)]; omega
theorem Irr.only {p q : Nat} (h : Irr p) (hd : Dvd q p) : q = 1 ∨ q.log2 = p.log2 := by
  have hp : p ≠ 0 := by have := h.1; omega
  obtain ⟨hl, hq⟩ := hd.le hp
  by_cases h1 : q = 1
  · exact .inl h1
  · right
    obtain ⟨k, e⟩ := hd
    have hk : k ≠ 0 := fun z => hp (by rw [e, z, zero_mul])
    have el : p.log2 = k.log2 + q.log2 := by rw [e, mul_log hk hq]
    by_cases k1 : k = 1
    · subst k1; rw [one_mul] at e; rw [e]
    · exfalso
      by_cases hh : q.log2 ≤ p.log2 / 2
      · exact h.2 q (by omega) hh ⟨k, e⟩
      · exact h.2 k (by omega) (by omega) ⟨q, by rw [mul_comm]; exact e⟩
theorem dvd_same {p q : Nat} (hp : p ≠ 0) (hd : Dvd q p) (h : q.log2 = p.log2) : q = p := by
  obtain ⟨k, e⟩ := hd
  have hk : k ≠ 0 := fun z => hp (by rw [e, z, zero_mul])
  have hq : q ≠ 0 := fun z => hp (by rw [e, z, mul_zero])
  have el : p.log2 = k.log2 + q.log2 := by
    conv => lhs; rw [e]
    exact mul_log hk hq
  have : k.log2 = 0 := by omega
  have k1 : k = 1 := by
    have d := deg_log hk
    rw [this] at d
    have a := d.1; have b := d.2
    simp at a b
    omega
  rw [e, k1, one_mul]
theorem Irr.prime {p a b : Nat} (h : Irr p) (hd : Dvd p (mul a b)) : Dvd p a ∨ Dvd p b := by
  have hp : p ≠ 0 := by have := h.1; omega
  have g := gcd_dvd p a
  rcases h.only g.1 with e | e
  · right
    obtain ⟨u, v, z⟩ := bezout p a
    rw [e] at z
    have : b = mul (mul u b) p ^^^ mul v (mul a b) := by
      have : mul 1 b = mul (mul u p ^^^ mul v a) b := by rw [← z]
      rw [one_mul, xor_mul, mul_assoc, mul_assoc, mul_comm p b, ← mul_assoc] at this
      exact this
    rw [this]
    exact ((dvd_self p).mul _).xor (hd.mul _)
  · left
    have : gcd p a = p := dvd_same hp g.1 e
    rw [this] at g
    exact g.2
theorem irr_or {p : Nat} (h2 : 2 ≤ p) (h : ¬ Irr p) : ∃ q, 2 ≤ q ∧ q.log2 ≤ p.log2 / 2 ∧ Dvd q p ∧ Irr q := by
  -- the least divisor
  have ex : ∃ q, 2 ≤ q ∧ q.log2 ≤ p.log2 / 2 ∧ Dvd q p := by
    apply Classical.byContradiction
    intro n
    refine h ⟨h2, fun q h1 h3 h4 => n ⟨q, h1, h3, h4⟩⟩
  obtain ⟨q, h1, h3, h4⟩ := ex
  induction q using Nat.strongRecOn with
  | ind q ih =>
    by_cases hi : Irr q
    · exact ⟨q, h1, h3, h4, hi⟩
    · have ex2 : ∃ r, 2 ≤ r ∧ r.log2 ≤ q.log2 / 2 ∧ Dvd r q := by
        apply Classical.byContradiction
        intro n
        refine hi ⟨h1, fun q h1 h3 h4 => n ⟨q, h1, h3, h4⟩⟩
      obtain ⟨r, r1, r2, r3⟩ := ex2
      refine ih r ?_ r1 (by omega) (r3.trans h4)
      have hq1 := log_pos h1
      have : r < 2 ^ q.log2 := (Nat.log2_lt (by omega)).mp (by omega)
      have := Nat.log2_self_le (n := q) (by omega)
      omega
end GF
namespace GF
/-! # The test of irreducibility -/
def irrB (p : Nat) : Bool := decide (2 ≤ p) && (List.range (2 ^ (p.log2 / 2 + 1))).all fun q => decide (q < 2) || decide (pmod p q ≠ 0)
theorem irrB_iff {p : Nat} : irrB p = true ↔ Irr p := by
  unfold irrB Irr
  rw [Bool.and_eq_true, decide_eq_true_eq, List.all_eq_true]
  constructor
  · rintro ⟨h1, h2⟩
    refine ⟨h1, fun q hq hl hd => ?_⟩
    have hm : q ∈ List.range (2 ^ (p.log2 / 2 + 1)) := by
      rw [List.mem_range]
      exact (Nat.log2_lt (by omega)).mp (by omega)
    have := h2 q hm
    rw [Bool.or_eq_true, decide_eq_true_eq, decide_eq_true_eq] at this
    rcases this with h | h
    · omega
    · exact h ((dvd_mod (by omega)).mp hd)
  · rintro ⟨h1, h2⟩
    refine ⟨h1, fun q hq => ?_⟩
    rw [List.mem_range] at hq
    rw [Bool.or_eq_true, decide_eq_true_eq, decide_eq_true_eq]
    by_cases h : q < 2
    · exact .inl h
    · right
      intro e
      refine h2 q (by omega) ?_ ((dvd_mod (by omega)).mpr e)
      have := (Nat.log2_lt (n := q) (by omega)).mpr hq
      omega
/-- x ** (2 ** k) + x -/
def fk (k : Nat) : Nat := 2 ^ 2 ^ k ^^^ 2
theorem fact1 : (List.range 512).all (fun q => !irrB q || decide (pmod (fk q.log2) q = 0)) = true := by decide +kernel
def fs : Nat → List Nat
  | 1 => [2, 3]
  | 2 => [2, 3, 7]
  | 3 => [2, 3, 11, 13]
  | 4 => [2, 3, 7, 19, 25, 31]
  | 5 => [2, 3, 37, 41, 47, 55, 59, 61]
  | 6 => [2, 3, 7, 11, 13, 67, 73, 87, 91, 97, 103, 109, 115, 117]
  | 7 => [2, 3, 131, 137, 143, 145, 157, 167, 171, 185, 191, 193, 203, 211, 213, 229, 239, 241, 247, 253]
  | 8 => [2, 3, 7, 19, 25, 31, 283, 285, 299, 301, 313, 319, 333, 351, 355, 357, 361, 369, 375, 379, 391, 395, 397, 415, 419, 425, 433, 445, 451, 463, 471, 477, 487, 499, 501, 505]
  | _ => []
def prod (l : List Nat) : Nat := l.foldr mul 1
theorem fact2 : [1, 2, 3, 4, 5, 6, 7, 8].all (fun k => decide (prod (fs k) = fk k) && (fs k).all fun f => decide (2 ≤ f) && decide (f.log2 ≤ k)) = true := by decide +kernel
theorem Irr.prod {p : Nat} (h : Irr p) : ∀ {l : List Nat}, Dvd p (GF.prod l) → ∃ f ∈ l, Dvd p f
  | [], hd => by
    have := hd.le (show GF.prod [] ≠ 0 by decide)
    have h1 := log_pos h.1
    have h2 : (GF.prod []).log2 = 0 := by decide
    omega
  | f :: l, hd => by
    rcases h.prime (a := f) (b := GF.prod l) hd with g | g
    · exact ⟨f, List.mem_cons_self, g⟩
    · obtain ⟨f', m, d⟩ := h.prod g
      exact ⟨f', List.mem_cons_of_mem _ m, d⟩
/-- the powers of the test -/
def fr : Nat → Nat → Nat
  | 0, _ => 2
  | k + 1, p => pmod (mul (fr k p) (fr k p)) p
theorem fr_mod {p : Nat} (hp : p ≠ 0) (k : Nat) : pmod (fr k p) p = pmod (2 ^ 2 ^ k) p := by
  induction k with
  | zero => rfl
  | succ k ih =>
    have e : (2 : Nat) ^ 2 ^ (k + 1) = mul (2 ^ 2 ^ k) (2 ^ 2 ^ k) := by
      rw [mul_pow, ← Nat.pow_add]; congr 1; omega
    rw [e]
    show pmod (pmod (mul (fr k p) (fr k p)) p) p = _
    rw [mod_mod hp, ← mod_mul_left hp, ih, mod_mul_left hp, ← mod_mul_right hp, ih, mod_mul_right hp]
theorem dvd_fr {p d : Nat} (hp : p ≠ 0) (hd : Dvd d p) (k : Nat) : Dvd d (fr k p ^^^ 2) ↔ Dvd d (fk k) := by
  rw [← dvd_mod_iff hp hd, ← dvd_mod_iff (p := fk k) hp hd]
  unfold fk
  rw [mod_xor hp, mod_xor hp, fr_mod hp]
/-- what the test says -/
def Test (p : Nat) : Prop := ∀ k, 1 ≤ k → k ≤ p.log2 / 2 → gcd (fr k p ^^^ 2) p = 1
theorem test_of_irr {p : Nat} (h : Irr p) (hp : p < 131072) : Test p := by
  intro k k1 k2
  have hp0 : p ≠ 0 := by have := h.1; omega
  have hlog : p.log2 < 17 := (Nat.log2_lt hp0).mpr hp
  obtain ⟨g1, g2⟩ := gcd_dvd (fr k p ^^^ 2) p
  rcases h.only g2 with e | e
  · exact e
  · exfalso
    have e2 := dvd_same hp0 g2 e
    rw [e2, dvd_fr hp0 (dvd_self p)] at g1
    have f2 := List.all_eq_true.mp fact2 k (by
      have : k ≤ 8 := by omega
      simp; omega)
    rw [Bool.and_eq_true, decide_eq_true_eq, List.all_eq_true] at f2
    rw [← f2.1] at g1
    obtain ⟨f, hm, hd⟩ := h.prod g1
    have f3 := f2.2 f hm
    rw [Bool.and_eq_true, decide_eq_true_eq, decide_eq_true_eq] at f3
    have := (hd.le (by omega)).1
    have := log_pos h.1
    omega
theorem irr_of_test {p : Nat} (h2 : 2 ≤ p) (hp : p < 131072) (h : Test p) : Irr p := by
  apply Classical.byContradiction
  intro n
  obtain ⟨q, q2, ql, qd, qi⟩ := irr_or h2 n
  have hp0 : p ≠ 0 := by omega
  have hlog : p.log2 < 17 := (Nat.log2_lt hp0).mpr hp
  have hq : q < 512 := by
    have := (Nat.log2_lt (n := q) (k := 9) (by omega)).mp (by omega)
    omega
  have f1 := List.all_eq_true.mp fact1 q (List.mem_range.mpr hq)
  rw [irrB_iff.mpr qi] at f1
  simp only [Bool.not_true, Bool.false_or, decide_eq_true_eq] at f1
  have hd : Dvd q (fk q.log2) := (dvd_mod (by omega)).mpr f1
  have := h q.log2 (log_pos q2) ql
  have g := dvd_gcd (fr q.log2 p ^^^ 2) p ((dvd_fr hp0 qd _).mpr hd) qd
  rw [this] at g
  have := (g.le (by decide)).1
  have h1 : Nat.log2 1 = 0 := by decide
  have := log_pos q2
  omega
end GF
namespace FLD
open GF
def mulm (q a b : Nat) : Nat := pmod (GF.mul a b) q
def pw (q e : Nat) : Nat → Nat
  | 0 => 1
  | k + 1 => mulm q (pw q e k) e
/-- a field of 2 ^ m elements -/
structure Fd (m q : Nat) : Prop where
  h2 : 2 ≤ m
  h8 : m ≤ 8
  irr : Irr q
  lg : q.log2 = m
section
variable {m q : Nat} (F : Fd m q)
include F
theorem q0 : q ≠ 0 := by have := F.irr.1; omega
theorem q_lt : q < 2 ^ (m + 1) := by have := Nat.lt_log2_self (n := q); rw [F.lg] at this; exact this
theorem q_512 : q < 512 := Nat.lt_of_lt_of_le (q_lt F) (Nat.le_trans (Nat.pow_le_pow_right (by decide) (show m + 1 ≤ 9 by have := F.h8; omega)) (by decide))
theorem mulm_lt (a b : Nat) : mulm q a b < 2 ^ m := by have := mod_lt (p := GF.mul a b) (q0 F); rw [F.lg] at this; exact this
omit F in
theorem mulm_comm (a b : Nat) : mulm q a b = mulm q b a := by unfold mulm; rw [GF.mul_comm]
theorem mulm_assoc (a b c : Nat) : mulm q (mulm q a b) c = mulm q a (mulm q b c) := by
  unfold mulm; rw [mod_mul_left (q0 F), mod_mul_right (q0 F), GF.mul_assoc]
theorem mulm_xor (a b c : Nat) : mulm q a (b ^^^ c) = mulm q a b ^^^ mulm q a c := by unfold mulm; rw [GF.mul_xor, mod_xor (q0 F)]
theorem xor_mulm (a b c : Nat) : mulm q (a ^^^ b) c = mulm q a c ^^^ mulm q b c := by unfold mulm; rw [GF.xor_mul, mod_xor (q0 F)]
theorem mulm_small {a : Nat} (h : a < 2 ^ m) : pmod a q = a := mod_small (q0 F) (by rw [F.lg]; exact h)
theorem mulm_one {a : Nat} (h : a < 2 ^ m) : mulm q a 1 = a := by unfold mulm; rw [GF.mul_one, mulm_small F h]
theorem one_mulm {a : Nat} (h : a < 2 ^ m) : mulm q 1 a = a := by rw [mulm_comm, mulm_one F h]
theorem mulm_zero (a : Nat) : mulm q a 0 = 0 := by unfold mulm; rw [GF.mul_zero, mulm_small F (Nat.two_pow_pos _)]
theorem zero_mulm (a : Nat) : mulm q 0 a = 0 := by rw [mulm_comm, mulm_zero F]
theorem small_dvd {a : Nat} (h : a < 2 ^ m) (hd : Dvd q a) : a = 0 := by
  have := (dvd_mod (q0 F)).mp hd
  rw [mulm_small F h] at this; exact this
theorem mulm_eq_zero {a b : Nat} (ha : a < 2 ^ m) (hb : b < 2 ^ m) (h : mulm q a b = 0) : a = 0 ∨ b = 0 := by
  rcases F.irr.prime ((dvd_mod (q0 F)).mpr h) with d | d
  · exact .inl (small_dvd F ha d)
  · exact .inr (small_dvd F hb d)
theorem mulm_ne {a b : Nat} (ha : a < 2 ^ m) (hb : b < 2 ^ m) (ha0 : a ≠ 0) (hb0 : b ≠ 0) : mulm q a b ≠ 0 := fun h => by
  rcases mulm_eq_zero F ha hb h with d | d
  · exact ha0 d
  · exact hb0 d
theorem mulm_cancel {a b c : Nat} (ha : a < 2 ^ m) (hb : b < 2 ^ m) (hc : c < 2 ^ m) (hc0 : c ≠ 0) (h : mulm q a c = mulm q b c) : a = b := by
  have e : mulm q (a ^^^ b) c = 0 := by rw [xor_mulm F, h, Nat.xor_self]
  rcases mulm_eq_zero F (xor_lt ha hb) hc e with d | d
  · exact xor_eq_zero d
  · exact absurd d hc0
theorem one_lt : 1 < 2 ^ m := Nat.lt_of_lt_of_le (by decide) (Nat.pow_le_pow_right (by decide) F.h2)
theorem pw_lt (e k : Nat) : pw q e k < 2 ^ m := by
  cases k with
  | zero => exact one_lt F
  | succ k => exact mulm_lt F _ _
theorem pw_ne {e : Nat} (he : e < 2 ^ m) (h0 : e ≠ 0) (k : Nat) : pw q e k ≠ 0 := by
  induction k with
  | zero => exact Nat.one_ne_zero
  | succ k ih => exact mulm_ne F (pw_lt F e k) he ih h0
theorem pw_add (e i k : Nat) : pw q e (i + k) = mulm q (pw q e i) (pw q e k) := by
  induction k with
  | zero => exact (mulm_one F (pw_lt F e i)).symm
  | succ k ih =>
    show mulm q (pw q e (i + k)) e = mulm q (pw q e i) (mulm q (pw q e k) e)
    rw [ih, mulm_assoc F]
theorem pw_one (k : Nat) : pw q 1 k = 1 := by
  induction k with
  | zero => rfl
  | succ k ih => show mulm q (pw q 1 k) 1 = 1; rw [ih, mulm_one F (one_lt F)]
theorem pw_pw (e j k : Nat) : pw q (pw q e j) k = pw q e (j * k) := by
  induction k with
  | zero => rfl
  | succ k ih =>
    show mulm q (pw q (pw q e j) k) (pw q e j) = _
    rw [ih, Nat.mul_succ, pw_add F]
theorem pw_first {e : Nat} (he : e < 2 ^ m) : pw q e 1 = e := one_mulm F he
/-- r has just 2 ^ m - 1 different powers -/
structure IsRoot (m q r : Nat) : Prop where
  lt : r < 2 ^ m
  ge : 2 ≤ r
  one : pw q r (2 ^ m - 1) = 1
  no : ∀ k, 1 ≤ k → k < 2 ^ m - 1 → pw q r k ≠ 1
end
theorem nodup_bound : ∀ (n : Nat) (l : List Nat), l.Nodup → (∀ x ∈ l, 1 ≤ x ∧ x ≤ n) → l.length ≤ n
  | 0, l, _, h => by
    cases l with
    | nil => exact Nat.le_refl 0
    | cons x r => have := h x List.mem_cons_self; omega
  | n + 1, l, hn, h => by
    by_cases hm : (n + 1) ∈ l
    · have e := List.length_erase_of_mem hm
      have := nodup_bound n (l.erase (n + 1)) (hn.erase _) (fun x hx => by
        rw [hn.mem_erase_iff] at hx
        have := h x hx.2
        have := hx.1
        omega)
      omega
    · have := nodup_bound n l hn (fun x hx => by
        have := h x hx
        have : x ≠ n + 1 := fun e => hm (e ▸ hx)
        omega)
      omega
section
variable {m q r : Nat} (F : Fd m q) (R : IsRoot m q r)
include F R
theorem r0 : r ≠ 0 := by have := R.ge; omega
theorem pw_inj_lt {i j : Nat} (hij : i < j) (hj : j < 2 ^ m - 1) : pw q r i ≠ pw q r j := fun e => by
  have h1 : pw q r j = mulm q (pw q r (j - i)) (pw q r i) := by rw [mulm_comm, ← pw_add F]; congr 1; omega
  have h2 : mulm q 1 (pw q r i) = mulm q (pw q r (j - i)) (pw q r i) := by rw [one_mulm F (pw_lt F r i), ← h1, e]
  have h3 := mulm_cancel F (one_lt F) (pw_lt F r (j - i)) (pw_lt F r i) (pw_ne F R.lt (r0 F R) i) h2
  exact R.no (j - i) (by omega) (by omega) h3.symm
theorem pw_inj {i j : Nat} (hi : i < 2 ^ m - 1) (hj : j < 2 ^ m - 1) (h : pw q r i = pw q r j) : i = j := by
  rcases Nat.lt_trichotomy i j with l | e | g
  · exact absurd h (pw_inj_lt F R l hj)
  · exact e
  · exact absurd h.symm (pw_inj_lt F R g hi)
theorem pw_nodup : ((List.range (2 ^ m - 1)).map (pw q r)).Nodup := by
  refine List.pairwise_map.mpr (List.Pairwise.imp_of_mem (fun {a b} ha hb h => ?_) List.pairwise_lt_range)
  exact pw_inj_lt F R h (List.mem_range.mp hb)
theorem log_ex {e : Nat} (h0 : e ≠ 0) (h : e < 2 ^ m) : ∃ j, j < 2 ^ m - 1 ∧ pw q r j = e := by
  apply Classical.byContradiction
  intro n
  have hm : e ∉ (List.range (2 ^ m - 1)).map (pw q r) := fun z => by
    obtain ⟨j, hj, ej⟩ := List.mem_map.mp z
    exact n ⟨j, List.mem_range.mp hj, ej⟩
  have := nodup_bound (2 ^ m - 1) (e :: (List.range (2 ^ m - 1)).map (pw q r)) (List.nodup_cons.mpr ⟨hm, pw_nodup F R⟩) (fun x hx => by
    rcases List.mem_cons.mp hx with z | z
    · subst z; omega
    · obtain ⟨j, hj, ej⟩ := List.mem_map.mp z
      have h1 := pw_lt F r j
      have h2 := pw_ne F R.lt (r0 F R) j
      omega)
  rw [List.length_cons, List.length_map, List.length_range] at this
  omega
theorem pw_turn (k : Nat) : pw q r ((2 ^ m - 1) * k) = 1 := by rw [← pw_pw F, R.one, pw_one F]
theorem pw_mod (k : Nat) : pw q r k = pw q r (k % (2 ^ m - 1)) := by
  conv => lhs; rw [← Nat.div_add_mod k (2 ^ m - 1), pw_add F, pw_turn F R, one_mulm F (pw_lt F r _)]
theorem pw_one_iff (k : Nat) : pw q r k = 1 ↔ (2 ^ m - 1) ∣ k := by
  have hN : 0 < 2 ^ m - 1 := by have := one_lt F; omega
  constructor
  · intro h
    rw [pw_mod F R] at h
    by_cases z : k % (2 ^ m - 1) = 0
    · exact Nat.dvd_of_mod_eq_zero z
    · exact absurd h (R.no _ (by omega) (Nat.mod_lt _ hN))
  · rintro ⟨c, rfl⟩; exact pw_turn F R c
theorem pw_all {e : Nat} (h0 : e ≠ 0) (h : e < 2 ^ m) : pw q e (2 ^ m - 1) = 1 := by
  obtain ⟨j, hj, rfl⟩ := log_ex F R h0 h
  rw [pw_pw F, Nat.mul_comm, pw_turn F R]
end
/-! ### there is a root -/
def ordL (q r : Nat) : Nat → Nat → Bool
  | 0, p => p == 1
  | n + 1, p => p != 1 && ordL q r n (mulm q p r)
theorem ordL_ok {q r : Nat} : ∀ (n k : Nat), ordL q r n (pw q r k) = true → pw q r (k + n) = 1 ∧ ∀ i, k ≤ i → i < k + n → pw q r i ≠ 1
  | 0, k, h => ⟨by simpa [ordL] using h, fun i h1 h2 => by omega⟩
  | n + 1, k, h => by
    simp only [ordL, Bool.and_eq_true, bne_iff_ne] at h
    obtain ⟨h1, h2⟩ := ordL_ok n (k + 1) h.2
    refine ⟨by rw [show k + (n + 1) = k + 1 + n by omega]; exact h1, fun i h3 h4 => ?_⟩
    by_cases e : i = k
    · subst e; exact h.1
    · exact h2 i (by omega) (by omega)
def rootTab : List (Nat × Nat) := [(7, 2), (11, 2), (13, 2), (19, 2), (25, 2), (31, 3), (37, 2), (41, 2), (47, 2), (55, 2), (59, 2), (61, 2), (67, 2), (73, 3), (87, 3), (91, 2), (97, 2), (103, 2), (109, 2), (115, 2), (117, 3), (131, 2), (137, 2), (143, 2), (145, 2), (157, 2), (167, 2), (171, 2), (185, 2), (191, 2), (193, 2), (203, 2), (211, 2), (213, 2), (229, 2), (239, 2), (241, 2), (247, 2), (253, 2), (283, 3), (285, 2), (299, 2), (301, 2), (313, 3), (319, 3), (333, 2), (351, 2), (355, 2), (357, 2), (361, 2), (369, 2), (375, 3), (379, 9), (391, 2), (395, 6), (397, 2), (415, 3), (419, 3), (425, 2), (433, 6), (445, 7), (451, 2), (463, 2), (471, 7), (477, 6), (487, 2), (499, 6), (501, 2), (505, 3)]
def rootB (q r : Nat) : Bool := decide (2 ≤ r) && decide (r < 2 ^ q.log2) && decide (pw q r 1 = r) && ordL q r (2 ^ q.log2 - 2) r
theorem rootB_ok {m q r : Nat} (F : Fd m q) (h : rootB q r = true) : IsRoot m q r := by
  unfold rootB at h
  simp only [Bool.and_eq_true, decide_eq_true_eq, F.lg] at h
  obtain ⟨⟨⟨h1, h2⟩, h3⟩, h4⟩ := h
  rw [← h3] at h4
  have h5 : ordL q r (2 ^ m - 2) (pw q r 1) = true := by
    rw [h3] at h4 ⊢
    exact h4
  obtain ⟨a, b⟩ := ordL_ok _ 1 h5
  have := one_lt F
  have hp : 2 ^ 2 ≤ 2 ^ m := Nat.pow_le_pow_right (by decide) F.h2
  refine ⟨h2, h1, ?_, fun k k1 k2 => b k k1 (by omega)⟩
  rw [show 2 ^ m - 1 = 1 + (2 ^ m - 2) by omega]; exact a
theorem fact4 : (List.range 512).all (fun q => !irrB q || decide (q.log2 < 2) || (match rootTab.lookup q with | some r => rootB q r | none => false)) = true := by decide +kernel
theorem root_ex {m q : Nat} (F : Fd m q) : ∃ r, IsRoot m q r := by
  have f := List.all_eq_true.mp fact4 q (List.mem_range.mpr (q_512 F))
  rw [irrB_iff.mpr F.irr] at f
  have h2 : ¬ q.log2 < 2 := by rw [F.lg]; have := F.h2; omega
  simp only [Bool.not_true, Bool.false_or, decide_eq_false h2] at f
  split at f
  · rename_i r _; exact ⟨r, rootB_ok F f⟩
  · cases f
theorem find_least (p : Nat → Prop) : ∀ n, p n → ∃ k, p k ∧ ∀ i, i < k → ¬ p i := fun n => by
  induction n using Nat.strongRecOn with
  | ind n ih =>
    intro h
    by_cases c : ∃ i, i < n ∧ p i
    · obtain ⟨i, h1, h2⟩ := c
      exact ih i h1 h2
    · exact ⟨n, h, fun i h1 h2 => c ⟨i, h1, h2⟩⟩
/-- the least root -/
def LeastRoot (m q r : Nat) : Prop := IsRoot m q r ∧ ∀ e, e < r → ¬ IsRoot m q e
theorem least_ex {m q : Nat} (F : Fd m q) : ∃ r, LeastRoot m q r := by
  obtain ⟨r, h⟩ := root_ex F
  exact find_least (IsRoot m q) r h
end FLD
/-! Polynomials over a field GF(2^m): lists of elements, the least power first. -/
namespace PLY
open FLD
/-- the value at x -/
def ev (q x : Nat) : List Nat → Nat
  | [] => 0
  | c :: p => mulm q (ev q x p) x ^^^ c
theorem ev_nil {q x : Nat} : ev q x [] = 0 := rfl
theorem ev_cons {q x c : Nat} {p : List Nat} : ev q x (c :: p) = mulm q (ev q x p) x ^^^ c := rfl
theorem pw_zero {q x : Nat} : pw q x 0 = 1 := rfl
theorem pw_succ {q x k : Nat} : pw q x (k + 1) = mulm q (pw q x k) x := rfl
/-- how many elements are left when the zeros at the end go -/
def tl : List Nat → Nat
  | [] => 0
  | c :: p => if tl p = 0 then (if c = 0 then 0 else 1) else tl p + 1
def trim (p : List Nat) : List Nat := p.take (tl p)
theorem tl_le : ∀ p : List Nat, tl p ≤ p.length
  | [] => Nat.le_refl _
  | c :: p => by
    have := tl_le p
    show (if tl p = 0 then (if c = 0 then 0 else 1) else tl p + 1) ≤ p.length + 1
    split
    · split <;> omega
    · omega
theorem tl_zero : ∀ (p : List Nat) (i : Nat), tl p ≤ i → i < p.length → p[i]? = some 0
  | [], i, _, h => absurd h (Nat.not_lt_zero _)
  | c :: p, i, h, hi => by
    have h' : (if tl p = 0 then (if c = 0 then 0 else 1) else tl p + 1) ≤ i := h
    have hi' : i < p.length + 1 := hi
    cases i with
    | zero =>
      split at h'
      · split at h'
        · rename_i hc; subst hc; rfl
        · omega
      · omega
    | succ i =>
      rw [List.getElem?_cons_succ]
      refine tl_zero p i ?_ (by omega)
      split at h' <;> omega
theorem tl_last : ∀ p : List Nat, tl p = 0 ∨ ∃ c, p[tl p - 1]? = some c ∧ c ≠ 0
  | [] => .inl rfl
  | c :: p => by
    have e : tl (c :: p) = if tl p = 0 then (if c = 0 then 0 else 1) else tl p + 1 := rfl
    rcases tl_last p with h | ⟨d, h1, h2⟩
    · rw [h] at e
      by_cases hc : c = 0
      · left; rw [e, if_pos rfl, if_pos hc]
      · right; rw [e, if_pos rfl, if_neg hc]; exact ⟨c, rfl, hc⟩
    · by_cases hz : tl p = 0
      · rw [hz] at e
        by_cases hc : c = 0
        · left; rw [e, if_pos rfl, if_pos hc]
        · right; rw [e, if_pos rfl, if_neg hc]; exact ⟨c, rfl, hc⟩
      · right
        rw [e, if_neg hz]
        refine ⟨d, ?_, h2⟩
        rw [show tl p + 1 - 1 = (tl p - 1) + 1 by omega, List.getElem?_cons_succ]
        exact h1
theorem tl_only {p : List Nat} {s : Nat} (h1 : s ≤ p.length) (h2 : ∀ i, s ≤ i → i < p.length → p[i]? = some 0) (h3 : s = 0 ∨ ∃ c, p[s - 1]? = some c ∧ c ≠ 0) : s = tl p := by
  have g1 := tl_le p
  apply Classical.byContradiction
  intro n
  rcases Nat.lt_or_gt_of_ne n with h | h
  · rcases tl_last p with g | ⟨c, g2, g3⟩
    · omega
    · have := h2 (tl p - 1) (by omega) (by omega)
      rw [this] at g2
      exact g3 (Option.some.inj g2).symm
  · rcases h3 with g | ⟨c, g2, g3⟩
    · omega
    · have := tl_zero p (s - 1) (by omega) (by omega)
      rw [this] at g2
      exact g3 (Option.some.inj g2).symm
theorem trim_len (p : List Nat) : (trim p).length = tl p := by
  unfold trim; rw [List.length_take]; exact Nat.min_eq_left (tl_le p)
theorem trim_mem {p : List Nat} {c : Nat} (h : c ∈ trim p) : c ∈ p := List.mem_of_mem_take h
theorem trim_get {p : List Nat} {i : Nat} (h : i < tl p) : (trim p)[i]? = p[i]? := by unfold trim; rw [List.getElem?_take_of_lt h]
theorem trim_trim (p : List Nat) : trim (trim p) = trim p := by
  have e : tl p = tl (trim p) := by
    refine tl_only (by rw [trim_len]; exact Nat.le_refl _) (fun i h1 h2 => by rw [trim_len] at h2; omega) ?_
    rcases tl_last p with h | ⟨c, h1, h2⟩
    · exact .inl h
    · by_cases z : tl p = 0
      · exact .inl z
      · exact .inr ⟨c, by rw [trim_get (by omega)]; exact h1, h2⟩
  show (trim p).take (tl (trim p)) = trim p
  rw [← e, ← trim_len p, List.take_length]
theorem trim_cat (p : List Nat) : p = trim p ++ List.replicate (p.length - tl p) 0 := by
  apply List.ext_getElem?
  intro i
  have h := tl_le p
  by_cases h1 : i < tl p
  · rw [List.getElem?_append_left (by rw [trim_len]; exact h1), trim_get h1]
  · rw [List.getElem?_append_right (by rw [trim_len]; omega), trim_len]
    by_cases h2 : i < p.length
    · rw [tl_zero p i (by omega) h2, List.getElem?_replicate, if_pos (by omega)]
    · rw [List.getElem?_eq_none (by omega), List.getElem?_eq_none (by rw [List.length_replicate]; omega)]
section
variable {m q : Nat} (F : Fd m q)
include F
theorem ev_lt {x : Nat} : ∀ {p : List Nat}, (∀ c ∈ p, c < 2 ^ m) → ev q x p < 2 ^ m
  | [], _ => Nat.two_pow_pos _
  | c :: p, h => Nat.xor_lt_two_pow (mulm_lt F _ _) (h c List.mem_cons_self)
theorem ev_zeros {x : Nat} : ∀ n : Nat, ev q x (List.replicate n 0) = 0
  | 0 => rfl
  | n + 1 => by rw [List.replicate_succ, ev_cons, ev_zeros n, zero_mulm F, Nat.xor_self]
theorem ev_cat0 {x : Nat} (n : Nat) : ∀ p : List Nat, ev q x (p ++ List.replicate n 0) = ev q x p
  | [] => ev_zeros F n
  | c :: p => by rw [List.cons_append, ev_cons, ev_cons, ev_cat0 n p]
theorem ev_trim {x : Nat} (p : List Nat) : ev q x (trim p) = ev q x p := by
  conv => rhs; rw [trim_cat p]
  rw [ev_cat0 F]
theorem ev_zip {x : Nat} : ∀ {p r : List Nat}, p.length = r.length → ev q x (List.zipWith (· ^^^ ·) p r) = ev q x p ^^^ ev q x r
  | [], [], _ => by rw [List.zipWith_nil_left, ev_nil, Nat.xor_self]
  | c :: p, d :: r, h => by
    rw [List.zipWith_cons_cons, ev_cons, ev_cons, ev_cons, ev_zip (by simpa using h), xor_mulm F]
    ac_rfl
  | [], d :: r, h => by simp at h
  | c :: p, [], h => by simp at h
theorem ev_map {x : Nat} (e : Nat) : ∀ p : List Nat, ev q x (p.map (mulm q e)) = mulm q e (ev q x p)
  | [] => (mulm_zero F e).symm
  | c :: p => by rw [List.map_cons, ev_cons, ev_cons, ev_map e p, mulm_xor F, mulm_assoc F]
theorem ev_set {x c : Nat} (hc : c < 2 ^ m) : ∀ {t : List Nat} {k d : Nat}, t[k]? = some d → ev q x (t.set k (d ^^^ c)) = ev q x t ^^^ mulm q c (pw q x k)
  | [], k, d, h => by simp at h
  | a :: t, 0, d, h => by
    have e : a = d := by simpa using h
    subst e
    rw [List.set_cons_zero, ev_cons, ev_cons, pw_zero, mulm_one F hc]
    ac_rfl
  | a :: t, k + 1, d, h => by
    have h' : t[k]? = some d := by simpa using h
    rw [List.set_cons_succ, ev_cons, ev_cons, ev_set hc h', xor_mulm F, mulm_assoc F, pw_succ]
    ac_rfl
end
/-- a row of a product: e times the elements of Q, from the place k on -/
def row (q e : Nat) : List Nat → Nat → List Nat → List Nat
  | [], _, t => t
  | f :: Q, k, t => row q e Q (k + 1) (t.set k (t.getD k 0 ^^^ mulm q e f))
/-- the rows of a product -/
def rows (q : Nat) (Q : List Nat) : List Nat → Nat → List Nat → List Nat
  | [], _, t => t
  | e :: P, k, t => rows q Q P (k + 1) (row q e Q k t)
def conv (q : Nat) (P Q : List Nat) : List Nat := rows q Q P 0 (List.replicate (P.length + Q.length) 0)
theorem row_len (q e : Nat) : ∀ (Q : List Nat) (k : Nat) (t : List Nat), (row q e Q k t).length = t.length
  | [], _, _ => rfl
  | f :: Q, k, t => by
    show (row q e Q (k + 1) _).length = _
    rw [row_len q e Q, List.length_set]
theorem rows_len (q : Nat) (Q : List Nat) : ∀ (P : List Nat) (k : Nat) (t : List Nat), (rows q Q P k t).length = t.length
  | [], _, _ => rfl
  | e :: P, k, t => by
    show (rows q Q P (k + 1) _).length = _
    rw [rows_len q Q P, row_len]
theorem conv_len (q : Nat) (P Q : List Nat) : (conv q P Q).length = P.length + Q.length := by
  unfold conv; rw [rows_len, List.length_replicate]
theorem row_get (q e : Nat) : ∀ (Q : List Nat) (k : Nat) (t : List Nat) (j : Nat), k + Q.length ≤ j → (row q e Q k t)[j]? = t[j]?
  | [], _, _, _, _ => rfl
  | f :: Q, k, t, j, h => by
    have h' : k + (Q.length + 1) ≤ j := h
    show (row q e Q (k + 1) _)[j]? = _
    rw [row_get q e Q (k + 1) _ j (by omega), List.getElem?_set_ne (by omega)]
theorem rows_get (q : Nat) (Q : List Nat) : ∀ (P : List Nat) (k : Nat) (t : List Nat) (j : Nat), k + P.length + Q.length ≤ j + 1 → (rows q Q P k t)[j]? = t[j]?
  | [], _, _, _, _ => rfl
  | e :: P, k, t, j, h => by
    have h' : k + (P.length + 1) + Q.length ≤ j + 1 := h
    show (rows q Q P (k + 1) _)[j]? = _
    rw [rows_get q Q P (k + 1) _ j (by omega), row_get q e Q k t j (by omega)]
/-- a product has one element less -/
theorem conv_tl (q : Nat) (P Q : List Nat) (h : 0 < P.length + Q.length) : tl (conv q P Q) ≤ P.length + Q.length - 1 := by
  apply Classical.byContradiction
  intro n
  rcases tl_last (conv q P Q) with g | ⟨c, g1, g2⟩
  · omega
  · have hl := tl_le (conv q P Q)
    rw [conv_len] at hl
    have e : tl (conv q P Q) - 1 = P.length + Q.length - 1 := by omega
    rw [e] at g1
    unfold conv at g1
    rw [rows_get q Q P 0 _ _ (by omega), List.getElem?_replicate] at g1
    split at g1
    · exact g2 (Option.some.inj g1).symm
    · cases g1
section
variable {m q : Nat} (F : Fd m q)
include F
theorem row_mem {e : Nat} : ∀ {Q : List Nat} {k : Nat} {t : List Nat}, (∀ c ∈ t, c < 2 ^ m) → ∀ c ∈ row q e Q k t, c < 2 ^ m
  | [], _, _, h => h
  | f :: Q, k, t, h => by
    refine row_mem (Q := Q) (k := k + 1) fun c hc => ?_
    rcases List.mem_or_eq_of_mem_set hc with g | g
    · exact h c g
    · rw [g]
      refine Nat.xor_lt_two_pow ?_ (mulm_lt F _ _)
      rw [List.getD_eq_getElem?_getD]
      cases e2 : t[k]? with
      | none => exact Nat.two_pow_pos _
      | some d => exact h d (List.mem_of_getElem? e2)
theorem rows_mem {Q : List Nat} : ∀ {P : List Nat} {k : Nat} {t : List Nat}, (∀ c ∈ t, c < 2 ^ m) → ∀ c ∈ rows q Q P k t, c < 2 ^ m
  | [], _, _, h => h
  | e :: P, k, t, h => rows_mem (P := P) (k := k + 1) (row_mem F h)
theorem conv_mem (P Q : List Nat) : ∀ c ∈ conv q P Q, c < 2 ^ m := rows_mem F fun c hc => by
  rw [List.mem_replicate] at hc
  rw [hc.2]
  exact Nat.two_pow_pos _
theorem ev_row {x e : Nat} : ∀ {Q : List Nat} {k : Nat} {t : List Nat}, k + Q.length ≤ t.length → ev q x (row q e Q k t) = ev q x t ^^^ mulm q (mulm q e (ev q x Q)) (pw q x k)
  | [], k, t, _ => by
    show ev q x t = _
    rw [ev_nil, mulm_zero F, zero_mulm F, Nat.xor_zero]
  | f :: Q, k, t, h => by
    have h' : k + (Q.length + 1) ≤ t.length := h
    obtain ⟨d, hd⟩ : ∃ d, t[k]? = some d := ⟨_, List.getElem?_eq_getElem (by omega)⟩
    show ev q x (row q e Q (k + 1) (t.set k (t.getD k 0 ^^^ mulm q e f))) = _
    rw [ev_row (by rw [List.length_set]; omega), List.getD_eq_getElem?_getD, hd, Option.getD_some, ev_set F (mulm_lt F _ _) hd, ev_cons, mulm_xor F, xor_mulm F, pw_succ]
    have e3 : mulm q (mulm q e (ev q x Q)) (mulm q (pw q x k) x) = mulm q (mulm q e (mulm q (ev q x Q) x)) (pw q x k) := by
      rw [mulm_comm (pw q x k) x, ← mulm_assoc F, mulm_assoc F e]
    rw [e3]
    ac_rfl
theorem ev_rows {x : Nat} {Q : List Nat} : ∀ {P : List Nat} {k : Nat} {t : List Nat}, k + P.length + Q.length ≤ t.length + 1 → P.length + Q.length ≤ t.length → ev q x (rows q Q P k t) = ev q x t ^^^ mulm q (mulm q (ev q x P) (ev q x Q)) (pw q x k)
  | [], k, t, _, _ => by
    show ev q x t = _
    rw [ev_nil, zero_mulm F, zero_mulm F, Nat.xor_zero]
  | e :: P, k, t, h, h2 => by
    have h' : k + (P.length + 1) + Q.length ≤ t.length + 1 := h
    have h2' : P.length + 1 + Q.length ≤ t.length := h2
    show ev q x (rows q Q P (k + 1) (row q e Q k t)) = _
    rw [ev_rows (by rw [row_len]; omega) (by rw [row_len]; omega), ev_row F (by omega), ev_cons, xor_mulm F, xor_mulm F, pw_succ]
    have e3 : mulm q (mulm q (ev q x P) (ev q x Q)) (mulm q (pw q x k) x) = mulm q (mulm q (mulm q (ev q x P) x) (ev q x Q)) (pw q x k) := by
      rw [mulm_comm (pw q x k) x, ← mulm_assoc F, mulm_assoc F (ev q x P) (ev q x Q) x, mulm_comm (ev q x Q) x, ← mulm_assoc F]
    rw [e3]
    ac_rfl
theorem ev_conv {x : Nat} (P Q : List Nat) : ev q x (conv q P Q) = mulm q (ev q x P) (ev q x Q) := by
  have h : mulm q (ev q x P) (ev q x Q) < 2 ^ m := mulm_lt F _ _
  unfold conv
  rw [ev_rows F (by rw [List.length_replicate]; omega) (by rw [List.length_replicate]; omega), ev_zeros F, pw_zero, mulm_one F h, Nat.zero_xor]
end
end PLY
/-! Division of polynomials over a field, step by step. -/
namespace PLY
open FLD
theorem getD_of {p : List Nat} {i c : Nat} (h : p[i]? = some c) : p.getD i 0 = c := by rw [List.getD_eq_getElem?_getD, h]; rfl
theorem getD_out {p : List Nat} {i : Nat} (h : p.length ≤ i) : p.getD i 0 = 0 := by rw [List.getD_eq_getElem?_getD, List.getElem?_eq_none h]; rfl
theorem get_getD {p : List Nat} {i : Nat} (h : i < p.length) : p[i]? = some (p.getD i 0) := by rw [List.getD_eq_getElem?_getD, List.getElem?_eq_getElem h]; rfl
theorem tl_le_iff (p : List Nat) (s : Nat) : tl p ≤ s ↔ ∀ j, s ≤ j → p.getD j 0 = 0 := by
  constructor
  · intro h j hj
    by_cases g : j < p.length
    · exact getD_of (tl_zero p j (by omega) g)
    · exact getD_out (by omega)
  · intro h
    apply Classical.byContradiction
    intro n
    rcases tl_last p with g | ⟨c, g1, g2⟩
    · omega
    · have := h (tl p - 1) (by omega)
      rw [getD_of g1] at this
      exact g2 this
theorem trim_getD (p : List Nat) (j : Nat) : (trim p).getD j 0 = p.getD j 0 := by
  by_cases h : j < tl p
  · rw [List.getD_eq_getElem?_getD, List.getD_eq_getElem?_getD, trim_get h]
  · rw [getD_out (by rw [trim_len]; omega), (tl_le_iff p (tl p)).mp (Nat.le_refl _) j (by omega)]
theorem trim_ext {p r : List Nat} (h : ∀ j, p.getD j 0 = r.getD j 0) : trim p = trim r := by
  have e : tl p = tl r := Nat.le_antisymm ((tl_le_iff p _).mpr fun j hj => by rw [h]; exact (tl_le_iff r _).mp (Nat.le_refl _) j hj) ((tl_le_iff r _).mpr fun j hj => by rw [← h]; exact (tl_le_iff p _).mp (Nat.le_refl _) j hj)
  apply List.ext_getElem?
  intro i
  by_cases hi : i < tl p
  · rw [get_getD (by rw [trim_len]; exact hi), get_getD (by rw [trim_len, ← e]; exact hi), trim_getD, trim_getD, h]
  · rw [List.getElem?_eq_none (by rw [trim_len]; omega), List.getElem?_eq_none (by rw [trim_len, ← e]; omega)]
theorem set_getD {t : List Nat} {k c : Nat} (hk : k < t.length) (j : Nat) : (t.set k c).getD j 0 = if j = k then c else t.getD j 0 := by
  rw [List.getD_eq_getElem?_getD, List.getD_eq_getElem?_getD]
  by_cases e : j = k
  · subst e; rw [List.getElem?_set_self hk, if_pos rfl]; rfl
  · rw [List.getElem?_set_ne (fun z => e z.symm), if_neg e]
theorem row_getD (q e : Nat) : ∀ (Q : List Nat) (k : Nat) (t : List Nat) (j : Nat), k + Q.length ≤ t.length → (row q e Q k t).getD j 0 = t.getD j 0 ^^^ (if k ≤ j ∧ j < k + Q.length then mulm q e (Q.getD (j - k) 0) else 0)
  | [], k, t, j, _ => by
    show t.getD j 0 = _
    rw [if_neg (by simp), Nat.xor_zero]
  | f :: Q, k, t, j, h => by
    have h' : k + (Q.length + 1) ≤ t.length := h
    show (row q e Q (k + 1) (t.set k (t.getD k 0 ^^^ mulm q e f))).getD j 0 = _
    rw [row_getD q e Q (k + 1) _ j (by rw [List.length_set]; omega), set_getD (by omega)]
    by_cases e1 : j = k
    · subst e1
      rw [if_pos rfl, if_neg (by omega), Nat.xor_zero, if_pos (by constructor <;> simp), Nat.sub_self]
      rfl
    · rw [if_neg e1]
      by_cases e2 : k + 1 ≤ j ∧ j < k + 1 + Q.length
      · rw [if_pos e2, if_pos (by simp only [List.length_cons]; omega), show j - k = (j - (k + 1)) + 1 by omega]
        rfl
      · rw [if_neg e2, if_neg (by simp only [List.length_cons]; omega)]
theorem rep_getD (n j : Nat) : (List.replicate n 0).getD j 0 = 0 := by
  rw [List.getD_eq_getElem?_getD, List.getElem?_replicate]
  split <;> rfl
theorem cat_getD (s : Nat) (L : List Nat) (j : Nat) : (List.replicate s 0 ++ L).getD j 0 = if j < s then 0 else L.getD (j - s) 0 := by
  rw [List.getD_eq_getElem?_getD]
  by_cases h : j < s
  · rw [if_pos h, List.getElem?_append_left (by rw [List.length_replicate]; exact h), List.getElem?_replicate, if_pos h]; rfl
  · rw [if_neg h, List.getElem?_append_right (by rw [List.length_replicate]; omega), List.length_replicate, ← List.getD_eq_getElem?_getD]
/-- the last element -/
def lastD (R : List Nat) : Nat := R.getD (R.length - 1) 0
def lead (q v : Nat) (R : List Nat) : Nat := mulm q (lastD R) v
/-- one step of the division by g, v the inverse of g's last element -/
def step (q v : Nat) (g R : List Nat) : List Nat := trim (row q (lead q v R) g (R.length - g.length) R)
section
variable {m q : Nat} (F : Fd m q)
include F
theorem lastD_lt {R : List Nat} (h : ∀ c ∈ R, c < 2 ^ m) : lastD R < 2 ^ m := by
  unfold lastD
  by_cases g : R.length - 1 < R.length
  · have := List.mem_of_getElem? (get_getD g)
    exact h _ this
  · rw [getD_out (by omega)]; exact Nat.two_pow_pos _
theorem step_lt {v : Nat} {g R : List Nat} (hv : mulm q v (lastD g) = 1) (h0 : 0 < g.length) (h : g.length ≤ R.length) (hE : ∀ c ∈ R, c < 2 ^ m) : (step q v g R).length < R.length := by
  unfold step
  rw [trim_len]
  have : tl (row q (lead q v R) g (R.length - g.length) R) ≤ R.length - 1 := by
    refine (tl_le_iff _ _).mpr fun j hj => ?_
    by_cases e : j = R.length - 1
    · subst e
      rw [row_getD q _ g _ R _ (by omega), if_pos (by omega), show R.length - 1 - (R.length - g.length) = g.length - 1 by omega]
      show lastD R ^^^ mulm q (mulm q (lastD R) v) (lastD g) = 0
      rw [mulm_assoc F, hv, mulm_one F (lastD_lt F hE), Nat.xor_self]
    · exact getD_out (by rw [row_len]; omega)
  omega
theorem step_El {v : Nat} {g R : List Nat} (hE : ∀ c ∈ R, c < 2 ^ m) : ∀ c ∈ step q v g R, c < 2 ^ m := fun c hc => row_mem F hE c (trim_mem hc)
end
/-- the division: what is left, and the quotient so far -/
def dv (q v : Nat) (g : List Nat) : Nat → List Nat → List Nat → List Nat × List Nat
  | 0, R, W => (R, W)
  | n + 1, R, W => if g.length ≤ R.length then dv q v g n (step q v g R) (W.set (R.length - g.length) (lead q v R)) else (R, W)
theorem dv_stop {q v : Nat} {g R W : List Nat} (h : ¬ g.length ≤ R.length) : ∀ n, dv q v g n R W = (R, W)
  | 0 => rfl
  | n + 1 => if_neg h
theorem dv_step {q v n : Nat} {g R W : List Nat} (h : g.length ≤ R.length) : dv q v g (n + 1) R W = dv q v g n (step q v g R) (W.set (R.length - g.length) (lead q v R)) := if_pos h
section
variable {m q : Nat} (F : Fd m q) {v : Nat} {g : List Nat} (hv : mulm q v (lastD g) = 1) (h0 : 0 < g.length)
include F hv h0
/-- with turns enough nothing more is done -/
theorem dv_done : ∀ (n : Nat) (R W : List Nat), (∀ c ∈ R, c < 2 ^ m) → R.length ≤ n → ¬ g.length ≤ (dv q v g n R W).1.length
  | 0, R, W, _, hl => by show ¬ g.length ≤ R.length; omega
  | n + 1, R, W, hE, hl => by
    by_cases h : g.length ≤ R.length
    · have hs := step_lt F hv h0 h hE
      rw [dv_step h]
      exact dv_done n _ _ (step_El F hE) (by omega)
    · rw [dv_stop h]; exact h
end
end PLY
/-! Products of polynomials by their coefficients: sums, distribution, association; the division's identity. -/
namespace CNV
open FLD PLY
def xs (f : Nat → Nat) : Nat → Nat
  | 0 => 0
  | n + 1 => xs f n ^^^ f n
theorem xs_congr {f g : Nat → Nat} : ∀ n, (∀ i, i < n → f i = g i) → xs f n = xs g n
  | 0, _ => rfl
  | n + 1, h => by
    show xs f n ^^^ f n = xs g n ^^^ g n
    rw [xs_congr n fun i hi => h i (by omega), h n (by omega)]
theorem xs_zero {f : Nat → Nat} : ∀ n, (∀ i, i < n → f i = 0) → xs f n = 0
  | 0, _ => rfl
  | n + 1, h => by
    show xs f n ^^^ f n = 0
    rw [xs_zero n fun i hi => h i (by omega), h n (by omega), Nat.xor_self]
theorem xor4 (a b c d : Nat) : (a ^^^ b) ^^^ (c ^^^ d) = (a ^^^ c) ^^^ (b ^^^ d) := by
  rw [Nat.xor_assoc, Nat.xor_assoc, ← Nat.xor_assoc b c d, Nat.xor_comm b c, Nat.xor_assoc c b d]
theorem xs_xor (f g : Nat → Nat) : ∀ n, xs (fun i => f i ^^^ g i) n = xs f n ^^^ xs g n
  | 0 => (Nat.xor_self 0).symm
  | n + 1 => by
    show xs (fun i => f i ^^^ g i) n ^^^ (f n ^^^ g n) = (xs f n ^^^ f n) ^^^ (xs g n ^^^ g n)
    rw [xs_xor f g n, xor4]
theorem xs_head (f : Nat → Nat) : ∀ n, xs f (n + 1) = f 0 ^^^ xs (fun i => f (i + 1)) n
  | 0 => by show 0 ^^^ f 0 = f 0 ^^^ 0; rw [Nat.zero_xor, Nat.xor_zero]
  | n + 1 => by
    show xs f (n + 1) ^^^ f (n + 1) = f 0 ^^^ (xs (fun i => f (i + 1)) n ^^^ f (n + 1))
    rw [xs_head f n, Nat.xor_assoc]
theorem xs_more {f : Nat → Nat} {n : Nat} : ∀ k, (∀ i, n ≤ i → f i = 0) → xs f (n + k) = xs f n
  | 0, _ => rfl
  | k + 1, h => by
    show xs f (n + k) ^^^ f (n + k) = xs f n
    rw [xs_more k h, h (n + k) (by omega), Nat.xor_zero]
theorem xs_one {f : Nat → Nat} {s : Nat} : ∀ n, (∀ i, i ≠ s → f i = 0) → xs f n = if s < n then f s else 0
  | 0, _ => rfl
  | n + 1, h => by
    show xs f n ^^^ f n = _
    rw [xs_one n h]
    by_cases z : n = s
    · subst z; rw [if_neg (by omega), if_pos (by omega), Nat.zero_xor]
    · rw [h n z, Nat.xor_zero]
      by_cases y : s < n
      · rw [if_pos y, if_pos (by omega)]
      · rw [if_neg y, if_neg (by omega)]
/-- the product of two sequences -/
def cv (q : Nat) (A B : Nat → Nat) (j : Nat) : Nat := xs (fun i => mulm q (A i) (B (j - i))) (j + 1)
section
variable {m q : Nat} (F : Fd m q)
include F
theorem cv_xor_left (A B C : Nat → Nat) (j : Nat) : cv q (fun i => A i ^^^ B i) C j = cv q A C j ^^^ cv q B C j := by
  unfold cv
  rw [← xs_xor]
  exact xs_congr _ fun i _ => xor_mulm F _ _ _
theorem cv_one (s c : Nat) (B : Nat → Nat) (j : Nat) : cv q (fun i => if i = s then c else 0) B j = if s ≤ j then mulm q c (B (j - s)) else 0 := by
  unfold cv
  rw [xs_one (s := s) _ fun i hi => by show mulm q (if i = s then c else 0) _ = 0; rw [if_neg hi, zero_mulm F]]
  by_cases z : s ≤ j
  · rw [if_pos (by omega), if_pos z]
    show mulm q (if s = s then c else 0) _ = _
    rw [if_pos rfl]
  · rw [if_neg (by omega), if_neg z]
theorem cv_congr {A A' B B' : Nat → Nat} (h : ∀ i, A i = A' i) (k : ∀ i, B i = B' i) (j : Nat) : cv q A B j = cv q A' B' j := xs_congr _ fun i _ => by rw [h, k]
theorem cv_zero_left {A : Nat → Nat} (h : ∀ i, A i = 0) (B : Nat → Nat) (j : Nat) : cv q A B j = 0 := xs_zero _ fun i _ => by rw [h, zero_mulm F]
theorem row_cf (e : Nat) (Q : List Nat) (k : Nat) (t : List Nat) (j : Nat) (h : k + Q.length ≤ t.length) : (row q e Q k t).getD j 0 = t.getD j 0 ^^^ (if k ≤ j then mulm q e (Q.getD (j - k) 0) else 0) := by
  rw [row_getD q e Q k t j h]
  congr 1
  by_cases z : k ≤ j
  · by_cases y : j < k + Q.length
    · rw [if_pos ⟨z, y⟩, if_pos z]
    · rw [if_neg fun w => y w.2, if_pos z, getD_out (by omega), mulm_zero F]
  · rw [if_neg fun w => z w.1, if_neg z]
theorem rows_cf (Q : List Nat) : ∀ (P : List Nat) (k : Nat) (t : List Nat) (j : Nat), k + P.length + Q.length ≤ t.length + 1 → (rows q Q P k t).getD j 0 = t.getD j 0 ^^^ xs (fun i => if k + i ≤ j then mulm q (P.getD i 0) (Q.getD (j - (k + i)) 0) else 0) P.length
  | [], k, t, j, _ => by show t.getD j 0 = t.getD j 0 ^^^ 0; rw [Nat.xor_zero]
  | e :: P, k, t, j, h => by
    have h' : k + (P.length + 1) + Q.length ≤ t.length + 1 := h
    show (rows q Q P (k + 1) (row q e Q k t)).getD j 0 = t.getD j 0 ^^^ xs _ (P.length + 1)
    rw [rows_cf Q P (k + 1) (row q e Q k t) j (by rw [row_len]; omega), row_cf F e Q k t j (by omega), xs_head, ← Nat.xor_assoc]
    congr 1
    refine xs_congr _ fun i _ => ?_
    show (if k + 1 + i ≤ j then mulm q (P.getD i 0) (Q.getD (j - (k + 1 + i)) 0) else 0) = (if k + (i + 1) ≤ j then mulm q ((e :: P).getD (i + 1) 0) (Q.getD (j - (k + (i + 1))) 0) else 0)
    rw [show k + 1 + i = k + (i + 1) by omega]
    rfl
theorem conv_cf (P Q : List Nat) (j : Nat) : (conv q P Q).getD j 0 = cv q (fun i => P.getD i 0) (fun i => Q.getD i 0) j := by
  unfold conv
  rw [rows_cf F Q P 0 _ j (by rw [List.length_replicate]; omega), rep_getD, Nat.zero_xor]
  have e1 : xs (fun i => if 0 + i ≤ j then mulm q (P.getD i 0) (Q.getD (j - (0 + i)) 0) else 0) P.length = xs (fun i => if 0 + i ≤ j then mulm q (P.getD i 0) (Q.getD (j - (0 + i)) 0) else 0) (P.length + (j + 1)) := (xs_more (j + 1) fun i hi => by
    show (if 0 + i ≤ j then mulm q (P.getD i 0) (Q.getD (j - (0 + i)) 0) else 0) = 0
    rw [getD_out hi, zero_mulm F]; split <;> rfl).symm
  have e2 : xs (fun i => if 0 + i ≤ j then mulm q (P.getD i 0) (Q.getD (j - (0 + i)) 0) else 0) (j + 1 + P.length) = xs (fun i => if 0 + i ≤ j then mulm q (P.getD i 0) (Q.getD (j - (0 + i)) 0) else 0) (j + 1) := xs_more P.length fun i hi => by
    show (if 0 + i ≤ j then mulm q (P.getD i 0) (Q.getD (j - (0 + i)) 0) else 0) = 0
    rw [if_neg (by omega)]
  rw [e1, Nat.add_comm P.length, e2]
  refine xs_congr _ fun i hi => ?_
  show (if 0 + i ≤ j then mulm q (P.getD i 0) (Q.getD (j - (0 + i)) 0) else 0) = _
  rw [if_pos (by omega), Nat.zero_add]
theorem dv_cf {v : Nat} {g : List Nat} (hv : mulm q v (lastD g) = 1) (h0 : 0 < g.length) (j : Nat) : ∀ (n : Nat) (R W : List Nat), (∀ c ∈ R, c < 2 ^ m) → R.length < W.length + g.length → (∀ i, i + g.length ≤ R.length → W.getD i 0 = 0) →
    cv q (fun i => (dv q v g n R W).2.getD i 0) (fun i => g.getD i 0) j ^^^ (dv q v g n R W).1.getD j 0 = cv q (fun i => W.getD i 0) (fun i => g.getD i 0) j ^^^ R.getD j 0
  | 0, R, W, _, _, _ => rfl
  | n + 1, R, W, hE, hl, hW => by
    by_cases h : g.length ≤ R.length
    · rw [dv_step h]
      have hlt := step_lt F hv h0 h hE
      have hs : R.length - g.length < W.length := by omega
      rw [dv_cf hv h0 j n (PLY.step q v g R) (W.set (R.length - g.length) (lead q v R)) (step_El F hE) (by rw [List.length_set]; omega) fun i hi => by
        rw [set_getD hs, if_neg (by omega)]; exact hW i (by omega)]
      have e1 : cv q (fun i => (W.set (R.length - g.length) (lead q v R)).getD i 0) (fun i => g.getD i 0) j = cv q (fun i => W.getD i 0) (fun i => g.getD i 0) j ^^^ (if R.length - g.length ≤ j then mulm q (lead q v R) (g.getD (j - (R.length - g.length)) 0) else 0) := by
        rw [← cv_one F (R.length - g.length) (lead q v R) (fun i => g.getD i 0) j, ← cv_xor_left F]
        refine cv_congr F (fun i => ?_) (fun _ => rfl) j
        rw [set_getD hs]
        by_cases z : i = R.length - g.length
        · rw [if_pos z, if_pos z, hW i (by omega), Nat.zero_xor]
        · rw [if_neg z, if_neg z, Nat.xor_zero]
      have e2 : (PLY.step q v g R).getD j 0 = R.getD j 0 ^^^ (if R.length - g.length ≤ j then mulm q (lead q v R) (g.getD (j - (R.length - g.length)) 0) else 0) := by
        unfold PLY.step
        rw [trim_getD, row_cf F _ _ _ _ _ (by omega)]
      rw [e1, e2, xor4, Nat.xor_self, Nat.xor_zero]
    · rw [dv_stop h]
theorem dv_El {v : Nat} {g : List Nat} : ∀ (n : Nat) (R W : List Nat), (∀ c ∈ R, c < 2 ^ m) → (∀ c ∈ W, c < 2 ^ m) → (∀ c ∈ (dv q v g n R W).1, c < 2 ^ m) ∧ ∀ c ∈ (dv q v g n R W).2, c < 2 ^ m
  | 0, R, W, h, k => ⟨h, k⟩
  | n + 1, R, W, h, k => by
    by_cases z : g.length ≤ R.length
    · rw [dv_step z]
      refine dv_El n _ _ (step_El F h) fun c hc => ?_
      rcases List.mem_or_eq_of_mem_set hc with y | y
      · exact k c y
      · rw [y]; exact mulm_lt F _ _
    · rw [dv_stop z]; exact ⟨h, k⟩
end
end CNV
/-! Codewords over a field: the product of x + e, the rest of a shifted message, their values at the roots. -/
namespace COD
open FLD PLY CNV GF
def El (m : Nat) (p : List Nat) : Prop := ∀ c ∈ p, c < 2 ^ m
def frs (q : Nat) (rs : List Nat) : List Nat := rs.foldl (fun p e => trim (conv q p [e, 1])) [1]
theorem frs_more (q : Nat) (rs : List Nat) (e : Nat) : frs q (rs ++ [e]) = trim (conv q (frs q rs) [e, 1]) := by unfold frs; rw [List.foldl_append]; rfl
theorem getD_lt {m : Nat} {p : List Nat} (h : El m p) (i : Nat) : p.getD i 0 < 2 ^ m := by
  by_cases g : i < p.length
  · exact h _ (List.mem_of_getElem? (get_getD g))
  · rw [getD_out (by omega)]; exact Nat.two_pow_pos m
section
variable {m q : Nat} (F : Fd m q)
include F
theorem conv2 {g : List Nat} (hg : El m g) (e : Nat) : ∀ j, (conv q g [e, 1]).getD j 0 = mulm q (g.getD j 0) e ^^^ (if j = 0 then 0 else g.getD (j - 1) 0)
  | 0 => by
    rw [conv_cf F]
    show 0 ^^^ mulm q (g.getD 0 0) e = _
    rw [Nat.zero_xor, if_pos rfl, Nat.xor_zero]
  | k + 1 => by
    rw [conv_cf F, if_neg (by omega)]
    show (xs (fun i => mulm q (g.getD i 0) (([e, 1] : List Nat).getD (k + 1 - i) 0)) k ^^^ mulm q (g.getD k 0) (([e, 1] : List Nat).getD (k + 1 - k) 0)) ^^^ mulm q (g.getD (k + 1) 0) (([e, 1] : List Nat).getD (k + 1 - (k + 1)) 0) = _
    rw [xs_zero k fun i hi => by rw [getD_out (p := [e, 1]) (show 2 ≤ k + 1 - i by omega), mulm_zero F], Nat.zero_xor, show k + 1 - k = 1 by omega, Nat.sub_self, Nat.xor_comm]
    show mulm q (g.getD (k + 1) 0) e ^^^ mulm q (g.getD k 0) 1 = _
    rw [mulm_one F (getD_lt hg k)]; rfl
/-- a product of x + e begins with 1 -/
structure Mon (m : Nat) (g : List Nat) (c : Nat) : Prop where
  len : g.length = c + 1
  top : g.getD c 0 = 1
  el : El m g
theorem mon_more {g : List Nat} {c e : Nat} (M : Mon m g c) (he : e < 2 ^ m) : Mon m (trim (conv q g [e, 1])) (c + 1) := by
  have top : (conv q g [e, 1]).getD (c + 1) 0 = 1 := by
    rw [conv2 F M.el, if_neg (by omega), getD_out (by rw [M.len]; omega), zero_mulm F, Nat.zero_xor, Nat.add_sub_cancel, M.top]
  have tlE : tl (conv q g [e, 1]) = c + 2 := by
    have h1 : tl (conv q g [e, 1]) ≤ c + 2 := (tl_le_iff _ _).mpr fun j hj => by
      rw [conv2 F M.el, getD_out (by rw [M.len]; omega), zero_mulm F, Nat.zero_xor]
      split
      · rfl
      · exact getD_out (by rw [M.len]; omega)
    have h2 : ¬ tl (conv q g [e, 1]) ≤ c + 1 := fun z => by
      have := (tl_le_iff _ _).mp z (c + 1) (Nat.le_refl _)
      rw [top] at this; cases this
    omega
  exact ⟨by rw [trim_len, tlE], by rw [trim_getD, top], fun d hd => conv_mem F _ _ d (trim_mem hd)⟩
theorem mon_one : Mon m [1] 0 := ⟨rfl, rfl, fun d hd => by rw [List.mem_singleton.mp hd]; exact one_lt F⟩
theorem frs_mon : ∀ (n : Nat) (rs : List Nat), rs.length = n → El m rs → Mon m (frs q rs) n
  | 0, rs, h, _ => by
    have : rs = [] := List.length_eq_zero_iff.mp h
    subst this
    exact mon_one F
  | n + 1, rs, h, he => by
    rcases List.eq_nil_or_concat rs with g | ⟨l, e, g⟩
    · subst g; simp at h
    · subst g
      rw [List.concat_eq_append] at h he ⊢
      rw [frs_more]
      exact mon_more F (frs_mon n l (by simpa using h) fun c hc => he c (by simp [hc])) (he e (by simp))
/-- the shifted message less multiples of g, from the top on -/
def lred (q : Nat) (g : List Nat) (c : Nat) : Nat → List Nat → List Nat
  | 0, R => R
  | k + 1, R => lred q g c k (row q (R.getD (c + k) 0) g k R)
omit F in
theorem lred_len (g : List Nat) (c : Nat) : ∀ (k : Nat) (R : List Nat), (lred q g c k R).length = R.length
  | 0, _ => rfl
  | k + 1, R => by
    show (lred q g c k _).length = _
    rw [lred_len g c k, row_len]
theorem lred_El {g : List Nat} {c : Nat} : ∀ (k : Nat) (R : List Nat), El m R → El m (lred q g c k R)
  | 0, _, h => h
  | k + 1, R, h => lred_El k _ (row_mem F h)
theorem lred_cf {g : List Nat} {c : Nat} (M : Mon m g c) : ∀ (k : Nat) (R : List Nat), El m R → c + k ≤ R.length → (∀ j, c + k ≤ j → R.getD j 0 = 0) →
    ∃ W : Nat → Nat, (∀ i, W i < 2 ^ m) ∧ (∀ i, k ≤ i → W i = 0) ∧ (∀ j, (lred q g c k R).getD j 0 = R.getD j 0 ^^^ cv q W (fun i => g.getD i 0) j) ∧ ∀ j, c ≤ j → (lred q g c k R).getD j 0 = 0
  | 0, R, _, _, hz => ⟨fun _ => 0, fun _ => Nat.two_pow_pos m, fun _ _ => rfl, fun j => by rw [cv_zero_left F fun _ => rfl, Nat.xor_zero]; rfl, fun j hj => hz j (by omega)⟩
  | k + 1, R, hE, hl, hz => by
    have f0 := getD_lt hE (c + k)
    have rg : ∀ j, (row q (R.getD (c + k) 0) g k R).getD j 0 = R.getD j 0 ^^^ (if k ≤ j then mulm q (R.getD (c + k) 0) (g.getD (j - k) 0) else 0) := fun j => row_cf F _ _ _ _ _ (by rw [M.len]; omega)
    obtain ⟨W, h0, h1, h2, h3⟩ := lred_cf M k (row q (R.getD (c + k) 0) g k R) (row_mem F hE) (by rw [row_len]; omega) fun j hj => by
      rw [rg, if_pos (by omega)]
      by_cases z : j = c + k
      · subst z
        rw [show c + k - k = c by omega, M.top, mulm_one F f0, Nat.xor_self]
      · rw [hz j (by omega), getD_out (p := g) (by rw [M.len]; omega), mulm_zero F, Nat.xor_zero]
    refine ⟨fun i => W i ^^^ (if i = k then R.getD (c + k) 0 else 0), fun i => ?_, fun i hi => ?_, fun j => ?_, h3⟩
    · refine Nat.xor_lt_two_pow (h0 i) ?_
      split
      · exact f0
      · exact Nat.two_pow_pos m
    · show W i ^^^ _ = 0
      rw [h1 i (by omega), if_neg (by omega), Nat.xor_zero]
    · show (lred q g c k _).getD j 0 = _
      rw [h2 j, rg j, cv_xor_left F, cv_one F, Nat.xor_assoc, Nat.xor_comm (cv q W _ j)]
/-- what g divides and what is of a smaller degree is 0 -/
theorem cv_top {g : List Nat} {c : Nat} (M : Mon m g c) {U : Nat → Nat} : ∀ N : Nat, (∀ i, U i < 2 ^ m) → (∀ i, N ≤ i → U i = 0) → (∀ j, c ≤ j → cv q U (fun i => g.getD i 0) j = 0) → ∀ i, U i = 0
  | 0, _, h, _, i => h i (Nat.zero_le i)
  | N + 1, hl, h, hz, i => by
    have t : U N = 0 := by
      have := hz (c + N) (by omega)
      unfold cv at this
      rw [xs_one (s := N) _ fun i hi => ?_, if_pos (by omega)] at this
      · have e : mulm q (U N) (g.getD (c + N - N) 0) = 0 := this
        rw [show c + N - N = c by omega, M.top, mulm_one F (hl N)] at e
        exact e
      · show mulm q (U i) (g.getD (c + N - i) 0) = 0
        rcases Nat.lt_or_gt_of_ne hi with z | z
        · rw [getD_out (by rw [M.len]; omega), mulm_zero F]
        · rw [h i (by omega), zero_mulm F]
    exact cv_top M N hl (fun i hi => by
      by_cases z : i = N
      · rw [z]; exact t
      · exact h i (by omega)) hz i
/-- the rest is only one -/
theorem rest_one {g : List Nat} {c : Nat} (M : Mon m g c) {A R1 R2 W1 W2 : Nat → Nat} {N : Nat} (l1 : ∀ i, W1 i < 2 ^ m) (l2 : ∀ i, W2 i < 2 ^ m) (n1 : ∀ i, N ≤ i → W1 i = 0) (n2 : ∀ i, N ≤ i → W2 i = 0) (h1 : ∀ j, R1 j = A j ^^^ cv q W1 (fun i => g.getD i 0) j) (h2 : ∀ j, R2 j = A j ^^^ cv q W2 (fun i => g.getD i 0) j) (z1 : ∀ j, c ≤ j → R1 j = 0) (z2 : ∀ j, c ≤ j → R2 j = 0) : ∀ j, R1 j = R2 j := by
  have hU := cv_top F M (U := fun i => W1 i ^^^ W2 i) N (fun i => Nat.xor_lt_two_pow (l1 i) (l2 i)) (fun i hi => by show W1 i ^^^ W2 i = 0; rw [n1 i hi, n2 i hi, Nat.xor_self]) fun j hj => by
    rw [cv_xor_left F]
    have a := h1 j
    have b := h2 j
    rw [z1 j hj] at a
    rw [z2 j hj] at b
    have a' : cv q W1 (fun i => g.getD i 0) j = A j := by
      have := congrArg (fun x => A j ^^^ x) a
      simp only [Nat.xor_zero, ← Nat.xor_assoc, Nat.xor_self, Nat.zero_xor] at this
      exact this.symm
    have b' : cv q W2 (fun i => g.getD i 0) j = A j := by
      have := congrArg (fun x => A j ^^^ x) b
      simp only [Nat.xor_zero, ← Nat.xor_assoc, Nat.xor_self, Nat.zero_xor] at this
      exact this.symm
    rw [a', b', Nat.xor_self]
  intro j
  rw [h1, h2]
  congr 1
  refine xs_congr _ fun i _ => ?_
  have : W1 i = W2 i := by
    have h : W1 i ^^^ W2 i = 0 := hU i
    exact xor_eq_zero h
  rw [this]
/-- the word with the message msg -/
def cwd (q : Nat) (g : List Nat) (c : Nat) (msg : List Nat) : List Nat := (lred q g c msg.length (List.replicate c 0 ++ msg)).take c ++ msg
theorem shift_El {c : Nat} {msg : List Nat} (h : El m msg) : El m (List.replicate c 0 ++ msg) := fun d hd => by
  rcases List.mem_append.mp hd with z | z
  · rw [(List.mem_replicate.mp z).2]; exact Nat.two_pow_pos m
  · exact h d z
omit F in
theorem cwd_len {g : List Nat} {c : Nat} {msg : List Nat} : (cwd q g c msg).length = c + msg.length := by
  unfold cwd
  rw [List.length_append, List.length_take, lred_len, List.length_append, List.length_replicate]; omega
theorem cwd_El {g : List Nat} {c : Nat} {msg : List Nat} (h : El m msg) : El m (cwd q g c msg) := fun d hd => by
  rcases List.mem_append.mp hd with z | z
  · exact lred_El F _ _ (shift_El F h) d (List.mem_of_mem_take z)
  · exact h d z
omit F in
theorem cwd_msg {g : List Nat} {c : Nat} {msg : List Nat} : (cwd q g c msg).drop c = msg := by
  unfold cwd
  have : ((lred q g c msg.length (List.replicate c 0 ++ msg)).take c).length = c := by rw [List.length_take, lred_len, List.length_append, List.length_replicate]; omega
  rw [List.drop_append_of_le_length (by omega), List.drop_of_length_le (by omega), List.nil_append]
omit F in
theorem take_getD {p : List Nat} {c j : Nat} (h : j < c) : (p.take c).getD j 0 = p.getD j 0 := by rw [List.getD_eq_getElem?_getD, List.getD_eq_getElem?_getD, List.getElem?_take, if_pos h]
omit F in
theorem app_getD (a b : List Nat) (j : Nat) : (a ++ b).getD j 0 = if j < a.length then a.getD j 0 else b.getD (j - a.length) 0 := by
  rw [List.getD_eq_getElem?_getD]
  by_cases h : j < a.length
  · rw [if_pos h, List.getElem?_append_left h, ← List.getD_eq_getElem?_getD]
  · rw [if_neg h, List.getElem?_append_right (by omega), ← List.getD_eq_getElem?_getD]
/-- a codeword is a multiple of g -/
theorem cwd_cf {g : List Nat} {c : Nat} (M : Mon m g c) {msg : List Nat} (h : El m msg) : ∃ W : Nat → Nat, (∀ i, W i < 2 ^ m) ∧ (∀ i, msg.length ≤ i → W i = 0) ∧ ∀ j, (cwd q g c msg).getD j 0 = cv q W (fun i => g.getD i 0) j := by
  have sl : (List.replicate c 0 ++ msg).length = c + msg.length := by rw [List.length_append, List.length_replicate]
  obtain ⟨W, h0, h1, h2, h3⟩ := lred_cf F M msg.length (List.replicate c 0 ++ msg) (shift_El F h) (by omega) fun j hj => getD_out (by omega)
  refine ⟨W, h0, h1, fun j => ?_⟩
  have tkl : ((lred q g c msg.length (List.replicate c 0 ++ msg)).take c).length = c := by rw [List.length_take, lred_len, sl]; omega
  unfold cwd
  rw [app_getD, tkl]
  by_cases z : j < c
  · rw [if_pos z, take_getD z, h2 j, cat_getD, if_pos z, Nat.zero_xor]
  · rw [if_neg z]
    have a := h2 j
    rw [h3 j (by omega), cat_getD, if_neg z] at a
    have := congrArg (fun x => msg.getD (j - c) 0 ^^^ x) a
    simp only [Nat.xor_zero, ← Nat.xor_assoc, Nat.xor_self, Nat.zero_xor] at this
    exact this
theorem ev_eq {x : Nat} {p r : List Nat} (h : ∀ j, p.getD j 0 = r.getD j 0) : ev q x p = ev q x r := by rw [← ev_trim F p, ← ev_trim F r, trim_ext h]
theorem ev_cv {x : Nat} {W : Nat → Nat} {N : Nat} (n0 : ∀ i, N ≤ i → W i = 0) {p g : List Nat} (h : ∀ j, p.getD j 0 = cv q W (fun i => g.getD i 0) j) : ev q x p = mulm q (ev q x ((List.range N).map W)) (ev q x g) := by
  rw [← ev_conv F]
  refine ev_eq F fun j => ?_
  rw [h j, conv_cf F]
  refine cv_congr F (fun i => ?_) (fun _ => rfl) j
  rw [List.getD_eq_getElem?_getD, List.getElem?_map]
  by_cases z : i < N
  · rw [List.getElem?_range z]; rfl
  · rw [List.getElem?_eq_none (by rw [List.length_range]; omega), n0 i (by omega)]; rfl
theorem ev_pair {x e : Nat} (hx : x < 2 ^ m) : ev q x [e, 1] = x ^^^ e := by
  show mulm q (mulm q 0 x ^^^ 1) x ^^^ e = _
  rw [zero_mulm F, Nat.zero_xor, one_mulm F hx]
theorem ev_frs {x : Nat} (hx : x < 2 ^ m) : ∀ (n : Nat) (rs : List Nat), rs.length = n → x ∈ rs → ev q x (frs q rs) = 0
  | 0, rs, h, hm => by rw [List.length_eq_zero_iff.mp h] at hm; cases hm
  | n + 1, rs, h, hm => by
    rcases List.eq_nil_or_concat rs with g | ⟨l, e, g⟩
    · subst g; simp at h
    · subst g
      rw [List.concat_eq_append] at h hm ⊢
      rw [frs_more, ev_trim F, ev_conv F, ev_pair F hx]
      rcases List.mem_append.mp hm with z | z
      · rw [ev_frs hx n l (by simpa using h) z, zero_mulm F]
      · rw [List.mem_singleton.mp z, Nat.xor_self, mulm_zero F]
/-- a codeword is 0 at the roots -/
theorem cwd_zero {rs msg : List Nat} (hr : El m rs) (h : El m msg) {x : Nat} (hx : x ∈ rs) : ev q x (cwd q (frs q rs) rs.length msg) = 0 := by
  obtain ⟨W, h0, h1, h2⟩ := cwd_cf F (frs_mon F rs.length rs rfl hr) h
  rw [ev_cv F h1 h2, ev_frs F (hr x hx) _ rs rfl hx, mulm_zero F]
end
end COD
/-! A polynomial with more roots than its degree is 0; the weights of points; a word that is 0 at the roots is its message's codeword. -/
namespace COD
open FLD PLY CNV GF
theorem xor0 {a b : Nat} (h : a ^^^ b = 0) : a = b := by
  have := congrArg (· ^^^ b) h
  simpa [Nat.xor_assoc] using this
/-- the quotient by X - x -/
def syn (q x : Nat) : List Nat → List Nat
  | [] => []
  | _ :: p => ev q x p :: syn q x p
section
variable {m q : Nat} (F : Fd m q)
include F
theorem ev_lt' {x : Nat} {p : List Nat} (h : El m p) : ev q x p < 2 ^ m := ev_lt F h
theorem syn_el {x : Nat} : ∀ {p : List Nat}, El m p → El m (syn q x p)
  | [], _ => fun c hc => nomatch hc
  | c :: p, h => fun d hd => by
    have hp : El m p := fun a ha => h a (List.mem_cons_of_mem _ ha)
    rcases List.mem_cons.mp hd with z | z
    · rw [z]; exact ev_lt F hp
    · exact syn_el hp d z
theorem syn_ev {x y : Nat} : ∀ {p : List Nat}, El m p → ev q y p ^^^ ev q x p = mulm q (y ^^^ x) (ev q y (syn q x p))
  | [], _ => by show 0 ^^^ 0 = mulm q _ 0; rw [mulm_zero F]; rfl
  | c :: p, h => by
    have hp : El m p := fun a ha => h a (List.mem_cons_of_mem _ ha)
    have ih := syn_ev (x := x) (y := y) hp
    show (mulm q (ev q y p) y ^^^ c) ^^^ (mulm q (ev q x p) x ^^^ c) = mulm q (y ^^^ x) (mulm q (ev q y (syn q x p)) y ^^^ ev q x p)
    rw [mulm_xor F, ← mulm_assoc F, ← ih, xor_mulm F, xor_mulm F, mulm_comm y (ev q x p), mulm_comm x (ev q x p), xor4, Nat.xor_self, Nat.xor_zero]
    rw [Nat.xor_assoc, ← Nat.xor_assoc (mulm q (ev q x p) y), Nat.xor_self, Nat.zero_xor]
theorem ev_all0 {x : Nat} : ∀ {p : List Nat}, (∀ i, p.getD i 0 = 0) → ev q x p = 0
  | [], _ => rfl
  | c :: p, h => by
    have h0 : c = 0 := h 0
    have hp : ∀ i, p.getD i 0 = 0 := fun i => h (i + 1)
    show mulm q (ev q x p) x ^^^ c = 0
    rw [ev_all0 hp, zero_mulm F, h0]; rfl
theorem syn_top {x : Nat} : ∀ {p : List Nat} {n : Nat}, (∀ i, n + 1 ≤ i → p.getD i 0 = 0) → ∀ i, n ≤ i → (syn q x p).getD i 0 = 0
  | [], n, _, i, _ => rfl
  | c :: p, 0, h, i, _ => by
    have hp : ∀ j, p.getD j 0 = 0 := fun j => h (j + 1) (by omega)
    have : ∀ (p : List Nat), (∀ j, p.getD j 0 = 0) → ∀ i, (syn q x p).getD i 0 = 0 := fun p => by
      induction p with
      | nil => exact fun _ i => rfl
      | cons a p ih =>
        intro h i
        have hp : ∀ j, p.getD j 0 = 0 := fun j => h (j + 1)
        cases i with
        | zero => exact ev_all0 F hp
        | succ i => exact ih hp i
    cases i with
    | zero => exact ev_all0 F hp
    | succ i => exact this p hp i
  | c :: p, n + 1, h, 0, hi => by omega
  | c :: p, n + 1, h, i + 1, hi => syn_top (p := p) (n := n) (fun j hj => h (j + 1) (by omega)) i (by omega)
theorem syn_back {x : Nat} : ∀ {p : List Nat}, El m p → (∀ i, (syn q x p).getD i 0 = 0) → ∀ i, p.getD (i + 1) 0 = 0
  | [], _, _, _ => rfl
  | [c], _, _, _ => rfl
  | c :: d :: p, he, h, i => by
    have hp : El m (d :: p) := fun a ha => he a (List.mem_cons_of_mem _ ha)
    have h0 : ev q x (d :: p) = 0 := h 0
    have h1 : ∀ i, (syn q x (d :: p)).getD i 0 = 0 := fun i => h (i + 1)
    have h2 : ev q x p = 0 := h1 0
    cases i with
    | zero =>
      have : mulm q (ev q x p) x ^^^ d = 0 := h0
      rw [h2, zero_mulm F, Nat.zero_xor] at this
      exact this
    | succ i => exact syn_back hp h1 i
/-- more roots than its degree -/
theorem all_zero : ∀ (rs : List Nat) {p : List Nat}, El m p → El m rs → rs.Nodup → (∀ i, rs.length ≤ i → p.getD i 0 = 0) → (∀ x ∈ rs, ev q x p = 0) → ∀ i, p.getD i 0 = 0
  | [], p, _, _, _, ht, _, i => ht i (Nat.zero_le _)
  | x :: rs, p, he, hr, nd, ht, hz, i => by
    obtain ⟨nx, nd'⟩ := List.nodup_cons.mp nd
    have hx := hr x List.mem_cons_self
    have hr' : El m rs := fun a ha => hr a (List.mem_cons_of_mem _ ha)
    have h0 := hz x List.mem_cons_self
    have se := syn_el F (x := x) he
    have key := all_zero rs se hr' nd' (syn_top F (n := rs.length) fun i hi => ht i (by simpa using hi)) fun y hy => by
      have e := syn_ev F (x := x) (y := y) he
      rw [hz y (List.mem_cons_of_mem _ hy), h0, Nat.xor_self] at e
      have hxy : y ^^^ x ≠ 0 := fun z => nx (by rw [← (xor0 z)]; exact hy)
      rcases mulm_eq_zero F (Nat.xor_lt_two_pow (hr' y hy) hx) (ev_lt F se) e.symm with z | z
      · exact absurd z hxy
      · exact z
    cases i with
    | succ i => exact syn_back F he key i
    | zero =>
      cases p with
      | nil => rfl
      | cons c p =>
        have : mulm q (ev q x p) x ^^^ c = 0 := h0
        have k0 : ev q x p = 0 := key 0
        rw [k0, zero_mulm F, Nat.zero_xor] at this
        exact this
/-- a word that is 0 at the roots is the codeword of its message -/
theorem word_cwd {rs w : List Nat} (hr : El m rs) (nd : rs.Nodup) (hw : El m w) (hl : rs.length ≤ w.length) (hz : ∀ x ∈ rs, ev q x w = 0) : w = cwd q (frs q rs) rs.length (w.drop rs.length) := by
  have hm : El m (w.drop rs.length) := fun d hd => hw d (List.mem_of_mem_drop hd)
  have hc := cwd_El F (g := frs q rs) (c := rs.length) hm
  have lc : (cwd q (frs q rs) rs.length (w.drop rs.length)).length = w.length := by rw [cwd_len, List.length_drop]; omega
  have hd := cwd_msg (q := q) (g := frs q rs) (c := rs.length) (msg := w.drop rs.length)
  let z := List.zipWith (· ^^^ ·) w (cwd q (frs q rs) rs.length (w.drop rs.length))
  have zg : ∀ i, z.getD i 0 = w.getD i 0 ^^^ (cwd q (frs q rs) rs.length (w.drop rs.length)).getD i 0 := fun i => by
    show (List.zipWith _ _ _).getD i 0 = _
    rw [List.getD_eq_getElem?_getD, List.getElem?_zipWith, List.getD_eq_getElem?_getD, List.getD_eq_getElem?_getD]
    by_cases h : i < w.length
    · rw [List.getElem?_eq_getElem h, List.getElem?_eq_getElem (by rw [lc]; exact h)]; rfl
    · rw [List.getElem?_eq_none (by omega), List.getElem?_eq_none (by rw [lc]; omega)]; rfl
  have ze : El m z := fun d hd => by
    obtain ⟨i, hi⟩ := List.mem_iff_getElem?.mp hd
    have := zg i
    rw [List.getD_eq_getElem?_getD, hi] at this
    have this : d = _ := this
    rw [this]
    exact Nat.xor_lt_two_pow (getD_lt hw i) (getD_lt hc i)
  have zt : ∀ i, rs.length ≤ i → z.getD i 0 = 0 := fun i hi => by
    have e : ∀ l : List Nat, l.getD i 0 = (l.drop rs.length).getD (i - rs.length) 0 := fun l => by
      rw [List.getD_eq_getElem?_getD, List.getD_eq_getElem?_getD, List.getElem?_drop, show rs.length + (i - rs.length) = i by omega]
    rw [zg, e w, e (cwd _ _ _ _), hd, Nat.xor_self]
  have zz := all_zero F rs ze hr nd zt fun x hx => by
    show ev q x (List.zipWith _ _ _) = 0
    rw [ev_zip F lc.symm, hz x hx, cwd_zero F hr hm hx]; rfl
  refine List.ext_getElem? fun i => ?_
  by_cases h : i < w.length
  · have := zg i
    rw [zz i] at this
    have e := xor0 this.symm
    rw [get_getD h, get_getD (by rw [lc]; exact h), e]
  · rw [List.getElem?_eq_none (by omega), List.getElem?_eq_none (by rw [lc]; omega)]
/-- the sum over a list -/
def sumX (f : Nat → Nat) (l : List Nat) : Nat := l.foldr (fun x a => f x ^^^ a) 0
omit F in
theorem sumX_zero {f : Nat → Nat} : ∀ {l : List Nat}, (∀ x ∈ l, f x = 0) → sumX f l = 0
  | [], _ => rfl
  | x :: l, h => by show f x ^^^ sumX f l = 0; rw [h x List.mem_cons_self, sumX_zero fun y hy => h y (List.mem_cons_of_mem _ hy)]; rfl
omit F in
theorem sumX_one {f : Nat → Nat} {y : Nat} : ∀ {l : List Nat}, l.Nodup → y ∈ l → (∀ x ∈ l, x ≠ y → f x = 0) → sumX f l = f y
  | x :: l, nd, hy, h => by
    obtain ⟨nx, nd'⟩ := List.nodup_cons.mp nd
    show f x ^^^ sumX f l = f y
    rcases List.mem_cons.mp hy with z | z
    · rw [← z, sumX_zero fun a ha => h a (List.mem_cons_of_mem _ ha) fun e => nx (by rw [← z, ← e]; exact ha), Nat.xor_zero]
    · have : x ≠ y := fun e => nx (e ▸ z)
      rw [h x List.mem_cons_self this, Nat.zero_xor]
      exact sumX_one nd' z fun a ha => h a (List.mem_cons_of_mem _ ha)
omit F in
theorem sumX_congr {f g : Nat → Nat} : ∀ {l : List Nat}, (∀ x ∈ l, f x = g x) → sumX f l = sumX g l
  | [], _ => rfl
  | x :: l, h => by show f x ^^^ sumX f l = g x ^^^ sumX g l; rw [h x List.mem_cons_self, sumX_congr fun y hy => h y (List.mem_cons_of_mem _ hy)]
theorem mulm_sumX (a : Nat) (f : Nat → Nat) : ∀ l : List Nat, mulm q a (sumX f l) = sumX (fun x => mulm q a (f x)) l
  | [] => mulm_zero F a
  | x :: l => by show mulm q a (f x ^^^ sumX f l) = _; rw [mulm_xor F, mulm_sumX a f l]; rfl
omit F in
theorem zipX_getD {a b : List Nat} (h : a.length = b.length) (i : Nat) : (List.zipWith (· ^^^ ·) a b).getD i 0 = a.getD i 0 ^^^ b.getD i 0 := by
  rw [List.getD_eq_getElem?_getD, List.getElem?_zipWith, List.getD_eq_getElem?_getD, List.getD_eq_getElem?_getD]
  by_cases g : i < a.length
  · rw [List.getElem?_eq_getElem g, List.getElem?_eq_getElem (by rw [← h]; exact g)]; rfl
  · rw [List.getElem?_eq_none (by omega), List.getElem?_eq_none (by omega)]; rfl
theorem map_getD (e : Nat) (p : List Nat) (i : Nat) : (p.map (mulm q e)).getD i 0 = mulm q e (p.getD i 0) := by
  rw [List.getD_eq_getElem?_getD, List.getD_eq_getElem?_getD, List.getElem?_map]
  cases p[i]? with
  | none => exact (mulm_zero F e).symm
  | some c => rfl
def others (xs : List Nat) (x : Nat) : List Nat := xs.filter fun y => decide (y ≠ x)
omit F in
theorem others_len {x : Nat} : ∀ {xs : List Nat}, xs.Nodup → x ∈ xs → (others xs x).length + 1 = xs.length
  | a :: l, nd, h => by
    obtain ⟨na, nd'⟩ := List.nodup_cons.mp nd
    unfold others
    by_cases e : a = x
    · have hl : l.filter (fun y => decide (y ≠ x)) = l := List.filter_eq_self.mpr fun y hy => decide_eq_true fun z => na (by rw [e, ← z]; exact hy)
      rw [List.filter_cons_of_neg (by simp [e]), hl]; rfl
    · rw [List.filter_cons_of_pos (by simp [e])]
      have := others_len nd' ((List.mem_cons.mp h).resolve_left fun z => e z.symm)
      unfold others at this
      rw [List.length_cons, this]; rfl
omit F in
theorem others_mem {xs : List Nat} {x y : Nat} : y ∈ others xs x ↔ y ∈ xs ∧ y ≠ x := by unfold others; rw [List.mem_filter, decide_eq_true_iff]
/-- the polynomial of the weights -/
def wpol (q c j : Nat) (u : Nat → Nat) (X : List Nat) (l : List Nat) : List Nat := l.foldr (fun x acc => List.zipWith (· ^^^ ·) ((frs q (others X x)).map (mulm q (mulm q (u x) (pw q x j)))) acc) ((List.replicate (c + 1) 0).set j 1)
theorem wpol_ok {c j : Nat} {u : Nat → Nat} {X : List Nat} (nd : X.Nodup) (hX : El m X) (hl : X.length = c + 1) (hj : j ≤ c) : ∀ l : List Nat, (∀ x ∈ l, x ∈ X) →
    (wpol q c j u X l).length = c + 1 ∧ El m (wpol q c j u X l) ∧ (∀ y, y < 2 ^ m → ev q y (wpol q c j u X l) = sumX (fun x => mulm q (mulm q (u x) (pw q x j)) (ev q y (frs q (others X x)))) l ^^^ pw q y j) ∧
    (j < c → (wpol q c j u X l).getD c 0 = sumX (fun x => mulm q (mulm q (u x) (pw q x j)) 1) l)
  | [], _ => by
    refine ⟨by simp [wpol], fun d hd => ?_, fun y hy => ?_, fun hj => ?_⟩
    · rcases List.mem_or_eq_of_mem_set hd with z | z
      · rw [List.eq_of_mem_replicate z]; exact Nat.two_pow_pos m
      · rw [z]; exact one_lt F
    · show ev q y ((List.replicate (c + 1) 0).set j 1) = 0 ^^^ _
      have := ev_set F (x := y) (c := 1) (one_lt F) (t := List.replicate (c + 1) 0) (k := j) (d := 0) (by rw [List.getElem?_replicate, if_pos (by omega)])
      rw [Nat.zero_xor] at this
      rw [this, ev_zeros F, one_mulm F (pw_lt F y j)]
    · show ((List.replicate (c + 1) 0).set j 1).getD c 0 = 0
      rw [set_getD (by rw [List.length_replicate]; omega), if_neg (by omega), rep_getD]
  | x :: l, h => by
    obtain ⟨h1, h2, h3, h4⟩ := wpol_ok nd hX hl hj l fun y hy => h y (List.mem_cons_of_mem _ hy)
    have hx := h x List.mem_cons_self
    have ho : El m (others X x) := fun y hy => hX y (others_mem.mp hy).1
    have M := frs_mon F c (others X x) (by have := others_len nd hx; omega) ho
    have ll : ((frs q (others X x)).map (mulm q (mulm q (u x) (pw q x j)))).length = (wpol q c j u X l).length := by rw [List.length_map, M.len, h1]
    refine ⟨by show (List.zipWith _ _ (wpol q c j u X l)).length = _; rw [List.length_zipWith, ll, h1]; omega, fun d hd => ?_, fun y hy => ?_, fun hj => ?_⟩
    · obtain ⟨i, hi⟩ := List.mem_iff_getElem?.mp hd
      have := zipX_getD ll i
      rw [List.getD_eq_getElem?_getD] at this
      have e : (List.zipWith (· ^^^ ·) ((frs q (others X x)).map (mulm q (mulm q (u x) (pw q x j)))) (wpol q c j u X l))[i]? = some d := hi
      rw [e] at this
      have this : d = _ := this
      rw [this, map_getD F]
      exact Nat.xor_lt_two_pow (mulm_lt F _ _) (getD_lt h2 i)
    · show ev q y (List.zipWith _ _ (wpol q c j u X l)) = (_ ^^^ sumX _ l) ^^^ _
      rw [ev_zip F ll, ev_map F, h3 y hy, Nat.xor_assoc]
    · show (List.zipWith _ _ (wpol q c j u X l)).getD c 0 = _ ^^^ sumX _ l
      rw [zipX_getD ll, map_getD F, M.top, h4 hj]
/-- the weights of points: their sums with the powers below are 0 -/
theorem wts_zero {c j : Nat} {u : Nat → Nat} {X : List Nat} (nd : X.Nodup) (hX : El m X) (hl : X.length = c + 1) (hj : j < c) (hu : ∀ x ∈ X, u x < 2 ^ m) (h1 : ∀ x ∈ X, mulm q (u x) (ev q x (frs q (others X x))) = 1) : sumX (fun x => mulm q (u x) (pw q x j)) X = 0 := by
  obtain ⟨g1, g2, g3, g4⟩ := wpol_ok F (c := c) (j := j) (u := u) nd hX hl (by omega) X fun x hx => hx
  have z := all_zero F X g2 hX nd (fun i hi => getD_out (by omega)) fun y hy => by
    rw [g3 y (hX y hy), sumX_one (y := y) nd hy fun x hx hne => by
      rw [ev_frs F (hX y hy) _ (others X x) rfl (others_mem.mpr ⟨hy, fun e => hne e.symm⟩), mulm_zero F]]
    rw [mulm_comm (u y), mulm_assoc F, h1 y hy, mulm_one F (pw_lt F y j), Nat.xor_self]
  have := g4 hj
  rw [z c] at this
  rw [this]
  exact sumX_congr fun x hx => (mulm_one F (mulm_lt F _ _)).symm
/-- the value of the product of X + e at x -/
theorem ev_frs_more {x e : Nat} (hx : x < 2 ^ m) (rs : List Nat) : ev q x (frs q (rs ++ [e])) = mulm q (ev q x (frs q rs)) (x ^^^ e) := by
  rw [frs_more, ev_trim F, ev_conv F, ev_pair F hx]
theorem ev_frs_ne {x : Nat} (hx : x < 2 ^ m) : ∀ (n : Nat) (rs : List Nat), rs.length = n → El m rs → x ∉ rs → ev q x (frs q rs) ≠ 0
  | 0, rs, h, _, _ => by
    rw [List.length_eq_zero_iff.mp h]
    show mulm q 0 x ^^^ 1 ≠ 0
    rw [zero_mulm F]; decide
  | n + 1, rs, h, he, hm => by
    rcases List.eq_nil_or_concat rs with g | ⟨l, e, g⟩
    · subst g; simp at h
    · subst g
      rw [List.concat_eq_append] at h he hm ⊢
      rw [ev_frs_more F hx]
      have hel : El m l := fun a ha => he a (by simp [ha])
      have hee : e < 2 ^ m := he e (by simp)
      have n1 := ev_frs_ne hx n l (by simpa using h) hel fun z => hm (by simp [z])
      have lt1 : ev q x (frs q l) < 2 ^ m := ev_lt F (frs_mon F _ l rfl hel).el
      exact mulm_ne F lt1 (Nat.xor_lt_two_pow hx hee) n1 fun z => hm (by rw [xor0 z]; simp)
end
end COD
namespace K20o
open PySem PySem.Spec L2 NB ER MKX
def top (i : Nat) : Stmt := PySem.Challenge.pw_farhaul_k20_whole_least_distance.main.body.getD i (.Pass ⟨0, 0, 0, 0⟩)
abbrev s_degree : Stmt := top 27
theorem sc_degree : FnScope ["p"] ["p"] (defScope s_degree) := ⟨rfl, rfl, rfl, by decide +kernel, rfl, by decide +kernel, by decide +kernel⟩
abbrev s_times_binary : Stmt := top 28
theorem sc_times_binary : FnScope ["p", "q", "total", "i"] ["p", "q"] (defScope s_times_binary) := ⟨rfl, rfl, rfl, by decide +kernel, rfl, by decide +kernel, by decide +kernel⟩
abbrev s_divide_binary : Stmt := top 30
theorem sc_divide_binary : FnScope ["p", "q", "quotient", "rest", "shift"] ["p", "q"] (defScope s_divide_binary) := ⟨rfl, rfl, rfl, by decide +kernel, rfl, by decide +kernel, by decide +kernel⟩
abbrev s_common : Stmt := top 32
theorem sc_common : FnScope ["p", "q", "last", "rest"] ["p", "q"] (defScope s_common) := ⟨rfl, rfl, rfl, by decide +kernel, rfl, by decide +kernel, by decide +kernel⟩
abbrev s_product_rest : Stmt := top 33
theorem sc_product_rest : FnScope ["p", "q", "modulus"] ["p", "q", "modulus"] (defScope s_product_rest) := ⟨rfl, rfl, rfl, by decide +kernel, rfl, by decide +kernel, by decide +kernel⟩
abbrev s_is_irreducible : Stmt := top 34
theorem sc_is_irreducible : FnScope ["p", "power", "_"] ["p"] (defScope s_is_irreducible) := ⟨rfl, rfl, rfl, by decide +kernel, rfl, by decide +kernel, by decide +kernel⟩
abbrev s__powers_of : Stmt := top 38
theorem sc__powers_of : FnScope ["e", "modulus", "powers", "power"] ["e", "modulus"] (defScope s__powers_of) := ⟨rfl, rfl, rfl, by decide +kernel, rfl, by decide +kernel, by decide +kernel⟩
abbrev s__root_powers : Stmt := top 37
theorem sc__root_powers : FnScope ["turn", "modulus", "e", "powers"] ["turn", "modulus"] (defScope s__root_powers) := ⟨rfl, rfl, rfl, by decide +kernel, rfl, by decide +kernel, by decide +kernel⟩
abbrev s_Field___init__ : Stmt := inClass (top 36) 0
theorem sc_Field___init__ : FnScope ["self", "m", "modulus", "k", "e"] ["self", "m", "modulus"] (defScope s_Field___init__) := ⟨rfl, rfl, rfl, by decide +kernel, rfl, by decide +kernel, by decide +kernel⟩
/-! ### the mathematics of bits -/
theorem mod_pow_succ (q i : Nat) : q % 2 ^ (i + 1) = q % 2 ^ i ^^^ (if q / 2 ^ i % 2 = 1 then 2 ^ i else 0) := by
  apply Nat.eq_of_testBit_eq
  intro j
  rw [Nat.testBit_xor, Nat.testBit_mod_two_pow, Nat.testBit_mod_two_pow]
  by_cases e : j = i
  · subst e
    by_cases h : q / 2 ^ j % 2 = 1
    · rw [if_pos h, Nat.testBit_two_pow_self]; simp [Nat.testBit_eq_decide_div_mod_eq, h]
    · rw [if_neg h]; simp [Nat.testBit_eq_decide_div_mod_eq, h]
  · have e2 : (if q / 2 ^ i % 2 = 1 then 2 ^ i else 0).testBit j = false := by
      split
      · rw [Nat.testBit_two_pow]; simp; omega
      · simp
    rw [e2]
    by_cases h : j < i
    · simp [h]; omega
    · have : ¬ j < i + 1 := by omega
      simp [h, this]
theorem times_step (p q i : Nat) : GF.mul p (q % 2 ^ (i + 1)) = GF.mul p (q % 2 ^ i) ^^^ (if q / 2 ^ i % 2 = 1 then 2 ^ i * p else 0) := by
  rw [mod_pow_succ, GF.mul_xor]
  congr 1
  split
  · exact GF.mul_pow _ _
  · exact GF.mul_zero _
theorem bits_lt (q : Nat) : q < 2 ^ NB.bits q := by
  unfold NB.bits
  split
  · rename_i h; subst h; decide
  · exact Nat.lt_log2_self
theorem bits_le {q n : Nat} : NB.bits q ≤ n ↔ q < 2 ^ n := by
  unfold NB.bits
  split
  · rename_i h; subst h; simp [Nat.two_pow_pos]
  · rename_i h2
    exact Nat.log2_lt h2
theorem bits_pos {q : Nat} (h : q ≠ 0) : NB.bits q = q.log2 + 1 := by unfold NB.bits; rw [if_neg h]
theorem bits_deg {q : Nat} (h : q ≠ 0) : GF.Deg q (NB.bits q - 1) := by rw [bits_pos h]; exact GF.deg_log h
/-- the bit is not there -/
theorem or_xor {k s : Nat} (h : k % 2 ^ (s + 1) = 0) : k ||| 2 ^ s = k ^^^ 2 ^ s := by
  have hb : k.testBit s = false := by
    have := Nat.testBit_mod_two_pow k (s + 1) s
    rw [h] at this
    simp at this
    exact this
  apply Nat.eq_of_testBit_eq
  intro j
  rw [Nat.testBit_or, Nat.testBit_xor, Nat.testBit_two_pow]
  by_cases e : s = j
  · subst e; rw [hb]; simp
  · simp [e]
theorem xor_mod_zero {k s t : Nat} (h : k % 2 ^ (s + 1) = 0) (ht : t ≤ s) : (k ^^^ 2 ^ s) % 2 ^ t = 0 := by
  rw [Nat.xor_mod_two_pow]
  have d : 2 ^ t ∣ 2 ^ (s + 1) := Nat.pow_dvd_pow 2 (by omega)
  have d2 : 2 ^ t ∣ 2 ^ s := Nat.pow_dvd_pow 2 ht
  have h1 : k % 2 ^ t = 0 := Nat.mod_eq_zero_of_dvd (Nat.dvd_trans d (Nat.dvd_of_mod_eq_zero h))
  rw [h1, Nat.mod_eq_zero_of_dvd d2]; rfl
theorem div_step {r q s : Nat} (hq : q ≠ 0) (hs : NB.bits r = NB.bits q + s) : NB.bits (r ^^^ 2 ^ s * q) < NB.bits r := by
  have hb := bits_pos hq
  have hr : r ≠ 0 := by intro z; subst z; unfold NB.bits at hs; simp at hs; rw [if_neg hq] at hs; omega
  have dr := bits_deg hr
  have dq := GF.deg_shift (bits_deg hq) s
  have e : s + (NB.bits q - 1) = NB.bits r - 1 := by omega
  rw [e] at dq
  have := bits_le.mpr (GF.deg_xor dr dq)
  omega
theorem xor_swap (a b c : Nat) : a ^^^ c ^^^ (b ^^^ c) = a ^^^ b := by rw [Nat.xor_assoc a c, Nat.xor_comm b c, ← Nat.xor_assoc c c, Nat.xor_self, Nat.zero_xor]
section
variable {P : Program} {w : World} {K : PySem.W.Frag} {mg : Str → Option Value} {base : Heap}
def sp_degree : Sp := fun vs H Q _ => ∃ p : Nat, vs = [.int p] ∧ Q (.int ((NB.bits p : Nat) - 1 : Int)) H
theorem ok_degree {f : Addr} {fd : FuncData} (D : Df K mg "degree" ["p"] s_degree f fd) : FnOk P w K mg base CX0 1 f fd ["p"] sp_degree := by
  refine D.F.ok sc_degree (fun vs H Q E h => ?_) (fun cdv A outer s H vs Q E hr h => ?_)
  · obtain ⟨p, rfl, _⟩ := h; rfl
  · obtain ⟨p, rfl, k⟩ := h
    refine ⟨_, pss_one (ps_ret (pe_op op_sub (pe_bits (pv 0)) pe_int)), ?_⟩
    refine ⟨_, rfl, _, rfl, _, _, rfl, rfl, ?_⟩
    rw [intBits_nat]
    exact k
def sp_times_binary : Sp := fun vs H Q _ => ∃ p q : Nat, vs = [.int p, .int q] ∧ p < 2 ^ 64 ∧ q < 2 ^ 64 ∧ Q (.int ((GF.mul p q : Nat) : Int)) H
theorem ok_times_binary {f : Addr} {fd : FuncData} (D : Da K mg "times_binary" "times" ["p", "q"] s_times_binary f fd) (B : Bl mg) : FnOk P w K mg base CX0 1 f fd ["p", "q"] sp_times_binary := by
  refine D.F.ok sc_times_binary (fun vs H Q E h => ?_) (fun cdv A outer s H vs Q E hr h => ?_)
  · obtain ⟨p, q, rfl, _⟩ := h; rfl
  · obtain ⟨p, q, rfl, hp, hq, k⟩ := h
    refine ⟨_, (pss_cons (ps_set (i := 2) sc_times_binary.nd rfl (Or.inl rfl) (pe_nat 0))
      (pss_cons (ps_for PassesOwn.never rfl (pi_range1 rfl B.range (pa_cons (pe_bits (pv 1)) pa_nil)) (pg_name (i := 3) sc_times_binary.nd rfl (Or.inl rfl) (Or.inr rfl))
        (pss_one (ps_if (pt_truth (pe_op nb_and (pe_op nb_shr (pv 1) (pv 3)) (pe_nat 1)) (by intro _; rfl)) (pss_one (ps_aug (i := 2) sc_times_binary.nd rfl (Or.inl rfl) (pe_op nb_shl (pv 0) (pv 3)) nbi_xor)) pss_nil)))
      (pss_one (ps_ret (pv 2))))), ?_⟩
    have hb := bits_le.mpr hq
    refine ⟨_, rfl, _, rfl, _, rfl, by omega, by rw [intBits_nat]; omega, ?_⟩
    rw [intBits_nat]
    refine for_rangeN (lo := 0) (n := NB.bits q) (fun i σ H' => ∃ v, σ = [some (.int p), some (.int q), some (.int ((GF.mul p (q % 2 ^ i) : Nat) : Int)), v] ∧ H' = H) ⟨none, ?_, rfl⟩ ?_ ?_
    · rw [Nat.pow_zero, Nat.mod_one, GF.mul_zero]; rfl
    · rintro i σ H' hi ⟨v, rfl, rfl⟩
      rw [Nat.zero_add]
      refine ⟨_, rfl, _, rfl, _, _, rfl, rfl, _, _, rfl, rfl, _, rfl, ?_⟩
      have key := times_step p q i
      rw [Nat.and_one_is_mod]
      refine iteZ (fun c => ?_) (fun c => ?_)
      · rw [if_pos (by omega)] at key
        refine ⟨_, rfl, _, rfl, _, rfl, _, _, rfl, rfl, ⟨hp, by omega⟩, _, _, rfl, rfl, some (.int i), ?_, rfl⟩
        rw [key]; rfl
      · rw [if_neg (by omega), Nat.xor_zero] at key
        refine ⟨some (.int i), ?_, rfl⟩
        rw [key]; rfl
    · rintro σ H' ⟨v, rfl, rfl⟩
      rw [Nat.mod_eq_of_lt (bits_lt q)]
      exact ⟨_, rfl, k⟩
def sp_divide_binary (C : Addr) : Sp := fun vs H Q E => ∃ p q : Nat, vs = [.int p, .int q] ∧ p < 2 ^ 64 ∧ q < 2 ^ 64 ∧
  (q = 0 → ∀ d, H d = none → E (.ref C) (some d) (upd H d (.xd [("at", .int 0)]))) ∧
  (q ≠ 0 → ∀ a, H a = none → Q (.ref a) (upd H a (.tup [.int ((GF.pdiv p q : Nat) : Int), .int ((GF.pmod p q : Nat) : Int)])))
theorem ok_divide_binary {f f_degree f_init C CH : Addr} {fd fd_degree fd_init : FuncData} (D : Da K mg "divide_binary" "divide" ["p", "q"] s_divide_binary f fd) (D_degree : Df K mg "degree" ["p"] s_degree f_degree fd_degree)
    (X_NoDivisor : XC K mg "NoDivisor" C f_init CH) (G_init : FnOk P w K mg base CX0 1 f_init fd_init ["self", "at"] (sp_init K)) (b_init : Binds K fd_init ["self", "at"] []) : FnOk P w K mg base (L2.CX P w) 3 f fd ["p", "q"] (sp_divide_binary C) := by
  have G_degree : FnOk P w K mg base CX0 1 f_degree fd_degree ["p"] sp_degree := ok_degree D_degree
  refine D.F.okX sc_divide_binary (fun vs H Q E h => ?_) (fun cdv A outer s H vs Q E hr h => ?_)
  · obtain ⟨p, q, rfl, _⟩ := h; rfl
  · obtain ⟨p, q, rfl, hp, hq, kE, kQ⟩ := h
    refine ⟨_, (pss_cons (ps_if (pt_cmpR op_eq (pv 1) (pe_nat 0) (nomark _)) (pss_one (ps_err rfl X_NoDivisor G_init (hr.mono (by decide)) b_init pass0 (takes_of rfl rfl rfl rfl) (pa_cons (pe_nat 0) pa_nil))) pss_nil)
      (pss_cons (ps_set (i := 2) sc_divide_binary.nd rfl (Or.inl rfl) (pe_nat 0))
      (pss_cons (ps_set (i := 3) sc_divide_binary.nd rfl (Or.inl rfl) (pv 0))
      (pss_cons (ps_set (i := 4) sc_divide_binary.nd rfl (Or.inl rfl) (pe_op op_sub (pe_call G_degree (hr.mono (by decide)) rfl D_degree.g D_degree.F.kp D_degree.b .nil pass0 (pa_cons (pv 3) pa_nil)) (pe_call G_degree (hr.mono (by decide)) rfl D_degree.g D_degree.F.kp D_degree.b .nil pass0 (pa_cons (pv 1) pa_nil))))
      (pss_cons (ps_while (passes_of rfl) (pt_cmpR op_ge (pv 4) (pe_nat 0) (nomark _))
        (pss_cons (ps_aug (i := 2) sc_divide_binary.nd rfl (Or.inl rfl) (pe_op nb_shl (pe_nat 1) (pv 4)) nbi_or)
        (pss_cons (ps_aug (i := 3) sc_divide_binary.nd rfl (Or.inl rfl) (pe_op nb_shl (pv 1) (pv 4)) nbi_xor)
        (pss_one (ps_set (i := 4) sc_divide_binary.nd rfl (Or.inl rfl) (pe_op op_sub (pe_call G_degree (hr.mono (by decide)) rfl D_degree.g D_degree.F.kp D_degree.b .nil pass0 (pa_cons (pv 3) pa_nil)) (pe_call G_degree (hr.mono (by decide)) rfl D_degree.g D_degree.F.kp D_degree.b .nil pass0 (pa_cons (pv 1) pa_nil))))))))
      (pss_one (ps_ret (pe_tup (pa_cons (pv 2) (pa_cons (pv 3) pa_nil)))))))))), ?_⟩
    refine ⟨_, rfl, rfl, _, rfl, iteD (fun c => ?_) (fun c => ?_)⟩
    · have q0 : q = 0 := by have := V.int.inj c; omega
      exact ⟨0, rfl, by decide, fun d hd => kE q0 d hd⟩
    · have q0 : q ≠ 0 := fun z => c (by rw [z])
      refine ⟨_, rfl, _, rfl, p, rfl, _, rfl, q, rfl, _, _, rfl, rfl, ?_⟩
      refine while_by (fun σ H' => H' = H ∧ ∃ (k r : Nat) (z : Int), σ = [some (.int p), some (.int q), some (.int (k : Int)), some (.int (r : Int)), some (.int z)] ∧ z = (NB.bits r : Int) - NB.bits q ∧ p = GF.mul k q ^^^ r ∧ k % 2 ^ (NB.bits r + 1 - NB.bits q) = 0 ∧ r < 2 ^ 64)
        (fun σ _ => match σ with | [_, _, _, some (.int r), _] => NB.bits r.toNat | _ => 0) ⟨rfl, 0, p, _, rfl, ?_, ?_, ?_, hp⟩ ?_ ?_
      · omega
      · rw [GF.zero_mul, Nat.zero_xor]
      · exact Nat.zero_mod _
      · rintro σ H' ⟨rfl, k, r, z, rfl, hz, hpk, hk, hr64⟩
        refine ⟨_, rfl, _, _, rfl, rfl, _, rfl, iteD (fun c => ?_) (fun c => ?_)⟩
        · have c' : 0 ≤ z := c
          obtain ⟨s, rfl⟩ := Int.eq_ofNat_of_zero_le c'
          have hs : NB.bits r = NB.bits q + s := by omega
          have hb64 := bits_le.mpr hr64
          have e1 : NB.bits r + 1 - NB.bits q = s + 1 := by omega
          rw [e1] at hk
          have hd := div_step q0 hs
          refine ⟨_, rfl, _, rfl, _, _, rfl, rfl, ⟨by decide, by omega⟩, _, _, rfl, rfl, _, rfl, _, rfl, _, rfl, _, _, rfl, rfl, ⟨hq, by omega⟩, _, _, rfl, rfl, _, rfl, _, rfl, _, rfl, q, rfl, _, _, rfl, rfl, ⟨rfl, k ^^^ 2 ^ s, r ^^^ 2 ^ s * q, (NB.bits (r ^^^ 2 ^ s * q) : Int) - 1 - ((NB.bits q : Int) - 1), ?_, ?_, ?_, ?_, ?_⟩, ?_⟩
          · rw [Nat.mul_one, ← or_xor hk]; rfl
          · omega
          · rw [GF.xor_mul, GF.pow_mul, hpk, xor_swap]
          · exact xor_mod_zero hk (by omega)
          · exact Nat.lt_of_lt_of_le (bits_lt _) (Nat.pow_le_pow_right (by decide) (by omega))
          · exact hd
        · have c' : z < 0 := by have : ¬ (0 : Int) ≤ z := c; omega
          have hb := bits_pos q0
          have hrl : r < 2 ^ q.log2 := bits_le.mp (by omega)
          obtain ⟨e1, e2⟩ := GF.mod_of q0 hrl hpk
          refine ⟨_, rfl, _, rfl, (by show 2 ≤ sizeLine; decide), fun a ha => ?_⟩
          have := kQ q0 a ha
          rw [e1, e2] at this
          exact this
      · rintro σ H' Q1 Q2 kk ⟨v, e, i, j, e1, e2, b, e3, qq⟩
        exact ⟨v, e, i, j, e1, e2, b, e3, kk _ _ qq⟩
def sp_common : Sp := fun vs H Q _ => ∃ p q : Nat, vs = [.int p, .int q] ∧ p < 2 ^ 64 ∧ q < 2 ^ 64 ∧ ∀ H', Same H H' → Q (.int ((GF.gcd p q : Nat) : Int)) H'
theorem ok_common {f f_divide_binary C : Addr} {fd fd_divide_binary : FuncData} (D : Df K mg "common" ["p", "q"] s_common f fd) (D_divide_binary : Da K mg "divide_binary" "divide" ["p", "q"] s_divide_binary f_divide_binary fd_divide_binary)
    (G_divide_binary : FnOk P w K mg base (L2.CX P w) 3 f_divide_binary fd_divide_binary ["p", "q"] (sp_divide_binary C)) : FnOk P w K mg base CX0 4 f fd ["p", "q"] sp_common := by
  refine D.F.ok sc_common (fun vs H Q E h => ?_) (fun cdv A outer s H vs Q E hr h => ?_)
  · obtain ⟨p, q, rfl, _⟩ := h; rfl
  · obtain ⟨p, q, rfl, hp, hq, k⟩ := h
    refine ⟨_, (pss_cons (ps_set (i := 2) sc_common.nd rfl (Or.inl rfl) (pv 0))
      (pss_cons (ps_set (i := 3) sc_common.nd rfl (Or.inl rfl) (pv 1))
      (pss_cons (ps_while PassesOwn.never (pt_cmpR op_ne (pv 3) (pe_nat 0) (nomark _))
        (pss_one (ps_par (i := 2) (j := 3) (by rfl) sc_common.nd rfl rfl (by decide) rfl rfl (pa_cons (pv 3) (pa_cons (pe_ix ix_tup (pe_call G_divide_binary (hr.mono (by decide)) rfl D_divide_binary.g D_divide_binary.F.kp D_divide_binary.b .nil passL (pa_cons (pv 2) (pa_cons (pv 3) pa_nil))) (pe_nat 1) (fun _ _ => rfl)) pa_nil)) (by rfl))))
      (pss_one (ps_ret (pv 2)))))), ?_⟩
    refine ⟨_, rfl, _, rfl, ?_⟩
    refine while_by (fun σ H' => ∃ a b : Nat, σ = [some (.int p), some (.int q), some (.int (a : Int)), some (.int (b : Int))] ∧ GF.gcd a b = GF.gcd p q ∧ a < 2 ^ 64 ∧ b < 2 ^ 64 ∧ Same H H')
      (fun σ _ => match σ with | [_, _, _, some (.int r)] => GF.siz r.toNat | _ => 0) ⟨p, q, rfl, rfl, hp, hq, Same.refl H⟩ ?_ ?_
    · rintro σ H' ⟨a, b, rfl, hg, ha, hb, sm⟩
      refine ⟨_, rfl, rfl, _, rfl, iteN (fun c => ?_) (fun c => ?_)⟩
      · have b0 : b ≠ 0 := fun z => c (by rw [z])
        refine ⟨_, rfl, _, rfl, _, rfl, a, b, rfl, ha, hb, fun z => absurd z b0, fun _ t ht => ?_⟩
        refine ⟨t, _, _, _, rfl, rfl, SqT.of upd_same, atI_nat (j := 1) rfl, _, _, rfl, ⟨b, GF.pmod a b, rfl, ?_, hb, ?_, same_new sm ht⟩, ?_⟩
        · rw [← hg, GF.gcd_step a b0]
        · exact Nat.lt_trans (GF.mod_lt b0) (Nat.pow_lt_pow_right (by decide) ((Nat.log2_lt b0).mpr hb))
        · exact GF.siz_mod b0
      · have b0 : b = 0 := by have := V.int.inj c; omega
        subst b0
        rw [GF.gcd_zero] at hg
        refine ⟨_, rfl, ?_⟩
        rw [hg]
        exact k _ sm
    · rintro σ H' Q1 Q2 kk ⟨v, e, hs, b, e3, qq⟩
      exact ⟨v, e, hs, b, e3, kk _ _ qq⟩
theorem mul_lt {p q i j : Nat} (hp : p < 2 ^ i) (hq : q < 2 ^ j) : GF.mul p q < 2 ^ (i + j) := by
  by_cases p0 : p = 0
  · subst p0; rw [GF.zero_mul]; exact Nat.two_pow_pos _
  · by_cases q0 : q = 0
    · subst q0; rw [GF.mul_zero]; exact Nat.two_pow_pos _
    · have h1 := (Nat.log2_lt p0).mpr hp
      have h2 := (Nat.log2_lt q0).mpr hq
      have := (GF.mul_deg (GF.deg_log p0) (GF.deg_log q0)).2
      exact Nat.lt_of_lt_of_le this (Nat.pow_le_pow_right (by decide) (by omega))
def sp_product_rest : Sp := fun vs H Q _ => ∃ p q n : Nat, vs = [.int p, .int q, .int n] ∧ p < 2 ^ 32 ∧ q < 2 ^ 32 ∧ n < 2 ^ 64 ∧ n ≠ 0 ∧ ∀ H', Same H H' → Q (.int ((GF.pmod (GF.mul p q) n : Nat) : Int)) H'
theorem ok_product_rest {f f_divide_binary f_times_binary C : Addr} {fd fd_divide_binary fd_times_binary : FuncData} (D : Df K mg "product_rest" ["p", "q", "modulus"] s_product_rest f fd) (D_divide_binary : Da K mg "divide_binary" "divide" ["p", "q"] s_divide_binary f_divide_binary fd_divide_binary)
    (G_divide_binary : FnOk P w K mg base (L2.CX P w) 3 f_divide_binary fd_divide_binary ["p", "q"] (sp_divide_binary C)) (D_times_binary : Da K mg "times_binary" "times" ["p", "q"] s_times_binary f_times_binary fd_times_binary)
    (G_times_binary : FnOk P w K mg base CX0 1 f_times_binary fd_times_binary ["p", "q"] sp_times_binary) : FnOk P w K mg base CX0 4 f fd ["p", "q", "modulus"] sp_product_rest := by
  refine D.F.ok sc_product_rest (fun vs H Q E h => ?_) (fun cdv A outer s H vs Q E hr h => ?_)
  · obtain ⟨p, q, n, rfl, _⟩ := h; rfl
  · obtain ⟨p, q, n, rfl, hp, hq, hn, n0, k⟩ := h
    refine ⟨_, (pss_one (ps_ret (pe_ix ix_tup (pe_call G_divide_binary (hr.mono (by decide)) rfl D_divide_binary.g D_divide_binary.F.kp D_divide_binary.b .nil passL (pa_cons (pe_call G_times_binary (hr.mono (by decide)) rfl D_times_binary.g D_times_binary.F.kp D_times_binary.b .nil pass0 (pa_cons (pv 0) (pa_cons (pv 1) pa_nil))) (pa_cons (pv 2) pa_nil))) (pe_nat 1) (fun _ _ => rfl)))), ?_⟩
    refine ⟨_, rfl, _, rfl, p, q, rfl, by omega, by omega, _, rfl, GF.mul p q, n, rfl, mul_lt hp hq, hn, fun z => absurd z n0, fun _ t ht => ?_⟩
    exact ⟨t, _, _, _, rfl, rfl, SqT.of upd_same, atI_nat (j := 1) rfl, k _ (same_upd ht)⟩
def sp_irr : Sp := fun vs H Q _ => ∃ p : Nat, vs = [.int p] ∧ p < 131072 ∧ ∀ (b : Bool) H', (b = true ↔ GF.Irr p) → Same H H' → Q (.bl b) H'
theorem fr_lt {p : Nat} (h2 : 2 ≤ p) (hp : p < 131072) (i : Nat) : GF.fr i p < 2 ^ 32 := by
  have h0 : p ≠ 0 := by omega
  cases i with
  | zero => show 2 < 2 ^ 32; decide
  | succ i =>
    have h1 : p.log2 < 17 := (Nat.log2_lt h0).mpr hp
    exact Nat.lt_trans (GF.mod_lt h0) (Nat.pow_lt_pow_right (by decide) (by omega))
theorem ok_is_irreducible {f f_degree f_product_rest f_common : Addr} {fd fd_degree fd_product_rest fd_common : FuncData} {tk : Tok} (D : Df K mg "is_irreducible" ["p"] s_is_irreducible f fd) (B : Bl mg) (c_X : mg "X" = some (.int 2 tk))
    (D_degree : Df K mg "degree" ["p"] s_degree f_degree fd_degree) (G_degree : FnOk P w K mg base CX0 1 f_degree fd_degree ["p"] sp_degree)
    (D_product_rest : Df K mg "product_rest" ["p", "q", "modulus"] s_product_rest f_product_rest fd_product_rest) (G_product_rest : FnOk P w K mg base CX0 4 f_product_rest fd_product_rest ["p", "q", "modulus"] sp_product_rest)
    (D_common : Df K mg "common" ["p", "q"] s_common f_common fd_common) (G_common : FnOk P w K mg base CX0 4 f_common fd_common ["p", "q"] sp_common) : FnOk P w K mg base CX0 5 f fd ["p"] sp_irr := by
  refine D.F.ok sc_is_irreducible (fun vs H Q E h => ?_) (fun cdv A outer s H vs Q E hr h => ?_)
  · obtain ⟨p, rfl, _⟩ := h; rfl
  · obtain ⟨p, rfl, hp, k⟩ := h
    refine ⟨_, (pss_cons (ps_if (pt_cmpR op_lt (pe_call G_degree (hr.mono (by decide)) rfl D_degree.g D_degree.F.kp D_degree.b .nil pass0 (pa_cons (pv 0) pa_nil)) (pe_nat 1) (nomark _)) (pss_one (ps_ret pe_bl)) pss_nil)
      (pss_cons (ps_set (i := 1) sc_is_irreducible.nd rfl (Or.inl rfl) (pe_glob (v := .int ((2 : Nat) : Int)) rfl c_X ⟨_, rfl⟩))
      (pss_cons (ps_for PassesOwn.never rfl (pi_range1 rfl B.range (pa_cons (pe_op op_fdiv (pe_call G_degree (hr.mono (by decide)) rfl D_degree.g D_degree.F.kp D_degree.b .nil pass0 (pa_cons (pv 0) pa_nil)) (pe_nat 2)) pa_nil)) (pg_name (i := 2) sc_is_irreducible.nd rfl (Or.inl rfl) (Or.inr rfl))
        (pss_cons (ps_set (i := 1) sc_is_irreducible.nd rfl (Or.inl rfl) (pe_call G_product_rest (hr.mono (by decide)) rfl D_product_rest.g D_product_rest.F.kp D_product_rest.b .nil pass0 (pa_cons (pv 1) (pa_cons (pv 1) (pa_cons (pv 0) pa_nil)))))
        (pss_one (ps_if (pt_cmpR op_ne (pe_call G_common (hr.mono (by decide)) rfl D_common.g D_common.F.kp D_common.b .nil pass0 (pa_cons (pe_op nb_xor (pv 1) (pe_glob (v := .int ((2 : Nat) : Int)) rfl c_X ⟨_, rfl⟩)) (pa_cons (pv 0) pa_nil))) (pe_nat 1) (nomark _)) (pss_one (ps_ret pe_bl)) pss_nil))))
      (pss_one (ps_ret pe_bl))))), ?_⟩
    have hb17 : NB.bits p ≤ 17 := bits_le.mpr hp
    refine ⟨_, rfl, p, rfl, _, _, rfl, rfl, _, rfl, iteD (fun c => ?_) (fun c => ?_)⟩
    · have c' : (NB.bits p : Int) - 1 < 1 := c
      have hp1 : p < 2 ^ 1 := bits_le.mp (by omega)
      exact k false H ⟨(fun z => nomatch z), fun z => by have := z.1; omega⟩ (Same.refl H)
    · have c' : ¬ (NB.bits p : Int) - 1 < 1 := c
      have h2 : 2 ≤ p := by
        apply Classical.byContradiction
        intro n
        have : NB.bits p ≤ 1 := bits_le.mpr (by omega)
        omega
      have hp0 : p ≠ 0 := by omega
      have hbp := bits_pos hp0
      refine ⟨_, rfl, p, rfl, _, _, rfl, rfl, ⟨by decide, by decide⟩, _, rfl, by omega, by omega, ?_⟩
      have en : (((NB.bits p : Int) - 1) / ((2 : Nat) : Int)).toNat = p.log2 / 2 := by omega
      rw [en]
      refine for_rangeN (lo := 0) (n := p.log2 / 2) (fun i σ H' => ∃ v, σ = [some (.int p), some (.int ((GF.fr i p : Nat) : Int)), v] ∧ Same H H' ∧ ∀ j, 1 ≤ j → j ≤ i → GF.gcd (GF.fr j p ^^^ 2) p = 1) ⟨none, rfl, Same.refl H, fun j h1 h2 => by omega⟩ ?_ ?_
      · rintro i σ H' hi ⟨v, rfl, sm, ht⟩
        have hf := fr_lt h2 hp i
        have hf2 := fr_lt h2 hp (i + 1)
        refine ⟨_, rfl, _, rfl, _, rfl, GF.fr i p, GF.fr i p, p, rfl, hf, hf, by omega, hp0, fun H1 s1 => ?_⟩
        refine ⟨_, rfl, _, _, rfl, rfl, _, rfl, GF.fr (i + 1) p ^^^ 2, p, rfl, ?_, by omega, fun H2 s2 => ?_⟩
        · exact GF.xor_lt (n := 64) (by omega) (by decide)
        · refine ⟨rfl, _, rfl, iteN (fun d => ?_) (fun d => ?_)⟩
          · refine k false H2 ⟨(fun z => nomatch z), fun z => ?_⟩ ((sm.trans s1).trans s2)
            exfalso
            apply d
            rw [GF.test_of_irr z hp (i + 1) (by omega) (by omega)]
          · have d' : GF.gcd (GF.fr (i + 1) p ^^^ 2) p = 1 := by have := V.int.inj d; omega
            refine ⟨some (.int ((0 + i : Nat) : Int)), rfl, (sm.trans s1).trans s2, fun j h1 h3 => ?_⟩
            by_cases e : j = i + 1
            · subst e; exact d'
            · exact ht j h1 (by omega)
      · rintro σ H' ⟨v, rfl, sm, ht⟩
        exact k true H' ⟨fun _ => GF.irr_of_test h2 hp ht, fun _ => rfl⟩ sm
end
theorem NL_get_inv {ns : List Nat} {i : Nat} {x : V} (h : (NL ns)[i]? = some x) : ∃ z : Nat, ns[i]? = some z ∧ x = .int (z : Int) := by
  unfold NL at h
  rw [List.getElem?_map] at h
  cases e : ns[i]? with
  | none => rw [e] at h; cases h
  | some z => rw [e] at h; exact ⟨z, rfl, (Option.some.inj h).symm⟩
section
variable {P : Program} {w : World} {K : PySem.W.Frag} {mg : Str → Option Value} {base : Heap}
open FLD
/-- the powers of e from 0 to k - 1 -/
def pws (q e k : Nat) : List Nat := (List.range k).map (pw q e)
theorem pws_len (q e k : Nat) : (pws q e k).length = k := by unfold pws; rw [List.length_map, List.length_range]
theorem pws_get {q e k i : Nat} (h : i < k) : (pws q e k)[i]? = some (pw q e i) := by unfold pws; rw [List.getElem?_map, List.getElem?_range h]; rfl
theorem pws_more (q e k : Nat) : pws q e (k + 1) = pws q e k ++ [pw q e k] := by unfold pws; rw [List.range_succ, List.map_append]; rfl
def sp_powers_of : Sp := fun vs H Q _ => ∃ e q m : Nat, vs = [.int e, .int q] ∧ Fd m q ∧ e ≠ 0 ∧ e < 2 ^ m ∧
  ∀ (a : Addr) H' (k : Nat), Same H H' → H a = none → H' a = some (.lst (NL (pws q e k))) → 1 ≤ k → k ≤ 2 ^ m - 1 → pw q e k = 1 → (∀ i, 1 ≤ i → i < k → pw q e i ≠ 1) → Q (.ref a) H'
theorem pow_m {m q : Nat} (F : Fd m q) : 4 ≤ 2 ^ m ∧ 2 ^ m ≤ 256 :=
  ⟨Nat.le_trans (by decide) (Nat.pow_le_pow_right (n := 2) (by decide) F.h2), Nat.le_trans (Nat.pow_le_pow_right (n := 2) (by decide) F.h8) (by decide)⟩
theorem ok__powers_of {f f_product_rest : Addr} {fd fd_product_rest : FuncData} (D : Df K mg "_powers_of" ["e", "modulus"] s__powers_of f fd)
    (D_product_rest : Df K mg "product_rest" ["p", "q", "modulus"] s_product_rest f_product_rest fd_product_rest) (G_product_rest : FnOk P w K mg base CX0 4 f_product_rest fd_product_rest ["p", "q", "modulus"] sp_product_rest) :
    FnOk P w K mg base CX0 5 f fd ["e", "modulus"] sp_powers_of := by
  refine D.F.ok sc__powers_of (fun vs H Q E h => ?_) (fun cdv A outer s H vs Q E hr h => ?_)
  · obtain ⟨e, q, m, rfl, _⟩ := h; rfl
  · obtain ⟨e, q, m, rfl, F, e0, elt, k⟩ := h
    refine ⟨_, (pss_cons (ps_set (i := 2) sc__powers_of.nd rfl (Or.inl rfl) (pe_lst (pa_cons (pe_nat 1) pa_nil)))
      (pss_cons (ps_set (i := 3) sc__powers_of.nd rfl (Or.inl rfl) (pv 0))
      (pss_cons (ps_while PassesOwn.never (pt_cmpR op_ne (pv 3) (pe_nat 1) (nomark _))
        (pss_cons (ps_expr (pe_bm PySem.F.plainAttrs_list PySem.F.slot_list_append PySem.F.type_list_append mt_append (pv 2) (pa_cons (pv 3) pa_nil)))
        (pss_one (ps_set (i := 3) sc__powers_of.nd rfl (Or.inl rfl) (pe_call G_product_rest (hr.mono (by decide)) rfl D_product_rest.g D_product_rest.F.kp D_product_rest.b .nil pass0 (pa_cons (pv 3) (pa_cons (pv 0) (pa_cons (pv 1) pa_nil))))))))
      (pss_one (ps_ret (pv 2)))))), ?_⟩
    obtain ⟨hm4, hm256⟩ := pow_m F
    have hq5 := q_512 F
    obtain ⟨r, hR⟩ := root_ex F
    have hall := pw_all F hR e0 elt
    refine ⟨(by show 1 ≤ sizeLine; decide), fun a na => ⟨_, rfl, ?_⟩⟩
    refine while_by (fun σ H' => ∃ j : Nat, σ = [some (.int e), some (.int q), some (.ref a), some (.int ((pw q e j : Nat) : Int))] ∧ 1 ≤ j ∧ j ≤ 2 ^ m - 1 ∧ H' a = some (.lst (NL (pws q e j))) ∧ Same H H' ∧ ∀ i, 1 ≤ i → i < j → pw q e i ≠ 1)
      (fun _ H' => match H' a with | some (.lst l) => 256 - l.length | _ => 0) ⟨1, ?_, Nat.le_refl _, by omega, ?_, same_upd na, fun i h1 h2 => by omega⟩ ?_ ?_
    · rw [pw_first F elt]; rfl
    · rw [upd_same]; rfl
    · rintro σ H' ⟨j, rfl, hj, hjN, ha, sm, hno⟩
      have hpl := pw_lt F e j
      refine ⟨_, rfl, rfl, _, rfl, iteN (fun c => ?_) (fun c => ?_)⟩
      · have c' : pw q e j ≠ 1 := fun z => c (by rw [z])
        have hj2 : j ≠ 2 ^ m - 1 := fun z => c' (by rw [z]; exact hall)
        refine ⟨_, rfl, .inl ⟨rfl, _, SqL.of ha⟩, _, rfl, a, _, _, rfl, rfl, ha, by rw [NL_len, pws_len]; exact small1000 (by omega), ?_⟩
        refine ⟨_, rfl, _, rfl, _, rfl, pw q e j, e, q, rfl, by omega, by omega, by omega, q0 F, fun H1 s1 => ⟨⟨j + 1, rfl, by omega, by omega, ?_, (same_upd2 sm na).trans s1, fun i h1 h2 => ?_⟩, ?_⟩⟩
        · refine s1 _ _ ?_
          rw [upd_same, NL_app, ← pws_more]
        · by_cases z : i = j
          · subst z; exact c'
          · exact hno i h1 (by omega)
        · have h1 : H1 a = some (.lst (NL (pws q e (j + 1)))) := s1 _ _ (by rw [upd_same, NL_app, ← pws_more])
          show (match H1 a with | some (.lst l) => 256 - l.length | _ => 0) < (match H' a with | some (.lst l) => 256 - l.length | _ => 0)
          rw [h1, ha]
          show 256 - (NL (pws q e (j + 1))).length < 256 - (NL (pws q e j)).length
          rw [NL_len, NL_len, pws_len, pws_len]; omega
      · have c' : pw q e j = 1 := by have := V.int.inj c; omega
        exact ⟨_, rfl, k a H' j sm na ha hj hjN c' hno⟩
    · rintro σ H' Q1 Q2 kk ⟨v, e1, hs, b, e3, qq⟩
      exact ⟨v, e1, hs, b, e3, kk _ _ qq⟩
def sp_root_powers : Sp := fun vs H Q _ => ∃ q m : Nat, vs = [.int ((2 ^ m - 1 : Nat) : Int), .int q] ∧ Fd m q ∧
  ∀ (a : Addr) H' (r : Nat), Same H H' → H a = none → LeastRoot m q r → H' a = some (.lst (NL (pws q r (2 ^ m - 1)))) → Q (.ref a) H'
theorem ok__root_powers {f f__powers_of : Addr} {fd fd__powers_of : FuncData} (D : Df K mg "_root_powers" ["turn", "modulus"] s__root_powers f fd) (B : Bl mg)
    (D__powers_of : Df K mg "_powers_of" ["e", "modulus"] s__powers_of f__powers_of fd__powers_of) (G__powers_of : FnOk P w K mg base CX0 5 f__powers_of fd__powers_of ["e", "modulus"] sp_powers_of) :
    FnOk P w K mg base CX0 6 f fd ["turn", "modulus"] sp_root_powers := by
  refine D.F.ok sc__root_powers (fun vs H Q E h => ?_) (fun cdv A outer s H vs Q E hr h => ?_)
  · obtain ⟨q, m, rfl, _⟩ := h; rfl
  · obtain ⟨q, m, rfl, F, k⟩ := h
    refine ⟨_, (pss_cons (ps_set (i := 2) sc__root_powers.nd rfl (Or.inl rfl) (pe_nat 2))
      (pss_cons (ps_set (i := 3) sc__root_powers.nd rfl (Or.inl rfl) (pe_call G__powers_of (hr.mono (by decide)) rfl D__powers_of.g D__powers_of.F.kp D__powers_of.b .nil pass0 (pa_cons (pv 2) (pa_cons (pv 1) pa_nil))))
      (pss_cons (ps_while PassesOwn.never (pt_cmpR op_lt (pe_callB call_len_seq (by rfl) B.len PySem.boot_len (pa_cons (pv 3) pa_nil)) (pv 0) (nomark _))
        (pss_cons (ps_aug (i := 2) sc__root_powers.nd rfl (Or.inl rfl) (pe_nat 1) nbi_add)
        (pss_one (ps_set (i := 3) sc__root_powers.nd rfl (Or.inl rfl) (pe_call G__powers_of (hr.mono (by decide)) rfl D__powers_of.g D__powers_of.F.kp D__powers_of.b .nil pass0 (pa_cons (pv 2) (pa_cons (pv 1) pa_nil)))))))
      (pss_one (ps_ret (pv 3)))))), ?_⟩
    obtain ⟨hm4, hm256⟩ := pow_m F
    obtain ⟨r, hR, hleast⟩ := least_ex F
    have hr2 := hR.ge
    have hrl := hR.lt
    have done : ∀ (e k0 : Nat), 2 ≤ e → e ≤ r → 1 ≤ k0 → k0 ≤ 2 ^ m - 1 → pw q e k0 = 1 → (∀ i, 1 ≤ i → i < k0 → pw q e i ≠ 1) → ¬ k0 < 2 ^ m - 1 → e = r ∧ k0 = 2 ^ m - 1 := fun e k0 h1 h2 h3 h4 h5 h6 h7 => by
      have e1 : k0 = 2 ^ m - 1 := by omega
      subst e1
      refine ⟨?_, rfl⟩
      apply Classical.byContradiction
      intro n
      exact hleast e (by omega) ⟨by omega, h1, h5, h6⟩
    refine ⟨_, rfl, _, rfl, 2, q, m, rfl, F, by decide, by omega, fun a H1 k0 s1 na h1 hk1 hk2 hk3 hk4 => ?_⟩
    refine while_by (fun σ H' => ∃ (e : Nat) (b : Addr) (k0 : Nat), σ = [some (.int ((2 ^ m - 1 : Nat) : Int)), some (.int q), some (.int (e : Int)), some (.ref b)] ∧ 2 ≤ e ∧ e ≤ r ∧ Same H H' ∧ H b = none ∧ H' b = some (.lst (NL (pws q e k0))) ∧ 1 ≤ k0 ∧ k0 ≤ 2 ^ m - 1 ∧ pw q e k0 = 1 ∧ ∀ i, 1 ≤ i → i < k0 → pw q e i ≠ 1)
      (fun σ _ => match σ with | [_, _, some (.int e), _] => r - e.toNat | _ => 0) ⟨2, a, k0, rfl, Nat.le_refl _, hr2, s1, na, h1, hk1, hk2, hk3, hk4⟩ ?_ ?_
    · rintro σ H' ⟨e, b, k0, rfl, e2, er, sm, nb, hb, hk1, hk2, hk3, hk4⟩
      refine ⟨_, rfl, b, _, rfl, .inl (SqL.of hb), _, rfl, _, _, rfl, rfl, _, rfl, iteD (fun c => ?_) (fun c => ?_)⟩
      · have c' : k0 < 2 ^ m - 1 := by
          have : ((NL (pws q e k0)).length : Int) < ((2 ^ m - 1 : Nat) : Int) := c
          rw [NL_len, pws_len] at this; omega
        have ne : e ≠ r := fun z => by subst z; exact hR.no k0 hk1 c' hk3
        refine ⟨_, rfl, _, _, rfl, rfl, _, rfl, _, rfl, e + 1, q, m, rfl, F, by omega, by omega, fun a2 H2 k2 s2 na2 g1 g2 g3 g4 g5 => ⟨⟨e + 1, a2, k2, rfl, by omega, by omega, sm.trans s2, sm.free na2, g1, g2, g3, g4, g5⟩, ?_⟩⟩
        show r - (e + 1) < r - e
        omega
      · have c' : ¬ k0 < 2 ^ m - 1 := fun z => c (by
          show ((NL (pws q e k0)).length : Int) < ((2 ^ m - 1 : Nat) : Int)
          rw [NL_len, pws_len]; omega)
        obtain ⟨e1, e3⟩ := done e k0 e2 er hk1 hk2 hk3 hk4 c'
        subst e1 e3
        exact ⟨_, rfl, k b H' e sm nb ⟨hR, hleast⟩ hb⟩
    · rintro σ H' Q1 Q2 kk ⟨v, e1, p, ys, e2, hp, u, e3, i, j, e4, e5, b, e6, qq⟩
      exact ⟨v, e1, p, ys, e2, hp, u, e3, i, j, e4, e5, b, e6, kk _ _ qq⟩
end
section
variable {P : Program} {w : World} {K : PySem.W.Frag} {mg : Str → Option Value} {base : Heap}
open FLD
/-- the attributes of a field, before the products stand -/
def ffl0 (m q : Nat) (a b : Addr) : List (Str × V) :=
  putF "_logs" (.ref b) (putF "_powers" (.ref a) (putF "_turn" (.int ((2 ^ m - 1 : Nat) : Int)) (putF "_modulus" (.int (q : Int)) (putF "_bits" (.int (m : Int)) []))))
/-- the attributes of a field -/
def ffl (m q : Nat) (a b c : Addr) : List (Str × V) := putF "_products" (.ref c) (ffl0 m q a b)
theorem str1 : ¬ (("_bits" : Str) = "_logs") ∧ ¬ (("_bits" : Str) = "_powers") ∧ ¬ (("_bits" : Str) = "_turn") ∧ ¬ (("_bits" : Str) = "_modulus") ∧ ¬ (("_bits" : Str) = "_products") := by decide +kernel
theorem str2 : ¬ (("_modulus" : Str) = "_logs") ∧ ¬ (("_modulus" : Str) = "_powers") ∧ ¬ (("_modulus" : Str) = "_turn") ∧ ¬ (("_turn" : Str) = "_logs") ∧ ¬ (("_turn" : Str) = "_powers") ∧ ¬ (("_powers" : Str) = "_logs") := by decide +kernel
theorem str3 : ¬ (("_modulus" : Str) = "_products") ∧ ¬ (("_turn" : Str) = "_products") ∧ ¬ (("_powers" : Str) = "_products") ∧ ¬ (("_logs" : Str) = "_products") := by decide +kernel
theorem ffl0_turn (m q : Nat) (a b : Addr) : (ffl0 m q a b).lookup ("_turn" : Str) = some (.int ((2 ^ m - 1 : Nat) : Int)) := by
  obtain ⟨b1, b2, b3, b4, b5, b6⟩ := str2
  unfold ffl0; simp only [lookup_putF, b4, b5, if_false, if_true]
theorem ffl0_powers (m q : Nat) (a b : Addr) : (ffl0 m q a b).lookup ("_powers" : Str) = some (.ref a) := by
  obtain ⟨b1, b2, b3, b4, b5, b6⟩ := str2
  unfold ffl0; simp only [lookup_putF, b6, if_false, if_true]
theorem ffl0_logs (m q : Nat) (a b : Addr) : (ffl0 m q a b).lookup ("_logs" : Str) = some (.ref b) := by unfold ffl0; simp only [lookup_putF, if_true]
def fl4 (m q : Nat) (a : Addr) : List (Str × V) := putF "_powers" (.ref a) (putF "_turn" (.int ((2 ^ m - 1 : Nat) : Int)) (putF "_modulus" (.int (q : Int)) (putF "_bits" (.int (m : Int)) [])))
theorem fl4_turn (m q : Nat) (a : Addr) : (fl4 m q a).lookup ("_turn" : Str) = some (.int ((2 ^ m - 1 : Nat) : Int)) := by
  obtain ⟨b1, b2, b3, b4, b5, b6⟩ := str2
  unfold fl4; simp only [lookup_putF, b5, if_false, if_true]
theorem ffl0_len (m q : Nat) (a b : Addr) : (ffl0 m q a b).length = 5 := by
  obtain ⟨a1, a2, a3, a4, a5⟩ := str1
  obtain ⟨b1, b2, b3, b4, b5, b6⟩ := str2
  unfold ffl0
  simp only [putF, a1, a2, a3, a4, b1, b2, b3, b4, b5, b6, if_false]
  rfl
/-- the products, by the sums of the logarithms -/
def prods (m q r : Nat) : List Nat := pws q r (2 ^ m - 1) ++ pws q r (2 ^ m - 1) ++ List.replicate (2 * (2 ^ m - 1) + 1) 0
/-- a field stands at p -/
structure FieldAt (C : Addr) (H : Hp) (p : Addr) (m q r : Nat) : Prop where
  fd : Fd m q
  lr : LeastRoot m q r
  ex : ∃ (dx a b c : Addr) (logs : List Nat), H p = some (.ins C dx (ffl m q a b c)) ∧ H a = some (.lst (NL (pws q r (2 ^ m - 1)))) ∧ H b = some (.lst (NL logs)) ∧ (∀ k, k < 2 ^ m - 1 → logs[pw q r k]? = some k) ∧ H c = some (.lst (NL (prods m q r))) ∧ logs[0]? = some (2 * (2 ^ m - 1))
theorem FieldAt.mono {C : Addr} {H H' : Hp} {p : Addr} {m q r : Nat} (h : FieldAt C H p m q r) (s : Same H H') : FieldAt C H' p m q r := by
  obtain ⟨dx, a, b, c, logs, h1, h2, h3, h4, h5, h6⟩ := h.ex
  exact ⟨h.fd, h.lr, dx, a, b, c, logs, s _ _ h1, s _ _ h2, s _ _ h3, h4, s _ _ h5, h6⟩
/-- what the top says of the class -/
structure FC (K : PySem.W.Frag) (C : Addr) : Prop where
  cl : Cls K C
  n1 : NoAttr K C "_bits"
  n2 : NoAttr K C "_modulus"
  n3 : NoAttr K C "_turn"
  n4 : NoAttr K C "_powers"
  n5 : NoAttr K C "_logs"
  n6 : NoAttr K C "_products"
/-- a field stands at p, its lists are new -/
structure FieldNew (C : Addr) (H H' : Hp) (p : Addr) (m q r : Nat) : Prop where
  fd : Fd m q
  lr : LeastRoot m q r
  ex : ∃ (dx a b c : Addr) (logs : List Nat), H' p = some (.ins C dx (ffl m q a b c)) ∧ H' a = some (.lst (NL (pws q r (2 ^ m - 1)))) ∧ H' b = some (.lst (NL logs)) ∧ (∀ k, k < 2 ^ m - 1 → logs[pw q r k]? = some k) ∧ H' c = some (.lst (NL (prods m q r))) ∧ logs[0]? = some (2 * (2 ^ m - 1)) ∧ H a = none ∧ H b = none ∧ H c = none
def sp_finit (C C1 C2 : Addr) : Sp := fun vs H Q E => ∃ (p dx : Addr) (m q : Int), vs = [.ref p, .int m, .int q] ∧ H p = some (.ins C dx []) ∧ m.natAbs.log2 < 1920 ∧ q.natAbs.log2 < 1920 ∧ q.natAbs < 2 ^ 64 ∧
  (¬ (2 ≤ m ∧ m ≤ 8) → ∀ d, H d = none → E (.ref C1) (some d) (upd H d (.xd [("at", .int m)]))) ∧
  (2 ≤ m → m ≤ 8 → ¬ (0 ≤ q ∧ Fd m.toNat q.toNat) → ∀ d H', Same H H' → H' d = none → E (.ref C2) (some d) (upd H' d (.xd [("at", .int q)]))) ∧
  (∀ mn qn r : Nat, m = (mn : Int) → q = (qn : Int) → Fd mn qn → ∀ H', (∀ b o, H b = some o → b ≠ p → H' b = some o) → FieldNew C H H' p mn qn r → Q .non H')
theorem ok_Field___init__ {f f_degree f_is_irreducible f__root_powers f_init C C_OutOfRange C_NotIrreducible CH : Addr} {fd fd_degree fd_is_irreducible fd__root_powers fd_init : FuncData} (F : Fun K "__init__" "Field.__init__" s_Field___init__ f fd) (B : Bl mg) (T : FC K C)
    (D_degree : Df K mg "degree" ["p"] s_degree f_degree fd_degree) (G_degree : FnOk P w K mg base CX0 1 f_degree fd_degree ["p"] sp_degree)
    (D_is_irreducible : Df K mg "is_irreducible" ["p"] s_is_irreducible f_is_irreducible fd_is_irreducible) (G_is_irreducible : FnOk P w K mg base CX0 5 f_is_irreducible fd_is_irreducible ["p"] sp_irr)
    (D__root_powers : Df K mg "_root_powers" ["turn", "modulus"] s__root_powers f__root_powers fd__root_powers) (G__root_powers : FnOk P w K mg base CX0 6 f__root_powers fd__root_powers ["turn", "modulus"] sp_root_powers)
    (X_OutOfRange : XC K mg "OutOfRange" C_OutOfRange f_init CH) (X_NotIrreducible : XC K mg "NotIrreducible" C_NotIrreducible f_init CH) (G_init : FnOk P w K mg base CX0 1 f_init fd_init ["self", "at"] (sp_init K)) (b_init : Binds K fd_init ["self", "at"] []) :
    FnOk P w K mg base (L2.CX P w) 8 f fd ["self", "m", "modulus"] (sp_finit C C_OutOfRange C_NotIrreducible) := by
  refine F.okX sc_Field___init__ (fun vs H Q E h => ?_) (fun cdv A outer s H vs Q E hr h => ?_)
  · obtain ⟨p, dx, m, q, rfl, _⟩ := h; rfl
  · obtain ⟨p, dx, m, q, rfl, hp, hm, hq, hq64, kM, kN, kQ⟩ := h
    refine ⟨_, (pss_cons (ps_if (PW.pt (pw_or (pt_cmpR op_lt (pv 1) (pe_nat 2) (nomark _)) (pw_or1 (pt_cmpR op_gt (pv 1) (pe_nat 8) (nomark _))))) (pss_one (ps_err rfl X_OutOfRange G_init (hr.mono (by decide)) b_init pass0 (takes_of rfl rfl rfl rfl) (pa_cons (pv 1) pa_nil))) pss_nil)
      (pss_cons (ps_if (PW.pt (pw_or (pt_cmpR op_lt (pv 2) (pe_nat 0) (nomark _)) (pw_or (pt_cmpR op_ne (pe_call G_degree (hr.mono (by decide)) rfl D_degree.g D_degree.F.kp D_degree.b .nil pass0 (pa_cons (pv 2) pa_nil)) (pv 1) (nomark _)) (pw_or1 (pt_not (pt_val (pe_call G_is_irreducible (hr.mono (by decide)) rfl D_is_irreducible.g D_is_irreducible.F.kp D_is_irreducible.b .nil pass0 (pa_cons (pv 2) pa_nil)))))))) (pss_one (ps_err rfl X_NotIrreducible G_init (hr.mono (by decide)) b_init pass0 (takes_of rfl rfl rfl rfl) (pa_cons (pv 2) pa_nil))) pss_nil)
      (pss_cons (ps_fld (pv 0) (pv 1) rfl)
      (pss_cons (ps_fld (pv 0) (pv 2) rfl)
      (pss_cons (ps_fld (pv 0) (pe_op nb_sub (pe_op nb_shl (pe_nat 1) (pv 1)) (pe_nat 1)) rfl)
      (pss_cons (ps_fld (pv 0) (pe_call G__root_powers (hr.mono (by decide)) rfl D__root_powers.g D__root_powers.F.kp D__root_powers.b .nil pass0 (pa_cons (pe_fld (pv 0) rfl) (pa_cons (pv 2) pa_nil))) rfl)
      (pss_cons (ps_fld (pv 0) (pe_op op_rep (pe_lst (pa_cons (pe_op nb_mul (pe_nat 2) (pe_fld (pv 0) rfl)) pa_nil)) (pe_op nb_shl (pe_nat 1) (pv 1))) rfl)
      (pss_cons (ps_for (passes_of rfl) rfl (pi_enum rfl B.enumerate (pa_cons (pe_fld (pv 0) rfl) pa_nil)) (pg_tup rfl (pgs_cons (pg_name (i := 3) sc_Field___init__.nd rfl (Or.inl rfl) (Or.inr rfl)) (pgs_cons (pg_name (i := 4) sc_Field___init__.nd rfl (Or.inl rfl) (Or.inr rfl)) pgs_nil)))
        (pss_one (ps_asg (pv 3) (pg_sub (pe_fld (pv 0) rfl) (pv 4) set_list))))
      (pss_one (ps_fld (pv 0) (pe_op op_cat (pe_op op_cat (pe_fld (pv 0) rfl) (pe_fld (pv 0) rfl)) (pe_op op_rep (pe_lst (pa_cons (pe_nat 0) pa_nil)) (pe_op nb_add (pe_op nb_mul (pe_nat 2) (pe_fld (pv 0) rfl)) (pe_nat 1)))) rfl)))))))))), ?_⟩
    refine ⟨_, rfl, _, _, rfl, rfl, _, rfl, iteD (fun c => ?_) (fun c => ?_)⟩
    · have c' : m < 2 := c
      refine iteT ?_
      exact ⟨_, rfl, m, rfl, hm, fun d hd => kM (by omega) d hd⟩
    have c1 : ¬ m < 2 := c
    refine ⟨_, rfl, _, _, rfl, rfl, _, rfl, iteD (fun c => ?_) (fun c => ?_)⟩
    · have c' : 8 < m := c
      exact ⟨_, rfl, m, rfl, hm, fun d hd => kM (by omega) d hd⟩
    have c2 : ¬ 8 < m := c
    obtain ⟨mn, rfl⟩ := Int.eq_ofNat_of_zero_le (show 0 ≤ m by omega)
    have bad : ¬ (0 ≤ q ∧ Fd mn q.toNat) → ∀ H', Same H H' → tRaise C_NotIrreducible (fun cls d _ H => E cls d H) (tCons (tVar 2) tNil) { nx := fun _ _ => True, rt := fun _ _ => True } [some (.ref p), some (.int (mn : Int)), some (.int q), none, none] H' := fun hb H' sm => ⟨_, rfl, q, rfl, hq, fun d hd => kN (by omega) (by omega) hb d H' sm hd⟩
    refine ⟨_, rfl, _, _, rfl, rfl, _, rfl, iteD (fun c => ?_) (fun c => ?_)⟩
    · have c' : q < 0 := c
      refine iteT ?_
      exact bad (fun z => by omega) H (Same.refl H)
    have c3 : ¬ q < 0 := c
    obtain ⟨qn, rfl⟩ := Int.eq_ofNat_of_zero_le (show 0 ≤ q by omega)
    refine ⟨_, rfl, qn, rfl, _, rfl, rfl, _, rfl, iteN (fun c => ?_) (fun c => ?_)⟩
    · refine bad (fun z => c ?_) H (Same.refl H)
      have hl := z.2.lg
      have h0 := q0 z.2
      have := bits_pos (q := qn) h0
      have hl2 : qn.log2 = mn := hl
      show V.int ((NB.bits qn : Int) - 1) = V.int (mn : Int)
      exact congrArg V.int (by omega)
    have c4 : (NB.bits qn : Int) - 1 = (mn : Int) := V.int.inj c
    have hq0 : qn ≠ 0 := fun z => by subst z; unfold NB.bits at c4; simp at c4
    have hb := bits_pos hq0
    have hlg : qn.log2 = mn := by omega
    have hq131 : qn < 131072 := Nat.lt_of_lt_of_le (bits_lt qn) (Nat.le_trans (Nat.pow_le_pow_right (n := 2) (by decide) (show NB.bits qn ≤ 17 by omega)) (by decide))
    refine ⟨_, rfl, qn, rfl, hq131, fun b H1 hb1 s1 => ⟨b, rfl, ?_⟩⟩
    cases b with
    | false =>
      refine iteT ?_
      exact bad (fun z => nomatch hb1.mpr z.2.irr) H1 s1
    | true =>
      refine iteF ?_
      have FD : Fd mn qn := ⟨by omega, by omega, hb1.mp rfl, hlg⟩
      obtain ⟨hm4, hm256⟩ := pow_m FD
      have hp1 := s1 _ _ hp
      refine ⟨_, rfl, _, rfl, p, C, dx, _, rfl, hp1, T.cl, T.n1, (by show 0 < 1000; decide), ?_⟩
      refine ⟨_, rfl, _, rfl, p, C, dx, _, rfl, upd_same, T.cl, T.n2, (by show 1 < 1000; decide), ?_⟩
      refine ⟨_, rfl, _, _, rfl, rfl, ⟨by decide, by omega⟩, _, _, rfl, rfl, (by show 1 ≤ 2 ^ mn * 1; omega), _, rfl, p, C, dx, _, rfl, upd_same, T.cl, T.n3, (by show 2 < 1000; decide), ?_⟩
      rw [Nat.mul_one]
      refine ⟨_, rfl, p, C, dx, _, _, rfl, upd_same, T.cl, T.n3, rfl, _, rfl, qn, mn, rfl, FD, fun a H2 r s2 na hL ha => ?_⟩
      have hpa : p ≠ a := ne_of_none upd_same na
      have hp2 := s2 _ _ upd_same
      refine ⟨_, rfl, p, C, dx, _, rfl, hp2, T.cl, T.n4, (by show 3 < 1000; decide), ?_⟩
      -- logs
      have e2t : (2 : Int) * ((2 ^ mn - 1 : Nat) : Int) = ((2 * (2 ^ mn - 1) : Nat) : Int) := by rw [Int.natCast_mul]; rfl
      refine ⟨_, rfl, p, C, dx, _, _, rfl, upd_same, T.cl, T.n3, fl4_turn mn qn a, 2, 2 ^ mn - 1, rfl, rfl, .inl (by decide), (by show 1 ≤ sizeLine; decide), fun z nz => ?_⟩
      have hpz : p ≠ z := ne_of_none upd_same nz
      have haz : a ≠ z := ne_of_none (by rw [upd_ne (Ne.symm hpa)]; exact ha) nz
      refine ⟨_, rfl, _, _, rfl, rfl, ⟨by decide, by omega⟩, z, ((2 ^ mn * 1 : Nat) : Int), _, rfl, rfl, upd_same, by omega, by omega, ?_, fun b nb => ?_⟩
      · have : sizeLine = 16777216 := sizeLine_eq
        show 1 * ((2 ^ mn * 1 : Nat) : Int).toNat ≤ sizeLine
        rw [Int.toNat_natCast]; omega
      have hpb : p ≠ b := ne_of_none (by rw [upd_ne hpz]; exact upd_same) nb
      have hab : a ≠ b := ne_of_none (by rw [upd_ne haz, upd_ne (Ne.symm hpa)]; exact ha) nb
      have erep : (List.replicate ((2 ^ mn * 1 : Nat) : Int).toNat [V.int ((2 * (2 ^ mn - 1) : Nat) : Int)]).flatten = NL (List.replicate (2 ^ mn) (2 * (2 ^ mn - 1))) := by
        rw [Int.toNat_natCast, Nat.mul_one]
        generalize 2 * (2 ^ mn - 1) = w
        generalize 2 ^ mn = n
        induction n with
        | zero => rfl
        | succ n ih => rw [List.replicate_succ, List.flatten_cons, ih, List.replicate_succ, NL_cons]; rfl
      rw [erep]
      refine ⟨_, rfl, p, C, dx, fl4 mn qn a, rfl, ?_, T.cl, T.n5, (by show 4 < 1000; decide), ?_⟩
      · rw [upd_ne hpb, upd_ne hpz]; exact upd_same
      -- the loop
      refine ⟨_, rfl, p, C, dx, _, _, rfl, upd_same, T.cl, T.n4, ffl0_powers mn qn a b, a, NL (pws qn r (2 ^ mn - 1)), rfl, SqL.of ?_, ?_⟩
      · rw [upd_ne (Ne.symm hpa), upd_ne hab, upd_ne haz, upd_ne (Ne.symm hpa)]; exact ha
      have keep : ∀ x o, H x = some o → x ≠ p → (upd (upd (upd (upd H2 p (.ins C dx (putF "_powers" (.ref a) (putF "_turn" (.int ((2 ^ mn - 1 : Nat) : Int)) (putF "_modulus" (.int (qn : Int)) (putF "_bits" (.int (mn : Int)) [])))))) z (.lst [V.int ((2 * (2 ^ mn - 1) : Nat) : Int)])) b (.lst (NL (List.replicate (2 ^ mn) (2 * (2 ^ mn - 1)))))) p (.ins C dx (ffl0 mn qn a b))) x = some o := fun x o hx hxp => by
        have h1 := s1 _ _ hx
        have h2 : H2 x = some o := s2 _ _ (by rw [upd_ne hxp, upd_ne hxp, upd_ne hxp]; exact h1)
        have h3 : (upd H2 p (.ins C dx (putF "_powers" (.ref a) (putF "_turn" (.int ((2 ^ mn - 1 : Nat) : Int)) (putF "_modulus" (.int (qn : Int)) (putF "_bits" (.int (mn : Int)) [])))))) x = some o := by rw [upd_ne hxp]; exact h2
        have hxz : x ≠ z := ne_of_none h3 nz
        have h4 : (upd (upd H2 p (.ins C dx (putF "_powers" (.ref a) (putF "_turn" (.int ((2 ^ mn - 1 : Nat) : Int)) (putF "_modulus" (.int (qn : Int)) (putF "_bits" (.int (mn : Int)) [])))))) z (.lst [V.int ((2 * (2 ^ mn - 1) : Nat) : Int)])) x = some o := by rw [upd_ne hxz]; exact h3
        have hxb : x ≠ b := ne_of_none h4 nb
        rw [upd_ne hxp, upd_ne hxb]; exact h4
      have nbH : ∀ x o, H x = some o → x ≠ p → x ≠ b := fun x o hx hxp hxb => by
        have h1 := s1 _ _ hx
        have h2 : H2 x = some o := s2 _ _ (by rw [upd_ne hxp, upd_ne hxp, upd_ne hxp]; exact h1)
        subst hxb
        rw [upd_ne (ne_of_none (by rw [upd_ne hxp]; exact h2) nz), upd_ne hxp, h2] at nb
        cases nb
      refine for_enumL (K := K) (a := a) (xs := NL (pws qn r (2 ^ mn - 1))) (fun i σ H' => ∃ (logs : List Nat) (v3 v4 : Option V), σ = [some (.ref p), some (.int (mn : Int)), some (.int (qn : Int)), v3, v4] ∧ H' p = some (.ins C dx (ffl0 mn qn a b)) ∧ H' a = some (.lst (NL (pws qn r (2 ^ mn - 1)))) ∧ H' b = some (.lst (NL logs)) ∧ logs.length = 2 ^ mn ∧
        (∀ k, k < i → logs[pw qn r k]? = some k) ∧ logs[0]? = some (2 * (2 ^ mn - 1)) ∧ ∀ x o, H x = some o → x ≠ p → H' x = some o) ⟨List.replicate (2 ^ mn) (2 * (2 ^ mn - 1)), none, none, rfl, upd_same, ?_, ?_, List.length_replicate, fun k hk => by omega, by rw [List.getElem?_replicate, if_pos (by omega)], keep⟩ (fun i σ H' _ h => by obtain ⟨logs, v3, v4, _, _, h2, _⟩ := h; exact SqL.of h2) ?_ ?_
      · rw [upd_ne (Ne.symm hpa), upd_ne hab, upd_ne haz, upd_ne (Ne.symm hpa)]; exact ha
      · rw [upd_ne (Ne.symm hpb), upd_same]
      · rintro i x t σ H' hx ⟨logs, v3, v4, rfl, g1, g2, g3, hll, hlk, hl0, kp⟩ nt
        obtain ⟨e, he, rfl⟩ := NL_get_inv hx
        have hiN : i < 2 ^ mn - 1 := by have := (List.getElem?_eq_some_iff.mp he).1; rw [pws_len] at this; exact this
        rw [pws_get hiN] at he
        cases he
        have hpl := pw_lt FD r i
        have hpt : p ≠ t := ne_of_none g1 nt
        have hat : a ≠ t := ne_of_none g2 nt
        have hbt : b ≠ t := ne_of_none g3 nt
        refine ⟨t, [_, _], rfl, SqT.of upd_same, rfl, _, _, rfl, _, _, rfl, rfl, ?_⟩
        refine ⟨_, rfl, _, rfl, p, C, dx, _, _, rfl, (by rw [upd_ne hpt]; exact g1), T.cl, T.n5, ffl0_logs _ _ _ _, _, rfl, b, _, _, pw qn r i, rfl, rfl, (by rw [upd_ne hbt]; exact g3), ixN_nat (by rw [NL_len]; omega), ?_⟩
        refine ⟨logs.set (pw qn r i) i, _, _, rfl, ?_, ?_, ?_, ?_, ?_, ?_, ?_⟩
        · rw [upd_ne hpb, upd_ne hpt]; exact g1
        · rw [upd_ne hab, upd_ne hat]; exact g2
        · rw [upd_same, NL_set]
        · rw [List.length_set]; exact hll
        · intro k hk
          by_cases z : k = i
          · subst z; exact List.getElem?_set_self (by omega)
          · rw [List.getElem?_set_ne (fun w => z (pw_inj FD hL.1 (by omega) hiN w.symm))]
            exact hlk k (by omega)
        · rw [List.getElem?_set_ne (pw_ne FD hL.1.lt (r0 FD hL.1) _)]; exact hl0
        · intro y o hy hyp
          have hy1 := kp y o hy hyp
          rw [upd_ne (nbH y o hy hyp), upd_ne (ne_of_none hy1 nt)]
          exact hy1
      · rintro σ H' ⟨logs, v3, v4, rfl, g1, g2, g3, hll, hlk, hl0, kp⟩
        rw [NL_len, pws_len] at hlk
        have sl := sizeLine_eq
        have lp := pws_len qn r (2 ^ mn - 1)
        have nlp : (NL (pws qn r (2 ^ mn - 1))).length = 2 ^ mn - 1 := by rw [NL_len, lp]
        refine ⟨_, rfl, p, C, dx, _, _, rfl, g1, T.cl, T.n4, ffl0_powers _ _ _ _, _, rfl, p, C, dx, _, _, rfl, g1, T.cl, T.n4, ffl0_powers _ _ _ _, a, a, _, _, rfl, rfl, g2, g2, by rw [nlp]; omega, fun x1 n1 => ?_⟩
        have p1 : p ≠ x1 := ne_of_none g1 n1
        have k1 : upd H' x1 (.lst (NL (pws qn r (2 ^ mn - 1)) ++ NL (pws qn r (2 ^ mn - 1)))) p = some (.ins C dx (ffl0 mn qn a b)) := by rw [upd_ne p1]; exact g1
        refine ⟨(by show 1 ≤ sizeLine; decide), fun x2 n2 => ?_⟩
        have p2 : p ≠ x2 := ne_of_none k1 n2
        have x12 : x1 ≠ x2 := ne_of_none upd_same n2
        refine ⟨_, rfl, p, C, dx, _, _, rfl, (by rw [upd_ne p2]; exact k1), T.cl, T.n3, ffl0_turn _ _ _ _, 2, 2 ^ mn - 1, rfl, rfl, .inl (by decide), 2 * (2 ^ mn - 1), 1, rfl, rfl, x2, ((2 * (2 ^ mn - 1) + 1 : Nat) : Int), _, rfl, rfl, upd_same, by omega, by omega, ?_, fun x3 n3 => ?_⟩
        · show 1 * ((2 * (2 ^ mn - 1) + 1 : Nat) : Int).toNat ≤ sizeLine
          rw [Int.toNat_natCast]; omega
        have erep0 : ∀ n : Nat, (List.replicate ((n : Nat) : Int).toNat [V.int ((0 : Nat) : Int)]).flatten = NL (List.replicate n 0) := fun n => by
          rw [Int.toNat_natCast]
          induction n with
          | zero => rfl
          | succ n ih => rw [List.replicate_succ, List.flatten_cons, ih, List.replicate_succ, NL_cons]; rfl
        have er := erep0 (2 * (2 ^ mn - 1) + 1)
        have p3 : p ≠ x3 := ne_of_none (by rw [upd_ne p2]; exact k1) n3
        have x13 : x1 ≠ x3 := ne_of_none (by rw [upd_ne x12]; exact upd_same) n3
        have nlz : (NL (List.replicate (2 * (2 ^ mn - 1) + 1) 0)).length = 2 * (2 ^ mn - 1) + 1 := by rw [NL_len, List.length_replicate]
        refine ⟨x1, x3, NL (pws qn r (2 ^ mn - 1)) ++ NL (pws qn r (2 ^ mn - 1)), NL (List.replicate (2 * (2 ^ mn - 1) + 1) 0), rfl, rfl, ?_, ?_, ?_, fun c nc => ?_⟩
        · rw [upd_ne x13, upd_ne x12]; exact upd_same
        · rw [upd_same, ← er]
        · rw [List.length_append, nlp, nlz]; omega
        have pc : p ≠ c := ne_of_none (by rw [upd_ne p3, upd_ne p2]; exact k1) nc
        refine ⟨_, rfl, p, C, dx, _, rfl, (by rw [upd_ne pc, upd_ne p3, upd_ne p2]; exact k1), T.cl, T.n6, (by rw [ffl0_len]; decide), ?_⟩
        have old : ∀ x o, H' x = some o → x ≠ p → (upd (upd (upd (upd (upd H' x1 (.lst (NL (pws qn r (2 ^ mn - 1)) ++ NL (pws qn r (2 ^ mn - 1))))) x2 (.lst [V.int ((0 : Nat) : Int)])) x3 (.lst ((List.replicate ((2 * (2 ^ mn - 1) + 1 : Nat) : Int).toNat [V.int ((0 : Nat) : Int)]).flatten))) c (.lst ((NL (pws qn r (2 ^ mn - 1)) ++ NL (pws qn r (2 ^ mn - 1))) ++ NL (List.replicate (2 * (2 ^ mn - 1) + 1) 0)))) p (.ins C dx (putF "_products" (.ref c) (ffl0 mn qn a b)))) x = some o := fun x o hx hxp => by
          have q1 : x ≠ x1 := ne_of_none hx n1
          have h1 : upd H' x1 (.lst (NL (pws qn r (2 ^ mn - 1)) ++ NL (pws qn r (2 ^ mn - 1)))) x = some o := by rw [upd_ne q1]; exact hx
          have q2 : x ≠ x2 := ne_of_none h1 n2
          have h2 : upd (upd H' x1 (.lst (NL (pws qn r (2 ^ mn - 1)) ++ NL (pws qn r (2 ^ mn - 1))))) x2 (.lst [V.int ((0 : Nat) : Int)]) x = some o := by rw [upd_ne q2]; exact h1
          have q3 : x ≠ x3 := ne_of_none h2 n3
          have q4 : x ≠ c := ne_of_none (by rw [upd_ne q3]; exact h2) nc
          rw [upd_ne hxp, upd_ne q4, upd_ne q3]; exact h2
        have ap : a ≠ p := Ne.symm hpa
        have bp : b ≠ p := Ne.symm hpb
        have nHa : H a = none := s1.free (by have := na; rwa [upd_ne ap, upd_ne ap, upd_ne ap] at this)
        have nHb : H b = none := by
          cases e : H b with
          | none => rfl
          | some o => exact absurd rfl (nbH b o e bp)
        have nHc : H c = none := by
          cases e : H c with
          | none => rfl
          | some o =>
            have q0 := kp c o e (Ne.symm pc)
            have q1 : c ≠ x1 := ne_of_none q0 n1
            have q2 : c ≠ x2 := ne_of_none (by rw [upd_ne q1]; exact q0) n2
            have q3 : c ≠ x3 := ne_of_none (by rw [upd_ne q2, upd_ne q1]; exact q0) n3
            rw [upd_ne q3, upd_ne q2, upd_ne q1, q0] at nc; cases nc
        refine kQ mn qn r rfl rfl FD _ (fun x o hx hxp => old x o (kp x o hx hxp) hxp) ⟨FD, hL, dx, a, b, c, logs, upd_same, old a _ g2 ap, old b _ g3 bp, hlk, ?_, hl0, nHa, nHb, nHc⟩
        rw [upd_ne (Ne.symm pc), upd_same]
        unfold prods
        rw [NL_app2, NL_app2]
end
end K20o
/-! Data: a, b, c = e, f, g. -/
namespace DL
open PySem PySem.Spec PyProof.Rows L2 NB
section
variable {P : Program} {w : World} {K : PySem.W.Frag} {mg : Str → Option Value} {base : Heap} {F0 H0 : Hp}
theorem sndI1 {A : List (V × SV)} {x : SV} (e : A.map Prod.snd = [x]) : ∃ v, A = [(v, x)] := by
  obtain ⟨⟨v, s⟩, B, rfl, hs, hB⟩ := List.map_eq_cons_iff.mp e
  cases hs
  cases List.map_eq_nil_iff.mp hB
  exact ⟨v, rfl⟩
theorem sndI2 {A : List (V × SV)} {x y : SV} (e : A.map Prod.snd = [x, y]) : ∃ v w, A = [(v, x), (w, y)] := by
  obtain ⟨⟨v, s⟩, B, rfl, hs, hB⟩ := List.map_eq_cons_iff.mp e
  cases hs
  obtain ⟨w, rfl⟩ := sndI1 hB
  exact ⟨v, w, rfl⟩
theorem sndI3 {A : List (V × SV)} {x y z : SV} (e : A.map Prod.snd = [x, y, z]) : ∃ v w u, A = [(v, x), (w, y), (u, z)] := by
  obtain ⟨⟨v, s⟩, B, rfl, hs, hB⟩ := List.map_eq_cons_iff.mp e
  cases hs
  obtain ⟨w, u, rfl⟩ := sndI2 hB
  exact ⟨v, w, u, rfl⟩
def dPar3 (i j k : Nat) (fa : DAX) : DSX := fun E σ => fa σ fun as => ∃ d e f, as = [.val d, .val e, .val f] ∧ E.nx (((σ.set i (some (.val d))).set j (some (.val e))).set k (some (.val f)))
instance {ta : TA} {fa : DAX} {i j k : Nat} [ha : DA F0 H0 ta fa] : DS F0 H0 (tPar3 i j k ta) (dPar3 i j k fa) where
  run Z T H E D r h l := ha.run Z T H _ _ r.1 h fun A ⟨d, e, f, hA, hn⟩ H1 ⟨F, r1⟩ => by
    · obtain ⟨v, w, u, rfl⟩ := sndI3 hA
      refine ⟨v, w, u, rfl, ?_⟩
      have r2 : RepS F0 H0 H1 (Z.set i (some v, some (.val d)) ++ (T ++ [(some w, some (.val e)), (some u, some (.val f))])) := store_S (T := T ++ [(some w, some (.val e)), (some u, some (.val f))]) ⟨F, by
        have r1' : Rep F0 H0 F H1 (Z ++ (T ++ [(some v, some (.val d)), (some w, some (.val e)), (some u, some (.val f))])) := r1
        refine r1'.perm ?_
        refine List.Perm.append_left _ ?_
        rw [List.append_assoc]
        refine List.Perm.append_left _ ?_
        exact (List.Perm.swap _ _ _).trans (List.Perm.cons _ (List.Perm.swap _ _ _))⟩ (fun p hp es e => by
          rcases List.mem_append.mp hp with z | z
          · exact r.2 p (List.mem_append_left _ z) es e
          · rcases List.mem_append.mp z with z | z
            · exact r.2 p (List.mem_append_right _ z) es e
            · simp at z; rcases z with z | z <;> subst z <;> cases e) (by intro _ e; cases e)
      have r3 : RepS F0 H0 H1 ((Z.set i (some v, some (.val d))).set j (some w, some (.val e)) ++ (T ++ [(some u, some (.val f))])) := store_S (T := T ++ [(some u, some (.val f))]) (by
        obtain ⟨F, q⟩ := r2.1
        refine ⟨F, q.perm ?_⟩
        rw [List.append_assoc]
        refine List.Perm.append_left _ ?_
        exact List.Perm.append_left _ (List.Perm.swap _ _ _)) (fun p hp => r2.2 p (by
        rcases List.mem_append.mp hp with z | z
        · exact List.mem_append_left _ z
        · rcases List.mem_append.mp z with z | z
          · exact List.mem_append_right _ (List.mem_append_left _ z)
          · exact List.mem_append_right _ (List.mem_append_right _ (by simp at z; subst z; simp)))) (by intro _ e; cases e)
      have r4 : RepS F0 H0 H1 (((Z.set i (some v, some (.val d))).set j (some w, some (.val e))).set k (some u, some (.val f)) ++ T) := store_S (by
        obtain ⟨F, q⟩ := r3.1
        exact ⟨F, q⟩) (fun p hp => r3.2 p (by
        rcases List.mem_append.mp hp with z | z
        · exact List.mem_append_left _ z
        · exact List.mem_append_right _ (List.mem_append_left _ z))) (by intro _ e; cases e)
      have := l.nx _ _ r4 (by rw [map_set_snd, map_set_snd, map_set_snd]; exact hn)
      rw [map_set_fst, map_set_fst, map_set_fst] at this
      exact this
end
end DL
/-! Data: x[k] op= e, x a list of one's own. -/
namespace DL
open PySem PySem.Spec PyProof.Rows L2 NB
theorem get_list {X : Cx} : PGet X (rIxL X.K) := by
  intro pins s σ H x y v u Q I rx ry h
  obtain ⟨p, xs, i, z, rfl, rfl, hq, he, q⟩ := h
  cases rx
  obtain ⟨t, rfl⟩ := ry
  obtain ⟨its, r, pl, hz⟩ := I.list hq
  obtain ⟨j, h1, h2, h3, h4, h5⟩ := atI_get he
  obtain ⟨w, ew, rw'⟩ := r.get h2
  have hl := r.length
  have hn := line63
  have fin : EP X pins σ Q w s := ⟨z, H, I, rw', q⟩
  by_cases h0 : 0 ≤ i
  · have hj : i.toNat = j := by
      rw [seqIndex_of h0 h5] at h1
      exact Option.some.inj h1
    exact wpAny_getItem_list pl.isList h0 (by omega) (by rw [hj]; simpa using ew) fin
  · have hj : (i + (its.toArray.size : Int)).toNat = j := by
      rw [seqIndex_neg (by omega) h4] at h1
      rw [List.size_toArray, ← hl]
      exact Option.some.inj h1
    exact wpAny_getItem_list_neg pl.isList (by omega) (by rw [List.size_toArray] <;> omega) (by omega) (by rw [hj]; simpa using ew) fin
section
variable {P : Program} {w : World} {K : PySem.W.Frag} {mg : Str → Option Value} {base : Heap} {F0 H0 : Hp}
def dAugS (i : Nat) (fk fe : DX) (o : SV → SV → (SV → Prop) → Prop) : DSX := fun E σ => match σ[i]? with
  | some (some (.own ds)) => fk σ fun sk => match sk.int? with
    | some k => ∃ j d, ixN ds.length k = some j ∧ ds[j]? = some d ∧ fe σ fun sy => o (.val d) sy fun sv => match sv with
      | .val e => E.nx (σ.set i (some (.own (ds.set j e))))
      | _ => False
    | none => False
  | _ => False
instance {te tk : TE} {fe fk : DX} {i : Nat} {ti : TIp} {o : SV → SV → (SV → Prop) → Prop} [he : DE F0 H0 te fe] [hk : DE F0 H0 tk fk] [ho : OpD F0 H0 ti o] : DS F0 H0 (tAugS (tVar i) tk te (rIxL K) ti rSetL) (dAugS i fk fe o) where
  run Z T H E D r h l := by
    unfold dAugS at h
    cases e3 : (Z.map Prod.snd)[i]? with
    | none => rw [e3] at h; exact h.elim
    | some ov =>
      match ov, e3 with
      | none, e3 => rw [e3] at h; exact h.elim
      | some (.val _), e3 => rw [e3] at h; exact h.elim
      | some (.ali _), e3 => rw [e3] at h; exact h.elim
      | some (.raw _), e3 => rw [e3] at h; exact h.elim
      | some (.ent _), e3 => rw [e3] at h; exact h.elim
      | some (.own ds), e3 =>
        rw [e3] at h
        obtain ⟨F, r0⟩ := r.1
        obtain ⟨a, vs, z1, z2, _, _⟩ := own_slot r0 e3
        refine ⟨.ref a, z2, hk.run Z T H _ _ ⟨F, r0⟩ h fun sk hk' u H1 ⟨F1, r1⟩ => ?_⟩
        cases e4 : sk.int? with
        | none => rw [e4] at hk'; exact hk'.elim
        | some k =>
          rw [e4] at hk'
          obtain ⟨j, d, hj, hd, h2⟩ := hk'
          have r1b : Rep F0 H0 F1 H1 ((Z ++ T) ++ [(some u, some sk)]) := by rw [List.append_assoc]; exact r1
          have ru := r1b.last.int e4
          subst ru
          obtain ⟨a1, vs1, q1, q2, q3, q4⟩ := own_slot r1b.left e3
          rw [z1] at q1; cases q1
          obtain ⟨v, hv, dv⟩ := q4.get hd
          refine ⟨a, vs1, k, v, rfl, rfl, SqL.of q3, by unfold atI; rw [q4.length, hj]; exact hv, ?_⟩
          have r2 : Rep F0 H0 F1 H1 (Z ++ (T ++ [(some v, some (.val d))])) := by rw [← List.append_assoc]; exact r1b.left.pushV dv
          refine he.run Z (T ++ [(some v, some (.val d))]) H1 _ _ ⟨F1, r2⟩ h2 fun sy hy y H2 ⟨F2, r3⟩ => ?_
          refine ho.run (Z ++ T) v y (.val d) sy H2 _ _ ⟨F2, by simpa using r3⟩ hy fun sv hs x H3 ⟨F3, r4⟩ => ?_
          cases sv with
          | own _ => exact hs.elim
          | ali _ => exact hs.elim
          | raw _ => exact hs.elim
          | ent _ => exact hs.elim
          | val e =>
            have rv := r4.last
            obtain ⟨a', vs3, z3, z4, z5, z6⟩ := own_slot r4.left e3
            rw [z1] at z3; cases z3
            refine ⟨a, vs3, k, j, rfl, rfl, z5, by rw [z6.length]; exact hj, ?_⟩
            have r5 := own_put r4.left r.2 z1 (z6.set (show Dv F3 x e from rv) j)
            have := l.nx _ _ r5 (by rw [map_set_snd]; exact hs)
            rw [map_set_fst, set_self z2] at this
            exact this
end
end DL
set_option synthInstance.maxSize 100000
set_option synthInstance.maxHeartbeats 0
namespace K20
open PySem PySem.Spec L2 NB ER MKX DL
def top (i : Nat) : Stmt := PySem.Challenge.pw_farhaul_k20_whole_least_distance.main.body.getD i (.Pass ⟨0, 0, 0, 0⟩)
abbrev s__law_draws : Stmt := top 40
theorem sc__law_draws : FnScope ["script", "draws", "k", "rest", "turn", "mixed"] ["script"] (defScope s__law_draws) := ⟨rfl, rfl, rfl, by decide +kernel, rfl, by decide +kernel, by decide +kernel⟩
abbrev s__law_mix : Stmt := top 41
theorem sc__law_mix : FnScope ["draws", "k", "many", "value"] ["draws", "k", "many"] (defScope s__law_mix) := ⟨rfl, rfl, rfl, by decide +kernel, rfl, by decide +kernel, by decide +kernel⟩
section
variable {P : Program} {w : World} {K : PySem.W.Frag} {mg : Str → Option Value} {base : Heap}
theorem map_get_int {ns : List Int} {i : Nat} (h : i < ns.length) : atI (ns.map V.int) (i : Int) = some (.int ns[i]) := atI_nat (by rw [List.getElem?_map, List.getElem?_eq_getElem h]; rfl)
theorem map_snoc (xs : List Int) (z : Int) : xs.map V.int ++ [V.int z] = (xs ++ [z]).map V.int := by simp
theorem ok__law_draws {f : Addr} {fd : FuncData} (D : Df K mg "_law_draws" ["script"] s__law_draws f fd) (B : Bl mg) : FnOk P w K mg base CX0 1 f fd ["script"] (sp_draws K) := by
  refine D.F.ok sc__law_draws (fun vs H Q E h => ?_) (fun cdv A outer s H vs Q E hr h => ?_)
  · obtain ⟨a, ns, rfl, _⟩ := h; rfl
  · obtain ⟨a, ns, rfl, hS, hl, k⟩ := h
    refine ⟨_, (pss_cons (ps_set (i := 1) sc__law_draws.nd rfl (Or.inl rfl) (pe_lst pa_nil))
      (pss_cons (ps_for PassesOwn.never rfl (pi_range1 rfl B.range (pa_cons (pe_callB (call_min2 rfl) (by rfl) B.min (by decide +kernel) (pa_cons (pe_z 63) (pa_cons (pe_callB call_len_seq (by rfl) B.len PySem.boot_len (pa_cons (pv 0) pa_nil)) pa_nil))) pa_nil)) (pg_name (i := 2) sc__law_draws.nd rfl (Or.inl rfl) (Or.inr rfl))
        (pss_cons (ps_set (i := 3) sc__law_draws.nd rfl (Or.inl rfl) (pe_callB call_abs (by rfl) B.abs (by decide +kernel) (pa_cons (pe_ix ix_list (pv 0) (pv 2) (fun _ _ => rfl)) pa_nil)))
        (pss_one (ps_if (pt_cmpR op_ge (pv 3) (pe_op op_pow (pe_z 10) (pe_z 18)) (nomark _)) (pss_one (ps_for PassesOwn.never rfl (pi_range1 rfl B.range (pa_cons (pe_z 60) pa_nil)) (pg_name (i := 4) sc__law_draws.nd rfl (Or.inl rfl) (Or.inr rfl))
            (pss_one (ps_if (pt_cmpR op_gt (pv 3) (pe_z 0) (nomark _)) (pss_cons (ps_expr (pe_bm PySem.F.plainAttrs_list PySem.F.slot_list_append PySem.F.type_list_append mt_append (pv 1) (pa_cons (pe_op op_mod (pe_callTy call_int1 (by rfl) B.int (by decide +kernel) (pa_cons (pv 3) pa_nil)) (pe_z 65536)) pa_nil)))
              (pss_one (ps_set (i := 3) sc__law_draws.nd rfl (Or.inl rfl) (pe_op op_fdiv (pv 3) (pe_z 65536))))) pss_nil)))) (pss_cons (ps_set (i := 5) sc__law_draws.nd rfl (Or.inl rfl) (pe_op op_mod (pe_callTy call_int1 (by rfl) B.int (by decide +kernel) (pa_cons (pe_op op_add (pe_op op_mul (pv 3) (pe_z 48271)) (pe_op op_mul (pe_op op_add (pv 2) (pe_z 1)) (pe_z 69621))) pa_nil)) (pe_z 2147483647)))
          (pss_cons (ps_set (i := 5) sc__law_draws.nd rfl (Or.inl rfl) (pe_op op_mod (pe_callTy call_int1 (by rfl) B.int (by decide +kernel) (pa_cons (pe_op op_add (pe_op op_add (pe_op op_mul (pv 5) (pe_z 16807)) (pe_op op_mul (pe_z 11) (pv 2))) (pe_z 5)) pa_nil)) (pe_z 2147483629)))
          (pss_cons (ps_expr (pe_bm PySem.F.plainAttrs_list PySem.F.slot_list_append PySem.F.type_list_append mt_append (pv 1) (pa_cons (pe_op op_mod (pe_callTy call_int1 (by rfl) B.int (by decide +kernel) (pa_cons (pv 5) pa_nil)) (pe_z 65536)) pa_nil)))
          (pss_one (ps_expr (pe_bm PySem.F.plainAttrs_list PySem.F.slot_list_append PySem.F.type_list_append mt_append (pv 1) (pa_cons (pe_op op_mod (pe_callTy call_int1 (by rfl) B.int (by decide +kernel) (pa_cons (pe_op op_fdiv (pv 5) (pe_z 65536)) pa_nil)) (pe_z 32768)) pa_nil)))))))))))
      (pss_one (ps_ret (pv 1))))), ?_⟩
    have sl := sizeLine_eq
    refine ⟨Nat.zero_le _, fun l nl => ?_⟩
    have sm0 : Same H (upd H l (.lst [])) := same_upd nl
    refine ⟨_, rfl, a, _, rfl, .inl (sm0.seq hS), 63, _, rfl, _, rfl, by split <;> omega, by split <;> omega, ?_⟩
    have hn : ((if (((ns.map V.int).length : Nat) : Int) < 63 then (((ns.map V.int).length : Nat) : Int) else 63)).toNat = ns.length := by
      rw [List.length_map]; split <;> omega
    rw [hn]
    refine for_range (lo := 0) (n := ns.length) (fun i σ H' => ∃ (xs : List Int) (v2 v3 v4 v5 : Option V), σ = [some (.ref a), some (.ref l), v2, v3, v4, v5] ∧ H' l = some (.lst (xs.map V.int)) ∧ xs.length ≤ 60 * i ∧ Same H H')
      ⟨[], none, none, none, none, rfl, upd_same, by simp, sm0⟩ ?_ ?_
    · rintro i σ H' hi ⟨xs, v2, v3, v4, v5, rfl, h1, h2, sm⟩
      have push : ∀ {H2 : Hp} {ys : List Int} {z : Int}, Same H H2 → Same H (upd H2 l (.lst ((ys ++ [z]).map V.int))) := fun s => same_upd2 s nl
      refine ⟨_, rfl, _, rfl, a, _, _, _, rfl, rfl, sm.seq hS, by rw [Int.zero_add]; exact map_get_int hi, _, rfl, ?_⟩
      generalize (if ns[i] < 0 then -ns[i] else ns[i]) = rest0
      refine ⟨_, rfl, _, _, rfl, rfl, ⟨by decide, by decide, by decide⟩, _, _, rfl, rfl, _, rfl, iteD (fun c => ?_) (fun c => ?_)⟩
      · -- digits
        refine ⟨_, rfl, by decide, by decide, ?_⟩
        refine for_range (lo := 0) (n := 60) (fun j σ H' => ∃ (ys : List Int) (r : Int) (v4 : Option V), σ = [some (.ref a), some (.ref l), some (.int (0 + (i : Int))), some (.int r), v4, v5] ∧ H' l = some (.lst (ys.map V.int)) ∧ ys.length ≤ 60 * i + j ∧ Same H H')
          ⟨xs, rest0, v4, rfl, h1, by omega, sm⟩ ?_ ?_
        · rintro j σ H2 hj ⟨ys, r, v4', rfl, g1, g2, sm2⟩
          refine ⟨_, rfl, _, _, rfl, rfl, _, rfl, iteD (fun c2 => ?_) (fun c2 => ⟨ys, r, _, rfl, g1, by omega, sm2⟩)⟩
          refine ⟨_, rfl, .inl ⟨rfl, _, SqL.of g1⟩, _, rfl, .inl ⟨_, rfl, _, _, rfl, rfl, (show (0:Int) < 65536 by decide), l, _, _, rfl, rfl, g1, by rw [List.length_map]; omega, ?_⟩⟩
          rw [map_snoc]
          refine ⟨_, rfl, _, _, rfl, rfl, ⟨by decide, by decide⟩, ⟨ys ++ [r % 65536], r / 65536, _, rfl, upd_same, by rw [List.length_append, List.length_singleton]; omega, push sm2⟩⟩
        · rintro σ H2 ⟨ys, r, v4', rfl, g1, g2, sm2⟩
          exact ⟨ys, _, _, _, _, rfl, g1, by omega, sm2⟩
      · -- two mixed ones
        have c' : ¬ (10 : Int) ^ (18 : Int).toNat ≤ rest0 := c
        refine ⟨_, rfl, _, _, rfl, rfl, .inr (by decide), _, rfl, _, _, rfl, rfl, _, _, rfl, rfl, .inr (by decide), _, _, rfl, rfl, .inl ⟨_, rfl, _, _, rfl, rfl, (show (0:Int) < 2147483647 by decide), ?_⟩⟩
        refine ⟨_, rfl, _, _, rfl, rfl, .inr (by decide), _, rfl, _, _, rfl, rfl, .inl (by decide), _, _, rfl, rfl, _, _, rfl, rfl, .inl ⟨_, rfl, _, _, rfl, rfl, (show (0:Int) < 2147483629 by decide), ?_⟩⟩
        refine ⟨_, rfl, .inl ⟨rfl, _, SqL.of h1⟩, _, rfl, .inl ⟨_, rfl, _, _, rfl, rfl, (show (0:Int) < 65536 by decide), l, _, _, rfl, rfl, h1, by rw [List.length_map]; omega, ?_⟩⟩
        rw [map_snoc]
        refine ⟨_, rfl, .inl ⟨rfl, _, SqL.of upd_same⟩, _, rfl, _, _, rfl, rfl, ⟨by decide, by decide⟩, .inl ⟨_, rfl, _, _, rfl, rfl, (show (0:Int) < 32768 by decide), l, _, _, rfl, rfl, upd_same, by rw [List.length_map, List.length_append, List.length_singleton]; omega, ?_⟩⟩
        rw [map_snoc]
        exact ⟨_, _, _, _, _, rfl, upd_same, by simp only [List.length_append, List.length_singleton]; omega, same_upd2 (same_upd2 sm nl) nl⟩
    · rintro σ H' ⟨xs, v2, v3, v4, v5, rfl, h1, h2, sm⟩
      exact ⟨_, rfl, k l xs H' sm nl h1 (by omega)⟩
theorem ok__law_mix {f : Addr} {fd : FuncData} (D : Df K mg "_law_mix" ["draws", "k", "many"] s__law_mix f fd) (B : Bl mg) : FnOk P w K mg base CX0 1 f fd ["draws", "k", "many"] (spF rcMix) := by
  refine okF D.F sc__law_mix (fun F as S h => by obtain ⟨ds, k, many, rfl, _⟩ := h; rfl) (fun cdv A outer s H E hr => ⟨_, _, (pss_cons (ps_set (i := 3) sc__law_mix.nd rfl (Or.inl rfl) (pe_z 0))
      (C8.pss_cut (ps_if (pt_cmpR op_gt (pe_callB call_len_seq (by rfl) B.len PySem.boot_len (pa_cons (pv 0) pa_nil)) (pe_z 0) (nomark _)) (pss_one (ps_set (i := 3) sc__law_mix.nd rfl (Or.inl rfl) (pe_ix ix_list (pv 0) (pe_op op_mod (pe_callTy call_int1 (by rfl) B.int (by decide +kernel) (pa_cons (pv 1) pa_nil)) (pe_callB call_len_seq (by rfl) B.len PySem.boot_len (pa_cons (pv 0) pa_nil))) (fun _ _ => rfl)))) pss_nil)
      (pss_cons (ps_if (pt_cmpR op_lt (pv 1) (pe_callB call_len_seq (by rfl) B.len PySem.boot_len (pa_cons (pv 0) pa_nil)) (nomark _)) (pss_one (ps_ret (pe_op op_mod (pe_callTy call_int1 (by rfl) B.int (by decide +kernel) (pa_cons (pv 3) pa_nil)) (pv 2)))) pss_nil)
      (pss_one (ps_ret (pe_op op_mod (pe_callTy call_int1 (by rfl) B.int (by decide +kernel) (pa_cons (pe_op op_fdiv (pe_callTy call_int1 (by rfl) B.int (by decide +kernel) (pa_cons (pe_op op_add (pe_op op_mul (pv 3) (pe_z 7919)) (pe_op op_mul (pv 1) (pe_z 104729))) pa_nil)) (pe_z 3)) pa_nil)) (pv 2))))))), fun F0 => by infer_instance, fun F0 as S h => ?_⟩)
  obtain ⟨ds, k, many, rfl, hk, hk2, hm, hS⟩ := h
  refine ⟨fun σ => ∃ v : Int, σ = [some (.val (.list (LI ds))), some (.val (.int k)), some (.val (.int many)), some (.val (.int v))], ?_, ?_⟩
  · refine brD (fun c => ?_) (fun c => ⟨0, rfl⟩)
    have c' : (0 : Int) < (LI ds).length := c
    obtain ⟨z, _, hz⟩ := LI_at (ns := ds) (i := k % (LI ds).length) (Int.emod_nonneg _ (by omega)) (by rw [← LI_len]; exact Int.emod_lt_of_pos _ c')
    exact ⟨c', _, hz, z, rfl⟩
  · rintro σ ⟨v, rfl⟩
    refine brD (fun c => ⟨hm, ?_⟩) (fun c => ?_)
    · exact hS _ (Int.emod_nonneg _ (by omega)) (Int.emod_lt_of_pos _ hm)
    · refine ⟨.inr (by decide), .inr (by decide), ⟨by decide, by decide⟩, hm, ?_⟩
      exact hS _ (Int.emod_nonneg _ (by omega)) (Int.emod_lt_of_pos _ hm)
end
end K20
set_option synthInstance.maxSize 100000
set_option synthInstance.maxHeartbeats 0
namespace K20
open PySem PySem.Spec L2 NB ER MKX DL
abbrev s_Field_size : Stmt := inClass (top 36) 3
theorem sc_Field_size : FnScope ["self"] ["self"] (defScope s_Field_size) := ⟨rfl, rfl, rfl, by decide +kernel, rfl, by decide +kernel, by decide +kernel⟩
abbrev s_Field_times : Stmt := inClass (top 36) 5
theorem sc_Field_times : FnScope ["self", "e", "f"] ["self", "e", "f"] (defScope s_Field_times) := ⟨rfl, rfl, rfl, by decide +kernel, rfl, by decide +kernel, by decide +kernel⟩
abbrev s_Field_inverse : Stmt := inClass (top 36) 6
theorem sc_Field_inverse : FnScope ["self", "e"] ["self", "e"] (defScope s_Field_inverse) := ⟨rfl, rfl, rfl, by decide +kernel, rfl, by decide +kernel, by decide +kernel⟩
abbrev s_Field_log : Stmt := inClass (top 36) 9
theorem sc_Field_log : FnScope ["self", "e"] ["self", "e"] (defScope s_Field_log) := ⟨rfl, rfl, rfl, by decide +kernel, rfl, by decide +kernel, by decide +kernel⟩
abbrev s_Field_scaled : Stmt := inClass (top 36) 11
theorem sc_Field_scaled : FnScope ["self", "items", "e", "logs", "products", "shift", "f"] ["self", "items", "e"] (defScope s_Field_scaled) := ⟨rfl, rfl, rfl, by decide +kernel, rfl, by decide +kernel, by decide +kernel⟩
section
variable {P : Program} {w : World} {K : PySem.W.Frag} {mg : Str → Option Value} {base : Heap}
variable {f_init : Addr} {fd_init : FuncData} {CH C C_NoInverse : Addr}
open FLD
def NI (ns : List Nat) : List Int := ns.map fun (n : Nat) => (n : Int)
theorem NI_len (ns : List Nat) : (NI ns).length = ns.length := List.length_map _
theorem LI_NI_len (ns : List Nat) : (LI (NI ns)).length = ns.length := by rw [LI_len, NI_len]
theorem LI_NI_at {ns : List Nat} {k n : Nat} (h : ns[k]? = some n) : atI (LI (NI ns)) (k : Int) = some (.int (n : Int)) := atI_nat (by unfold LI NI; rw [List.getElem?_map, List.getElem?_map, h]; rfl)
theorem NI_app (a b : List Nat) : LI (NI a) ++ LI (NI b) = LI (NI (a ++ b)) := by unfold LI NI; rw [List.map_append, List.map_append]
theorem NI_at {ns : List Nat} {i : Nat} {d : PyData} (h : (LI (NI ns))[i]? = some d) : ∃ b, ns[i]? = some b ∧ d = .int ((b : Nat) : Int) := by
  unfold LI NI at h
  rw [List.getElem?_map, List.getElem?_map] at h
  cases e : ns[i]? with
  | none => rw [e] at h; cases h
  | some b => rw [e] at h; exact ⟨b, rfl, (Option.some.inj h).symm⟩
theorem take_one {α : Type} {xs : List α} {i : Nat} {d : α} (h : xs[i]? = some d) : xs.take i ++ [d] = xs.take (i + 1) := by rw [List.take_succ, h]; rfl
/-- the powers of e below the k-th -/
def pws (q e k : Nat) : List Nat := (List.range k).map (pw q e)
theorem pws_len (q e k : Nat) : (pws q e k).length = k := by unfold pws; rw [List.length_map, List.length_range]
theorem pws_get {q e k i : Nat} (h : i < k) : (pws q e k)[i]? = some (pw q e i) := by unfold pws; rw [List.getElem?_map, List.getElem?_range h]; rfl
/-- the products, by the sums of the logarithms -/
def prods (m q r : Nat) : List Nat := pws q r (2 ^ m - 1) ++ pws q r (2 ^ m - 1) ++ List.replicate (2 * (2 ^ m - 1) + 1) 0
theorem prods_get {m q r i j : Nat} (hi : i < 2 ^ m - 1) (hj : j < 2 ^ m - 1) : (prods m q r)[i + j]? = some (if i + j < 2 ^ m - 1 then pw q r (i + j) else pw q r (i + j - (2 ^ m - 1))) := by
  unfold prods
  rw [List.getElem?_append_left (by rw [List.length_append, pws_len]; omega)]
  by_cases z : i + j < 2 ^ m - 1
  · rw [if_pos z, List.getElem?_append_left (by rw [pws_len]; exact z), pws_get z]
  · rw [if_neg z, List.getElem?_append_right (by rw [pws_len]; omega), pws_len, pws_get (by omega)]
theorem prods_zero {m q r k : Nat} (h : 2 * (2 ^ m - 1) ≤ k) (h2 : k < 4 * (2 ^ m - 1) + 1) : (prods m q r)[k]? = some 0 := by
  unfold prods
  rw [List.getElem?_append_right (by rw [List.length_append, pws_len]; omega), List.getElem?_replicate, if_pos (by rw [List.length_append, pws_len]; omega)]
/-- a field's attributes, in the order in which they are set -/
def fsF (m q r : Nat) (logs : List Nat) : List (Str × PyData) := [("_bits", .int (m : Int)), ("_modulus", .int (q : Int)), ("_turn", .int ((2 ^ m - 1 : Nat) : Int)), ("_powers", .list (LI (NI (pws q r (2 ^ m - 1))))), ("_logs", .list (LI (NI logs))), ("_products", .list (LI (NI (prods m q r))))]
def FldO (C : Addr) (m q r : Nat) (logs : List Nat) : PyData := Ob C (fsF m q r logs)
structure FldOk (m q r : Nat) (logs : List Nat) : Prop where
  fd : Fd m q
  lr : LeastRoot m q r
  lg : ∀ k, k < 2 ^ m - 1 → logs[pw q r k]? = some k
  l0 : logs[0]? = some (2 * (2 ^ m - 1))
theorem sqf : (("_modulus" : Str) == "_bits") = false ∧ (("_turn" : Str) == "_bits") = false ∧ (("_turn" : Str) == "_modulus") = false ∧ (("_powers" : Str) == "_bits") = false ∧ (("_powers" : Str) == "_modulus") = false ∧ (("_powers" : Str) == "_turn") = false ∧ (("_logs" : Str) == "_bits") = false ∧ (("_logs" : Str) == "_modulus") = false ∧ (("_logs" : Str) == "_turn") = false ∧ (("_logs" : Str) == "_powers") = false ∧ (("_products" : Str) == "_bits") = false ∧ (("_products" : Str) == "_modulus") = false ∧ (("_products" : Str) == "_turn") = false ∧ (("_products" : Str) == "_powers") = false ∧ (("_products" : Str) == "_logs") = false := by decide +kernel
theorem lk_ne {x a : Str} {v : PyData} {l : List (Str × PyData)} (h : (x == a) = false) : ((a, v) :: l).lookup x = l.lookup x := by rw [List.lookup_cons, h]
theorem fsF_turn (m q r logs) : (fsF m q r logs).lookup ("_turn" : Str) = some (.int ((2 ^ m - 1 : Nat) : Int)) := by
  obtain ⟨a1, a2, a3, _⟩ := sqf
  unfold fsF; rw [lk_ne a2, lk_ne a3, List.lookup_cons_self]
theorem fsF_powers (m q r logs) : (fsF m q r logs).lookup ("_powers" : Str) = some (.list (LI (NI (pws q r (2 ^ m - 1))))) := by
  obtain ⟨a1, a2, a3, a4, a5, a6, _⟩ := sqf
  unfold fsF; rw [lk_ne a4, lk_ne a5, lk_ne a6, List.lookup_cons_self]
theorem fsF_logs (m q r logs) : (fsF m q r logs).lookup ("_logs" : Str) = some (.list (LI (NI logs))) := by
  obtain ⟨a1, a2, a3, a4, a5, a6, a7, a8, a9, a10, _⟩ := sqf
  unfold fsF; rw [lk_ne a7, lk_ne a8, lk_ne a9, lk_ne a10, List.lookup_cons_self]
theorem fsF_products (m q r logs) : (fsF m q r logs).lookup ("_products" : Str) = some (.list (LI (NI (prods m q r)))) := by
  obtain ⟨a1, a2, a3, a4, a5, a6, a7, a8, a9, a10, a11, a12, a13, a14, a15⟩ := sqf
  unfold fsF; rw [lk_ne a11, lk_ne a12, lk_ne a13, lk_ne a14, lk_ne a15, List.lookup_cons_self]
theorem fsF_no (m q r logs) {x : Str} (h1 : (x == ("_bits" : Str)) = false := by decide +kernel) (h2 : (x == ("_modulus" : Str)) = false := by decide +kernel) (h3 : (x == ("_turn" : Str)) = false := by decide +kernel) (h4 : (x == ("_powers" : Str)) = false := by decide +kernel) (h5 : (x == ("_logs" : Str)) = false := by decide +kernel) (h6 : (x == ("_products" : Str)) = false := by decide +kernel) : (fsF m q r logs).lookup x = none := by
  unfold fsF; rw [lk_ne h1, lk_ne h2, lk_ne h3, lk_ne h4, lk_ne h5, lk_ne h6]; rfl
/-- what the top says of the class -/
structure FK (K : PySem.W.Frag) (C : Addr) : Prop where
  cl : Cls K C
  n1 : NoAttr K C "_bits"
  n2 : NoAttr K C "_modulus"
  n3 : NoAttr K C "_turn"
  n4 : NoAttr K C "_powers"
  n5 : NoAttr K C "_logs"
  n6 : NoAttr K C "_products"
/-- 2 ^ m for a field -/
theorem pow_mF {m q : Nat} (F : Fd m q) : 4 ≤ 2 ^ m ∧ 2 ^ m ≤ 256 := ⟨Nat.pow_le_pow_right (n := 2) (by decide) F.h2, Nat.pow_le_pow_right (n := 2) (by decide) F.h8⟩
/-- the sum of the logarithms leads to the product -/
theorem prod_at {m q r : Nat} {logs : List Nat} (O : FldOk m q r logs) {a b : Nat} (ha : a < 2 ^ m) (hb : b < 2 ^ m) : ∃ i j, logs[a]? = some i ∧ logs[b]? = some j ∧ i ≤ 510 ∧ j ≤ 510 ∧ (prods m q r)[i + j]? = some (mulm q a b) := by
  obtain ⟨p4, p256⟩ := pow_mF O.fd
  have L : ∀ {x}, x < 2 ^ m → (x = 0 ∧ logs[x]? = some (2 * (2 ^ m - 1))) ∨ ∃ k, k < 2 ^ m - 1 ∧ pw q r k = x ∧ logs[x]? = some k := fun {x} hx => by
    by_cases z : x = 0
    · subst z; exact .inl ⟨rfl, O.l0⟩
    · obtain ⟨k, hk, e⟩ := log_ex O.fd O.lr.1 z hx
      exact .inr ⟨k, hk, e, by rw [← e]; exact O.lg k hk⟩
  rcases L ha with ⟨rfl, la⟩ | ⟨i, hi, ei, la⟩
  · rcases L hb with ⟨rfl, lb⟩ | ⟨j, hj, ej, lb⟩
    · exact ⟨_, _, la, lb, by omega, by omega, by rw [prods_zero (by omega) (by omega), mulm_zero O.fd]⟩
    · exact ⟨_, _, la, lb, by omega, by omega, by rw [prods_zero (by omega) (by omega), zero_mulm O.fd]⟩
  · rcases L hb with ⟨rfl, lb⟩ | ⟨j, hj, ej, lb⟩
    · exact ⟨_, _, la, lb, by omega, by omega, by rw [prods_zero (by omega) (by omega), mulm_zero O.fd]⟩
    · refine ⟨_, _, la, lb, by omega, by omega, ?_⟩
      rw [prods_get hi hj, ← ei, ← ej, ← pw_add O.fd]
      by_cases z : i + j < 2 ^ m - 1
      · rw [if_pos z]
      · rw [if_neg z, pw_mod O.fd O.lr.1 (i + j)]
        have : (i + j) % (2 ^ m - 1) = i + j - (2 ^ m - 1) := by rw [Nat.mod_eq_sub_mod (by omega), Nat.mod_eq_of_lt (by omega)]
        rw [this]
def rcFMod (C : Addr) : RC := pur fun as S => ∃ m q r logs, as = [.val (FldO C m q r logs)] ∧ S (.ok (.val (.int (q : Int))))
instance : MonoR (rcFMod C) := inferInstanceAs (MonoR (pur _))
def rcFTimes (C : Addr) : RC := pur fun as S => ∃ m q r logs a b, as = [.val (FldO C m q r logs), .val (.int ((a : Nat) : Int)), .val (.int ((b : Nat) : Int))] ∧ FldOk m q r logs ∧ a < 2 ^ m ∧ b < 2 ^ m ∧ S (.ok (.val (.int ((mulm q a b : Nat) : Int))))
instance : MonoR (rcFTimes C) := inferInstanceAs (MonoR (pur _))
theorem ok_Field_times {f : Addr} {fd : FuncData} (F : Fun K "times" "Field.times" s_Field_times f fd) (T : FK K C) : FnOk P w K mg base CX0 1 f fd ["self", "e", "f"] (spF (rcFTimes C)) := by
  refine okF F sc_Field_times (fun F as S h => by obtain ⟨m, q, r, l, a, b, rfl, _⟩ := h; rfl) (fun cdv A outer s H E hr => ⟨_, _, (pss_one (ps_ret (pe_ix ix_list (pe_fld (pv 0) rfl) (pe_op op_add (pe_ix ix_list (pe_fld (pv 0) rfl) (pv 1) (fun _ _ => rfl)) (pe_ix ix_list (pe_fld (pv 0) rfl) (pv 2) (fun _ _ => rfl))) (fun _ _ => rfl)))), fun F0 => by infer_instance, fun F0 as S h => ?_⟩)
  obtain ⟨m, q, r, l, a, b, rfl, O, ha, hb, hS⟩ := h
  obtain ⟨i, j, la, lb, bi, bj, pr⟩ := prod_at O ha hb
  refine ⟨C, _, _, rfl, T.cl, T.n6, fsF_products m q r l, ?_⟩
  refine ⟨C, _, _, rfl, T.cl, T.n5, fsF_logs m q r l, .int (i : Int), LI_NI_at la, C, _, _, rfl, T.cl, T.n5, fsF_logs m q r l, .int (j : Int), LI_NI_at lb, ?_⟩
  exact ⟨.int ((mulm q a b : Nat) : Int), by show atI _ ((i : Int) + (j : Int)) = _; rw [← Int.natCast_add]; exact LI_NI_at pr, hS⟩
def rcFLog (C CN : Addr) : RC := pur fun as S => ∃ m q r logs a, as = [.val (FldO C m q r logs), .val (.int ((a : Nat) : Int))] ∧ FldOk m q r logs ∧ a < 2 ^ m ∧ (a = 0 → S (.er CN 0)) ∧ ∀ j, j < 2 ^ m - 1 → pw q r j = a → S (.ok (.val (.int ((j : Nat) : Int))))
instance {C CN : Addr} : MonoR (rcFLog C CN) := inferInstanceAs (MonoR (pur _))
theorem ok_Field_log {f : Addr} {fd : FuncData} (F : Fun K "log" "Field.log" s_Field_log f fd) (T : FK K C)
    (X_NoInverse : XC K mg "NoInverse" C_NoInverse f_init CH) (G_init : FnOk P w K mg base CX0 1 f_init fd_init ["self", "at"] (sp_init K)) (b_init : Binds K fd_init ["self", "at"] []) :
    FnOk P w K mg base (L2.CX P w) 3 f fd ["self", "e"] (spF (rcFLog C C_NoInverse)) := by
  refine okFX F sc_Field_log (fun F as S h => by obtain ⟨m, q, r, l, a, rfl, _⟩ := h; rfl) (fun cdv A outer s H E hr => ⟨_, _, (pss_cons (ps_if (pt_cmpR op_eq (pv 1) (pe_z 0) (nomark _)) (pss_one (ps_err rfl X_NoInverse G_init (hr.mono (by decide)) b_init pass0 (takes_of rfl rfl rfl rfl) (pa_cons (pe_z 0) pa_nil))) pss_nil)
      (pss_one (ps_ret (pe_ix ix_list (pe_fld (pv 0) rfl) (pv 1) (fun _ _ => rfl))))), fun F0 ER h => by infer_instance, fun F0 as S h => ?_⟩)
  obtain ⟨m, q, r, l, a, rfl, O, ha, h0, h1⟩ := h
  refine brD (fun c => ⟨(by decide), h0 (by omega)⟩) fun c => ?_
  obtain ⟨j, hj, ej⟩ := log_ex O.fd O.lr.1 (show a ≠ 0 by intro z; exact c (by omega)) ha
  exact ⟨C, _, _, rfl, T.cl, T.n5, fsF_logs m q r l, .int (j : Int), LI_NI_at (by rw [← ej]; exact O.lg j hj), h1 j hj ej⟩
def rcFInv (C CN : Addr) : RC := pur fun as S => ∃ m q r logs a, as = [.val (FldO C m q r logs), .val (.int ((a : Nat) : Int))] ∧ FldOk m q r logs ∧ a < 2 ^ m ∧ (a = 0 → S (.er CN 0)) ∧ ∀ b, b < 2 ^ m → mulm q a b = 1 → S (.ok (.val (.int ((b : Nat) : Int))))
instance {C CN : Addr} : MonoR (rcFInv C CN) := inferInstanceAs (MonoR (pur _))
theorem ok_Field_inverse {f f_Field_log : Addr} {fd fd_Field_log : FuncData} (F : Fun K "inverse" "Field.inverse" s_Field_inverse f fd) (T : FK K C) (K_Field : Cls K C) (M_Field_log : Meth K C "log" f_Field_log) (b_Field_log : Binds K fd_Field_log ["self", "e"] [])
    (G_Field_log : FnOk P w K mg base (L2.CX P w) 3 f_Field_log fd_Field_log ["self", "e"] (spF (rcFLog C C_NoInverse))) :
    FnOk P w K mg base (L2.CX P w) 4 f fd ["self", "e"] (spF (rcFInv C C_NoInverse)) := by
  refine okFX F sc_Field_inverse (fun F as S h => by obtain ⟨m, q, r, l, a, rfl, _⟩ := h; rfl) (fun cdv A outer s H E hr => ⟨_, _, (pss_one (ps_ret (pe_ix ix_list (pe_fld (pv 0) rfl) (pe_op op_mod (pe_un un_neg (pe_mtS (pv 0) K_Field M_Field_log G_Field_log (hr.mono (by decide)) b_Field_log (fun σ => passAt (W := fun cls d _ H => E cls d H) (takes_of rfl rfl rfl rfl) σ) (by exact (pa_cons (pv 1) pa_nil)))) (pe_fld (pv 0) rfl)) (fun _ _ => rfl)))), fun F0 ER h => by infer_instance, fun F0 as S h => ?_⟩)
  obtain ⟨m, q, r, l, a, rfl, O, ha, h0, h1⟩ := h
  obtain ⟨p4, p256⟩ := pow_mF O.fd
  refine ⟨C, _, _, rfl, T.cl, T.n4, fsF_powers m q r l, ?_⟩
  by_cases z : a = 0
  · refine ⟨_, rfl, fsF_no m q r l, fun x => x = .er C_NoInverse 0, ⟨m, q, r, l, a, rfl, O, ha, fun _ => rfl, fun j hj e => absurd (z ▸ e) (pw_ne O.fd O.lr.1.lt (r0 O.fd O.lr.1) j)⟩, ?_⟩
    rintro x rfl
    exact h0 z
  obtain ⟨j, hj, ej⟩ := log_ex O.fd O.lr.1 z ha
  refine ⟨_, rfl, fsF_no m q r l, fun x => x = .ok (.val (.int (j : Int))), ⟨m, q, r, l, a, rfl, O, ha, fun y => absurd y z, fun k hk e => by rw [pw_inj O.fd O.lr.1 hk hj (e.trans ej.symm)]⟩, ?_⟩
  rintro x rfl
  refine ⟨fun _ => rfl, C, _, _, rfl, T.cl, T.n3, fsF_turn m q r l, by omega, ?_⟩
  obtain ⟨k, hk⟩ : ∃ k : Nat, (-(j : Int)) % ((2 ^ m - 1 : Nat) : Int) = (k : Int) := ⟨((-(j : Int)) % ((2 ^ m - 1 : Nat) : Int)).toNat, by have := Int.emod_nonneg (-(j : Int)) (show ((2 ^ m - 1 : Nat) : Int) ≠ 0 by omega); omega⟩
  have kl : k < 2 ^ m - 1 := by have := Int.emod_lt_of_pos (-(j : Int)) (show (0 : Int) < ((2 ^ m - 1 : Nat) : Int) by omega); omega
  refine ⟨.int ((pw q r k : Nat) : Int), by show atI _ ((-(j : Int)) % ((2 ^ m - 1 : Nat) : Int)) = _; rw [hk]; exact LI_NI_at (pws_get kl), h1 _ (pw_lt O.fd _ _) ?_⟩
  rw [← ej, ← pw_add O.fd, pw_one_iff O.fd O.lr.1]
  have e := Int.mul_ediv_add_emod (-(j : Int)) ((2 ^ m - 1 : Nat) : Int)
  rw [hk] at e
  exact Int.natCast_dvd_natCast.mp ⟨-((-(j : Int)) / ((2 ^ m - 1 : Nat) : Int)), by rw [Int.mul_neg, Int.natCast_add]; omega⟩
def rcFScaled (C : Addr) : RC := pur fun as S => ∃ (m q r : Nat) (logs ps : List Nat) (a : Nat), as = [.val (FldO C m q r logs), .val (.list (LI (NI ps))), .val (.int ((a : Nat) : Int))] ∧ FldOk m q r logs ∧ a < 2 ^ m ∧ (∀ b ∈ ps, b < 2 ^ m) ∧ ps.length ≤ 1000 ∧ S (.ok (.own (LI (NI (ps.map fun b => mulm q b a)))))
instance : MonoR (rcFScaled C) := inferInstanceAs (MonoR (pur _))
theorem ok_Field_scaled {f : Addr} {fd : FuncData} (F : Fun K "scaled" "Field.scaled" s_Field_scaled f fd) (T : FK K C) : FnOk P w K mg base CX0 1 f fd ["self", "items", "e"] (spF (rcFScaled C)) := by
  refine okF F sc_Field_scaled (fun F as S h => by obtain ⟨m, q, r, l, a, b, rfl, _⟩ := h; rfl) (fun cdv A outer s H E hr => ⟨_, _, (pss_cons (ps_asg (pe_tup (pa_cons (pe_fld (pv 0) rfl) (pa_cons (pe_fld (pv 0) rfl) (pa_cons (pe_ix ix_list (pe_fld (pv 0) rfl) (pv 2) (fun _ _ => rfl)) pa_nil)))) (pg_tup rfl (pgs_cons (pg_name (i := 3) sc_Field_scaled.nd rfl (Or.inr rfl)) (pgs_cons (pg_name (i := 4) sc_Field_scaled.nd rfl (Or.inr rfl)) (pgs_cons (pg_name (i := 5) sc_Field_scaled.nd rfl (Or.inr rfl)) pgs_nil)))))
      (pss_one (ps_ret (pe_lc (own := [("f", 6)]) rfl sc_Field_scaled.nd (pi_list (pv 1)) (blkOk_by (own := [("f", 6)]) (N := ["self", "items", "e", "logs", "products", "shift", "f"]) (sc := defScope s_Field_scaled) (by decide +kernel)) (fun _ _ _ _ _ => (pg_name (i := 6) sc_Field_scaled.nd rfl (Or.inl rfl) (Or.inr rfl))) (fun _ _ _ _ _ => pts_nil) (fun _ _ _ _ _ => (pe_ix (ix_listK (K := K) rfl) (pv 4) (pe_op op_add (pe_ix (ix_listK (K := K) rfl) (pv 3) (pv 6) (fun _ _ => rfl)) (pv 5)) (fun _ _ => rfl))))))), fun F0 => by infer_instance, fun F0 as S h => ?_⟩)
  obtain ⟨m, q, r, l, ps, a, rfl, O, ha, hp, hl, hS⟩ := h
  have sl := sizeLine_eq
  obtain ⟨p4, p256⟩ := pow_mF O.fd
  obtain ⟨_, ja, _, la, _, bj, _⟩ := prod_at O ha ha
  refine ⟨C, _, _, rfl, T.cl, T.n5, fsF_logs m q r l, ?_⟩
  refine ⟨C, _, _, rfl, T.cl, T.n6, fsF_products m q r l, ?_⟩
  refine ⟨C, _, _, rfl, T.cl, T.n5, fsF_logs m q r l, .int (ja : Int), LI_NI_at la, ?_⟩
  refine ⟨(show 3 ≤ sizeLine by omega), rfl, ?_⟩
  have lp := LI_NI_len ps
  refine ⟨rfl, fun i acc => acc = LI (NI ((ps.map fun b => mulm q b a).take i)), rfl, ?_, ?_⟩
  · rintro i d acc hd rfl
    obtain ⟨b, hb, rfl⟩ := NI_at hd
    have hi : i < ps.length := (List.getElem?_eq_some_iff.mp hb).1
    obtain ⟨ib, ja', lb, la', _, _, pr⟩ := prod_at O (hp b (List.mem_of_getElem? hb)) ha
    have : ja' = ja := by rw [la] at la'; exact (Option.some.inj la').symm
    subst this
    refine brT ⟨.int (ib : Int), LI_NI_at lb, .int ((mulm q b a : Nat) : Int), by show atI _ ((ib : Int) + (ja' : Int)) = _; rw [← Int.natCast_add]; exact LI_NI_at pr, ?_, ?_⟩
    · rw [LI_NI_len, List.length_take]; omega
    · show LI (NI ((ps.map fun b => mulm q b a).take i)) ++ LI (NI [mulm q b a]) = _
      rw [NI_app, take_one (by rw [List.getElem?_map, hb]; rfl)]
  · rintro acc rfl
    show S (.ok (.own (LI (NI ((ps.map fun b => mulm q b a).take (LI (NI ps)).length)))))
    rw [lp, List.take_of_length_le (by rw [List.length_map]; exact Nat.le_refl _)]
    exact hS
/-- Horner's value -/
def evl (q e : Nat) (ps : List Nat) : Nat := ps.foldr (fun f t => mulm q t e ^^^ f) 0
def rcFValue (C : Addr) : RC := pur fun as S => ∃ (m q r : Nat) (logs ps : List Nat) (a : Nat), as = [.val (FldO C m q r logs), .val (.list (LI (NI ps))), .val (.int ((a : Nat) : Int))] ∧ FldOk m q r logs ∧ a < 2 ^ m ∧ (∀ b ∈ ps, b < 2 ^ m) ∧ ps.length ≤ 1000 ∧ S (.ok (.val (.int (evl q a ps : Nat))))
instance : MonoR (rcFValue C) := inferInstanceAs (MonoR (pur _))
end
abbrev s_trimmed : Stmt := top 11
theorem sc_trimmed : FnScope ["coefficients", "size"] ["coefficients"] (defScope s_trimmed) := ⟨rfl, rfl, rfl, by decide +kernel, rfl, by decide +kernel, by decide +kernel⟩
abbrev s_times_polys : Stmt := top 12
theorem sc_times_polys : FnScope ["field", "p", "q", "total", "i", "e", "k", "f"] ["field", "p", "q"] (defScope s_times_polys) := ⟨rfl, rfl, rfl, by decide +kernel, rfl, by decide +kernel, by decide +kernel⟩
section
variable {P : Program} {w : World} {K : PySem.W.Frag} {mg : Str → Option Value} {base : Heap}
variable {C : Addr}
open FLD PLY
theorem LI_allF (m : List Int) : (LI m).all flatD = true := by unfold LI; rw [List.all_map]; exact List.all_eq_true.mpr fun _ _ => rfl
def rcTrim : RC := pur fun as S => ∃ ps : List Nat, as = [.val (.list (LI (NI ps)))] ∧ ps.length ≤ 2000 ∧ S (.ok (.own (LI (NI (trim ps)))))
instance : MonoR rcTrim := inferInstanceAs (MonoR (pur _))
theorem ok_trimmed {f : Addr} {fd : FuncData} (D : Df K mg "trimmed" ["coefficients"] s_trimmed f fd) (B : Bl mg) : FnOk P w K mg base CX0 1 f fd ["coefficients"] (spF rcTrim) := by
  refine okF D.F sc_trimmed (fun F as S h => by obtain ⟨p, rfl, _⟩ := h; rfl) (fun cdv A outer s H E hr => ⟨_, _, (pss_cons (ps_set (i := 1) sc_trimmed.nd rfl (Or.inl rfl) (pe_callB call_len_seq (by rfl) B.len PySem.boot_len (pa_cons (pv 0) pa_nil)))
      (pss_cons (ps_while PassesOwn.never (PW.pt (pw_and (pt_cmpR op_gt (pv 1) (pe_z 0) (nomark _)) (pw_and1 (pt_cmpR op_eq (pe_ix ix_list (pv 0) (pe_op op_sub (pv 1) (pe_z 1)) (fun _ _ => rfl)) (pe_z 0) (nomark _)))))
        (pss_one (ps_aug (i := 1) sc_trimmed.nd rfl (Or.inl rfl) (pe_z 1) iop_sub)))
      (pss_one (ps_ret (pe_slice sl_list (pv 0) po_none (po_some (pv 1))))))), fun F0 => by infer_instance, fun F0 as S h => ?_⟩)
  obtain ⟨ps, rfl, hl, hS⟩ := h
  have sl := sizeLine_eq
  have lp := LI_NI_len ps
  refine ⟨fun σ => ∃ s : Nat, σ = [some (.val (.list (LI (NI ps)))), some (.val (.int (s : Int)))] ∧ s ≤ ps.length ∧ ∀ i, s ≤ i → i < ps.length → ps[i]? = some 0,
    fun σ => match σ with | [_, some (.val (.int e))] => e.toNat | _ => 0, ⟨ps.length, by show [_, some (SV.val (.int ((LI (NI ps)).length : Nat)))] = _; rw [lp], Nat.le_refl _, fun i h1 h2 => by omega⟩, ?_⟩
  rintro σ ⟨s, rfl, h1, h2⟩
  have fin : (s = 0 ∨ ∃ c, ps[s - 1]? = some c ∧ c ≠ 0) → trim ps = ps.take s := fun h3 => by unfold trim; rw [← tl_only h1 h2 h3]
  have ret : (s = 0 ∨ ∃ c, ps[s - 1]? = some c ∧ c ≠ 0) → S (.ok (.own (cutD (LI (NI ps)) none (some (s : Int))))) := fun h3 => by
    have e : cutD (LI (NI ps)) none (some (s : Int)) = LI (NI (trim ps)) := by
      rw [cutD_to, fin h3]
      unfold LI NI
      rw [List.map_take, List.map_take]
    rw [e]; exact hS
  refine brD (fun c => ?_) fun c => ?_
  · have c' : 0 < s := by omega
    obtain ⟨d, hd⟩ : ∃ d, ps[s - 1]? = some d := ⟨_, List.getElem?_eq_getElem (by omega)⟩
    refine ⟨.int (d : Int), by show atI _ ((s : Int) - 1) = _; rw [show (s : Int) - 1 = ((s - 1 : Nat) : Int) by omega]; exact LI_NI_at hd, ?_⟩
    refine brD (fun z => ?_) fun z => ?_
    · have z' : d = 0 := by omega
      subst z'
      refine ⟨⟨s - 1, ?_, by omega, fun i g1 g2 => ?_⟩, ?_⟩
      · show [_, some (SV.val (.int ((s : Int) - 1)))] = _
        rw [show (s : Int) - 1 = ((s - 1 : Nat) : Int) by omega]
      · by_cases e : i = s - 1
        · rw [e]; exact hd
        · exact h2 i (by omega) g2
      · show ((s : Int) - 1).toNat < ((s : Nat) : Int).toNat
        omega
    · exact ret (.inr ⟨d, hd, fun y => z (by omega)⟩)
  · exact brF (ret (.inl (by omega)))
def rcPScaled (C : Addr) : RC := pur fun as S => ∃ (m q r : Nat) (logs ps : List Nat) (a : Nat), as = [.val (FldO C m q r logs), .val (.list (LI (NI ps))), .val (.int ((a : Nat) : Int))] ∧ FldOk m q r logs ∧ a < 2 ^ m ∧ (∀ b ∈ ps, b < 2 ^ m) ∧ ps.length ≤ 1000 ∧ S (.ok (.own (LI (NI (trim (ps.map fun b => mulm q b a))))))
instance : MonoR (rcPScaled C) := inferInstanceAs (MonoR (pur _))
def rcPValue (C : Addr) : RC := pur fun as S => ∃ (m q r : Nat) (logs ps : List Nat) (a : Nat), as = [.val (FldO C m q r logs), .val (.list (LI (NI ps))), .val (.int ((a : Nat) : Int))] ∧ FldOk m q r logs ∧ a < 2 ^ m ∧ (∀ b ∈ ps, b < 2 ^ m) ∧ ps.length ≤ 1000 ∧ S (.ok (.val (.int (ev q a ps : Nat))))
instance : MonoR (rcPValue C) := inferInstanceAs (MonoR (pur _))
/-- a contract that nobody meets -/
def rcNo : RC := pur fun _ _ => False
instance : MonoR rcNo := inferInstanceAs (MonoR (pur _))
/-- the sum, p not the shorter one -/
def addL (p q : List Nat) : List Nat := List.zipWith (· ^^^ ·) p q ++ p.drop q.length
def sumL (p q : List Nat) : List Nat := if p.length < q.length then addL q p else addL p q
def rcAdd : RC := pur fun as S => ∃ (x : PyData) (p q : List Nat), as = [.val x, .val (.list (LI (NI p))), .val (.list (LI (NI q)))] ∧ p.length ≤ 900 ∧ q.length ≤ 900 ∧ S (.ok (.own (LI (NI (trim (sumL p q))))))
instance : MonoR rcAdd := inferInstanceAs (MonoR (pur _))
def rcAdd1 : RC := pur fun as S => ∃ (x : PyData) (p q : List Nat), as = [.val x, .val (.list (LI (NI p))), .val (.list (LI (NI q)))] ∧ p.length ≤ 900 ∧ q.length ≤ 900 ∧ ¬ p.length < q.length ∧ S (.ok (.own (LI (NI (trim (addL p q))))))
instance : MonoR rcAdd1 := inferInstanceAs (MonoR (pur _))
end
section
variable {P : Program} {w : World} {K : PySem.W.Frag} {mg : Str → Option Value} {base : Heap}
open FLD PLY
/-- every second element behind the first one -/
def slopeL (p : List Nat) : List Nat := (List.range (p.length - 1)).map fun i => if i % 2 = 0 then p.getD (i + 1) 0 else 0
def rcSlope : RC := pur fun as S => ∃ ps : List Nat, as = [.val (.list (LI (NI ps)))] ∧ ps.length ≤ 1000 ∧ S (.ok (.own (LI (NI (trim (slopeL ps))))))
instance : MonoR rcSlope := inferInstanceAs (MonoR (pur _))
end
section
variable {P : Program} {w : World} {K : PySem.W.Frag} {mg : Str → Option Value} {base : Heap}
open FLD PLY PLY
/-- a value set, told by another name -/
theorem dset_go {i : Nat} {f : DX} {g : DSX} {E : DEnds} {σ : SD} {d : PyData} (hf : ∀ P : SV → Prop, P (.val d) → f σ P) (h : g E (σ.set i (some (.val d)))) : dSeq (dSet i f) g E σ := hf _ h
theorem zeros_app (ms : List Nat) (v : Nat) : LI (NI ms) ++ (List.replicate ((v : Nat) : Int).toNat [PyData.int 0]).flatten = LI (NI (ms ++ List.replicate v 0)) := by
  rw [Int.toNat_natCast]
  unfold LI NI
  rw [List.map_append, List.map_append, List.map_replicate, List.map_replicate]
  congr 1
  induction v with
  | zero => rfl
  | succ v ih => rw [List.replicate_succ, List.flatten_cons, ih, List.replicate_succ]; rfl
def rcLPlus : RC := pur fun as S => ∃ p q : List Nat, as = [.val (.list (LI (NI p))), .val (.list (LI (NI q)))] ∧ p.length ≤ 900 ∧ q.length ≤ 900 ∧ S (.ok (.own (LI (NI (trim (sumL p q))))))
instance : MonoR rcLPlus := inferInstanceAs (MonoR (pur _))
end
/-! ### the mathematics of bits -/
theorem mod_pow_succ (q i : Nat) : q % 2 ^ (i + 1) = q % 2 ^ i ^^^ (if q / 2 ^ i % 2 = 1 then 2 ^ i else 0) := by
  apply Nat.eq_of_testBit_eq
  intro j
  rw [Nat.testBit_xor, Nat.testBit_mod_two_pow, Nat.testBit_mod_two_pow]
  by_cases e : j = i
  · subst e
    by_cases h : q / 2 ^ j % 2 = 1
    · rw [if_pos h, Nat.testBit_two_pow_self]; simp [Nat.testBit_eq_decide_div_mod_eq, h]
    · rw [if_neg h]; simp [Nat.testBit_eq_decide_div_mod_eq, h]
  · have e2 : (if q / 2 ^ i % 2 = 1 then 2 ^ i else 0).testBit j = false := by
      split
      · rw [Nat.testBit_two_pow]; simp; omega
      · simp
    rw [e2]
    by_cases h : j < i
    · simp [h]; omega
    · have : ¬ j < i + 1 := by omega
      simp [h, this]
theorem times_step (p q i : Nat) : GF.mul p (q % 2 ^ (i + 1)) = GF.mul p (q % 2 ^ i) ^^^ (if q / 2 ^ i % 2 = 1 then 2 ^ i * p else 0) := by
  rw [mod_pow_succ, GF.mul_xor]
  congr 1
  split
  · exact GF.mul_pow _ _
  · exact GF.mul_zero _
theorem bits_lt (q : Nat) : q < 2 ^ NB.bits q := by
  unfold NB.bits
  split
  · rename_i h; subst h; decide
  · exact Nat.lt_log2_self
section
variable {P : Program} {w : World} {K : PySem.W.Frag} {mg : Str → Option Value} {base : Heap}
open FLD PLY
theorem NI_set (t : List Nat) (k c : Nat) : (LI (NI t)).set k (.int ((c : Nat) : Int)) = LI (NI (t.set k c)) := by unfold LI NI; rw [List.map_set, List.map_set]
theorem drop_of {l : List Nat} {i e : Nat} (h : l[i]? = some e) : l.drop i = e :: l.drop (i + 1) := by
  rw [List.drop_eq_getElem_cons (List.getElem?_eq_some_iff.mp h).1]
  congr 1
  exact (List.getElem?_eq_some_iff.mp h).2
def rcLMul : RC := pur fun as S => ∃ (m q : Nat) (p s : List Nat), as = [.val (.int ((q : Nat) : Int)), .val (.list (LI (NI p))), .val (.list (LI (NI s)))] ∧ Fd m q ∧ (∀ c ∈ p, c < 2 ^ m) ∧ (∀ c ∈ s, c < 2 ^ m) ∧ p.length ≤ 400 ∧ s.length ≤ 400 ∧ S (.ok (.own (LI (NI (trim (conv q p s))))))
instance : MonoR rcLMul := inferInstanceAs (MonoR (pur _))
end
end K20
set_option synthInstance.maxSize 100000
set_option synthInstance.maxHeartbeats 0
namespace K20
open PySem PySem.Spec L2 NB ER MKX DL
section
variable {P : Program} {w : World} {K : PySem.W.Frag} {mg : Str → Option Value} {base : Heap}
variable {C : Addr}
open FLD PLY
def rcPTimes (C : Addr) : RC := pur fun as S => ∃ (m q r : Nat) (logs ps qs : List Nat), as = [.val (FldO C m q r logs), .val (.list (LI (NI ps))), .val (.list (LI (NI qs)))] ∧ FldOk m q r logs ∧ (∀ b ∈ ps, b < 2 ^ m) ∧ (∀ b ∈ qs, b < 2 ^ m) ∧ ps.length ≤ 400 ∧ qs.length ≤ 400 ∧ S (.ok (.own (LI (NI (trim (conv q ps qs))))))
instance : MonoR (rcPTimes C) := inferInstanceAs (MonoR (pur _))
theorem ok_times_polys {f f_trimmed f_Field_scaled : Addr} {fd fd_trimmed fd_Field_scaled : FuncData} (D : Da K mg "times_polys" "times" ["field", "p", "q"] s_times_polys f fd) (B : Bl mg) (K_Field : Cls K C) (M_Field_scaled : Meth K C "scaled" f_Field_scaled) (b_Field_scaled : Binds K fd_Field_scaled ["self", "items", "e"] [])
    (G_Field_scaled : FnOk P w K mg base CX0 1 f_Field_scaled fd_Field_scaled ["self", "items", "e"] (spF (rcFScaled C)))
    (D_trimmed : Df K mg "trimmed" ["coefficients"] s_trimmed f_trimmed fd_trimmed) (G_trimmed : FnOk P w K mg base CX0 1 f_trimmed fd_trimmed ["coefficients"] (spF rcTrim)) :
    FnOk P w K mg base CX0 2 f fd ["field", "p", "q"] (spF (rcPTimes C)) := by
  refine okF D.F sc_times_polys (fun F as S h => by obtain ⟨m, q, r, l, a, b, rfl, _⟩ := h; rfl) (fun cdv A outer s H E hr => ⟨_, _, (pss_cons (ps_set (i := 3) sc_times_polys.nd rfl (Or.inl rfl) (pe_op op_rep (pe_lst (pa_cons (pe_z 0) pa_nil)) (pe_op op_add (pe_callB call_len_seq (by rfl) B.len PySem.boot_len (pa_cons (pv 1) pa_nil)) (pe_callB call_len_seq (by rfl) B.len PySem.boot_len (pa_cons (pv 2) pa_nil)))))
      (pss_cons (ps_for PassesOwn.never rfl (pi_enum rfl B.enumerate (pa_cons (pv 1) pa_nil)) (pg_tup rfl (pgs_cons (pg_name (i := 4) sc_times_polys.nd rfl (Or.inl rfl) (Or.inr rfl)) (pgs_cons (pg_name (i := 5) sc_times_polys.nd rfl (Or.inl rfl) (Or.inr rfl)) pgs_nil)))
        (pss_one (ps_for PassesOwn.never rfl (pi_enumS rfl B.enumerate (pa_cons (pe_meth (pv 0) K_Field M_Field_scaled G_Field_scaled (hr.mono (by decide)) b_Field_scaled .nil pass00 (by exact (pa_cons (pv 2) (pa_cons (pv 5) pa_nil)))) pa_nil) (pk_cons (pv 4) pk_nil)) (pg_tup rfl (pgs_cons (pg_name (i := 6) sc_times_polys.nd rfl (Or.inl rfl) (Or.inr rfl)) (pgs_cons (pg_name (i := 7) sc_times_polys.nd rfl (Or.inl rfl) (Or.inr rfl)) pgs_nil)))
          (pss_one (ps_augS (pv 3) (pv 6) get_list (pv 7) iop_xor set_list)))))
      (pss_one (ps_ret (pe_call G_trimmed (hr.mono (by decide)) rfl D_trimmed.g D_trimmed.F.kp D_trimmed.b .nil pass00 (pa_cons (pv 3) pa_nil)))))), fun F0 => by infer_instance, fun F0 as S h => ?_⟩)
  obtain ⟨m, q, r, l, p, s, rfl, O, hEp, hEs, hp, hs, hS⟩ := h
  have F := O.fd
  have sl := sizeLine_eq
  have lp := LI_NI_len p
  have ls := LI_NI_len s
  have e0 : (List.replicate ((((LI (NI p)).length : Nat) : Int) + (((LI (NI s)).length : Nat) : Int)).toNat [PyData.int 0]).flatten = LI (NI (List.replicate (p.length + s.length) 0)) := by
    have := zeros_app [] (p.length + s.length)
    have e : (((LI (NI p)).length : Nat) : Int) + (((LI (NI s)).length : Nat) : Int) = ((p.length + s.length : Nat) : Int) := by omega
    rw [e]
    exact this
  refine ⟨(show 1 ≤ sizeLine by omega), by omega, by omega, (show (1 : Nat) * ((((LI (NI p)).length : Nat) : Int) + (((LI (NI s)).length : Nat) : Int)).toNat ≤ sizeLine by omega), .inl ?_⟩
  refine ⟨rfl, fun i σ => ∃ (t : List Nat) (v4 v5 v6 v7 : Option SV), σ = [some (.val (FldO C m q r l)), some (.val (.list (LI (NI p)))), some (.val (.list (LI (NI s)))), some (.own (LI (NI t))), v4, v5, v6, v7] ∧ t.length = p.length + s.length ∧ (∀ c ∈ t, c < 2 ^ m) ∧ rows q s (p.drop i) i t = conv q p s,
    ⟨List.replicate (p.length + s.length) 0, none, none, none, none, ?_, List.length_replicate, fun c hc => by rw [(List.mem_replicate.mp hc).2]; exact Nat.two_pow_pos _, rfl⟩, ?_, ?_⟩
  · rw [← e0]; rfl
  · rintro i d σ hd ⟨t, v4, v5, v6, v7, rfl, tl1, tE, tR⟩
    obtain ⟨x, hx, rfl⟩ := enumD_at hd
    obtain ⟨e, he, rfl⟩ := NI_at hx
    have hil : i < p.length := (List.getElem?_eq_some_iff.mp he).1
    rw [drop_of he] at tR
    have tR' : rows q s (p.drop (i + 1)) (i + 1) (row q e s i t) = conv q p s := tR
    have heb := hEp _ (List.mem_of_getElem? he)
    refine ⟨rfl, ?_⟩
    refine ⟨_, rfl, fsF_no m q r l, fun x => x = .ok (.own (LI (NI (s.map fun b => mulm q b e)))), ⟨m, q, r, l, s, e, rfl, O, heb, hEs, by omega, rfl⟩, ?_⟩
    rintro x rfl
    have lm : (LI (NI (s.map fun b => mulm q b e))).length = s.length := by rw [LI_NI_len, List.length_map]
    refine ⟨fun _ => LI_allF _, by omega, by omega, rfl, fun j σ => ∃ (t : List Nat) (v6 v7 : Option SV), σ = [some (.val (FldO C m q r l)), some (.val (.list (LI (NI p)))), some (.val (.list (LI (NI s)))), some (.own (LI (NI t))), some (.val (.int (i : Int))), some (.val (.int (e : Int))), v6, v7] ∧ t.length = p.length + s.length ∧ (∀ c ∈ t, c < 2 ^ m) ∧ rows q s (p.drop (i + 1)) (i + 1) (row q e (s.drop j) (i + j) t) = conv q p s,
      ⟨t, v6, v7, rfl, tl1, tE, tR'⟩, ?_, ?_⟩
    · rintro j d σ hd ⟨t, v6, v7, rfl, tl3, tE3, tR3⟩
      obtain ⟨x, hx, rfl⟩ := enumS_at hd
      obtain ⟨f1, hf, rfl⟩ := NI_at hx
      have hjl : j < s.length := by have := (List.getElem?_eq_some_iff.mp hf).1; rw [List.length_map] at this; exact this
      obtain ⟨d, hd'⟩ : ∃ d, s[j]? = some d := ⟨_, List.getElem?_eq_getElem hjl⟩
      have hf1 : f1 = mulm q e d := by rw [List.getElem?_map, hd'] at hf; rw [mulm_comm]; exact (Option.some.inj hf).symm
      subst hf1
      obtain ⟨c, hc⟩ : ∃ c, t[i + j]? = some c := ⟨_, List.getElem?_eq_getElem (by omega)⟩
      rw [drop_of hd'] at tR3
      have tR4 : rows q s (p.drop (i + 1)) (i + 1) (row q e (s.drop (j + 1)) (i + j + 1) (t.set (i + j) (t.getD (i + j) 0 ^^^ mulm q e d))) = conv q p s := tR3
      rw [List.getD_eq_getElem?_getD, hc, Option.getD_some] at tR4
      have ij : (i : Int) + (j : Int) = ((i + j : Nat) : Int) := by omega
      refine ⟨rfl, i + j, .int (c : Int), ?_, ?_, t.set (i + j) (c ^^^ mulm q e d), some (.val (.int ((i : Int) + (j : Int)))), some (.val (.int (mulm q e d : Nat))), ?_, ?_, ?_, tR4⟩
      · rw [LI_NI_len]
        show ixN t.length ((i : Int) + (j : Int)) = _
        rw [ij, ixN_pos (by omega) (by omega), Int.toNat_natCast]
      · unfold LI NI; rw [List.getElem?_map, List.getElem?_map, hc]; rfl
      · have e3 : Builtin.bitXor (c : Int) ((mulm q e d : Nat) : Int) = ((c ^^^ mulm q e d : Nat) : Int) := xor_nn _ _
        rw [← NI_set, ← e3]; rfl
      · rw [List.length_set]; exact tl3
      · intro u hu
        rcases List.mem_or_eq_of_mem_set hu with h | h
        · exact tE3 u h
        · rw [h]; exact Nat.xor_lt_two_pow (tE3 c (List.mem_of_getElem? hc)) (mulm_lt F _ _)
    · rintro σ ⟨t, v6, v7, rfl, tl3, tE3, tR3⟩
      rw [enumS_len, lm, List.drop_length] at tR3
      exact ⟨t, _, _, _, _, rfl, tl3, tE3, tR3⟩
  · rintro σ ⟨t, v4, v5, v6, v7, rfl, tl1, tE, tR⟩
    rw [enumD_len, lp, List.drop_length] at tR
    have tR' : t = conv q p s := tR
    subst tR'
    refine ⟨fun r => r = .ok (.own (LI (NI (trim (conv q p s))))), ⟨conv q p s, rfl, by omega, rfl⟩, ?_⟩
    rintro r rfl
    exact ⟨fun _ => LI_allF _, hS⟩
end
abbrev s_divide_polys : Stmt := top 14
theorem sc_divide_polys : FnScope ["field", "p", "q", "divisor", "rest", "inverse", "quotient", "shift", "factor", "k", "e"] ["field", "p", "q"] (defScope s_divide_polys) := ⟨rfl, rfl, rfl, by decide +kernel, rfl, by decide +kernel, by decide +kernel⟩
section
variable {P : Program} {w : World} {K : PySem.W.Frag} {mg : Str → Option Value} {base : Heap}
variable {f_init : Addr} {fd_init : FuncData} {CH C C_NoInverse C_NoDivisor : Addr}
open FLD PLY
theorem lastD_app (p : List Nat) (x : Nat) : lastD (p ++ [x]) = x := by unfold lastD; rw [List.length_append, List.getD_eq_getElem?_getD, List.getElem?_append_right (by simp)]; simp
theorem at_last {p : List Nat} (h : 0 < p.length) : atI (LI (NI p)) (-1) = some (.int ((lastD p : Nat) : Int)) := by
  obtain ⟨l, x, rfl⟩ : ∃ l x, p = l ++ [x] := ⟨p.dropLast, p.getLast (List.length_pos_iff.mp h), (List.dropLast_concat_getLast _).symm⟩
  rw [lastD_app, ← NI_app]
  exact atI_last _ _
/-- the division's answer -/
def dq (q v : Nat) (s p : List Nat) : List Nat × List Nat := dv q v (trim s) p.length (trim p) (List.replicate ((trim p).length + 1 - (trim s).length) 0)
def rcPDiv (C CN : Addr) : RC := pur fun as S => ∃ (m q r : Nat) (logs p s : List Nat), as = [.val (FldO C m q r logs), .val (.list (LI (NI p))), .val (.list (LI (NI s)))] ∧ FldOk m q r logs ∧ (∀ b ∈ p, b < 2 ^ m) ∧ (∀ b ∈ s, b < 2 ^ m) ∧ p.length ≤ 400 ∧ s.length ≤ 400 ∧
  (trim s = [] → S (.er CN 0)) ∧ (trim s ≠ [] → ∀ v, v < 2 ^ m → v ≠ 0 → mulm q v (lastD (trim s)) = 1 → S (.ok (.val (.tuple [.list (LI (NI (dq q v s p).2)), .list (LI (NI (dq q v s p).1))]))))
instance {C CN : Addr} : MonoR (rcPDiv C CN) := inferInstanceAs (MonoR (pur _))
theorem LI_empty (p : List Nat) : (LI (NI p)).isEmpty = p.isEmpty := by cases p <;> rfl
theorem NI_get {t : List Nat} {k c : Nat} (h : t[k]? = some c) : (LI (NI t))[k]? = some (.int (c : Int)) := by unfold LI NI; rw [List.getElem?_map, List.getElem?_map, h]; rfl
theorem trim_El {m : Nat} {p : List Nat} (h : ∀ c ∈ p, c < 2 ^ m) : ∀ c ∈ trim p, c < 2 ^ m := fun c hc => h c (trim_mem hc)
theorem last_trim0 {p : List Nat} (h : 0 < (trim p).length) : lastD (trim p) ≠ 0 := fun z => by
  have := (tl_le_iff (trim p) ((trim p).length - 1)).mpr fun j hj => by
    by_cases e : j = (trim p).length - 1
    · rw [e]; exact z
    · exact getD_out (by omega)
  have e2 : tl (trim p) = (trim p).length := by rw [← trim_len, trim_trim]
  omega
theorem ok_divide_polys {f f_trimmed f_Field_scaled f_Field_times f_Field_inverse : Addr} {fd fd_trimmed fd_Field_scaled fd_Field_times fd_Field_inverse : FuncData} (D : Da K mg "divide_polys" "divide" ["field", "p", "q"] s_divide_polys f fd) (B : Bl mg) (K_Field : Cls K C)
    (M_Field_scaled : Meth K C "scaled" f_Field_scaled) (b_Field_scaled : Binds K fd_Field_scaled ["self", "items", "e"] [])
    (G_Field_scaled : FnOk P w K mg base CX0 1 f_Field_scaled fd_Field_scaled ["self", "items", "e"] (spF (rcFScaled C)))
    (M_Field_times : Meth K C "times" f_Field_times) (b_Field_times : Binds K fd_Field_times ["self", "e", "f"] [])
    (G_Field_times : FnOk P w K mg base CX0 1 f_Field_times fd_Field_times ["self", "e", "f"] (spF (rcFTimes C)))
    (M_Field_inverse : Meth K C "inverse" f_Field_inverse) (b_Field_inverse : Binds K fd_Field_inverse ["self", "e"] [])
    (G_Field_inverse : FnOk P w K mg base (L2.CX P w) 4 f_Field_inverse fd_Field_inverse ["self", "e"] (spF (rcFInv C C_NoInverse)))
    (D_trimmed : Df K mg "trimmed" ["coefficients"] s_trimmed f_trimmed fd_trimmed) (G_trimmed : FnOk P w K mg base CX0 1 f_trimmed fd_trimmed ["coefficients"] (spF rcTrim))
    (X_NoDivisor : XC K mg "NoDivisor" C_NoDivisor f_init CH) (G_init : FnOk P w K mg base CX0 1 f_init fd_init ["self", "at"] (sp_init K)) (b_init : Binds K fd_init ["self", "at"] []) :
    FnOk P w K mg base (L2.CX P w) 5 f fd ["field", "p", "q"] (spF (rcPDiv C C_NoDivisor)) := by
  refine okFX D.F sc_divide_polys (fun F as S h => by obtain ⟨m, q, r, l, a, b, rfl, _⟩ := h; rfl) (fun cdv A outer s H E hr => ⟨_, _, (pss_cons (ps_set (i := 3) sc_divide_polys.nd rfl (Or.inl rfl) (pe_call G_trimmed (hr.mono (by decide)) rfl D_trimmed.g D_trimmed.F.kp D_trimmed.b .nil pass00 (pa_cons (pv 2) pa_nil)))
      (pss_cons (ps_if (pt_not (pt_tru (pv 3) (by intro _; rfl))) (pss_one (ps_err rfl X_NoDivisor G_init (hr.mono (by decide)) b_init pass0 (takes_of rfl rfl rfl rfl) (pa_cons (pe_z 0) pa_nil))) pss_nil)
      (pss_cons (ps_set (i := 4) sc_divide_polys.nd rfl (Or.inl rfl) (pe_call G_trimmed (hr.mono (by decide)) rfl D_trimmed.g D_trimmed.F.kp D_trimmed.b .nil pass00 (pa_cons (pv 1) pa_nil)))
      (pss_cons (ps_set (i := 5) sc_divide_polys.nd rfl (Or.inl rfl) (pe_mtS (pv 0) K_Field M_Field_inverse G_Field_inverse (hr.mono (by decide)) b_Field_inverse (fun σ => passAt (W := fun cls d _ H => E cls d H) (takes_of rfl rfl rfl rfl) σ) (by exact (pa_cons (pe_ix ix_list (pv 3) (pe_un un_neg (pe_z 1)) (fun _ _ => rfl)) pa_nil))))
      (pss_cons (ps_set (i := 6) sc_divide_polys.nd rfl (Or.inl rfl) (pe_op op_rep (pe_lst (pa_cons (pe_z 0) pa_nil)) (pe_callB (call_max2 rfl) (by rfl) B.max (by decide +kernel) (pa_cons (pe_z 0) (pa_cons (pe_op op_add (pe_op op_sub (pe_callB call_len_seq (by rfl) B.len PySem.boot_len (pa_cons (pv 4) pa_nil)) (pe_callB call_len_seq (by rfl) B.len PySem.boot_len (pa_cons (pv 3) pa_nil))) (pe_z 1)) pa_nil)))))
      (pss_cons (ps_while (passes_of rfl) (pt_cmpR op_ge (pe_callB call_len_seq (by rfl) B.len PySem.boot_len (pa_cons (pv 4) pa_nil)) (pe_callB call_len_seq (by rfl) B.len PySem.boot_len (pa_cons (pv 3) pa_nil)) (nomark _))
        (pss_cons (ps_set (i := 7) sc_divide_polys.nd rfl (Or.inl rfl) (pe_op op_sub (pe_callB call_len_seq (by rfl) B.len PySem.boot_len (pa_cons (pv 4) pa_nil)) (pe_callB call_len_seq (by rfl) B.len PySem.boot_len (pa_cons (pv 3) pa_nil))))
        (pss_cons (ps_set (i := 8) sc_divide_polys.nd rfl (Or.inl rfl) (pe_meth (pv 0) K_Field M_Field_times G_Field_times (hr.mono (by decide)) b_Field_times .nil pass00 (by exact (pa_cons (pe_ix ix_list (pv 4) (pe_un un_neg (pe_z 1)) (fun _ _ => rfl)) (pa_cons (pv 5) pa_nil)))))
        (pss_cons (ps_asg (pv 8) (pg_sub (pv 6) (pv 7) set_list))
        (pss_cons (ps_for (passes_of rfl) rfl (pi_enumS rfl B.enumerate (pa_cons (pe_meth (pv 0) K_Field M_Field_scaled G_Field_scaled (hr.mono (by decide)) b_Field_scaled .nil pass00 (by exact (pa_cons (pv 3) (pa_cons (pv 8) pa_nil)))) pa_nil) (pk_cons (pv 7) pk_nil)) (pg_tup rfl (pgs_cons (pg_name (i := 9) sc_divide_polys.nd rfl (Or.inl rfl) (Or.inr rfl)) (pgs_cons (pg_name (i := 10) sc_divide_polys.nd rfl (Or.inl rfl) (Or.inr rfl)) pgs_nil)))
          (pss_one (ps_augS (pv 4) (pv 9) get_list (pv 10) iop_xor set_list)))
        (pss_one (ps_set (i := 4) sc_divide_polys.nd rfl (Or.inl rfl) (pe_call G_trimmed (hr.mono (by decide)) rfl D_trimmed.g D_trimmed.F.kp D_trimmed.b .nil pass00 (pa_cons (pv 4) pa_nil)))))))))
      (pss_one (ps_ret (pe_tup (pa_cons (pv 6) (pa_cons (pv 4) pa_nil))))))))))), fun F0 ER h => by infer_instance, fun F0 as S h => ?_⟩)
  obtain ⟨m, q, r, l, p, s, rfl, O, hEp, hEs, hp, hs, kE, kQ⟩ := h
  have F := O.fd
  have sL := sizeLine_eq
  have lenS := trim_len s
  have leS := tl_le s
  have lenP := trim_len p
  have leP := tl_le p
  refine ⟨fun x => x = .ok (.own (LI (NI (trim s)))), ⟨s, rfl, by omega, rfl⟩, ?_⟩
  rintro x rfl
  refine ⟨fun _ => LI_allF _, .inr ?_⟩
  by_cases hz : trim s = []
  · rw [hz]
    exact brT ⟨by decide, kE hz⟩
  have hpos : 0 < (trim s).length := List.length_pos_iff.mpr hz
  refine brB (fun c => ?_) fun _ => ?_
  · exfalso
    have c' : (!(!(LI (NI (trim s))).isEmpty)) = true := c
    rw [LI_empty, Bool.not_not, List.isEmpty_iff] at c'
    exact hz c'
  have hE1 := trim_El hEs
  have hE2 := trim_El hEp
  have last0 := last_trim0 hpos
  have ls := LI_NI_len (trim s)
  refine ⟨fun x => x = .ok (.own (LI (NI (trim p)))), ⟨p, rfl, by omega, rfl⟩, ?_⟩
  rintro x rfl
  refine ⟨fun _ => LI_allF _, .inl ?_⟩
  refine ⟨_, rfl, fsF_no m q r l, .int ((lastD (trim s) : Nat) : Int), at_last hpos, fun x => ∃ v, v < 2 ^ m ∧ mulm q (lastD (trim s)) v = 1 ∧ x = .ok (.val (.int ((v : Nat) : Int))), ⟨m, q, r, l, lastD (trim s), rfl, O, lastD_lt F hE1, fun z => absurd z last0, fun b hb h => ⟨b, hb, h, rfl⟩⟩, ?_⟩
  rintro x ⟨v, v1, v3', rfl⟩
  have v3 : mulm q v (lastD (trim s)) = 1 := by rw [mulm_comm]; exact v3'
  have v0 : v ≠ 0 := fun z => by rw [z, zero_mulm F] at v3; exact absurd v3 (by decide)
  refine ⟨fun _ => rfl, ?_⟩
  have lr := LI_NI_len (trim p)
  generalize hW0 : List.replicate ((trim p).length + 1 - (trim s).length) 0 = W0
  have lW0 : W0.length = (trim p).length + 1 - (trim s).length := by rw [← hW0, List.length_replicate]
  show sizeLine ≥ 1 ∧ _ < _ ∧ _ ≤ _ ∧ 1 * _ ≤ _ ∧ _
  generalize hz1 : (fun i j : Int => if j > i then j else i) 0 ((((LI (NI (trim p))).length : Nat) : Int) - (((LI (NI (trim s))).length : Nat) : Int) + 1) = z
  have hz2 : z = (((trim p).length + 1 - (trim s).length : Nat) : Int) := by
    rw [← hz1]
    show (if (((LI (NI (trim p))).length : Nat) : Int) - (((LI (NI (trim s))).length : Nat) : Int) + 1 > 0 then (((LI (NI (trim p))).length : Nat) : Int) - (((LI (NI (trim s))).length : Nat) : Int) + 1 else 0) = _
    split <;> omega
  have ez : (List.replicate z.toNat [PyData.int 0]).flatten = LI (NI W0) := by
    rw [hz2, Int.toNat_natCast, ← hW0]
    exact zeros_app [] _
  rw [ez]
  refine ⟨by omega, by omega, by omega, by omega, .inl ?_⟩
  refine ⟨fun σ => ∃ (R W : List Nat) (n : Nat) (v7 v8 v9 v10 : Option SV), σ = [some (.val (FldO C m q r l)), some (.val (.list (LI (NI p)))), some (.val (.list (LI (NI s)))), some (.val (.list (LI (NI (trim s))))), some (.own (LI (NI R))), some (.val (.int (v : Int))), some (.own (LI (NI W))), v7, v8, v9, v10] ∧ (∀ c ∈ R, c < 2 ^ m) ∧ W.length = W0.length ∧ R.length ≤ (trim p).length ∧ R.length ≤ n ∧ dv q v (trim s) n R W = dv q v (trim s) p.length (trim p) W0,
    fun σ => match σ with | _ :: _ :: _ :: _ :: some (.own R) :: _ => R.length | _ => 0, ⟨trim p, W0, p.length, none, none, none, none, rfl, hE2, rfl, Nat.le_refl _, by omega, rfl⟩, ?_⟩
  rintro σ ⟨R, W, n, v7, v8, v9, v10, rfl, hE, lW, lR, ln, hdv⟩
  have l1 := LI_NI_len R
  have l2 := LI_NI_len W
  refine brD (fun c => ?_) fun c => ?_
  · have hge : (trim s).length ≤ R.length := by omega
    obtain ⟨n, rfl⟩ : ∃ k, n = k + 1 := ⟨n - 1, by omega⟩
    rw [dv_step hge] at hdv
    have hlt := step_lt F v3 hpos hge hE
    have esh : (((LI (NI R)).length : Nat) : Int) - (((LI (NI (trim s))).length : Nat) : Int) = ((R.length - (trim s).length : Nat) : Int) := by omega
    refine dset_go (d := .int ((R.length - (trim s).length : Nat) : Int)) (fun P h => ?_) ?_
    · show P (.val (.int ((((LI (NI R)).length : Nat) : Int) - (((LI (NI (trim s))).length : Nat) : Int))))
      rw [esh]; exact h
    have lE := lastD_lt F hE
    refine ⟨_, rfl, fsF_no m q r l, .int ((lastD R : Nat) : Int), at_last (by omega), fun x => x = .ok (.val (.int ((lead q v R : Nat) : Int))), ⟨m, q, r, l, lastD R, v, rfl, O, lE, v1, rfl⟩, ?_⟩
    rintro x rfl
    refine ⟨fun _ => rfl, ?_⟩
    refine ⟨R.length - (trim s).length, ?_, ?_⟩
    · rw [LI_NI_len]
      show ixN W.length ((R.length - (trim s).length : Nat) : Int) = _
      rw [ixN_pos (by omega) (by omega), Int.toNat_natCast]
    have ldl : lead q v R < 2 ^ m := mulm_lt F _ _
    rw [NI_set]
    refine ⟨_, rfl, fsF_no m q r l, fun x => x = .ok (.own (LI (NI ((trim s).map fun b => mulm q b (lead q v R))))), ⟨m, q, r, l, trim s, lead q v R, rfl, O, ldl, hE1, by omega, rfl⟩, ?_⟩
    rintro x rfl
    have lm : (LI (NI ((trim s).map fun b => mulm q b (lead q v R)))).length = (trim s).length := by rw [LI_NI_len, List.length_map]
    refine ⟨fun _ => LI_allF _, by omega, by omega, rfl, fun j σ => ∃ (t : List Nat) (v9 v10 : Option SV), σ = [some (.val (FldO C m q r l)), some (.val (.list (LI (NI p)))), some (.val (.list (LI (NI s)))), some (.val (.list (LI (NI (trim s))))), some (.own (LI (NI t))), some (.val (.int (v : Int))), some (.own (LI (NI (W.set (R.length - (trim s).length) (lead q v R))))), some (.val (.int ((R.length - (trim s).length : Nat) : Int))), some (.val (.int ((lead q v R : Nat) : Int))), v9, v10] ∧ t.length = R.length ∧ (∀ c ∈ t, c < 2 ^ m) ∧ row q (lead q v R) ((trim s).drop j) (R.length - (trim s).length + j) t = row q (lead q v R) (trim s) (R.length - (trim s).length) R,
      ⟨R, v9, v10, rfl, rfl, hE, rfl⟩, ?_, ?_⟩
    · rintro j d σ hd ⟨t, v9, v10, rfl, tl3, tE3, tR3⟩
      obtain ⟨x, hx, rfl⟩ := enumS_at hd
      obtain ⟨f1, hf, rfl⟩ := NI_at hx
      have hjl : j < (trim s).length := by have := (List.getElem?_eq_some_iff.mp hf).1; rw [List.length_map] at this; exact this
      obtain ⟨d, hd'⟩ : ∃ d, (trim s)[j]? = some d := ⟨_, List.getElem?_eq_getElem hjl⟩
      have hf1 : f1 = mulm q (lead q v R) d := by rw [List.getElem?_map, hd'] at hf; rw [mulm_comm]; exact (Option.some.inj hf).symm
      subst hf1
      obtain ⟨c, hc⟩ : ∃ c, t[R.length - (trim s).length + j]? = some c := ⟨_, List.getElem?_eq_getElem (by omega)⟩
      rw [drop_of hd'] at tR3
      have tR4 : row q (lead q v R) ((trim s).drop (j + 1)) (R.length - (trim s).length + j + 1) (t.set (R.length - (trim s).length + j) (t.getD (R.length - (trim s).length + j) 0 ^^^ mulm q (lead q v R) d)) = row q (lead q v R) (trim s) (R.length - (trim s).length) R := tR3
      rw [List.getD_eq_getElem?_getD, hc, Option.getD_some] at tR4
      have ij : ((R.length - (trim s).length : Nat) : Int) + (j : Int) = ((R.length - (trim s).length + j : Nat) : Int) := by omega
      refine ⟨rfl, R.length - (trim s).length + j, .int (c : Int), ?_, NI_get hc, t.set (R.length - (trim s).length + j) (c ^^^ mulm q (lead q v R) d), some (.val (.int (((R.length - (trim s).length : Nat) : Int) + (j : Int)))), some (.val (.int (mulm q (lead q v R) d : Nat))), ?_, ?_, ?_, tR4⟩
      · rw [LI_NI_len]
        show ixN t.length (((R.length - (trim s).length : Nat) : Int) + (j : Int)) = _
        rw [ij, ixN_pos (by omega) (by omega), Int.toNat_natCast]
      · have e3 : Builtin.bitXor (c : Int) ((mulm q (lead q v R) d : Nat) : Int) = ((c ^^^ mulm q (lead q v R) d : Nat) : Int) := xor_nn _ _
        rw [← NI_set t, ← e3]; rfl
      · rw [List.length_set]; exact tl3
      · intro u hu
        rcases List.mem_or_eq_of_mem_set hu with h | h
        · exact tE3 u h
        · rw [h]; exact Nat.xor_lt_two_pow (tE3 c (List.mem_of_getElem? hc)) (mulm_lt F _ _)
    · rintro σ ⟨t, v9, v10, rfl, tl3, tE3, tR3⟩
      rw [enumS_len, lm, List.drop_length] at tR3
      have tR5 : t = row q (lead q v R) (trim s) (R.length - (trim s).length) R := tR3
      have est : trim t = step q v (trim s) R := by rw [tR5]; rfl
      refine ⟨fun x => x = .ok (.own (LI (NI (trim t)))), ⟨t, rfl, by omega, rfl⟩, ?_⟩
      rintro x rfl
      refine ⟨fun _ => LI_allF _, .inl ⟨⟨trim t, W.set (R.length - (trim s).length) (lead q v R), n, _, _, _, _, rfl, trim_El tE3, by rw [List.length_set]; exact lW, ?_, ?_, by rw [est]; exact hdv⟩, ?_⟩⟩
      · rw [est]; omega
      · rw [est]; omega
      · show (LI (NI (trim t))).length < (LI (NI R)).length
        rw [LI_NI_len, LI_NI_len, est]; exact hlt
  · have hge : ¬ (trim s).length ≤ R.length := by omega
    rw [dv_stop hge] at hdv
    have := kQ hz v v1 v0 v3
    unfold dq at this
    rw [hW0, ← hdv] at this
    exact ⟨by show 2 ≤ sizeLine; omega, this⟩
end
abbrev s_degree : Stmt := top 27
abbrev s_times_binary : Stmt := top 28
abbrev s_divide_binary : Stmt := top 30
abbrev s_common : Stmt := top 32
abbrev s_product_rest : Stmt := top 33
abbrev s_is_irreducible : Stmt := top 34
abbrev s__powers_of : Stmt := top 38
abbrev s__root_powers : Stmt := top 37
abbrev s_Field___init__ : Stmt := inClass (top 36) 0
abbrev s_init : Stmt := inClass (top 3) 0
theorem sc_init : FnScope ["self", "at"] ["self", "at"] (defScope s_init) := ⟨rfl, rfl, rfl, by decide +kernel, rfl, by decide +kernel, by decide +kernel⟩
section
variable {P : Program} {w : World} {K : PySem.W.Frag} {mg : Str → Option Value} {base : Heap}
theorem ok_init {f : Addr} {fd : FuncData} (F : Fun K "__init__" "HaulError.__init__" s_init f fd) (mv : mg "ValueError" = none) (vV : PySem.W.findCls K (.type "ValueError") (.type "type") "__init__" = some (.val (.builtin "ValueError.__init__"))) :
    FnOk P w K mg base CX0 1 f fd ["self", "at"] (sp_init K) := by
  refine F.ok sc_init (fun vs H Q E h => ?_) (fun cdv A outer s H vs Q E hr h => ?_)
  · obtain ⟨a, C, i, rfl, _⟩ := h; rfl
  · obtain ⟨a, C, i, rfl, ⟨mg', x, fI, CH, T⟩, ha, hi, k⟩ := h
    refine ⟨_, pss_cons (ps_expr (pe_veinit rfl mv vV (pa_cons (pv 0) (pa_cons (pe_joined (.cons pe_str (.cons (pe_fmt (pv 1)) .nil))) pa_nil))))
      (pss_one (ps_ost (pv 0) (pv 1))), ?_⟩
    refine ⟨_, rfl, _, rfl, ?_, _, rfl, .inr ⟨i, rfl, hi, _, rfl, at_len hi, a, C, _, rfl, by simp, T.oex, ha, ?_⟩⟩
    · decide +kernel
    · refine ⟨_, rfl, _, rfl, a, C, rfl, T.oex, T.no, .inl ⟨ha, fun dx nx ne => k dx nx ne⟩⟩
end
section
variable {P : Program} {w : World} {K : PySem.W.Frag} {mg : Str → Option Value} {base : Heap}
open FLD PLY
def rcFld (C C1 C2 : Addr) : RC := pur fun as S => ∃ (m q : Int), as = [.val (.int m), .val (.int q)] ∧ m.natAbs.log2 < 1920 ∧ q.natAbs.log2 < 1920 ∧ q.natAbs < 2 ^ 64 ∧ (¬ (2 ≤ m ∧ m ≤ 8) → S (.er C1 m)) ∧ (2 ≤ m → m ≤ 8 → ¬ (0 ≤ q ∧ Fd m.toNat q.toNat) → S (.er C2 q)) ∧
  ∀ (mn qn r : Nat) (logs : List Nat), m = (mn : Int) → q = (qn : Int) → FldOk mn qn r logs → S (.ok (.val (FldO C mn qn r logs)))
instance {C C1 C2 : Addr} : MonoR (rcFld C C1 C2) := inferInstanceAs (MonoR (pur _))
theorem ffl_eq (m q : Nat) (a b c : Addr) : K20o.ffl m q a b c = ([("_bits", .int (m : Int)), ("_modulus", .int (q : Int)), ("_turn", .int ((2 ^ m - 1 : Nat) : Int)), ("_powers", .ref a), ("_logs", .ref b), ("_products", .ref c)] : List (Str × V)) := by
  obtain ⟨a1, a2, a3, a4, a5⟩ := K20o.str1
  obtain ⟨b1, b2, b3, b4, b5, b6⟩ := K20o.str2
  obtain ⟨c1, c2, c3, c4⟩ := K20o.str3
  unfold K20o.ffl K20o.ffl0
  simp only [putF, a1, a2, a3, a4, a5, b1, b2, b3, b4, b5, b6, c1, c2, c3, c4, if_false]
theorem ok_Field___init__ {f f_degree f_is_irreducible f__root_powers f__powers_of f_product_rest f_common f_times_binary f_divide_binary f_init C C_OutOfRange C_NotIrreducible C_NoDivisor CH : Addr} {fd fd_degree fd_is_irreducible fd__root_powers fd__powers_of fd_product_rest fd_common fd_times_binary fd_divide_binary fd_init : FuncData} {tk : Tok} (F : Fun K "__init__" "Field.__init__" K20o.s_Field___init__ f fd) (B : Bl mg) (T : FK K C) (c_X : mg "X" = some (.int 2 tk))
    (D_degree : Df K mg "degree" ["p"] K20o.s_degree f_degree fd_degree) (D_is_irreducible : Df K mg "is_irreducible" ["p"] K20o.s_is_irreducible f_is_irreducible fd_is_irreducible)
    (D__root_powers : Df K mg "_root_powers" ["turn", "modulus"] K20o.s__root_powers f__root_powers fd__root_powers) (D__powers_of : Df K mg "_powers_of" ["e", "modulus"] K20o.s__powers_of f__powers_of fd__powers_of)
    (D_product_rest : Df K mg "product_rest" ["p", "q", "modulus"] K20o.s_product_rest f_product_rest fd_product_rest) (D_common : Df K mg "common" ["p", "q"] K20o.s_common f_common fd_common)
    (D_times_binary : Da K mg "times_binary" "times" ["p", "q"] K20o.s_times_binary f_times_binary fd_times_binary) (D_divide_binary : Da K mg "divide_binary" "divide" ["p", "q"] K20o.s_divide_binary f_divide_binary fd_divide_binary)
    (X_OutOfRange : XC K mg "OutOfRange" C_OutOfRange f_init CH) (X_NotIrreducible : XC K mg "NotIrreducible" C_NotIrreducible f_init CH) (X_NoDivisor : XC K mg "NoDivisor" C_NoDivisor f_init CH) (G_init : FnOk P w K mg base CX0 1 f_init fd_init ["self", "at"] (sp_init K)) (b_init : Binds K fd_init ["self", "at"] []) :
    FnOk P w K mg base (L2.CX P w) 8 f fd ["self", "m", "modulus"] (spI C (rcFld C C_OutOfRange C_NotIrreducible)) := by
  have g1 : FnOk P w K mg base CX0 1 f_degree fd_degree ["p"] K20o.sp_degree := K20o.ok_degree D_degree
  have g2 := K20o.ok_divide_binary (P := P) (w := w) (base := base) D_divide_binary D_degree X_NoDivisor G_init b_init
  have g3 := K20o.ok_times_binary (P := P) (w := w) (base := base) D_times_binary B
  have g4 := K20o.ok_common D_common D_divide_binary g2
  have g5 := K20o.ok_product_rest D_product_rest D_divide_binary g2 D_times_binary g3
  have g6 := K20o.ok_is_irreducible D_is_irreducible B c_X D_degree g1 D_product_rest g5 D_common g4
  have g7 := K20o.ok__powers_of D__powers_of D_product_rest g5
  have g8 := K20o.ok__root_powers D__root_powers B D__powers_of g7
  refine (K20o.ok_Field___init__ F B ⟨T.cl, T.n1, T.n2, T.n3, T.n4, T.n5, T.n6⟩ D_degree g1 D_is_irreducible g6 D__root_powers g8 X_OutOfRange X_NotIrreducible G_init b_init).imp fun vs H Q E h => ?_
  obtain ⟨x, dx, Hb, F, A, S, rfl, nx, nd, ne, rfl, r, na, ⟨m, q, ea, hm, hq, hq64, kM, kN, kQ⟩, hS⟩ := h
  have hv : ∀ p ∈ A, ∀ i, p.2 = .val (.int i) → p.1 = .int i := fun p hp i e => by
    obtain ⟨w, e1, rv⟩ := r.ok (pr p) (List.mem_map.mpr ⟨p, hp, rfl⟩) _ rfl
    cases e1
    obtain ⟨v, s⟩ := p
    subst e
    cases rv
    rfl
  have sH : Same Hb (upd (upd Hb dx (.own x)) x (.ins C dx [])) := (same_upd nd).trans (same_upd (by rw [upd_ne (Ne.symm ne)]; exact nx))
  have fx : F x = none := r.low.free nx
  refine ⟨x, dx, m, q, by rw [two_val ea hv], upd_same, hm, hq, hq64, fun hb d hd => hS _ (kM hb) d _ sH hd, fun h2 h8 hb d H' sm hd => hS _ (kN h2 h8 hb) d H' (sH.trans sm) hd, ?_⟩
  rintro mn qn r0 rfl rfl FD H' keep FA
  obtain ⟨dx', a, b, c, logs, i1, i2, i3, i4, i5, i6, na', nb', nc'⟩ := FA.ex
  have O : FldOk mn qn r0 logs := ⟨FA.fd, FA.lr, i4, i6⟩
  have sB : Same Hb H' := fun y o e => keep y o (sH _ _ e) fun z => by subst z; rw [nx] at e; cases e
  have sF : Same F H' := r.low.trans sB
  let G : Hp := fun y => if y = x ∨ y = a ∨ y = b ∨ y = c then H' y else F y
  have fa : F a = none := r.low.free (sH.free na')
  have fb : F b = none := r.low.free (sH.free nb')
  have fc : F c = none := r.low.free (sH.free nc')
  have sG : Same F G := fun y o e => by
    show (if y = x ∨ y = a ∨ y = b ∨ y = c then H' y else F y) = some o
    by_cases z : y = x ∨ y = a ∨ y = b ∨ y = c
    · rw [if_pos z]; exact sF _ _ e
    · rw [if_neg z]; exact e
  have sGH : Same G H' := fun y o e => by
    have e' : (if y = x ∨ y = a ∨ y = b ∨ y = c then H' y else F y) = some o := e
    by_cases z : y = x ∨ y = a ∨ y = b ∨ y = c
    · rw [if_pos z] at e'; exact e'
    · rw [if_neg z] at e'; exact sF _ _ e'
  have at_ : ∀ {y o}, y = x ∨ y = a ∨ y = b ∨ y = c → H' y = some o → G y = some o := fun {y o} z e => by
    show (if y = x ∨ y = a ∨ y = b ∨ y = c then H' y else F y) = some o
    rw [if_pos z]; exact e
  have lstD : ∀ {y : Addr} {ns : List Nat}, G y = some (.lst (NL ns)) → Dv G (.ref y) (.list (LI (NI ns))) := fun {y ns} e => dv_ints G (by rw [e]; unfold NL NI; rw [List.map_map]; rfl)
  refine hS _ (kQ mn qn r0 logs rfl rfl O) H' ⟨G, ⟨sG, sGH, sB, fun y h0 h1 => ?_, fun p hp => ?_, List.pairwise_singleton _ _⟩⟩
  · show (if y = x ∨ y = a ∨ y = b ∨ y = c then H' y else F y) = none
    rw [if_neg ?_]
    · exact h0
    rintro (z | z | z | z)
    · subst z; exact h1 nx
    · subst z; exact h1 (sH.free na')
    · subst z; exact h1 (sH.free nb')
    · subst z; exact h1 (sH.free nc')
  · rw [List.mem_singleton] at hp
    subst hp
    intro sv e
    cases e
    refine ⟨_, rfl, ?_⟩
    rw [ffl_eq] at i1
    refine Dv.obI (at_ (.inl rfl) i1) ⟨rfl, ?_⟩
    exact .cons (.int _) (.cons (.int _) (.cons (.int _) (.cons (lstD (at_ (.inr (.inl rfl)) i2)) (.cons (lstD (at_ (.inr (.inr (.inl rfl))) i3)) (.cons (lstD (at_ (.inr (.inr (.inr rfl))) i5)) .nil)))))
end
end K20
set_option synthInstance.maxSize 100000
set_option synthInstance.maxHeartbeats 0
namespace K20
open PySem PySem.Spec L2 NB ER MKX DL
abbrev s__law_times : Stmt := top 42
theorem sc__law_times : FnScope ["f", "e", "g", "total", "k", "shift"] ["f", "e", "g"] (defScope s__law_times) := ⟨rfl, rfl, rfl, by decide +kernel, rfl, by decide +kernel, by decide +kernel⟩
abbrev s__law_is_prime : Stmt := top 43
theorem sc__law_is_prime : FnScope ["p", "m", "q", "size", "rest", "shift", "k"] ["p", "m"] (defScope s__law_is_prime) := ⟨rfl, rfl, rfl, by decide +kernel, rfl, by decide +kernel, by decide +kernel⟩
abbrev s__law_field : Stmt := top 44
theorem sc__law_field : FnScope ["draws", "k", "m", "found", "modulus", "e", "powers", "turn", "p"] ["draws", "k", "m"] (defScope s__law_field) := ⟨rfl, rfl, rfl, by decide +kernel, rfl, by decide +kernel, by decide +kernel⟩
section
variable {P : Program} {w : World} {K : PySem.W.Frag} {mg : Str → Option Value} {base : Heap}
open FLD PLY
theorem bit_at (q i : Nat) : Builtin.bitAnd ((q : Int) / 2 ^ ((0 : Int) + (i : Int)).toNat) 1 = ((q / 2 ^ i % 2 : Nat) : Int) := by
  rw [show ((0 : Int) + (i : Int)).toNat = i by omega]
  have : (q : Int) / 2 ^ i = ((q / 2 ^ i : Nat) : Int) := by rw [Int.natCast_ediv, Int.natCast_pow]; rfl
  rw [this]
  show Builtin.bitAnd ((q / 2 ^ i : Nat) : Int) ((1 : Nat) : Int) = _
  rw [and_nn, Nat.and_one_is_mod]
theorem bit_test {p n : Nat} (h : p < 2 ^ (n + 1)) : p / 2 ^ n % 2 = 1 ↔ GF.Deg p n := by
  rw [GF.deg_top h, Nat.testBit_eq_decide_div_mod_eq, decide_eq_true_eq]
theorem bit_at3 (r : Nat) (z : Int) (n : Nat) (h : z.toNat = n) : Builtin.bitAnd ((r : Int) / 2 ^ z.toNat) 1 = ((r / 2 ^ n % 2 : Nat) : Int) := by
  rw [h]
  have : (r : Int) / 2 ^ n = ((r / 2 ^ n : Nat) : Int) := by rw [Int.natCast_ediv, Int.natCast_pow]; rfl
  rw [this]
  show Builtin.bitAnd ((r / 2 ^ n : Nat) : Int) ((1 : Nat) : Int) = _
  rw [and_nn, Nat.and_one_is_mod]
theorem mul_lt {p q i j : Nat} (hp : p < 2 ^ i) (hq : q < 2 ^ j) : GF.mul p q < 2 ^ (i + j) := by
  by_cases p0 : p = 0
  · subst p0; rw [GF.zero_mul]; exact Nat.two_pow_pos _
  · by_cases q0 : q = 0
    · subst q0; rw [GF.mul_zero]; exact Nat.two_pow_pos _
    · have h1 := (Nat.log2_lt p0).mpr hp
      have h2 := (Nat.log2_lt q0).mpr hq
      have := (GF.mul_deg (GF.deg_log p0) (GF.deg_log q0)).2
      exact Nat.lt_of_lt_of_le this (Nat.pow_le_pow_right (by decide) (by omega))
theorem xor_swap3 (a b c : Nat) : a ^^^ b ^^^ (c ^^^ b) = a ^^^ c := by
  rw [Nat.xor_assoc, Nat.xor_comm c b, ← Nat.xor_assoc b b c, Nat.xor_self, Nat.zero_xor]
/-- the product in the field (m, q, ..) -/
def rcT3 : RC := pur fun as S => ∃ (m q e g : Nat) (rest : List PyData), as = [.val (.tuple (.int (m : Int) :: .int (q : Int) :: rest)), .val (.int (e : Int)), .val (.int (g : Int))] ∧ Fd m q ∧ e < 2 ^ m ∧ g < 2 ^ m ∧ S (.ok (.val (.int ((mulm q e g : Nat) : Int))))
instance : MonoR rcT3 := inferInstanceAs (MonoR (pur _))
theorem ok__law_times {f : Addr} {fd : FuncData} (D : Df K mg "_law_times" ["f", "e", "g"] s__law_times f fd) (B : Bl mg) : FnOk P w K mg base CX0 1 f fd ["f", "e", "g"] (spF rcT3) := by
  refine okF D.F sc__law_times (fun F as S h => by obtain ⟨m, q, e, g, rest, rfl, _⟩ := h; rfl) (fun cdv A outer s H E hr => ⟨_, _, (pss_cons (ps_set (i := 3) sc__law_times.nd rfl (Or.inl rfl) (pe_z 0))
      (pss_cons (ps_for PassesOwn.never rfl (pi_range1 rfl B.range (pa_cons (pe_ix ix_tup (pv 0) (pe_z 0) (fun _ _ => rfl)) pa_nil)) (pg_name (i := 4) sc__law_times.nd rfl (Or.inl rfl) (Or.inr rfl))
        (pss_one (ps_if (pt_cmpR op_eq (pe_op op_and (pe_op op_shr (pv 2) (pv 4)) (pe_z 1)) (pe_z 1) (nomark _)) (pss_one (ps_set (i := 3) sc__law_times.nd rfl (Or.inl rfl) (pe_op op_xor (pv 3) (pe_op op_shl (pv 1) (pv 4))))) pss_nil)))
      (pss_cons (ps_for PassesOwn.never rfl (pi_range3 rfl B.range (pa_cons (pe_ix ix_tup (pv 0) (pe_z 0) (fun _ _ => rfl)) (pa_cons (pe_un un_neg (pe_z 1)) (pa_cons (pe_un un_neg (pe_z 1)) pa_nil)))) (pg_name (i := 5) sc__law_times.nd rfl (Or.inl rfl) (Or.inr rfl))
        (pss_one (ps_if (pt_cmpR op_eq (pe_op op_and (pe_op op_shr (pv 3) (pe_op op_add (pe_ix ix_tup (pv 0) (pe_z 0) (fun _ _ => rfl)) (pv 5))) (pe_z 1)) (pe_z 1) (nomark _)) (pss_one (ps_set (i := 3) sc__law_times.nd rfl (Or.inl rfl) (pe_op op_xor (pv 3) (pe_op op_shl (pe_ix ix_tup (pv 0) (pe_z 1) (fun _ _ => rfl)) (pv 5))))) pss_nil)))
      (pss_one (ps_ret (pv 3)))))), fun F0 => by infer_instance, fun F0 as S h => ?_⟩)
  obtain ⟨m, q, e, g, rest, rfl, Fq, he, hg, hS⟩ := h
  have h2 := Fq.h2
  have h8 := Fq.h8
  have p8 : 2 ^ m ≤ 256 := Nat.pow_le_pow_right (show 0 < 2 by decide) h8
  have q512 := q_512 Fq
  have q0 := q0 Fq
  have t0 : atI (PyData.int (m : Int) :: .int (q : Int) :: rest) 0 = some (.int (m : Int)) := (show atI (PyData.int (m : Int) :: .int (q : Int) :: rest) ((0 : Nat) : Int) = _ from D_atN rfl)
  have t1 : atI (PyData.int (m : Int) :: .int (q : Int) :: rest) 1 = some (.int (q : Int)) := (show atI (PyData.int (m : Int) :: .int (q : Int) :: rest) ((1 : Nat) : Int) = _ from D_atN rfl)
  refine ⟨.int (m : Int), t0, ⟨by omega, by omega⟩, rfl, fun i σ => ∃ v v5 : Option SV, σ = [some (.val (.tuple (.int (m : Int) :: .int (q : Int) :: rest))), some (.val (.int (e : Int))), some (.val (.int (g : Int))), some (.val (.int ((GF.mul e (g % 2 ^ i) : Nat) : Int))), v, v5], ⟨none, none, by rw [Nat.pow_zero, Nat.mod_one, GF.mul_zero]; rfl⟩, ?_, ?_⟩
  · rintro i d σ hd ⟨v, v5, rfl⟩
    obtain ⟨hi, rfl⟩ := rangeD_at hd
    have key := times_step e g i
    refine ⟨(show (0 : Int) ≤ 0 + (i : Int) by omega), ?_⟩
    show Br (decide (Builtin.bitAnd ((g : Int) / 2 ^ ((0 : Int) + (i : Int)).toNat) 1 = 1)) _ _
    rw [bit_at]
    refine brD (fun c => ?_) fun c => ?_
    · rw [if_pos (by omega)] at key
      refine ⟨⟨by omega, by omega, by omega⟩, some (.val (.int ((0 : Int) + (i : Int)))), v5, ?_⟩
      have ee : Builtin.bitXor ((GF.mul e (g % 2 ^ i) : Nat) : Int) ((e : Int) * 2 ^ ((0 : Int) + (i : Int)).toNat) = ((GF.mul e (g % 2 ^ (i + 1)) : Nat) : Int) := by
        rw [key, show ((0 : Int) + (i : Int)).toNat = i by omega]
        have : (e : Int) * 2 ^ i = ((2 ^ i * e : Nat) : Int) := by rw [Int.natCast_mul, Int.natCast_pow, Int.mul_comm]; rfl
        rw [this]
        exact xor_nn _ _
      rw [← ee]; rfl
    · rw [if_neg (by omega), Nat.xor_zero] at key
      refine ⟨some (.val (.int ((0 : Int) + (i : Int)))), v5, ?_⟩
      rw [key]; rfl
  · rintro σ ⟨v, v5, rfl⟩
    have el : (rangeD 0 (((m : Nat) : Int)).toNat).length = m := by rw [rangeD_len]; omega
    rw [el, Nat.mod_eq_of_lt hg]
    have hl := mul_lt he hg
    have rg : RgC (m : Int) (-1) (-1) (m + 1) := by
      have := RgC.neg (i := (m : Int)) (j := -1) (by omega) (by omega) (by decide) (by decide)
      rwa [show ((m : Int) - -1).toNat = m + 1 by omega] at this
    refine ⟨.int (m : Int), t0, (m : Int), -1, -1, m + 1, rfl, rfl, rfl, rg, rfl, fun i σ => ∃ (r ww : Nat) (v v5 : Option SV), σ = [some (.val (.tuple (.int (m : Int) :: .int (q : Int) :: rest))), some (.val (.int (e : Int))), some (.val (.int (g : Int))), some (.val (.int (r : Int))), v, v5] ∧ GF.mul e g = GF.mul ww q ^^^ r ∧ r < 2 ^ (m + (m + 1 - i)),
      ⟨GF.mul e g, 0, v, v5, rfl, by rw [GF.zero_mul, Nat.zero_xor], Nat.lt_of_lt_of_le hl (Nat.pow_le_pow_right (by decide) (by omega))⟩, ?_, ?_⟩
    · rintro i d σ hd ⟨r, ww, v, v5, rfl, hpk, hr'⟩
      obtain ⟨hi, rfl⟩ := stepD_at hd
      have e1 : m + 1 - i = (m - i) + 1 := by omega
      have e2 : m + 1 - (i + 1) = m - i := by omega
      have lq : q.log2 = m := Fq.lg
      rw [e1, ← Nat.add_assoc] at hr'
      refine ⟨.int (m : Int), t0, (show (0 : Int) ≤ (m : Int) + ((m : Int) + (i : Int) * -1) by omega), ?_⟩
      show Br (decide (Builtin.bitAnd ((r : Int) / 2 ^ ((m : Int) + ((m : Int) + (i : Int) * -1)).toNat) 1 = 1)) _ _
      rw [bit_at3 r _ (m + (m - i)) (by omega)]
      refine brD (fun c => ?_) fun c => ?_
      · have dr := (bit_test hr').mp (by omega)
        have dq := GF.deg_shift (GF.deg_log q0) (m - i)
        rw [lq, Nat.add_comm] at dq
        refine ⟨.int (q : Int), t1, ⟨by omega, by omega, by omega⟩, r ^^^ 2 ^ (m - i) * q, ww ^^^ 2 ^ (m - i), v, some (.val (.int ((m : Int) + (i : Int) * -1))), ?_, ?_, ?_⟩
        · have ee : Builtin.bitXor (r : Int) ((q : Int) * 2 ^ ((m : Int) + (i : Int) * -1).toNat) = ((r ^^^ 2 ^ (m - i) * q : Nat) : Int) := by
            rw [show ((m : Int) + (i : Int) * -1).toNat = m - i by omega]
            have : (q : Int) * 2 ^ (m - i) = ((2 ^ (m - i) * q : Nat) : Int) := by rw [Int.natCast_mul, Int.natCast_pow, Int.mul_comm]; rfl
            rw [this]
            exact xor_nn _ _
          rw [← ee]; rfl
        · rw [GF.xor_mul, GF.pow_mul, xor_swap3]; exact hpk
        · rw [e2]; exact GF.deg_xor dr dq
      · have dr : ¬ GF.Deg r (m + (m - i)) := fun z => c (by have := (bit_test hr').mpr z; omega)
        refine ⟨r, ww, v, some (.val (.int ((m : Int) + (i : Int) * -1))), rfl, hpk, ?_⟩
        rw [e2]
        rcases Nat.lt_or_ge r (2 ^ (m + (m - i))) with l | g
        · exact l
        · exact absurd ⟨g, hr'⟩ dr
    · rintro σ ⟨r, ww, v, v5, rfl, hpk, hr'⟩
      rw [stepD_len, Nat.sub_self, Nat.add_zero] at hr'
      obtain ⟨_, e2⟩ := GF.mod_of q0 (by rw [Fq.lg]; exact hr') hpk
      have e3 : mulm q e g = r := e2
      rw [e3] at hS
      exact hS
def rcPrime : RC := pur fun as S => ∃ (p m : Nat), as = [.val (.int (p : Int)), .val (.int (m : Int))] ∧ 2 ≤ m ∧ m ≤ 8 ∧ p ≠ 0 ∧ p.log2 = m ∧ S (.ok (.val (.bool (GF.irrB p))))
instance : MonoR rcPrime := inferInstanceAs (MonoR (pur _))
theorem irr_of {p m : Nat} (hl : p.log2 = m) (h2 : 2 ≤ m) (hp : p ≠ 0) (h : ∀ q, 2 ≤ q → q < 2 ^ (m / 2 + 1) → GF.pmod p q ≠ 0) : GF.irrB p = true := by
  have lo := Nat.log2_self_le hp
  have : 2 ^ 2 ≤ 2 ^ p.log2 := Nat.pow_le_pow_right (by decide) (by omega)
  unfold GF.irrB
  rw [Bool.and_eq_true, List.all_eq_true]
  refine ⟨decide_eq_true (by omega), fun q hq => ?_⟩
  rw [List.mem_range, hl] at hq
  by_cases z : q < 2
  · rw [decide_eq_true z]; rfl
  · rw [decide_eq_true (h q (by omega) hq), Bool.or_true]
theorem irr_not {p m q : Nat} (hl : p.log2 = m) (h1 : 2 ≤ q) (h2 : q < 2 ^ (m / 2 + 1)) (h : GF.pmod p q = 0) : GF.irrB p = false := by
  rw [Bool.eq_false_iff]
  intro z
  unfold GF.irrB at z
  rw [Bool.and_eq_true, List.all_eq_true] at z
  have := z.2 q (List.mem_range.mpr (by rw [hl]; exact h2))
  rw [Bool.or_eq_true] at this
  rcases this with a | a
  · have := of_decide_eq_true a; omega
  · exact of_decide_eq_true a h
theorem ok__law_is_prime {f : Addr} {fd : FuncData} (D : Df K mg "_law_is_prime" ["p", "m"] s__law_is_prime f fd) (B : Bl mg) : FnOk P w K mg base CX0 1 f fd ["p", "m"] (spF rcPrime) := by
  refine okF D.F sc__law_is_prime (fun F as S h => by obtain ⟨p, m, rfl, _⟩ := h; rfl) (fun cdv A outer s H E hr => ⟨_, _, (pss_cons (ps_for PassesOwn.never rfl (pi_range2 rfl B.range (pa_cons (pe_z 2) (pa_cons (pe_op op_shl (pe_z 2) (pe_op op_fdiv (pv 1) (pe_z 2))) pa_nil))) (pg_name (i := 2) sc__law_is_prime.nd rfl (Or.inr rfl))
        (pss_cons (ps_set (i := 3) sc__law_is_prime.nd rfl (Or.inl rfl) (pe_callB call_len_seq (by rfl) B.len PySem.boot_len (pa_cons (pe_lc (own := [("k", 6)]) rfl sc__law_is_prime.nd (pi_range2 rfl B.range (pa_cons (pe_z 1) (pa_cons (pe_z 9) pa_nil))) (blkOk_by (own := [("k", 6)]) (N := ["p", "m", "q", "size", "rest", "shift", "k"]) (sc := defScope s__law_is_prime) (by decide +kernel)) (fun _ _ _ _ _ => (pg_name (i := 6) sc__law_is_prime.nd rfl (Or.inl rfl) (Or.inr rfl))) (fun _ _ _ _ _ => (pts_one (pt_cmpR op_gt (pe_op op_shr (pv 2) (pv 6)) (pe_z 0) (nomark _)))) (fun _ _ _ _ _ => (pv 6))) pa_nil)))
        (pss_cons (ps_set (i := 4) sc__law_is_prime.nd rfl (Or.inl rfl) (pv 0))
        (pss_cons (ps_for PassesOwn.never rfl (pi_range3 rfl B.range (pa_cons (pe_op op_sub (pv 1) (pv 3)) (pa_cons (pe_un un_neg (pe_z 1)) (pa_cons (pe_un un_neg (pe_z 1)) pa_nil)))) (pg_name (i := 5) sc__law_is_prime.nd rfl (Or.inl rfl) (Or.inr rfl))
          (pss_one (ps_if (pt_cmpR op_eq (pe_op op_and (pe_op op_shr (pv 4) (pe_op op_add (pv 3) (pv 5))) (pe_z 1)) (pe_z 1) (nomark _)) (pss_one (ps_set (i := 4) sc__law_is_prime.nd rfl (Or.inl rfl) (pe_op op_xor (pv 4) (pe_op op_shl (pv 2) (pv 5))))) pss_nil)))
        (pss_one (ps_if (pt_cmpR op_eq (pv 4) (pe_z 0) (nomark _)) (pss_one (ps_ret pe_bl)) pss_nil))))))
      (pss_one (ps_ret pe_bl))), fun F0 => by infer_instance, fun F0 as S h => ?_⟩)
  obtain ⟨p, m, rfl, h2, h8, hp, hl, hS⟩ := h
  have sl := sizeLine_eq
  have pm := bits_lt p
  have p9 : p < 2 ^ (m + 1) := by rw [← hl]; exact Nat.lt_log2_self
  have pw5 : 2 ^ (m / 2 + 1) ≤ 32 := Nat.pow_le_pow_right (show 0 < 2 by decide) (show m / 2 + 1 ≤ 5 by omega)
  have pw1 : 2 ≤ 2 ^ (m / 2 + 1) := by
    have := Nat.pow_le_pow_right (show 0 < 2 by decide) (show 1 ≤ m / 2 + 1 by omega)
    omega
  have eN : (2 : Int) * 2 ^ ((m : Int) / 2).toNat = ((2 ^ (m / 2 + 1) : Nat) : Int) := by
    rw [show ((m : Int) / 2).toNat = m / 2 by omega, Nat.pow_succ, Int.natCast_mul, Int.natCast_pow, Int.mul_comm]; rfl
  refine ⟨⟨by decide, by decide⟩, ⟨by omega, by omega, by decide⟩, ?_⟩
  show (_ ∧ _ ∧ -(2 ^ 62) ≤ (2 : Int) * 2 ^ ((m : Int) / 2).toNat ∧ (2 : Int) * 2 ^ ((m : Int) / 2).toNat < 2 ^ 62) ∧ _
  refine ⟨⟨by decide, by decide, by rw [eN]; omega, by rw [eN]; omega⟩, rfl, fun i σ => ∃ o2 o3 o4 o5 o6 : Option SV, σ = [some (.val (.int (p : Int))), some (.val (.int (m : Int))), o2, o3, o4, o5, o6] ∧ ∀ q, 2 ≤ q → q < 2 + i → GF.pmod p q ≠ 0, ⟨none, none, none, none, none, rfl, fun q h1 h2 => by omega⟩, ?_, ?_⟩
  · rintro i d σ hd ⟨o2, o3, o4, o5, o6, rfl, hI⟩
    obtain ⟨hi, rfl⟩ := rangeD_at hd
    have hi' : i < 2 ^ (m / 2 + 1) - 2 := by
      have h : i < ((2 : Int) * 2 ^ ((m : Int) / 2).toNat - 2).toNat := hi
      rw [eN] at h; omega
    have q0 : 2 + i ≠ 0 := by omega
    have lo := Nat.log2_self_le q0
    have hiq : 2 + i < 2 ^ ((2 + i).log2 + 1) := Nat.lt_log2_self
    have sm : (2 + i).log2 ≤ m / 2 := by
      have := (Nat.log2_lt (k := m / 2 + 1) q0).mpr (by omega)
      omega
    have dq0 := GF.deg_log q0
    revert lo hiq sm dq0
    generalize (2 + i).log2 = s
    intro lo hiq sm dq0
    have ei : (2 : Int) + (i : Int) = ((2 + i : Nat) : Int) := by omega
    refine dset_go (d := .int (s : Int)) (fun P h => ?_) ?_
    · refine ⟨⟨by decide, by decide, by decide, by decide⟩, rfl, fun j acc => acc = LI ((List.range (min j s)).map fun (j : Nat) => ((j + 1 : Nat) : Int)), by show [] = LI _; rw [Nat.zero_min]; rfl, ?_, ?_⟩
      · rintro j d acc hd rfl
        obtain ⟨hj, rfl⟩ := rangeD_at hd
        refine ⟨by omega, ?_⟩
        have e1 : ((1 : Int) + (j : Int)).toNat = j + 1 := by omega
        have eg : ((2 : Int) + (i : Int)) / 2 ^ ((1 : Int) + (j : Int)).toNat = (((2 + i) / 2 ^ (j + 1) : Nat) : Int) := by rw [e1, ei, Int.natCast_ediv, Int.natCast_pow]; rfl
        show Br (decide (0 < ((2 : Int) + (i : Int)) / 2 ^ ((1 : Int) + (j : Int)).toNat)) _ _
        rw [eg]
        have p2 := Nat.two_pow_pos (j + 1)
        refine brD (fun c => ?_) fun c => ?_
        · have : j + 1 ≤ s := by
            refine Nat.le_of_not_lt fun z => ?_
            have h1 := Nat.pow_le_pow_right (n := 2) (by decide) (show s + 1 ≤ j + 1 by omega)
            rw [Nat.div_eq_of_lt (by omega)] at c
            exact absurd c (by decide)
          refine ⟨by rw [LI_len, List.length_map, List.length_range]; omega, ?_⟩
          have m1 : min j s = j := by omega
          have m2 : min (j + 1) s = j + 1 := by omega
          show LI _ ++ [PyData.int (1 + (j : Int))] = _
          have ej : (1 : Int) + (j : Int) = ((j + 1 : Nat) : Int) := by omega
          rw [m1, m2, List.range_succ, List.map_append, ej, LI_snoc]; rfl
        · have : ¬ j + 1 ≤ s := fun z => c (by
            have h1 := Nat.pow_le_pow_right (n := 2) (by decide) z
            have := Nat.div_pos (show 2 ^ (j + 1) ≤ 2 + i by omega) p2
            omega)
          show LI _ = LI _
          have m1 : min (j + 1) s = min j s := by omega
          rw [m1]
      rintro acc rfl
      have es : ((LI ((List.range (min (rangeD 1 ((9 : Int) - 1).toNat).length s)).map fun (j : Nat) => ((j + 1 : Nat) : Int))).length : Int) = (s : Int) := by
        rw [LI_len, List.length_map, List.length_range, rangeD_len]
        have : ((9 : Int) - 1).toNat = 8 := by decide
        omega
      show P (.val (.int ((LI ((List.range (min (rangeD 1 ((9 : Int) - 1).toNat).length s)).map fun (j : Nat) => ((j + 1 : Nat) : Int))).length : Int)))
      rw [es]; exact h
    dsimp only [List.set_cons_succ, List.set_cons_zero]
    have rg : RgC ((m : Int) - (s : Int)) (-1) (-1) (m - s + 1) := by
      have := RgC.neg (i := (m : Int) - (s : Int)) (j := -1) (by omega) (by omega) (by decide) (by decide)
      rwa [show ((m : Int) - (s : Int) - -1).toNat = m - s + 1 by omega] at this
    refine ⟨(m : Int) - (s : Int), -1, -1, m - s + 1, rfl, rfl, rfl, rg, rfl, fun j σ => ∃ (r ww : Nat) (v5 : Option SV), σ = [some (.val (.int (p : Int))), some (.val (.int (m : Int))), some (.val (.int ((2 : Int) + (i : Int)))), some (.val (.int (s : Int))), some (.val (.int (r : Int))), v5, o6] ∧ p = GF.mul ww (2 + i) ^^^ r ∧ r < 2 ^ (s + (m - s + 1 - j)),
      ⟨p, 0, o5, rfl, by rw [GF.zero_mul, Nat.zero_xor], by rw [show s + (m - s + 1 - 0) = m + 1 by omega]; exact p9⟩, ?_, ?_⟩
    · rintro j d σ hd ⟨r, ww, v5, rfl, hpk, hr'⟩
      obtain ⟨hj, rfl⟩ := stepD_at hd
      have e1 : m - s + 1 - j = (m - s - j) + 1 := by omega
      have e2 : m - s + 1 - (j + 1) = m - s - j := by omega
      rw [e1, ← Nat.add_assoc] at hr'
      refine ⟨(show (0 : Int) ≤ (s : Int) + ((m : Int) - (s : Int) + (j : Int) * -1) by omega), ?_⟩
      show Br (decide (Builtin.bitAnd ((r : Int) / 2 ^ ((s : Int) + ((m : Int) - (s : Int) + (j : Int) * -1)).toNat) 1 = 1)) _ _
      rw [bit_at3 r _ (s + (m - s - j)) (by omega)]
      refine brD (fun c => ?_) fun c => ?_
      · have dr := (bit_test hr').mp (by omega)
        have dq := GF.deg_shift dq0 (m - s - j)
        rw [Nat.add_comm (m - s - j) s] at dq
        refine ⟨⟨by omega, by omega, by omega⟩, r ^^^ 2 ^ (m - s - j) * (2 + i), ww ^^^ 2 ^ (m - s - j), some (.val (.int ((m : Int) - (s : Int) + (j : Int) * -1))), ?_, ?_, ?_⟩
        · have ee : Builtin.bitXor (r : Int) (((2 : Int) + (i : Int)) * 2 ^ ((m : Int) - (s : Int) + (j : Int) * -1).toNat) = ((r ^^^ 2 ^ (m - s - j) * (2 + i) : Nat) : Int) := by
            rw [show ((m : Int) - (s : Int) + (j : Int) * -1).toNat = m - s - j by omega, ei]
            have : ((2 + i : Nat) : Int) * 2 ^ (m - s - j) = ((2 ^ (m - s - j) * (2 + i) : Nat) : Int) := by rw [Int.natCast_mul, Int.natCast_pow, Int.mul_comm]; rfl
            rw [this]
            exact xor_nn _ _
          rw [← ee]; rfl
        · rw [GF.xor_mul, GF.pow_mul, xor_swap3]; exact hpk
        · rw [e2]; exact GF.deg_xor dr dq
      · have dr : ¬ GF.Deg r (s + (m - s - j)) := fun z => c (by have := (bit_test hr').mpr z; omega)
        refine ⟨r, ww, some (.val (.int ((m : Int) - (s : Int) + (j : Int) * -1))), rfl, hpk, ?_⟩
        rw [e2]
        rcases Nat.lt_or_ge r (2 ^ (s + (m - s - j))) with l | g
        · exact l
        · exact absurd ⟨g, hr'⟩ dr
    · rintro σ ⟨r, ww, v5, rfl, hpk, hr'⟩
      rw [stepD_len, Nat.sub_self, Nat.add_zero] at hr'
      obtain ⟨_, e2⟩ := GF.mod_of q0 (by rw [dq0.log]; exact hr') hpk
      refine brD (fun c => ?_) fun c => ?_
      · have r0 : r = 0 := by have : (r : Int) = 0 := c; omega
        rw [irr_not hl (show 2 ≤ 2 + i by omega) (by omega) (by rw [e2, r0])] at hS
        exact hS
      · refine ⟨_, _, _, _, _, rfl, fun q a1 a2 => ?_⟩
        by_cases z : q = 2 + i
        · rw [z, e2]
          intro y
          exact c (show (r : Int) = 0 by omega)
        · exact hI q a1 (by omega)
  · rintro σ ⟨o2, o3, o4, o5, o6, rfl, hI⟩
    have en : (rangeD 2 ((2 : Int) * 2 ^ ((m : Int) / 2).toNat - 2).toNat).length = 2 ^ (m / 2 + 1) - 2 := by
      rw [rangeD_len, eN]; omega
    rw [irr_of hl h2 hp fun q a1 a2 => hI q a1 (by rw [en]; omega)] at hS
    exact hS
end
end K20
set_option synthInstance.maxSize 100000
set_option synthInstance.maxHeartbeats 0
namespace K20
open PySem PySem.Spec L2 NB ER MKX DL
section
variable {P : Program} {w : World} {K : PySem.W.Frag} {mg : Str → Option Value} {base : Heap}
open FLD PLY
/-- the field's elements by their powers, as the law tells them -/
def FT3 (m q r : Nat) : PyData := .tuple [.int (m : Int), .int (q : Int), .list (LI (NI (pws q r (2 ^ m - 1))))]
theorem pws_succ (q e k : Nat) : pws q e (k + 1) = pws q e k ++ [pw q e k] := by unfold pws; rw [List.range_succ, List.map_append]; rfl
def rcLF : RC := pur fun as S => ∃ (ds : List Int) (k : Int) (m : Nat), as = [.val (.list (LI ds)), .val (.int k), .val (.int (m : Int))] ∧ 0 ≤ k ∧ k < 2 ^ 40 ∧ 2 ≤ m ∧ m ≤ 8 ∧ ∀ q r, Fd m q → LeastRoot m q r → S (.ok (.val (FT3 m q r)))
instance : MonoR rcLF := inferInstanceAs (MonoR (pur _))
def prms (m n : Nat) : List Nat := ((List.range n).map fun t => 2 ^ m + t).filter GF.irrB
theorem prms_len (m n : Nat) : (prms m n).length ≤ n := by
  unfold prms
  refine Nat.le_trans (List.length_filter_le _ _) ?_
  simp
theorem prms_succ (m n : Nat) : prms m (n + 1) = prms m n ++ (if GF.irrB (2 ^ m + n) = true then [2 ^ m + n] else []) := by
  unfold prms
  rw [List.range_succ, List.map_append, List.filter_append]
  congr 1
  show List.filter GF.irrB [2 ^ m + n] = _
  by_cases h : GF.irrB (2 ^ m + n) = true
  · rw [if_pos h, List.filter_cons_of_pos h]; rfl
  · rw [if_neg h, List.filter_cons_of_neg h]; rfl
theorem prms_mem {m q : Nat} (h : q ∈ prms m (2 ^ m)) (h2 : 2 ≤ m) (h8 : m ≤ 8) : Fd m q := by
  unfold prms at h
  rw [List.mem_filter, List.mem_map] at h
  obtain ⟨⟨t, ht, rfl⟩, hi⟩ := h
  rw [List.mem_range] at ht
  have : 0 < 2 ^ m := Nat.two_pow_pos m
  exact ⟨h2, h8, GF.irrB_iff.mp hi, (Nat.log2_eq_iff (by omega)).mpr ⟨by omega, by rw [Nat.pow_succ]; omega⟩⟩
theorem prms_some : ∀ m, m < 9 → 2 ≤ m → ∃ t, t < 2 ^ m ∧ GF.irrB (2 ^ m + t) = true := by decide +kernel
theorem prms_pos {m : Nat} (h2 : 2 ≤ m) (h8 : m ≤ 8) : 0 < (prms m (2 ^ m)).length := by
  obtain ⟨t, ht, hi⟩ := prms_some m (by omega) h2
  refine List.length_pos_of_mem (a := 2 ^ m + t) ?_
  unfold prms
  rw [List.mem_filter, List.mem_map]
  exact ⟨⟨t, List.mem_range.mpr ht, rfl⟩, hi⟩
theorem ok__law_field {f f__law_mix f__law_is_prime f__law_times : Addr} {fd fd__law_mix fd__law_is_prime fd__law_times : FuncData} (D : Df K mg "_law_field" ["draws", "k", "m"] s__law_field f fd) (B : Bl mg)
    (D__law_mix : Df K mg "_law_mix" ["draws", "k", "many"] s__law_mix f__law_mix fd__law_mix) (G__law_mix : FnOk P w K mg base CX0 1 f__law_mix fd__law_mix ["draws", "k", "many"] (spF rcMix))
    (D__law_is_prime : Df K mg "_law_is_prime" ["p", "m"] s__law_is_prime f__law_is_prime fd__law_is_prime) (G__law_is_prime : FnOk P w K mg base CX0 1 f__law_is_prime fd__law_is_prime ["p", "m"] (spF rcPrime))
    (D__law_times : Df K mg "_law_times" ["f", "e", "g"] s__law_times f__law_times fd__law_times) (G__law_times : FnOk P w K mg base CX0 1 f__law_times fd__law_times ["f", "e", "g"] (spF rcT3)) : FnOk P w K mg base CX0 3 f fd ["draws", "k", "m"] (spF rcLF) := by
  refine okF D.F sc__law_field (fun F as S h => by obtain ⟨_, _, _, rfl, _⟩ := h; rfl) (fun cdv A outer s H E hr => ⟨_, _, (pss_cons (ps_setLc (i := 3) (own := [("p", 8)]) rfl sc__law_field.nd rfl rfl (sw_true rfl rfl rfl (by decide +kernel)) (pi_range2 rfl B.range (pa_cons (pe_op op_shl (pe_z 1) (pv 2)) (pa_cons (pe_op op_shl (pe_z 2) (pv 2)) pa_nil))) (blkOk_by (own := [("p", 8)]) (N := ["draws", "k", "m", "found", "modulus", "e", "powers", "turn", "p"]) (sc := defScope s__law_field) (by decide +kernel)) (fun _ _ _ _ _ => (pg_name (i := 8) sc__law_field.nd rfl (Or.inl rfl) (Or.inr rfl))) (fun _ _ _ _ _ => (pts_one (pt_val (pe_call G__law_is_prime (hr.mono (by decide)) rfl D__law_is_prime.g D__law_is_prime.F.kp D__law_is_prime.b .nil pass00 (pa_cons (pv 8) (pa_cons (pv 2) pa_nil)))))) (fun _ _ _ _ _ => (pv 8)))
      (pss_cons (ps_set (i := 4) sc__law_field.nd rfl (Or.inl rfl) (pe_ix ix_list (pv 3) (pe_call G__law_mix (hr.mono (by decide)) rfl D__law_mix.g D__law_mix.F.kp D__law_mix.b .nil pass00 (pa_cons (pv 0) (pa_cons (pv 1) (pa_cons (pe_callB call_len_seq (by rfl) B.len PySem.boot_len (pa_cons (pv 3) pa_nil)) pa_nil)))) (fun _ _ => rfl)))
      (pss_cons (ps_for PassesOwn.never rfl (pi_range2 rfl B.range (pa_cons (pe_z 2) (pa_cons (pe_op op_shl (pe_z 1) (pv 2)) pa_nil))) (pg_name (i := 5) sc__law_field.nd rfl (Or.inl rfl) (Or.inr rfl))
        (pss_cons (ps_set (i := 6) sc__law_field.nd rfl (Or.inl rfl) (pe_lst (pa_cons (pe_z 1) pa_nil)))
        (pss_cons (ps_for PassesOwn.never rfl (pi_range1 rfl B.range (pa_cons (pe_op op_sub (pe_op op_shl (pe_z 1) (pv 2)) (pe_z 2)) pa_nil)) (pg_name (i := 7) sc__law_field.nd rfl (Or.inl rfl) (Or.inr rfl))
          (pss_one (ps_expr (pe_bm PySem.F.plainAttrs_list PySem.F.slot_list_append PySem.F.type_list_append mt_append (pv 6) (pa_cons (pe_call G__law_times (hr.mono (by decide)) rfl D__law_times.g D__law_times.F.kp D__law_times.b .nil pass00 (pa_cons (pe_tup (pa_cons (pv 2) (pa_cons (pv 4) pa_nil))) (pa_cons (pe_ix ix_list (pv 6) (pe_un un_neg (pe_z 1)) (fun _ _ => rfl)) (pa_cons (pv 5) pa_nil)))) pa_nil)))))
        (pss_one (ps_if (pt_cmpR op_notIn_seq (pe_z 1) (pe_slice sl_list (pv 6) (po_some (pe_z 1)) po_none) (by rfl)) (pss_one (ps_ret (pe_tup (pa_cons (pv 2) (pa_cons (pv 4) (pa_cons (pv 6) pa_nil)))))) pss_nil)))))
      (pss_one (ps_ret pe_non))))), fun F0 => by infer_instance, fun F0 as S h => ?_⟩)
  obtain ⟨ds, k, m, rfl, k0, k1, h2, h8, hS⟩ := h
  have sl := sizeLine_eq
  have p8 : 2 ^ m ≤ 256 := Nat.pow_le_pow_right (show 0 < 2 by decide) h8
  have p4 : 4 ≤ 2 ^ m := Nat.pow_le_pow_right (n := 2) (by decide) h2
  have eA : (1 : Int) * 2 ^ ((m : Int)).toNat = ((2 ^ m : Nat) : Int) := by rw [Int.one_mul, Int.toNat_natCast, Int.natCast_pow]; rfl
  have eB : (2 : Int) * 2 ^ ((m : Int)).toNat = ((2 ^ m + 2 ^ m : Nat) : Int) := by
    have h := Int.natCast_pow 2 m
    rw [Int.toNat_natCast, Int.natCast_add, h]; show (2 : Int) * 2 ^ m = 2 ^ m + 2 ^ m; omega
  refine ⟨⟨by omega, by omega, by decide⟩, ⟨by omega, by omega, by decide⟩, ?_⟩
  show (-(2 ^ 62) ≤ (1 : Int) * 2 ^ ((m : Int)).toNat ∧ (1 : Int) * 2 ^ ((m : Int)).toNat < 2 ^ 62 ∧ -(2 ^ 62) ≤ (2 : Int) * 2 ^ ((m : Int)).toNat ∧ (2 : Int) * 2 ^ ((m : Int)).toNat < 2 ^ 62) ∧ _
  refine ⟨by rw [eA, eB]; omega, rfl, fun j acc => acc = LI (NI (prms m j)), rfl, ?_, ?_⟩
  · rintro j d acc hd rfl
    obtain ⟨hj, rfl⟩ := rangeD_at hd
    have hj' : j < 2 ^ m := by
      have h : j < ((2 : Int) * 2 ^ ((m : Int)).toNat - 1 * 2 ^ ((m : Int)).toNat).toNat := hj
      rw [eA, eB] at h; omega
    have ed : (1 : Int) * 2 ^ ((m : Int)).toNat + (j : Int) = ((2 ^ m + j : Nat) : Int) := by rw [eA, Int.natCast_add]
    have pl := prms_len m j
    refine ⟨fun x => x = .ok (.val (.bool (GF.irrB (2 ^ m + j)))), ⟨2 ^ m + j, m, ?_, h2, h8, by omega, (Nat.log2_eq_iff (by omega)).mpr ⟨by omega, by rw [Nat.pow_succ]; omega⟩, rfl⟩, ?_⟩
    · show [SV.val (.int ((1 : Int) * 2 ^ ((m : Int)).toNat + (j : Int))), .val (.int (m : Int))] = _
      rw [ed]
    rintro x rfl
    refine ⟨fun _ => rfl, brB (fun c => ⟨by rw [LI_NI_len]; omega, ?_⟩) fun c => ?_⟩
    · show LI (NI (prms m j)) ++ [PyData.int ((1 : Int) * 2 ^ ((m : Int)).toNat + (j : Int))] = _
      rw [prms_succ, if_pos c, ed, ← NI_app]; rfl
    · show LI (NI (prms m j)) = _
      rw [prms_succ, if_neg (by rw [c]; decide), List.append_nil]
  rintro acc rfl
  have el : (rangeD ((1 : Int) * 2 ^ ((m : Int)).toNat) ((2 : Int) * 2 ^ ((m : Int)).toNat - 1 * 2 ^ ((m : Int)).toNat).toNat).length = 2 ^ m := by rw [rangeD_len, eA, eB]; omega
  rw [el]
  refine .inr ?_
  dsimp only [List.set_cons_succ, List.set_cons_zero]
  have pp := prms_pos h2 h8
  have pl := prms_len m (2 ^ m)
  refine mix_go (hk := k0) (hk2 := k1) (hm := by show (0 : Int) < ((LI (NI (prms m (2 ^ m)))).length : Int); rw [LI_NI_len]; omega) fun v a1 a2 => ?_
  have a2 : v < ((LI (NI (prms m (2 ^ m)))).length : Int) := a2
  rw [LI_NI_len] at a2
  obtain ⟨vn, rfl⟩ := Int.eq_ofNat_of_zero_le a1
  obtain ⟨q, hq⟩ : ∃ q, (prms m (2 ^ m))[vn]? = some q := ⟨_, List.getElem?_eq_getElem (by omega)⟩
  have Fq := prms_mem (List.mem_of_getElem? hq) h2 h8
  have q512 := q_512 Fq
  refine ⟨.int (q : Int), LI_NI_at hq, ?_⟩
  dsimp only [List.set_cons_succ, List.set_cons_zero]
  obtain ⟨r, hr1, hr2⟩ := least_ex Fq
  refine ⟨⟨by omega, by omega, by decide⟩, ?_⟩
  show (_ ∧ _ ∧ -(2 ^ 62) ≤ (1 : Int) * 2 ^ ((m : Int)).toNat ∧ (1 : Int) * 2 ^ ((m : Int)).toNat < 2 ^ 62) ∧ _
  refine ⟨⟨by decide, by decide, by rw [eA]; omega, by rw [eA]; omega⟩, rfl, fun i σ => ∃ o5 o6 o7 o8 : Option SV, σ = [some (.val (.list (LI ds))), some (.val (.int k)), some (.val (.int (m : Int))), some (.val (.list (LI (NI (prms m (2 ^ m)))))), some (.val (.int (q : Int))), o5, o6, o7, o8] ∧ ∀ e, 2 ≤ e → e < 2 + i → ¬ IsRoot m q e, ⟨none, none, none, none, rfl, fun e h1 h2 => by omega⟩, ?_, ?_⟩
  · rintro i d σ hd ⟨o5, o6, o7, o8, rfl, hI⟩
    obtain ⟨hi, rfl⟩ := rangeD_at hd
    have hi' : i < 2 ^ m - 2 := by
      have h : i < ((1 : Int) * 2 ^ ((m : Int)).toNat - 2).toNat := hi
      rw [eA] at h; omega
    have ei : (2 : Int) + (i : Int) = ((2 + i : Nat) : Int) := by omega
    have hlt : 2 + i < 2 ^ m := by omega
    refine ⟨(show 1 ≤ sizeLine by omega), .inl ?_⟩
    dsimp only [List.set_cons_succ, List.set_cons_zero]
    refine ⟨⟨by omega, by omega, by decide⟩, ?_⟩
    show (-(2 ^ 62) ≤ (1 : Int) * 2 ^ ((m : Int)).toNat - 2 ∧ (1 : Int) * 2 ^ ((m : Int)).toNat - 2 < 2 ^ 62) ∧ _
    refine ⟨by rw [eA]; omega, rfl, fun j σ => ∃ o7 : Option SV, σ = [some (.val (.list (LI ds))), some (.val (.int k)), some (.val (.int (m : Int))), some (.val (.list (LI (NI (prms m (2 ^ m)))))), some (.val (.int (q : Int))), some (.val (.int ((2 : Int) + (i : Int)))), some (.own (LI (NI (pws q (2 + i) (j + 1))))), o7, o8], ⟨o7, rfl⟩, ?_, ?_⟩
    · rintro j d σ hd ⟨o7, rfl⟩
      obtain ⟨hj, rfl⟩ := rangeD_at hd
      have hlast : atI (LI (NI (pws q (2 + i) (j + 1)))) (-1) = some (.int ((pw q (2 + i) j : Nat) : Int)) := by
        have h1 := atI_last (xs := LI (NI (pws q (2 + i) j))) (PyData.int ((pw q (2 + i) j : Nat) : Int))
        rw [pws_succ]
        have h2 : LI (NI (pws q (2 + i) j ++ [pw q (2 + i) j])) = LI (NI (pws q (2 + i) j)) ++ [PyData.int ((pw q (2 + i) j : Nat) : Int)] := by rw [← NI_app]; rfl
        rw [h2]; exact h1
      have hjl : j < 254 := by
        have h : j < ((1 : Int) * 2 ^ ((m : Int)).toNat - 2).toNat := hj
        rw [eA] at h; omega
      refine ⟨(show 2 ≤ sizeLine by omega), .int ((pw q (2 + i) j : Nat) : Int), hlast, ?_⟩
      refine ⟨fun x => x = .ok (.val (.int ((mulm q (pw q (2 + i) j) (2 + i) : Nat) : Int))), ⟨m, q, pw q (2 + i) j, 2 + i, [], ?_, Fq, pw_lt Fq _ _, hlt, rfl⟩, ?_⟩
      · show [SV.val (.tuple [.int (m : Int), .int (q : Int)]), .val (.int ((pw q (2 + i) j : Nat) : Int)), .val (.int ((2 : Int) + (i : Int)))] = _
        rw [ei]
      rintro x rfl
      refine ⟨fun _ => rfl, by rw [LI_NI_len, pws_len]; omega, some (.val (.int (0 + (j : Int)))), ?_⟩
      have e9 : LI (NI (pws q (2 + i) (j + 1 + 1))) = LI (NI (pws q (2 + i) (j + 1))) ++ [PyData.int ((mulm q (pw q (2 + i) j) (2 + i) : Nat) : Int)] := by
        rw [pws_succ q (2 + i) (j + 1), ← NI_app]; rfl
      rw [e9]; rfl
    · rintro σ ⟨o7, rfl⟩
      have en : (rangeD 0 ((1 : Int) * 2 ^ ((m : Int)).toNat - 2).toNat).length + 1 = 2 ^ m - 1 := by rw [rangeD_len, eA]; omega
      rw [en]
      have ecut : some (cutD (LI (NI (pws q (2 + i) (2 ^ m - 1)))) (some ((1 : Nat) : Int)) none) = some (LI (NI ((pws q (2 + i) (2 ^ m - 1)).drop 1))) := by
        rw [cutD_from, LI_drop]; unfold NI; rw [List.map_drop]
      have hmem : ∀ k, 1 ≤ k → k < 2 ^ m - 1 → ((pw q (2 + i) k : Nat) : Int) ∈ NI ((pws q (2 + i) (2 ^ m - 1)).drop 1) := fun k g1 g2 => by
        unfold NI
        refine List.mem_map.mpr ⟨_, ?_, rfl⟩
        refine List.mem_of_getElem? (i := k - 1) ?_
        rw [List.getElem?_drop, show 1 + (k - 1) = k by omega, pws_get g2]
      have hmem2 : (1 : Int) ∈ NI ((pws q (2 + i) (2 ^ m - 1)).drop 1) → ∃ k, 1 ≤ k ∧ k < 2 ^ m - 1 ∧ pw q (2 + i) k = 1 := fun h => by
        unfold NI at h
        obtain ⟨x, hx, ex⟩ := List.mem_map.mp h
        obtain ⟨k, hk⟩ := List.getElem?_of_mem hx
        rw [List.getElem?_drop] at hk
        have hk2 := (List.getElem?_eq_some_iff.mp hk).1
        rw [pws_len] at hk2
        rw [pws_get hk2] at hk
        exact ⟨1 + k, by omega, hk2, by rw [Option.some.inj hk]; omega⟩
      refine ⟨1, NI ((pws q (2 + i) (2 ^ m - 1)).drop 1), rfl, ecut, brN (fun c => ?_) fun c => ?_⟩
      · have root : IsRoot m q (2 + i) := ⟨hlt, by omega, pw_all Fq hr1 (show 2 + i ≠ 0 by omega) hlt, fun k g1 g2 e => c (by have := hmem k g1 g2; rw [e] at this; exact this)⟩
        have hs := hS q (2 + i) Fq ⟨root, fun e he => by
          by_cases z : e < 2
          · exact fun y => absurd y.ge (by omega)
          · exact hI e (by omega) he⟩
        exact ⟨(show 3 ≤ sizeLine by omega), hs⟩
      · refine ⟨_, _, _, _, rfl, fun e g1 g2 => ?_⟩
        by_cases z : e = 2 + i
        · subst z
          obtain ⟨k, g3, g4, g5⟩ := hmem2 c
          exact fun y => y.no k g3 g4 g5
        · exact hI e g1 (by omega)
  · rintro σ ⟨o5, o6, o7, o8, rfl, hI⟩
    have en : (rangeD 2 ((1 : Int) * 2 ^ ((m : Int)).toNat - 2).toNat).length = 2 ^ m - 2 := by rw [rangeD_len, eA]; omega
    exact absurd hr1 (hI r hr1.ge (by rw [en]; have := hr1.lt; omega))
end
end K20
set_option synthInstance.maxSize 100000
set_option synthInstance.maxHeartbeats 0
namespace K20
open PySem PySem.Spec L2 NB ER MKX DL
abbrev s_Field_root : Stmt := inClass (top 36) 10
theorem sc_Field_root : FnScope ["self"] ["self"] (defScope s_Field_root) := ⟨rfl, rfl, rfl, by decide +kernel, rfl, by decide +kernel, by decide +kernel⟩
abbrev s_Field_power : Stmt := inClass (top 36) 7
theorem sc_Field_power : FnScope ["self", "e", "k"] ["self", "e", "k"] (defScope s_Field_power) := ⟨rfl, rfl, rfl, by decide +kernel, rfl, by decide +kernel, by decide +kernel⟩
abbrev s_Field_add : Stmt := inClass (top 36) 4
theorem sc_Field_add : FnScope ["self", "e", "f"] ["self", "e", "f"] (defScope s_Field_add) := ⟨rfl, rfl, rfl, by decide +kernel, rfl, by decide +kernel, by decide +kernel⟩
section
variable {P : Program} {w : World} {K : PySem.W.Frag} {mg : Str → Option Value} {base : Heap}
variable {f_init : Addr} {fd_init : FuncData} {CH C C_NoInverse : Addr}
open FLD PLY
def rcFBits (C : Addr) : RC := pur fun as S => ∃ m q r logs, as = [.val (FldO C m q r logs)] ∧ S (.ok (.val (.int (m : Int))))
instance : MonoR (rcFBits C) := inferInstanceAs (MonoR (pur _))
def rcFSize (C : Addr) : RC := pur fun as S => ∃ m q r logs, as = [.val (FldO C m q r logs)] ∧ FldOk m q r logs ∧ S (.ok (.val (.int ((2 ^ m : Nat) : Int))))
instance : MonoR (rcFSize C) := inferInstanceAs (MonoR (pur _))
theorem ok_Field_size {f : Addr} {fd : FuncData} (F : Fun K "size" "Field.size" s_Field_size f fd) (T : FK K C) : FnOk P w K mg base CX0 1 f fd ["self"] (spF (rcFSize C)) := by
  refine okF F sc_Field_size (fun F as S h => by obtain ⟨m, q, r, l, rfl, _⟩ := h; rfl) (fun cdv A outer s H E hr => ⟨_, _, (pss_one (ps_ret (pe_op op_add (pe_fld (pv 0) rfl) (pe_z 1)))), fun F0 => by infer_instance, fun F0 as S h => ?_⟩)
  obtain ⟨m, q, r, l, rfl, O, hS⟩ := h
  obtain ⟨p4, p256⟩ := pow_mF O.fd
  refine ⟨C, _, _, rfl, T.cl, T.n3, fsF_turn m q r l, ?_⟩
  have e : ((2 ^ m - 1 : Nat) : Int) + 1 = ((2 ^ m : Nat) : Int) := by omega
  show S (.ok (.val (.int (((2 ^ m - 1 : Nat) : Int) + 1))))
  rw [e]; exact hS
def rcFRoot (C : Addr) : RC := pur fun as S => ∃ m q r logs, as = [.val (FldO C m q r logs)] ∧ FldOk m q r logs ∧ S (.ok (.val (.int (r : Int))))
instance : MonoR (rcFRoot C) := inferInstanceAs (MonoR (pur _))
theorem ok_Field_root {f : Addr} {fd : FuncData} (F : Fun K "root" "Field.root" s_Field_root f fd) (T : FK K C) : FnOk P w K mg base CX0 1 f fd ["self"] (spF (rcFRoot C)) := by
  refine okF F sc_Field_root (fun F as S h => by obtain ⟨m, q, r, l, rfl, _⟩ := h; rfl) (fun cdv A outer s H E hr => ⟨_, _, (pss_one (ps_ret (pe_ix ix_list (pe_fld (pv 0) rfl) (pe_z 1) (fun _ _ => rfl)))), fun F0 => by infer_instance, fun F0 as S h => ?_⟩)
  obtain ⟨m, q, r, l, rfl, O, hS⟩ := h
  obtain ⟨p4, p256⟩ := pow_mF O.fd
  refine ⟨C, _, _, rfl, T.cl, T.n4, fsF_powers m q r l, .int (r : Int), ?_, hS⟩
  have := LI_NI_at (ns := pws q r (2 ^ m - 1)) (k := 1) (pws_get (by omega))
  rw [pw_first O.fd O.lr.1.lt] at this
  exact this
def rcFPow (C : Addr) : RC := pur fun as S => ∃ (m q r : Nat) (logs : List Nat) (a k : Nat), as = [.val (FldO C m q r logs), .val (.int ((a : Nat) : Int)), .val (.int ((k : Nat) : Int))] ∧ FldOk m q r logs ∧ a < 2 ^ m ∧ k < 2 ^ 20 ∧ S (.ok (.val (.int ((pw q a k : Nat) : Int))))
instance : MonoR (rcFPow C) := inferInstanceAs (MonoR (pur _))
theorem ok_Field_power {f f_Field_log : Addr} {fd fd_Field_log : FuncData} (F : Fun K "power" "Field.power" s_Field_power f fd) (T : FK K C) (K_Field : Cls K C) (M_Field_log : Meth K C "log" f_Field_log) (b_Field_log : Binds K fd_Field_log ["self", "e"] [])
    (G_Field_log : FnOk P w K mg base (L2.CX P w) 3 f_Field_log fd_Field_log ["self", "e"] (spF (rcFLog C C_NoInverse))) :
    FnOk P w K mg base (L2.CX P w) 4 f fd ["self", "e", "k"] (spF (rcFPow C)) := by
  refine okFX F sc_Field_power (fun F as S h => by obtain ⟨m, q, r, l, a, k, rfl, _⟩ := h; rfl) (fun cdv A outer s H E hr => ⟨_, _, (pss_cons (ps_if (pt_cmpR op_eq (pv 2) (pe_z 0) (nomark _)) (pss_one (ps_ret (pe_z 1))) pss_nil)
      (pss_cons (ps_if (PW.pt (pw_and (pt_cmpR op_eq (pv 1) (pe_z 0) (nomark _)) (pw_and1 (pt_cmpR op_gt (pv 2) (pe_z 0) (nomark _))))) (pss_one (ps_ret (pe_z 0))) pss_nil)
      (pss_one (ps_ret (pe_ix ix_list (pe_fld (pv 0) rfl) (pe_op op_mod (pe_op op_mul (pe_mtS (pv 0) K_Field M_Field_log G_Field_log (hr.mono (by decide)) b_Field_log (fun σ => passAt (W := fun cls d _ H => E cls d H) (takes_of rfl rfl rfl rfl) σ) (by exact (pa_cons (pv 1) pa_nil))) (pv 2)) (pe_fld (pv 0) rfl)) (fun _ _ => rfl)))))), fun F0 ER h => by infer_instance, fun F0 as S h => ?_⟩)
  obtain ⟨m, q, r, l, a, k, rfl, O, ha, hk, hS⟩ := h
  obtain ⟨p4, p256⟩ := pow_mF O.fd
  refine brD (fun c => ?_) fun c => ?_
  · have k0 : k = 0 := by have : (k : Int) = 0 := c; omega
    subst k0
    exact hS
  have k1 : k ≠ 0 := fun z => c (by subst z; rfl)
  by_cases z : a = 0
  · subst z
    obtain ⟨j, rfl⟩ : ∃ j, k = j + 1 := ⟨k - 1, by omega⟩
    have e : pw q 0 (j + 1) = 0 := mulm_zero O.fd _
    rw [e] at hS
    exact brY (show ((0 : Nat) : Int) = 0 from rfl) (brY (show (0 : Int) < ((j + 1 : Nat) : Int) by omega) hS)
  · refine brX (show ¬ ((a : Nat) : Int) = 0 by omega) (brF ?_)
    obtain ⟨j, hj, ej⟩ := log_ex O.fd O.lr.1 z ha
    refine ⟨C, _, _, rfl, T.cl, T.n4, fsF_powers m q r l, ?_⟩
    refine ⟨_, rfl, fsF_no m q r l, fun x => x = .ok (.val (.int (j : Int))), ⟨m, q, r, l, a, rfl, O, ha, fun y => absurd y z, fun k hk e => by rw [pw_inj O.fd O.lr.1 hk hj (e.trans ej.symm)]⟩, ?_⟩
    rintro x rfl
    refine ⟨fun _ => rfl, .inl ⟨by omega, by omega⟩, C, _, _, rfl, T.cl, T.n3, fsF_turn m q r l, by omega, ?_⟩
    have e1 : ((j : Int) * (k : Int)) % ((2 ^ m - 1 : Nat) : Int) = ((j * k % (2 ^ m - 1) : Nat) : Int) := by rw [Int.natCast_emod, Int.natCast_mul]
    have e2 : pw q r (j * k % (2 ^ m - 1)) = pw q a k := by rw [← pw_mod O.fd O.lr.1, ← ej, pw_pw O.fd]
    refine ⟨.int ((pw q a k : Nat) : Int), ?_, hS⟩
    show atI _ (((j : Int) * (k : Int)) % ((2 ^ m - 1 : Nat) : Int)) = _
    rw [e1, ← e2]
    exact LI_NI_at (pws_get (Nat.mod_lt _ (by omega)))
def rcFAdd (C : Addr) : RC := pur fun as S => ∃ (m q r : Nat) (logs : List Nat) (a b : Nat), as = [.val (FldO C m q r logs), .val (.int ((a : Nat) : Int)), .val (.int ((b : Nat) : Int))] ∧ S (.ok (.val (.int ((a ^^^ b : Nat) : Int))))
instance : MonoR (rcFAdd C) := inferInstanceAs (MonoR (pur _))
theorem ok_Field_add {f : Addr} {fd : FuncData} (F : Fun K "add" "Field.add" s_Field_add f fd) : FnOk P w K mg base CX0 1 f fd ["self", "e", "f"] (spF (rcFAdd C)) := by
  refine okF F sc_Field_add (fun F as S h => by obtain ⟨m, q, r, l, a, b, rfl, _⟩ := h; rfl) (fun cdv A outer s H E hr => ⟨_, _, (pss_one (ps_ret (pe_op op_xor (pv 1) (pv 2)))), fun F0 => by infer_instance, fun F0 as S h => ?_⟩)
  obtain ⟨m, q, r, l, a, b, rfl, hS⟩ := h
  show S (.ok (.val (.int (Builtin.bitXor (a : Int) (b : Int)))))
  rw [xor_nn]; exact hS
end
end K20
set_option synthInstance.maxSize 100000
set_option synthInstance.maxHeartbeats 0
namespace K20
open PySem PySem.Spec L2 NB ER MKX DL
section
open FLD PLY
def El (m : Nat) (p : List Nat) : Prop := ∀ c ∈ p, c < 2 ^ m
/-- the product of all x + e -/
def frs (q : Nat) (rs : List Nat) : List Nat := rs.foldl (fun p e => trim (conv q p [e, 1])) [1]
theorem frs_nil (q : Nat) : frs q [] = [1] := rfl
theorem frs_more (q : Nat) (rs : List Nat) (e : Nat) : frs q (rs ++ [e]) = trim (conv q (frs q rs) [e, 1]) := by unfold frs; rw [List.foldl_append]; rfl
theorem frs_El {m q : Nat} (F : Fd m q) (rs : List Nat) : El m (frs q rs) := by
  rcases List.eq_nil_or_concat rs with h | ⟨l, e, h⟩
  · subst h
    intro c hc
    rw [frs_nil, List.mem_singleton] at hc
    have := (pow_mF F).1
    omega
  · subst h
    rw [List.concat_eq_append, frs_more]
    exact fun c hc => conv_mem F _ _ c (trim_mem hc)
theorem frs_len {q : Nat} : ∀ (n : Nat) (rs : List Nat), rs.length = n → (frs q rs).length ≤ n + 1
  | 0, rs, h => by
    have : rs = [] := List.length_eq_zero_iff.mp h
    subst this
    exact Nat.le_refl _
  | n + 1, rs, h => by
    rcases List.eq_nil_or_concat rs with g | ⟨l, e, g⟩
    · subst g; simp at h
    · subst g
      rw [List.concat_eq_append] at h ⊢
      have ih := frs_len (q := q) n l (by simpa using h)
      rw [frs_more, trim_len]
      have := conv_tl q (frs q l) [e, 1] (by simp)
      simp at this
      omega
theorem pair_El {m q e : Nat} (F : Fd m q) (he : e < 2 ^ m) : El m [e, 1] := by
  have := (pow_mF F).1
  intro c hc
  simp at hc
  omega
end
abbrev s_from_roots : Stmt := top 17
theorem sc_from_roots : FnScope ["field", "roots", "p", "e"] ["field", "roots"] (defScope s_from_roots) := ⟨rfl, rfl, rfl, by decide +kernel, rfl, by decide +kernel, by decide +kernel⟩
abbrev s_RootCode_roots : Stmt := inClass (top 24) 1
theorem sc_RootCode_roots : FnScope ["self", "root", "j"] ["self"] (defScope s_RootCode_roots) := ⟨rfl, rfl, rfl, by decide +kernel, rfl, by decide +kernel, by decide +kernel⟩
abbrev s_RootCode___init__ : Stmt := inClass (top 24) 0
theorem sc_RootCode___init__ : FnScope ["self", "field", "n", "first", "checks"] ["self", "field", "n", "first", "checks"] (defScope s_RootCode___init__) := ⟨rfl, rfl, rfl, by decide +kernel, rfl, by decide +kernel, by decide +kernel⟩
section
variable {P : Program} {w : World} {K : PySem.W.Frag} {mg : Str → Option Value} {base : Heap}
variable {f_init : Addr} {fd_init : FuncData} {CH C CF C_NoInverse C_OutOfRange : Addr}
open FLD PLY
def rcFroots (C : Addr) : RC := pur fun as S => ∃ (m q r : Nat) (logs rs : List Nat), as = [.val (FldO C m q r logs), .val (.list (LI (NI rs)))] ∧ FldOk m q r logs ∧ El m rs ∧ rs.length ≤ 100 ∧ S (.ok (.own (LI (NI (frs q rs)))))
instance : MonoR (rcFroots C) := inferInstanceAs (MonoR (pur _))
theorem ok_from_roots {f f_times_polys : Addr} {fd fd_times_polys : FuncData} (D : Df K mg "from_roots" ["field", "roots"] s_from_roots f fd) (B : Bl mg)
    (D_times_polys : Da K mg "times_polys" "times" ["field", "p", "q"] s_times_polys f_times_polys fd_times_polys) (G_times_polys : FnOk P w K mg base CX0 2 f_times_polys fd_times_polys ["field", "p", "q"] (spF (rcPTimes C))) :
    FnOk P w K mg base CX0 3 f fd ["field", "roots"] (spF (rcFroots C)) := by
  refine okF D.F sc_from_roots (fun F as S h => by obtain ⟨m, q, r, l, a, rfl, _⟩ := h; rfl) (fun cdv A outer s H E hr => ⟨_, _, (pss_cons (ps_set (i := 2) sc_from_roots.nd rfl (Or.inl rfl) (pe_lst (pa_cons (pe_z 1) pa_nil)))
      (pss_cons (ps_for PassesOwn.never rfl (pi_list (pv 1)) (pg_name (i := 3) sc_from_roots.nd rfl (Or.inl rfl) (Or.inr rfl))
        (pss_one (ps_set (i := 2) sc_from_roots.nd rfl (Or.inl rfl) (pe_call G_times_polys (hr.mono (by decide)) rfl D_times_polys.g D_times_polys.F.kp D_times_polys.b .nil pass00 (pa_cons (pv 0) (pa_cons (pv 2) (pa_cons (pe_lst (pa_cons (pv 3) (pa_cons (pe_z 1) pa_nil))) pa_nil)))))))
      (pss_one (ps_ret (pv 2))))), fun F0 => by infer_instance, fun F0 as S h => ?_⟩)
  obtain ⟨m, q, r, logs, rs, rfl, O, hE, hl, hS⟩ := h
  have sl := sizeLine_eq
  have F := O.fd
  refine ⟨(show 1 ≤ sizeLine by omega), .inl ?_⟩
  refine ⟨rfl, fun i σ => ∃ o3 : Option SV, σ = [some (.val (FldO C m q r logs)), some (.val (.list (LI (NI rs)))), some (.own (LI (NI (frs q (rs.take i))))), o3], ⟨none, rfl⟩, ?_, ?_⟩
  · rintro i d σ hd ⟨o3, rfl⟩
    obtain ⟨e, he, rfl⟩ := NI_at hd
    have hi := (List.getElem?_eq_some_iff.mp he).1
    have e1 := hE e (List.mem_of_getElem? he)
    have lt : (rs.take i).length = i := by rw [List.length_take]; omega
    have fl := frs_len (q := q) i (rs.take i) lt
    refine ⟨(show 2 ≤ sizeLine by omega), fun x => x = .ok (.own (LI (NI (trim (conv q (frs q (rs.take i)) [e, 1]))))), ⟨m, q, r, logs, frs q (rs.take i), [e, 1], rfl, O, frs_El F _, pair_El F e1, by omega, by show 2 ≤ 400; decide, rfl⟩, ?_⟩
    rintro x rfl
    refine ⟨fun _ => LI_allF _, .inl ⟨some (.val (.int (e : Int))), ?_⟩⟩
    have : frs q (rs.take (i + 1)) = trim (conv q (frs q (rs.take i)) [e, 1]) := by rw [← frs_more, ← take_one he]
    rw [this]; rfl
  · rintro σ ⟨o3, rfl⟩
    rw [LI_NI_len, List.take_length]
    exact hS
def rcRoots (C CF : Addr) : RC := pur fun as S => ∃ (fs : List (Str × PyData)) (m q r : Nat) (logs : List Nat) (first checks : Nat), as = [.val (Ob C fs)] ∧ fs.lookup ("field" : Str) = some (FldO CF m q r logs) ∧ fs.lookup ("first" : Str) = some (PyData.int (first : Int)) ∧ fs.lookup ("checks" : Str) = some (PyData.int (checks : Int)) ∧
  FldOk m q r logs ∧ first ≤ 1000 ∧ checks ≤ 1000 ∧ S (.ok (.own (LI (NI ((List.range checks).map fun j => pw q r (first + j))))))
instance : MonoR (rcRoots C CF) := inferInstanceAs (MonoR (pur _))
theorem pe_fldK {X : Cx} {K : PySem.W.Frag} {e : Expr} {t : TE} {f : Str} (h : X.K = K) (p : PE X e (tFld X.K t f)) : PE X e (tFld K t f) := h ▸ p
/-- what the top says of the class -/
structure CK (K : PySem.W.Frag) (C : Addr) : Prop where
  cl : Cls K C
  n1 : NoAttr K C "field"
  n2 : NoAttr K C "n"
  n3 : NoAttr K C "first"
  n4 : NoAttr K C "checks"
  n5 : NoAttr K C "_generator"
theorem ok_RootCode_roots {f f_Field_root f_Field_power : Addr} {fd fd_Field_root fd_Field_power : FuncData} (F : Fun K "roots" "RootCode.roots" s_RootCode_roots f fd) (T : CK K C) (B : Bl mg) (K_Field : Cls K CF)
    (M_Field_root : Meth K CF "root" f_Field_root) (b_Field_root : Binds K fd_Field_root ["self"] []) (G_Field_root : FnOk P w K mg base CX0 1 f_Field_root fd_Field_root ["self"] (spF (rcFRoot CF)))
    (M_Field_power : Meth K CF "power" f_Field_power) (b_Field_power : Binds K fd_Field_power ["self", "e", "k"] []) (G_Field_power : FnOk P w K mg base (L2.CX P w) 4 f_Field_power fd_Field_power ["self", "e", "k"] (spF (rcFPow CF))) :
    FnOk P w K mg base CX0 6 f fd ["self"] (spF (rcRoots C CF)) := by
  refine okF F sc_RootCode_roots (fun F as S h => by obtain ⟨fs, m, q, r, l, a, b, rfl, _⟩ := h; rfl) (fun cdv A outer s H E hr => ⟨_, _, (pss_cons (ps_set (i := 1) sc_RootCode_roots.nd rfl (Or.inr rfl) (pe_meth0 (pe_fld (pv 0) rfl) K_Field M_Field_root G_Field_root (hr.mono (by decide)) b_Field_root .nil pass00))
      (pss_one (ps_ret (pe_lc (own := [("j", 2)]) rfl sc_RootCode_roots.nd (pi_range1 rfl B.range (pa_cons (pe_fld (pv 0) rfl) pa_nil)) (blkOk_by (own := [("j", 2)]) (N := ["self", "root", "j"]) (sc := defScope s_RootCode_roots) (by decide +kernel)) (fun _ _ _ _ _ => (pg_name (i := 2) sc_RootCode_roots.nd rfl (Or.inl rfl) (Or.inr rfl))) (fun _ _ _ _ _ => pts_nil) (fun _ _ _ _ _ => (pe_meth (pe_fldK (K := K) (by rfl) (pe_fld (pv 0) rfl)) K_Field M_Field_power G_Field_power (hr.mono (by decide)) b_Field_power .nil passL (by exact (pa_cons (pv 1) (pa_cons (pe_op op_add (pe_fldK (K := K) (by rfl) (pe_fld (pv 0) rfl)) (pv 2)) pa_nil))))))))), fun F0 => by infer_instance, fun F0 as S h => ?_⟩)
  obtain ⟨fs, m, q, r, l, first, checks, rfl, h1, h2, h3, O, b1, b2, hS⟩ := h
  have sl := sizeLine_eq
  refine ⟨C, _, _, rfl, T.cl, T.n1, h1, _, rfl, fsF_no m q r l, fun x => x = .ok (.val (.int (r : Int))), ⟨m, q, r, l, rfl, O, rfl⟩, ?_⟩
  rintro x rfl
  refine ⟨fun _ => rfl, ?_⟩
  refine ⟨C, _, _, rfl, T.cl, T.n4, h3, ⟨by omega, by omega⟩, rfl, fun i acc => acc = LI (NI ((List.range i).map fun j => pw q r (first + j))), rfl, ?_, ?_⟩
  · rintro i d acc hd rfl
    obtain ⟨hi, rfl⟩ := rangeD_at hd
    have hi' : i < checks := by
      have h : i < ((checks : Nat) : Int).toNat := hi
      omega
    refine brT ⟨C, _, _, rfl, T.cl, T.n1, h1, _, rfl, fsF_no m q r l, C, _, _, rfl, T.cl, T.n3, h2, fun x => x = .ok (.val (.int ((pw q r (first + i) : Nat) : Int))), ⟨m, q, r, l, r, first + i, ?_, O, O.lr.1.lt, by omega, rfl⟩, ?_⟩
    · show [_, _, SV.val (.int ((first : Int) + (0 + (i : Int))))] = _
      rw [show (first : Int) + (0 + (i : Int)) = ((first + i : Nat) : Int) by omega]; rfl
    rintro x rfl
    refine ⟨fun _ => rfl, by rw [LI_NI_len, List.length_map, List.length_range]; omega, ?_⟩
    show LI (NI _) ++ [PyData.int ((pw q r (first + i) : Nat) : Int)] = _
    rw [List.range_succ, List.map_append, ← NI_app]; rfl
  · rintro acc rfl
    have el : (rangeD 0 (((checks : Nat) : Int)).toNat).length = checks := by rw [rangeD_len]; omega
    rw [el]
    exact hS
/-- a code; g: its generator -/
def fsC4 (fo : PyData) (n first checks : Nat) : List (Str × PyData) := [("field", fo), ("n", .int (n : Int)), ("first", .int (first : Int)), ("checks", .int (checks : Int))]
def fsC (fo : PyData) (n first checks : Nat) (g : List Nat) : List (Str × PyData) := fsC4 fo n first checks ++ ([("_generator", .list (LI (NI g)))] : List (Str × PyData))
def CodeO (C : Addr) (fo : PyData) (n first checks : Nat) (g : List Nat) : PyData := Ob C (fsC fo n first checks g)
theorem sqc : (("n" : Str) == "field") = false ∧ (("first" : Str) == "field") = false ∧ (("first" : Str) == "n") = false ∧ (("checks" : Str) == "field") = false ∧ (("checks" : Str) == "n") = false ∧ (("checks" : Str) == "first") = false ∧ (("_generator" : Str) == "field") = false ∧ (("_generator" : Str) == "n") = false ∧ (("_generator" : Str) == "first") = false ∧ (("_generator" : Str) == "checks") = false := by decide +kernel
theorem fsC4_first (fo n first checks) : (fsC4 fo n first checks).lookup ("first" : Str) = some (.int (first : Int)) := by
  obtain ⟨a1, a2, a3, _⟩ := sqc
  unfold fsC4; rw [lk_ne a2, lk_ne a3, List.lookup_cons_self]
theorem fsC4_field (fo n first checks) : (fsC4 fo n first checks).lookup ("field" : Str) = some fo := by unfold fsC4; rw [List.lookup_cons_self]
theorem fsC4_checks (fo n first checks) : (fsC4 fo n first checks).lookup ("checks" : Str) = some (.int (checks : Int)) := by
  obtain ⟨a1, a2, a3, a4, a5, a6, _⟩ := sqc
  unfold fsC4; rw [lk_ne a4, lk_ne a5, lk_ne a6, List.lookup_cons_self]
theorem fsC4_no (fo n first checks) {x : Str} (h1 : (x == ("field" : Str)) = false := by decide +kernel) (h2 : (x == ("n" : Str)) = false := by decide +kernel) (h3 : (x == ("first" : Str)) = false := by decide +kernel) (h4 : (x == ("checks" : Str)) = false := by decide +kernel) : (fsC4 fo n first checks).lookup x = none := by
  unfold fsC4; rw [lk_ne h1, lk_ne h2, lk_ne h3, lk_ne h4]; rfl
def genC (q r first checks : Nat) : List Nat := frs q ((List.range checks).map fun j => pw q r (first + j))
def rcCode (C CF CO : Addr) : RC := pur fun as S => ∃ (m q r : Nat) (logs : List Nat) (n first checks : Int), as = [.val (FldO CF m q r logs), .val (.int n), .val (.int first), .val (.int checks)] ∧ FldOk m q r logs ∧ checks ≤ 100 ∧
  (¬ (2 ≤ n ∧ n ≤ ((2 ^ m - 1 : Nat) : Int)) → S (.er CO 0)) ∧ (2 ≤ n → n ≤ ((2 ^ m - 1 : Nat) : Int) → ¬ (0 ≤ first ∧ first ≤ ((2 ^ m - 2 : Nat) : Int)) → S (.er CO 1)) ∧
  (2 ≤ n → n ≤ ((2 ^ m - 1 : Nat) : Int) → 0 ≤ first → first ≤ ((2 ^ m - 2 : Nat) : Int) → ¬ (1 ≤ checks ∧ checks ≤ n - 1) → S (.er CO 2)) ∧
  (2 ≤ n → n ≤ ((2 ^ m - 1 : Nat) : Int) → 0 ≤ first → first ≤ ((2 ^ m - 2 : Nat) : Int) → 1 ≤ checks → checks ≤ n - 1 → S (.ok (.val (CodeO C (FldO CF m q r logs) n.toNat first.toNat checks.toNat (genC q r first.toNat checks.toNat)))))
instance {C CF CO : Addr} : MonoR (rcCode C CF CO) := inferInstanceAs (MonoR (pur _))
theorem ok_RootCode___init__ {f f_RootCode_roots f_Field_size f_from_roots : Addr} {fd fd_RootCode_roots fd_Field_size fd_from_roots : FuncData} (F : Fun K "__init__" "RootCode.__init__" s_RootCode___init__ f fd) (T : CK K C) (B : Bl mg) (K_Field : Cls K CF)
    (M_Field_size : Meth K CF "size" f_Field_size) (b_Field_size : Binds K fd_Field_size ["self"] []) (G_Field_size : FnOk P w K mg base CX0 1 f_Field_size fd_Field_size ["self"] (spF (rcFSize CF)))
    (K_RootCode : Cls K C) (M_RootCode_roots : Meth K C "roots" f_RootCode_roots) (b_RootCode_roots : Binds K fd_RootCode_roots ["self"] []) (G_RootCode_roots : FnOk P w K mg base CX0 6 f_RootCode_roots fd_RootCode_roots ["self"] (spF (rcRoots C CF)))
    (D_from_roots : Df K mg "from_roots" ["field", "roots"] s_from_roots f_from_roots fd_from_roots) (G_from_roots : FnOk P w K mg base CX0 3 f_from_roots fd_from_roots ["field", "roots"] (spF (rcFroots CF)))
    (X_OutOfRange : XC K mg "OutOfRange" C_OutOfRange f_init CH) (G_init : FnOk P w K mg base CX0 1 f_init fd_init ["self", "at"] (sp_init K)) (b_init : Binds K fd_init ["self", "at"] []) :
    FnOk P w K mg base (L2.CX P w) 8 f fd ["self", "field", "n", "first", "checks"] (spI C (rcCode C CF C_OutOfRange)) := by
  refine okInit F sc_RootCode___init__ (fun F as S h => by obtain ⟨m, q, r, l, n, a, b, rfl, _⟩ := h; rfl) (fun cdv A outer s H E hr => ⟨_, _, (pss_cons (ps_if (PW.pt (pw_or (pt_cmpR op_lt (pv 2) (pe_z 2) (nomark _)) (pw_or1 (pt_cmpR op_gt (pv 2) (pe_op op_sub (pe_meth0 (pv 1) K_Field M_Field_size G_Field_size (hr.mono (by decide)) b_Field_size .nil pass00) (pe_z 1)) (nomark _))))) (pss_one (ps_err rfl X_OutOfRange G_init (hr.mono (by decide)) b_init pass0 (takes_of rfl rfl rfl rfl) (pa_cons (pe_z 0) pa_nil))) pss_nil)
      (pss_cons (ps_if (PW.pt (pw_or (pt_cmpR op_lt (pv 3) (pe_z 0) (nomark _)) (pw_or1 (pt_cmpR op_gt (pv 3) (pe_op op_sub (pe_meth0 (pv 1) K_Field M_Field_size G_Field_size (hr.mono (by decide)) b_Field_size .nil pass00) (pe_z 2)) (nomark _))))) (pss_one (ps_err rfl X_OutOfRange G_init (hr.mono (by decide)) b_init pass0 (takes_of rfl rfl rfl rfl) (pa_cons (pe_z 1) pa_nil))) pss_nil)
      (pss_cons (ps_if (PW.pt (pw_or (pt_cmpR op_lt (pv 4) (pe_z 1) (nomark _)) (pw_or1 (pt_cmpR op_gt (pv 4) (pe_op op_sub (pv 2) (pe_z 1)) (nomark _))))) (pss_one (ps_err rfl X_OutOfRange G_init (hr.mono (by decide)) b_init pass0 (takes_of rfl rfl rfl rfl) (pa_cons (pe_z 2) pa_nil))) pss_nil)
      (pss_cons (ps_fld (pv 0) (pv 1) rfl)
      (pss_cons (ps_fld (pv 0) (pv 2) rfl)
      (pss_cons (ps_fld (pv 0) (pv 3) rfl)
      (pss_cons (ps_fld (pv 0) (pv 4) rfl)
      (pss_one (ps_fld (pv 0) (pe_call G_from_roots (hr.mono (by decide)) rfl D_from_roots.g D_from_roots.F.kp D_from_roots.b .nil pass00 (pa_cons (pv 1) (pa_cons (pe_meth0 (pv 0) K_RootCode M_RootCode_roots G_RootCode_roots (hr.mono (by decide)) b_RootCode_roots .nil pass00) pa_nil))) rfl))))))))), fun F0 Hb x ER nx he =>
    .seq (.stm fun F1 o => by haveI := eok_at (o := o) he nx; infer_instance) (.seq (.stm fun F1 o => by haveI := eok_at (o := o) he nx; infer_instance) (.seq (.stm fun F1 o => by haveI := eok_at (o := o) he nx; infer_instance)
      (.seq (.fld fun F1 o => by infer_instance) (.seq (.fld fun F1 o => by infer_instance) (.seq (.fld fun F1 o => by infer_instance) (.seq (.fld fun F1 o => by infer_instance)
        (.fldF fun F1 dx fs' fs ok => by haveI : DE F1 (upd Hb x (.ins C dx fs')) (tMeth C ("roots" : Str) (spF (rcRoots C CF)) [] (fun _ _ _ => False) (tVar 0) tNil) (fun σ P => σ[0]? = some (some (.raw (.ref x))) ∧ ∀ FF, Same F1 FF → dMeth FF C ("roots" : Str) (rcRoots C CF) (fun _ _ => False) (dVar 0) dNil (selfV C fs σ) fun sv => sv.flat = true ∧ sv.isEnt = false ∧ P sv) := de_self upd_same ok (fun FF G s1 s2 => by infer_instance); infer_instance))))))), fun F0 as S x h => ?_⟩)
  obtain ⟨m, q, r, l, n, first, checks, rfl, O, hc, h1, h2, h3, h4⟩ := h
  obtain ⟨p4, p256⟩ := pow_mF O.fd
  have sl := sizeLine_eq
  obtain ⟨a1, a2, a3, a4, a5, a6, _⟩ := sqc
  intro F1 s1
  refine brD (fun c1 => brT ⟨by decide, h1 (by omega)⟩) fun c1 => ⟨_, rfl, fsF_no m q r l, fun y => y = .ok (.val (.int ((2 ^ m : Nat) : Int))), ⟨m, q, r, l, rfl, O, rfl⟩, ?_⟩
  rintro y rfl
  refine ⟨fun _ => rfl, brD (fun c2 => ⟨by decide, h1 (by omega)⟩) fun c2 => ⟨rfl, ?_⟩⟩
  intro F2 s2
  refine brD (fun c3 => brT ⟨by decide, h2 (by omega) (by omega) (by omega)⟩) fun c3 => ⟨_, rfl, fsF_no m q r l, fun y => y = .ok (.val (.int ((2 ^ m : Nat) : Int))), ⟨m, q, r, l, rfl, O, rfl⟩, ?_⟩
  rintro y rfl
  refine ⟨fun _ => rfl, brD (fun c4 => ⟨by decide, h2 (by omega) (by omega) (by omega)⟩) fun c4 => ⟨rfl, ?_⟩⟩
  intro F3 s3
  refine brD (fun c5 => brT ⟨by decide, h3 (by omega) (by omega) (by omega) (by omega) (by omega)⟩) fun c5 => brD (fun c6 => ⟨by decide, h3 (by omega) (by omega) (by omega) (by omega) (by omega)⟩) fun c6 => ⟨rfl, ?_⟩
  have hS := h4 (by omega) (by omega) (by omega) (by omega) (by omega) (by omega)
  obtain ⟨nn, rfl⟩ := Int.eq_ofNat_of_zero_le (show 0 ≤ n by omega)
  obtain ⟨fn, rfl⟩ := Int.eq_ofNat_of_zero_le (show 0 ≤ first by omega)
  obtain ⟨cn, rfl⟩ := Int.eq_ofNat_of_zero_le (show 0 ≤ checks by omega)
  rw [Int.toNat_natCast, Int.toNat_natCast, Int.toNat_natCast] at hS
  refine ⟨T.cl, T.n1, (by show 0 < 1000; decide), rfl, fun F4 s4 => ⟨_, rfl, ?_⟩⟩
  refine ⟨T.cl, T.n2, (by show 1 < 1000; decide), (by show List.lookup _ [(_, _)] = none; rw [lk_ne a1]; rfl), fun F5 s5 => ⟨_, rfl, ?_⟩⟩
  refine ⟨T.cl, T.n3, (by show 2 < 1000; decide), (by show List.lookup _ [(_, _), (_, _)] = none; rw [lk_ne a2, lk_ne a3]; rfl), fun F6 s6 => ⟨_, rfl, ?_⟩⟩
  refine ⟨T.cl, T.n4, (by show 3 < 1000; decide), (by show List.lookup _ [(_, _), (_, _), (_, _)] = none; rw [lk_ne a4, lk_ne a5, lk_ne a6]; rfl), fun F7 s7 => ⟨_, rfl, ?_⟩⟩
  refine ⟨T.cl, T.n5, (by show 4 < 1000; decide), (show (fsC4 (FldO CF m q r l) nn fn cn).lookup _ = none from fsC4_no _ _ _ _), fun F8 y hy s8 => ?_⟩
  have rl : ((List.range cn).map fun j => pw q r (fn + j)).length = cn := by simp
  refine ⟨hy, fun FF sf => ?_⟩
  refine ⟨fsC4 (FldO CF m q r l) nn fn cn, rfl, fsC4_no _ _ _ _, fun z => z = .ok (.own (LI (NI ((List.range cn).map fun j => pw q r (fn + j))))), ⟨fsC4 (FldO CF m q r l) nn fn cn, m, q, r, l, fn, cn, rfl, fsC4_field _ _ _ _, fsC4_first _ _ _ _, fsC4_checks _ _ _ _, O, by omega, by omega, rfl⟩, ?_⟩
  rintro z rfl
  refine ⟨fun _ => LI_flatD _, LI_flatD _, rfl, ?_⟩
  refine ⟨fun z => z = .ok (.own (LI (NI (genC q r fn cn)))), ⟨m, q, r, l, _, rfl, O, fun b hb => ?_, by omega, rfl⟩, ?_⟩
  · obtain ⟨j, _, rfl⟩ := List.mem_map.mp hb
    exact pw_lt O.fd _ _
  rintro z rfl
  exact ⟨fun _ => LI_flatD _, _, rfl, hS⟩
end
end K20
set_option synthInstance.maxSize 100000
set_option synthInstance.maxHeartbeats 0
namespace K20
open PySem PySem.Spec L2 NB ER MKX DL
abbrev s__law_roots : Stmt := top 45
theorem sc__law_roots : FnScope ["f", "shape", "n", "first", "checks", "j"] ["f", "shape"] (defScope s__law_roots) := ⟨rfl, rfl, rfl, by decide +kernel, rfl, by decide +kernel, by decide +kernel⟩
section
variable {P : Program} {w : World} {K : PySem.W.Frag} {mg : Str → Option Value} {base : Heap}
open FLD PLY
def ShT (n first checks : Nat) : PyData := .tuple [.int (n : Int), .int (first : Int), .int (checks : Int)]
/-- the roots of a code -/
def rtsC (q r first checks : Nat) : List Nat := (List.range checks).map fun j => pw q r (first + j)
theorem rtsC_len (q r first checks : Nat) : (rtsC q r first checks).length = checks := by unfold rtsC; simp
theorem rtsC_El {m q : Nat} (F : Fd m q) (r first checks : Nat) : COD.El m (rtsC q r first checks) := fun c hc => by
  obtain ⟨j, _, rfl⟩ := List.mem_map.mp hc
  exact pw_lt F _ _
theorem NI_getI {l : List Nat} {i : Nat} (h : i < l.length) : (LI (NI l))[i]? = some (.int ((l.getD i 0 : Nat) : Int)) := by
  unfold LI NI
  rw [List.getElem?_map, List.getElem?_map, List.getD_eq_getElem?_getD, List.getElem?_eq_getElem h]; rfl
def rcLRoots : RC := pur fun as S => ∃ (m q r n first checks : Nat), as = [.val (FT3 m q r), .val (ShT n first checks)] ∧ Fd m q ∧ LeastRoot m q r ∧ first ≤ 1000 ∧ checks ≤ 100 ∧ S (.ok (.own (LI (NI (rtsC q r first checks)))))
instance : MonoR rcLRoots := inferInstanceAs (MonoR (pur _))
theorem ok__law_roots {f : Addr} {fd : FuncData} (D : Df K mg "_law_roots" ["f", "shape"] s__law_roots f fd) (B : Bl mg) : FnOk P w K mg base CX0 1 f fd ["f", "shape"] (spF rcLRoots) := by
  refine okF D.F sc__law_roots (fun F as S h => by obtain ⟨_, _, _, _, _, _, rfl, _⟩ := h; rfl) (fun cdv A outer s H E hr => ⟨_, _, (pss_cons (ps_asg (pv 1) (pg_tup rfl (pgs_cons (pg_name (i := 2) sc__law_roots.nd rfl (Or.inl rfl) (Or.inr rfl)) (pgs_cons (pg_name (i := 3) sc__law_roots.nd rfl (Or.inr rfl)) (pgs_cons (pg_name (i := 4) sc__law_roots.nd rfl (Or.inl rfl) (Or.inr rfl)) pgs_nil)))))
      (pss_one (ps_ret (pe_lc (own := [("j", 5)]) rfl sc__law_roots.nd (pi_range1 rfl B.range (pa_cons (pv 4) pa_nil)) (blkOk_by (own := [("j", 5)]) (N := ["f", "shape", "n", "first", "checks", "j"]) (sc := defScope s__law_roots) (by decide +kernel)) (fun _ _ _ _ _ => (pg_name (i := 5) sc__law_roots.nd rfl (Or.inl rfl) (Or.inr rfl))) (fun _ _ _ _ _ => pts_nil) (fun _ _ _ _ _ => (pe_ix (ix_listK (K := K) rfl) (pe_ix (ix_tupK (K := K) rfl) (pv 0) (pe_z 2) (fun _ _ => rfl)) (pe_op op_mod (pe_callTy call_int1 (by rfl) B.int (by decide +kernel) (pa_cons (pe_op op_add (pv 3) (pv 5)) pa_nil)) (pe_callB (call_lenK (K := K) (by rfl)) (by rfl) B.len PySem.boot_len (pa_cons (pe_ix (ix_tupK (K := K) rfl) (pv 0) (pe_z 2) (fun _ _ => rfl)) pa_nil))) (fun _ _ => rfl))))))), fun F0 => by infer_instance, fun F0 as S h => ?_⟩)
  obtain ⟨m, q, r, n, first, checks, rfl, F, LR, b1, b2, hS⟩ := h
  have sl := sizeLine_eq
  have p4 := (pow_mF F).1
  have p256 := (pow_mF F).2
  have pl : (pws q r (2 ^ m - 1)).length = 2 ^ m - 1 := pws_len _ _ _
  have lp : (LI (NI (pws q r (2 ^ m - 1)))).length = 2 ^ m - 1 := by rw [LI_NI_len, pl]
  refine ⟨rfl, ?_⟩
  dsimp only [List.set_cons_succ, List.set_cons_zero]
  refine ⟨⟨by omega, by omega⟩, rfl, fun i acc => acc = LI (NI ((List.range i).map fun j => pw q r (first + j))), rfl, ?_, ?_⟩
  · rintro i d acc hd rfl
    obtain ⟨hi, rfl⟩ := rangeD_at hd
    have hi' : i < checks := by
      have h : i < ((checks : Nat) : Int).toNat := hi
      omega
    have em : ((first : Int) + (0 + (i : Int))) % ((LI (NI (pws q r (2 ^ m - 1)))).length : Int) = (((first + i) % (2 ^ m - 1) : Nat) : Int) := by rw [lp, Int.natCast_emod, Int.natCast_add, Int.zero_add]
    have hm : (first + i) % (2 ^ m - 1) < 2 ^ m - 1 := Nat.mod_lt _ (by omega)
    refine brT ⟨.list (LI (NI (pws q r (2 ^ m - 1)))), rfl, .list (LI (NI (pws q r (2 ^ m - 1)))), rfl, ?_, ?_⟩
    · show (0 : Int) < ((LI (NI (pws q r (2 ^ m - 1)))).length : Int)
      rw [lp]; omega
    refine ⟨.int ((pw q r (first + i) : Nat) : Int), ?_, by rw [LI_NI_len, List.length_map, List.length_range]; omega, ?_⟩
    · show atI (LI (NI (pws q r (2 ^ m - 1)))) (((first : Int) + (0 + (i : Int))) % ((LI (NI (pws q r (2 ^ m - 1)))).length : Int)) = _
      rw [em, pw_mod F LR.1 (first + i)]
      refine atI_nat ?_
      rw [NI_getI (by rw [pl]; exact hm), List.getD_eq_getElem?_getD, pws_get hm]; rfl
    · show LI (NI _) ++ [PyData.int ((pw q r (first + i) : Nat) : Int)] = _
      rw [List.range_succ, List.map_append, ← NI_app]; rfl
  · rintro acc rfl
    have el : (rangeD 0 (((checks : Nat) : Int)).toNat).length = checks := by rw [rangeD_len]; omega
    rw [el]
    exact hS
end
end K20
set_option synthInstance.maxSize 100000
set_option synthInstance.maxHeartbeats 0
namespace K20
open PySem PySem.Spec L2 NB ER MKX DL
section
variable {P : Program} {w : World} {K : PySem.W.Frag} {mg : Str → Option Value} {base : Heap}
open FLD PLY
theorem fsC_app (fo n first checks g) {x : Str} {d : PyData} (h : (fsC4 fo n first checks).lookup x = some d) : (fsC fo n first checks g).lookup x = some d := by
  unfold fsC
  generalize fsC4 fo n first checks = l at h
  induction l with
  | nil => cases h
  | cons p l ih =>
    obtain ⟨a, b⟩ := p
    rw [List.cons_append]
    cases z : (x == a) with
    | true => rw [List.lookup_cons, z] at h ⊢; exact h
    | false => rw [List.lookup_cons, z] at h ⊢; exact ih h
theorem fsC4_n (fo n first checks) : (fsC4 fo n first checks).lookup ("n" : Str) = some (.int (n : Int)) := by unfold fsC4; rw [lk_ne sqc.1, List.lookup_cons_self]
end
end K20
set_option synthInstance.maxSize 100000
set_option synthInstance.maxHeartbeats 0
namespace K20
open PySem PySem.Spec L2 NB ER MKX DL
abbrev s_RootCode_codeword : Stmt := inClass (top 24) 3
theorem sc_RootCode_codeword : FnScope ["self", "message", "rest"] ["self", "message"] (defScope s_RootCode_codeword) := ⟨rfl, rfl, rfl, by decide +kernel, rfl, by decide +kernel, by decide +kernel⟩
section
variable {P : Program} {w : World} {K : PySem.W.Frag} {mg : Str → Option Value} {base : Heap}
variable {f_init : Addr} {fd_init : FuncData} {CH C CC CF CR C_OutOfRange C_WrongSize C_NoDivisor : Addr}
open FLD PLY
theorem fsC_gen (fo n first checks g) : (fsC fo n first checks g).lookup ("_generator" : Str) = some (.list (LI (NI g))) := by
  obtain ⟨a1, a2, a3, a4, a5, a6, a7, a8, a9, a10⟩ := sqc
  unfold fsC fsC4
  show List.lookup _ [_, _, _, _, _] = _
  rw [lk_ne a7, lk_ne a8, lk_ne a9, lk_ne a10, List.lookup_cons_self]
/-- the program's way to a codeword -/
theorem cw_of {m q : Nat} (F : Fd m q) {g : List Nat} {c : Nat} (M : COD.Mon m g c) {msg : List Nat} (h : COD.El m msg) :
    (dq q 1 g (List.replicate c 0 ++ msg)).1.length ≤ c ∧ (dq q 1 g (List.replicate c 0 ++ msg)).1 ++ List.replicate (c - (dq q 1 g (List.replicate c 0 ++ msg)).1.length) 0 ++ msg = COD.cwd q g c msg := by
  have tg : trim g = g := by
    have : tl g = c + 1 := by
      have h1 := tl_le g
      rw [M.len] at h1
      have h2 : ¬ tl g ≤ c := fun z => by
        have := (tl_le_iff g c).mp z c (Nat.le_refl _)
        rw [M.top] at this; cases this
      omega
    unfold trim
    rw [this, ← M.len, List.take_length]
  have ld : lastD g = 1 := by unfold lastD; rw [M.len]; exact M.top
  have one := one_lt F
  have hv : mulm q 1 (lastD g) = 1 := by rw [ld]; exact mulm_one F one
  have g0 : 0 < g.length := by rw [M.len]; omega
  obtain ⟨p, hp⟩ : ∃ p, p = List.replicate c 0 ++ msg := ⟨_, rfl⟩
  have pE : COD.El m p := by rw [hp]; exact COD.shift_El F h
  have pl : p.length = c + msg.length := by rw [hp, List.length_append, List.length_replicate]
  have tE : COD.El m (trim p) := fun d hd => pE d (trim_mem hd)
  rw [← hp]
  unfold dq
  rw [tg]
  obtain ⟨W, hW⟩ : ∃ W, W = List.replicate ((trim p).length + 1 - g.length) 0 := ⟨_, rfl⟩
  rw [← hW]
  have wl : W.length = (trim p).length + 1 - g.length := by rw [hW, List.length_replicate]
  have W0 : ∀ i, W.getD i 0 = 0 := fun i => by rw [hW]; exact rep_getD _ _
  have tpl : (trim p).length ≤ p.length := by rw [trim_len]; exact tl_le p
  have cf := fun j => CNV.dv_cf F (v := 1) (g := g) hv g0 j p.length (trim p) W tE (by omega) fun i _ => W0 i
  obtain ⟨R, hRe⟩ : ∃ R, R = (dv q 1 g p.length (trim p) W).1 := ⟨_, rfl⟩
  obtain ⟨Q, hQe⟩ : ∃ Q, Q = (dv q 1 g p.length (trim p) W).2 := ⟨_, rfl⟩
  have rE := (CNV.dv_El F (v := 1) (g := g) p.length (trim p) W tE fun d hd => by rw [hW] at hd; rw [(List.mem_replicate.mp hd).2]; exact Nat.two_pow_pos m)
  rw [← hRe, ← hQe] at rE
  have dn := dv_done F hv g0 p.length (trim p) W tE tpl
  rw [← hRe, M.len] at dn
  have rl : R.length ≤ c := by omega
  rw [← hRe]
  refine ⟨rl, ?_⟩
  obtain ⟨V, v0, v1, v2, v3⟩ := COD.lred_cf F M msg.length p pE (by omega) fun j hj => getD_out (by omega)
  have same := COD.rest_one F M (A := fun j => p.getD j 0) (R1 := fun j => R.getD j 0) (R2 := fun j => (COD.lred q g c msg.length p).getD j 0) (W1 := fun i => Q.getD i 0) (W2 := V) (N := Q.length + msg.length) (fun i => COD.getD_lt rE.2 i) v0 (fun i hi => getD_out (by omega)) (fun i hi => v1 i (by omega)) (fun j => by
    have a := cf j
    rw [← hRe, ← hQe, CNV.cv_zero_left F W0, Nat.zero_xor, trim_getD] at a
    have := congrArg (fun x => CNV.cv q (fun i => Q.getD i 0) (fun i => g.getD i 0) j ^^^ x) a
    simp only [← Nat.xor_assoc, Nat.xor_self, Nat.zero_xor] at this
    show R.getD j 0 = p.getD j 0 ^^^ _
    rw [this, Nat.xor_comm]) v2 (fun j hj => getD_out (by omega)) v3
  unfold COD.cwd
  rw [← hp]
  congr 1
  have l2 : ((COD.lred q g c msg.length p).take c).length = c := by rw [List.length_take, COD.lred_len]; omega
  have l1 : (R ++ List.replicate (c - R.length) 0).length = c := by rw [List.length_append, List.length_replicate]; omega
  refine List.ext_getElem? fun j => ?_
  by_cases hj : j < c
  · rw [get_getD (by omega), get_getD (by omega), COD.take_getD hj, ← show R.getD j 0 = _ from same j, COD.app_getD]
    by_cases z : j < R.length
    · rw [if_pos z]
    · rw [if_neg z, rep_getD, getD_out (by omega)]
  · rw [List.getElem?_eq_none (by omega), List.getElem?_eq_none (by omega)]
def rcCw (C CF CW : Addr) : RC := pur fun as S => ∃ (m q r : Nat) (l : List Nat) (n first checks : Nat) (g msg : List Nat), as = [.val (CodeO C (FldO CF m q r l) n first checks g), .val (.list (LI (NI msg)))] ∧ FldOk m q r l ∧ COD.Mon m g checks ∧ checks ≤ n ∧ n ≤ 300 ∧ checks ≤ 100 ∧ COD.El m msg ∧ msg.length ≤ 1000 ∧
  (msg.length ≠ n - checks → S (.er CW 0)) ∧ (msg.length = n - checks → S (.ok (.own (LI (NI (COD.cwd q g checks msg))))))
instance {C CF CW : Addr} : MonoR (rcCw C CF CW) := inferInstanceAs (MonoR (pur _))
theorem ok_RootCode_codeword {f f_divide_polys : Addr} {fd fd_divide_polys : FuncData} (F : Fun K "codeword" "RootCode.codeword" s_RootCode_codeword f fd) (T : CK K C) (B : Bl mg)
    (D_divide_polys : Da K mg "divide_polys" "divide" ["field", "p", "q"] s_divide_polys f_divide_polys fd_divide_polys) (G_divide_polys : FnOk P w K mg base (L2.CX P w) 5 f_divide_polys fd_divide_polys ["field", "p", "q"] (spF (rcPDiv CF C_NoDivisor)))
    (X_WrongSize : XC K mg "WrongSize" C_WrongSize f_init CH) (G_init : FnOk P w K mg base CX0 1 f_init fd_init ["self", "at"] (sp_init K)) (b_init : Binds K fd_init ["self", "at"] []) :
    FnOk P w K mg base (L2.CX P w) 7 f fd ["self", "message"] (spF (rcCw C CF C_WrongSize)) := by
  refine okFX F sc_RootCode_codeword (fun F as S h => by obtain ⟨m, q, r, l, n, a, b, g, ms, rfl, _⟩ := h; rfl) (fun cdv A outer s H E hr => ⟨_, _, (pss_cons (ps_if (pt_cmpR op_ne (pe_callB call_len_seq (by rfl) B.len PySem.boot_len (pa_cons (pv 1) pa_nil)) (pe_op op_sub (pe_fld (pv 0) rfl) (pe_fld (pv 0) rfl)) (nomark _)) (pss_one (ps_err rfl X_WrongSize G_init (hr.mono (by decide)) b_init pass0 (takes_of rfl rfl rfl rfl) (pa_cons (pe_z 0) pa_nil))) pss_nil)
      (pss_cons (ps_set (i := 2) sc_RootCode_codeword.nd rfl (Or.inl rfl) (pe_ix ix_tup (pe_callS G_divide_polys (hr.mono (by decide)) rfl D_divide_polys.g D_divide_polys.F.kp D_divide_polys.b (fun σ => passAt (W := fun cls d _ H => E cls d H) (takes_of rfl rfl rfl rfl) σ) (by exact (pa_cons (pe_fld (pv 0) rfl) (pa_cons (pe_op op_cat (pe_op op_rep (pe_lst (pa_cons (pe_z 0) pa_nil)) (pe_fld (pv 0) rfl)) (pv 1)) (pa_cons (pe_fld (pv 0) rfl) pa_nil))))) (pe_z 1) (fun _ _ => rfl)))
      (pss_one (ps_ret (pe_op op_cat (pe_op op_cat (pv 2) (pe_op op_rep (pe_lst (pa_cons (pe_z 0) pa_nil)) (pe_op op_sub (pe_fld (pv 0) rfl) (pe_callB call_len_seq (by rfl) B.len PySem.boot_len (pa_cons (pv 2) pa_nil))))) (pv 1)))))), fun F0 ER h => by infer_instance, fun F0 as S h => ?_⟩)
  obtain ⟨m, q, r, l, n, first, checks, g, msg, rfl, O, M, nc, n3, c1, hE, ml, h1, h2⟩ := h
  have sl := sizeLine_eq
  have s1 : 1 ≤ sizeLine := by omega
  have FD := O.fd
  have lm := LI_NI_len msg
  have fn : (fsC (FldO CF m q r l) n first checks g).lookup ("n" : Str) = some (.int (n : Int)) := fsC_app _ _ _ _ _ (fsC4_n _ _ _ _)
  have fc : (fsC (FldO CF m q r l) n first checks g).lookup ("checks" : Str) = some (.int (checks : Int)) := fsC_app _ _ _ _ _ (fsC4_checks _ _ _ _)
  have ff : (fsC (FldO CF m q r l) n first checks g).lookup ("field" : Str) = some (FldO CF m q r l) := fsC_app _ _ _ _ _ (fsC4_field _ _ _ _)
  have fg := fsC_gen (FldO CF m q r l) n first checks g
  refine ⟨C, _, _, rfl, T.cl, T.n2, fn, C, _, _, rfl, T.cl, T.n4, fc, brN (fun c1 => ⟨by decide, h1 (by rw [lm] at c1; omega)⟩) fun c1 => ?_⟩
  have e1 : msg.length = n - checks := by rw [lm] at c1; omega
  have hS := h2 e1
  have zr : (List.replicate ((checks : Nat) : Int).toNat [PyData.int 0]).flatten = LI (NI (List.replicate checks 0)) := by
    have := zeros_app [] checks
    rw [show LI (NI []) = ([] : List PyData) from rfl, List.nil_append, List.nil_append] at this
    exact this
  have zc : (List.replicate ((checks : Nat) : Int).toNat [PyData.int 0]).flatten ++ LI (NI msg) = LI (NI (List.replicate checks 0 ++ msg)) := by rw [zr, NI_app]
  refine ⟨C, _, _, rfl, T.cl, T.n1, ff, s1, C, _, _, rfl, T.cl, T.n4, fc, by omega, by omega, ?_, ?_, C, _, _, rfl, T.cl, T.n5, fg, ?_⟩
  · show 1 * ((checks : Nat) : Int).toNat ≤ sizeLine; omega
  · show ((List.replicate ((checks : Nat) : Int).toNat [PyData.int 0]).flatten).length + (LI (NI msg)).length ≤ sizeLine
    rw [zr, LI_NI_len, LI_NI_len, List.length_replicate]; omega
  obtain ⟨R, hR⟩ : ∃ R, R = (dq q 1 g (List.replicate checks 0 ++ msg)).1 := ⟨_, rfl⟩
  obtain ⟨rl, re⟩ := cw_of FD M hE
  rw [← hR] at rl re
  have one := one_lt FD
  have tg : trim g = g := by
    have : tl g = checks + 1 := by
      have h1 := tl_le g
      rw [M.len] at h1
      have h2 : ¬ tl g ≤ checks := fun z => by
        have := (tl_le_iff g checks).mp z checks (Nat.le_refl _)
        rw [M.top] at this; cases this
      omega
    unfold trim
    rw [this, ← M.len, List.take_length]
  refine ⟨fun y => y = .ok (.val (.tuple [.list (LI (NI (dq q 1 g (List.replicate checks 0 ++ msg)).2)), .list (LI (NI R))])), ⟨m, q, r, l, List.replicate checks 0 ++ msg, g, ?_, O, COD.shift_El FD hE, M.el, ?_, by rw [M.len]; omega, fun z => ?_, fun _ v v1 v2 v3 => ?_⟩, ?_⟩
  · show [_, SV.val (.list ((List.replicate ((checks : Nat) : Int).toNat [PyData.int 0]).flatten ++ LI (NI msg))), _] = _
    rw [zc]; rfl
  · rw [List.length_append, List.length_replicate]; omega
  · rw [tg] at z
    have := M.len
    rw [z] at this; cases this
  · rw [tg] at v3
    have ld : lastD g = 1 := by unfold lastD; rw [M.len]; exact M.top
    rw [ld, mulm_one FD v1] at v3
    rw [v3, hR]
  rintro y rfl
  refine ⟨fun z => Bool.noConfusion z, .list (LI (NI R)), rfl, ?_⟩
  dsimp only
  change dRet _ _ [some (.val (CodeO C (FldO CF m q r l) n first checks g)), some (.val (.list (LI (NI msg)))), some (.val (.list (LI (NI R))))]
  have lR := LI_NI_len R
  have ez : (checks : Int) - ((LI (NI R)).length : Int) = ((checks - R.length : Nat) : Int) := by omega
  have zz : (List.replicate ((checks : Int) - ((LI (NI R)).length : Int)).toNat [PyData.int 0]).flatten = LI (NI (List.replicate (checks - R.length) 0)) := by
    rw [ez]
    have := zeros_app [] (checks - R.length)
    rw [show LI (NI []) = ([] : List PyData) from rfl, List.nil_append, List.nil_append] at this
    exact this
  refine ⟨s1, C, _, _, rfl, T.cl, T.n4, fc, ?_, ?_, ?_, ?_, ?_, ?_⟩
  · show (checks : Int) - ((LI (NI R)).length : Int) < 2 ^ 63
    omega
  · show -(2 ^ 63) ≤ (checks : Int) - ((LI (NI R)).length : Int)
    omega
  · show 1 * ((checks : Int) - ((LI (NI R)).length : Int)).toNat ≤ sizeLine
    omega
  · show (LI (NI R)).length + ((List.replicate ((checks : Int) - ((LI (NI R)).length : Int)).toNat [PyData.int 0]).flatten).length ≤ sizeLine
    rw [zz, LI_NI_len, LI_NI_len, List.length_replicate]; omega
  · show (LI (NI R) ++ (List.replicate ((checks : Int) - ((LI (NI R)).length : Int)).toNat [PyData.int 0]).flatten).length + (LI (NI msg)).length ≤ sizeLine
    rw [zz, List.length_append, LI_NI_len, LI_NI_len, LI_NI_len, List.length_replicate]; omega
  · show S (.ok (.own (LI (NI R) ++ (List.replicate ((checks : Int) - ((LI (NI R)).length : Int)).toNat [PyData.int 0]).flatten ++ LI (NI msg))))
    rw [zz, NI_app, NI_app, re]
    exact hS
end
end K20
set_option synthInstance.maxSize 100000
set_option synthInstance.maxHeartbeats 0
namespace K20
open PySem PySem.Spec L2 NB ER MKX DL
abbrev s_check_places : Stmt := top 19
theorem sc_check_places : FnScope ["places", "n", "last", "k", "place"] ["places", "n"] (defScope s_check_places) := ⟨rfl, rfl, rfl, by decide +kernel, rfl, by decide +kernel, by decide +kernel⟩
abbrev s_weights_of : Stmt := top 21
theorem sc_weights_of : FnScope ["field", "first", "points", "point"] ["field", "first", "points"] (defScope s_weights_of) := ⟨rfl, rfl, rfl, by decide +kernel, rfl, by decide +kernel, by decide +kernel⟩
abbrev s__weight : Stmt := top 22
theorem sc__weight : FnScope ["field", "first", "point", "points", "product", "other"] ["field", "first", "point", "points"] (defScope s__weight) := ⟨rfl, rfl, rfl, by decide +kernel, rfl, by decide +kernel, by decide +kernel⟩
section
variable {P : Program} {w : World} {K : PySem.W.Frag} {mg : Str → Option Value} {base : Heap}
variable {f_init : Addr} {fd_init : FuncData} {CH CF C_WrongPlace C_NoInverse : Addr}
open FLD PLY
/-- the place before it -/
def prvP (ps : List Int) (k : Nat) : Int := if k = 0 then -1 else ps.getD (k - 1) 0
def badP (n : Int) (ps : List Int) (k : Nat) (p : Int) : Prop := p ≤ prvP ps k ∨ n ≤ p
/-- the first place that is wrong -/
def PlBad (n : Int) (ps : List Int) (k : Nat) : Prop := ∃ p, ps[k]? = some p ∧ badP n ps k p ∧ ∀ j : Nat, j < k → ∀ u, ps[j]? = some u → ¬ badP n ps j u
def PlOk (n : Int) (ps : List Int) : Prop := ∀ (k : Nat) u, ps[k]? = some u → ¬ badP n ps k u
def rcPlc (C : Addr) : RC := pur fun as S => ∃ (ps : List Int) (n : Int), as = [.val (.list (LI ps)), .val (.int n)] ∧ ps.length ≤ 1000 ∧ (∀ k, PlBad n ps k → S (.er C (k : Int))) ∧ (PlOk n ps → S (.ok (.val .none)))
instance {C : Addr} : MonoR (rcPlc C) := inferInstanceAs (MonoR (pur _))
theorem ok_check_places {f : Addr} {fd : FuncData} (D : Df K mg "check_places" ["places", "n"] s_check_places f fd) (B : Bl mg) (X_WrongPlace : XC K mg "WrongPlace" C_WrongPlace f_init CH) (G_init : FnOk P w K mg base CX0 1 f_init fd_init ["self", "at"] (sp_init K)) (b_init : Binds K fd_init ["self", "at"] []) :
    FnOk P w K mg base (L2.CX P w) 3 f fd ["places", "n"] (spF (rcPlc C_WrongPlace)) := by
  refine okFX D.F sc_check_places (fun F as S h => by obtain ⟨_, _, rfl, _⟩ := h; rfl) (fun cdv A outer s H E hr => ⟨_, _, (pss_cons (ps_set (i := 2) sc_check_places.nd rfl (Or.inl rfl) (pe_un un_neg (pe_z 1)))
      (pss_one (ps_for (passes_of rfl) rfl (pi_enum rfl B.enumerate (pa_cons (pv 0) pa_nil)) (pg_tup rfl (pgs_cons (pg_name (i := 3) sc_check_places.nd rfl (Or.inl rfl) (Or.inr rfl)) (pgs_cons (pg_name (i := 4) sc_check_places.nd rfl (Or.inl rfl) (Or.inr rfl)) pgs_nil)))
        (pss_cons (ps_if (PW.pt (pw_or (pt_cmpR op_le (pv 4) (pv 2) (nomark _)) (pw_or1 (pt_cmpR op_ge (pv 4) (pv 1) (nomark _))))) (pss_one (ps_err rfl X_WrongPlace G_init (hr.mono (by decide)) b_init pass0 (takes_of rfl rfl rfl rfl) (pa_cons (pv 3) pa_nil))) pss_nil)
        (pss_one (ps_set (i := 2) sc_check_places.nd rfl (Or.inl rfl) (pv 4))))))), fun F0 ER h => by infer_instance, fun F0 as S h => ?_⟩)
  obtain ⟨ps, n, rfl, hl, hb, hg⟩ := h
  have sl := sizeLine_eq
  have lp := LI_len ps
  change dSeq _ _ _ (some (.val (.list (LI ps))) :: some (.val (.int n)) :: [none, none, none])
  refine ⟨rfl, fun i σ => ∃ o3 o4 : Option SV, σ = [some (.val (.list (LI ps))), some (.val (.int n)), some (.val (.int (prvP ps i))), o3, o4] ∧ ∀ j : Nat, j < i → ∀ u, ps[j]? = some u → ¬ badP n ps j u, ⟨none, none, rfl, fun j hj => absurd hj (Nat.not_lt_zero _)⟩, ?_, ?_⟩
  · rintro i d σ hd ⟨o3, o4, rfl, hI⟩
    obtain ⟨d2, hd2, rfl⟩ := enumD_at hd
    obtain ⟨z, hz, rfl⟩ := LI_inv hd2
    have hi := (List.getElem?_eq_some_iff.mp hz).1
    have lg : ((i : Int)).natAbs.log2 < 1920 := by
      rw [Int.natAbs_natCast]
      by_cases y : i = 0
      · rw [y]; decide
      · exact Nat.lt_of_lt_of_le ((Nat.log2_lt (k := 40) y).mpr (by omega)) (by decide)
    have bad : badP n ps i z → ((i : Int).natAbs.log2 < 1920 ∧ S (.er C_WrongPlace (i : Int))) := fun h => ⟨lg, hb i ⟨z, hz, h, hI⟩⟩
    refine ⟨rfl, brD (fun c => brT (bad (.inl c))) fun c => brD (fun c2 => bad (.inr c2)) fun c2 => ⟨some (.val (.int (i : Int))), some (.val (.int z)), ?_, fun j hj u hu => ?_⟩⟩
    · have : prvP ps (i + 1) = z := by unfold prvP; rw [if_neg (by omega), Nat.add_sub_cancel, List.getD_eq_getElem?_getD, hz]; rfl
      rw [this]; rfl
    · by_cases e : j = i
      · subst e
        rw [hz] at hu; cases hu
        rintro (y | y)
        · exact c y
        · exact c2 y
      · exact hI j (by omega) u hu
  · rintro σ ⟨o3, o4, rfl, hI⟩
    refine hg fun k u hu => hI k ?_ u hu
    have hl9 : (enumD (LI ps)).length = ps.length := by unfold enumD; rw [List.length_mapIdx, lp]
    rw [hl9]; exact (List.getElem?_eq_some_iff.mp hu).1
def rcWt (CF : Addr) : RC := pur fun as S => ∃ (m q r : Nat) (l : List Nat) (first x : Nat) (X : List Nat), as = [.val (FldO CF m q r l), .val (.int (first : Int)), .val (.int (x : Int)), .val (.list (LI (NI X)))] ∧ FldOk m q r l ∧ x < 2 ^ m ∧ x ≠ 0 ∧ first < 2 ^ 20 ∧ COD.El m X ∧
  ∀ w, w < 2 ^ m → mulm q (mulm q (pw q x first) (ev q x (COD.frs q (COD.others X x)))) w = 1 → S (.ok (.val (.int (w : Int))))
instance {CF : Addr} : MonoR (rcWt CF) := inferInstanceAs (MonoR (pur _))
theorem others_take {X : List Nat} {x i y : Nat} (h : X[i]? = some y) : COD.others (X.take (i + 1)) x = if y = x then COD.others (X.take i) x else COD.others (X.take i) x ++ [y] := by
  unfold COD.others
  rw [List.take_add_one, h, List.filter_append]
  show _ ++ List.filter _ [y] = _
  by_cases e : y = x
  · rw [if_pos e, List.filter_cons_of_neg (by simp [e])]; simp
  · rw [if_neg e, List.filter_cons_of_pos (by simp [e])]; rfl
theorem ok__weight {f f_Field_power f_Field_times f_Field_add f_Field_inverse : Addr} {fd fd_Field_power fd_Field_times fd_Field_add fd_Field_inverse : FuncData} (D : Df K mg "_weight" ["field", "first", "point", "points"] s__weight f fd) (B : Bl mg) (K_Field : Cls K CF) (T : FK K CF)
    (M_Field_power : Meth K CF "power" f_Field_power) (b_Field_power : Binds K fd_Field_power ["self", "e", "k"] []) (G_Field_power : FnOk P w K mg base (L2.CX P w) 4 f_Field_power fd_Field_power ["self", "e", "k"] (spF (rcFPow CF)))
    (M_Field_times : Meth K CF "times" f_Field_times) (b_Field_times : Binds K fd_Field_times ["self", "e", "f"] []) (G_Field_times : FnOk P w K mg base CX0 1 f_Field_times fd_Field_times ["self", "e", "f"] (spF (rcFTimes CF)))
    (M_Field_add : Meth K CF "add" f_Field_add) (b_Field_add : Binds K fd_Field_add ["self", "e", "f"] []) (G_Field_add : FnOk P w K mg base CX0 1 f_Field_add fd_Field_add ["self", "e", "f"] (spF (rcFAdd CF)))
    (M_Field_inverse : Meth K CF "inverse" f_Field_inverse) (b_Field_inverse : Binds K fd_Field_inverse ["self", "e"] []) (G_Field_inverse : FnOk P w K mg base (L2.CX P w) 4 f_Field_inverse fd_Field_inverse ["self", "e"] (spF (rcFInv CF C_NoInverse))) :
    FnOk P w K mg base CX0 6 f fd ["field", "first", "point", "points"] (spF (rcWt CF)) := by
  refine okF D.F sc__weight (fun F as S h => by obtain ⟨_, _, _, _, _, _, _, rfl, _⟩ := h; rfl) (fun cdv A outer s H E hr => ⟨_, _, (pss_cons (ps_set (i := 4) sc__weight.nd rfl (Or.inl rfl) (pe_meth (pv 0) K_Field M_Field_power G_Field_power (hr.mono (by decide)) b_Field_power .nil passL (by exact (pa_cons (pv 2) (pa_cons (pv 1) pa_nil)))))
      (pss_cons (ps_for PassesOwn.never rfl (pi_list (pv 3)) (pg_name (i := 5) sc__weight.nd rfl (Or.inl rfl) (Or.inr rfl))
        (pss_one (ps_if (pt_cmpR op_ne (pv 5) (pv 2) (nomark _)) (pss_one (ps_set (i := 4) sc__weight.nd rfl (Or.inl rfl) (pe_meth (pv 0) K_Field M_Field_times G_Field_times (hr.mono (by decide)) b_Field_times .nil pass00 (by exact (pa_cons (pv 4) (pa_cons (pe_meth (pv 0) K_Field M_Field_add G_Field_add (hr.mono (by decide)) b_Field_add .nil pass00 (by exact (pa_cons (pv 2) (pa_cons (pv 5) pa_nil)))) pa_nil)))))) pss_nil)))
      (pss_one (ps_ret (pe_meth (pv 0) K_Field M_Field_inverse G_Field_inverse (hr.mono (by decide)) b_Field_inverse .nil passL (by exact (pa_cons (pv 4) pa_nil))))))), fun F0 => by infer_instance, fun F0 as S h => ?_⟩)
  obtain ⟨m, q, r, l, first, x, X, rfl, O, hx, hx0, hf, hX, hS⟩ := h
  have sl := sizeLine_eq
  have F := O.fd
  have pl := pw_lt F x first
  refine ⟨_, rfl, fsF_no m q r l, fun y => y = .ok (.val (.int ((pw q x first : Nat) : Int))), ⟨m, q, r, l, x, first, rfl, O, hx, hf, rfl⟩, ?_⟩
  rintro y rfl
  refine ⟨fun _ => rfl, ?_⟩
  refine ⟨rfl, fun i σ => ∃ o5 : Option SV, σ = [some (.val (FldO CF m q r l)), some (.val (.int (first : Int))), some (.val (.int (x : Int))), some (.val (.list (LI (NI X)))), some (.val (.int ((mulm q (pw q x first) (ev q x (COD.frs q (COD.others (X.take i) x))) : Nat) : Int))), o5], ⟨none, ?_⟩, ?_, ?_⟩
  · have : mulm q (pw q x first) (ev q x (COD.frs q (COD.others (X.take 0) x))) = pw q x first := by
      show mulm q (pw q x first) (mulm q 0 x ^^^ 1) = _
      rw [zero_mulm F, Nat.zero_xor, mulm_one F pl]
    rw [this]; rfl
  · rintro i d σ hd ⟨o5, rfl⟩
    obtain ⟨z, hz, rfl⟩ := LI_inv hd
    obtain ⟨y, hy, rfl⟩ : ∃ y, X[i]? = some y ∧ z = (y : Int) := by
      unfold NI at hz
      rw [List.getElem?_map] at hz
      cases e : X[i]? with
      | none => rw [e] at hz; cases hz
      | some y => rw [e] at hz; cases hz; exact ⟨y, rfl, rfl⟩
    have hyl : y < 2 ^ m := hX y (List.mem_of_getElem? hy)
    have ho := others_take (x := x) hy
    have hEl : COD.El m (COD.others (X.take i) x) := fun a ha => hX a (List.mem_of_mem_take (COD.others_mem.mp ha).1)
    refine brN (fun c => ?_) fun c => ⟨some (.val (.int (y : Int))), ?_⟩
    · have c : ¬ (y : Int) = (x : Int) := c
      rw [if_neg (show ¬ y = x by omega)] at ho
      refine ⟨_, rfl, fsF_no m q r l, _, rfl, fsF_no m q r l, fun w => w = .ok (.val (.int ((x ^^^ y : Nat) : Int))), ⟨m, q, r, l, x, y, rfl, rfl⟩, ?_⟩
      rintro w rfl
      refine ⟨fun _ => rfl, fun w => w = .ok (.val (.int ((mulm q (mulm q (pw q x first) (ev q x (COD.frs q (COD.others (X.take i) x)))) (x ^^^ y) : Nat) : Int))), ⟨m, q, r, l, _, _, rfl, O, mulm_lt F _ _, Nat.xor_lt_two_pow hx hyl, rfl⟩, ?_⟩
      rintro w rfl
      refine ⟨fun _ => rfl, some (.val (.int (y : Int))), ?_⟩
      rw [ho, COD.ev_frs_more F hx, ← mulm_assoc F]; rfl
    · have c : (y : Int) = (x : Int) := c
      rw [if_pos (show y = x by omega)] at ho
      rw [ho]; rfl
  · rintro σ ⟨o5, rfl⟩
    have hEl : COD.El m (COD.others X x) := fun a ha => hX a (COD.others_mem.mp ha).1
    have e0 : ev q x (COD.frs q (COD.others X x)) ≠ 0 := COD.ev_frs_ne F hx _ _ rfl hEl fun h => (COD.others_mem.mp h).2 rfl
    have el : ev q x (COD.frs q (COD.others X x)) < 2 ^ m := ev_lt F (COD.frs_mon F _ _ rfl hEl).el
    have pn := mulm_ne F pl el (pw_ne F hx hx0 first) e0
    rw [LI_NI_len, List.take_length]
    refine ⟨_, rfl, fsF_no m q r l, fun w => ∃ b, b < 2 ^ m ∧ mulm q (mulm q (pw q x first) (ev q x (COD.frs q (COD.others X x)))) b = 1 ∧ w = .ok (.val (.int (b : Int))), ⟨m, q, r, l, _, rfl, O, mulm_lt F _ _, fun z => absurd z pn, fun b hb h1 => ⟨b, hb, h1, rfl⟩⟩, ?_⟩
    rintro w ⟨b, hb, h1, rfl⟩
    exact ⟨fun _ => rfl, hS b hb h1⟩
/-- the inverse -/
def invq (m q a : Nat) : Nat := pw q a (2 ^ m - 2)
theorem invq_lt {m q : Nat} (F : Fd m q) (a : Nat) : invq m q a < 2 ^ m := pw_lt F _ _
theorem invq_ok {m q a r : Nat} (F : Fd m q) (R : IsRoot m q r) (h : a < 2 ^ m) (h0 : a ≠ 0) : mulm q a (invq m q a) = 1 := by
  have p4 := (pow_mF F).1
  have := pw_all F R h0 h
  rw [show 2 ^ m - 1 = (2 ^ m - 2) + 1 by omega, pw_succ] at this
  rw [mulm_comm]; exact this
theorem inv_uniq {m q a b r : Nat} (F : Fd m q) (R : IsRoot m q r) (h : a < 2 ^ m) (h0 : a ≠ 0) (hb : b < 2 ^ m) (e : mulm q a b = 1) : b = invq m q a := by
  refine mulm_cancel F hb (invq_lt F a) h h0 ?_
  rw [mulm_comm, e, mulm_comm, invq_ok F R h h0]
/-- the weight of a point -/
def wtv (m q first : Nat) (X : List Nat) (x : Nat) : Nat := invq m q (mulm q (pw q x first) (ev q x (COD.frs q (COD.others X x))))
theorem wt_ne {m q : Nat} (F : Fd m q) {X : List Nat} (hX : COD.El m X) {x : Nat} (hx : x < 2 ^ m) (hx0 : x ≠ 0) (first : Nat) : mulm q (pw q x first) (ev q x (COD.frs q (COD.others X x))) ≠ 0 := by
  have hEl : COD.El m (COD.others X x) := fun a ha => hX a (COD.others_mem.mp ha).1
  exact mulm_ne F (pw_lt F x first) (ev_lt F (COD.frs_mon F _ _ rfl hEl).el) (pw_ne F hx hx0 first) (COD.ev_frs_ne F hx _ _ rfl hEl fun h => (COD.others_mem.mp h).2 rfl)
def rcWts (CF : Addr) : RC := pur fun as S => ∃ (m q r : Nat) (l : List Nat) (first : Nat) (X : List Nat), as = [.val (FldO CF m q r l), .val (.int (first : Int)), .val (.list (LI (NI X)))] ∧ FldOk m q r l ∧ first < 2 ^ 20 ∧ COD.El m X ∧ (∀ x ∈ X, x ≠ 0) ∧ X.length ≤ 1000 ∧ S (.ok (.own (LI (NI (X.map (wtv m q first X))))))
instance {CF : Addr} : MonoR (rcWts CF) := inferInstanceAs (MonoR (pur _))
theorem ok_weights_of {f f__weight : Addr} {fd fd__weight : FuncData} (D : Df K mg "weights_of" ["field", "first", "points"] s_weights_of f fd) (B : Bl mg)
    (D__weight : Df K mg "_weight" ["field", "first", "point", "points"] s__weight f__weight fd__weight) (G__weight : FnOk P w K mg base CX0 6 f__weight fd__weight ["field", "first", "point", "points"] (spF (rcWt CF))) :
    FnOk P w K mg base CX0 8 f fd ["field", "first", "points"] (spF (rcWts CF)) := by
  refine okF D.F sc_weights_of (fun F as S h => by obtain ⟨_, _, _, _, _, _, rfl, _⟩ := h; rfl) (fun cdv A outer s H E hr => ⟨_, _, (pss_one (ps_ret (pe_lc (own := [("point", 3)]) rfl sc_weights_of.nd (pi_list (pv 2)) (blkOk_by (own := [("point", 3)]) (N := ["field", "first", "points", "point"]) (sc := defScope s_weights_of) (by decide +kernel)) (fun _ _ _ _ _ => (pg_name (i := 3) sc_weights_of.nd rfl (Or.inl rfl) (Or.inr rfl))) (fun _ _ _ _ _ => pts_nil) (fun _ _ _ _ _ => (pe_call G__weight (hr.mono (by decide)) rfl D__weight.g D__weight.F.kp D__weight.b .nil pass00 (pa_cons (pv 0) (pa_cons (pv 1) (pa_cons (pv 3) (pa_cons (pv 2) pa_nil))))))))), fun F0 => by infer_instance, fun F0 as S h => ?_⟩)
  obtain ⟨m, q, r, l, first, X, rfl, O, hf, hX, h0, hl, hS⟩ := h
  have sl := sizeLine_eq
  have F := O.fd
  refine ⟨rfl, fun i acc => acc = LI (NI ((X.take i).map (wtv m q first X))), rfl, ?_, ?_⟩
  · rintro i d acc hd rfl
    obtain ⟨z, hz, rfl⟩ := LI_inv hd
    obtain ⟨x, hx, rfl⟩ : ∃ y, X[i]? = some y ∧ z = (y : Int) := by
      unfold NI at hz
      rw [List.getElem?_map] at hz
      cases e : X[i]? with
      | none => rw [e] at hz; cases hz
      | some y => rw [e] at hz; cases hz; exact ⟨y, rfl, rfl⟩
    have xm := List.mem_of_getElem? hx
    have hi := (List.getElem?_eq_some_iff.mp hx).1
    refine brT ⟨fun y => y = .ok (.val (.int ((wtv m q first X x : Nat) : Int))), ⟨m, q, r, l, first, x, X, rfl, O, hX x xm, h0 x xm, hf, hX, fun w hw e => ?_⟩, ?_⟩
    · rw [inv_uniq F O.lr.1 (mulm_lt F _ _) (wt_ne F hX (hX x xm) (h0 x xm) first) hw e]; rfl
    rintro y rfl
    refine ⟨fun _ => rfl, by rw [LI_NI_len, List.length_map, List.length_take]; omega, ?_⟩
    show _ ++ LI (NI [wtv m q first X x]) = _
    rw [NI_app, List.take_add_one, hx, List.map_append]; rfl
  · rintro acc hacc
    have hacc : acc = LI (NI ((X.take (LI (NI X)).length).map (wtv m q first X))) := hacc
    rw [LI_NI_len, List.take_length] at hacc
    rw [hacc]
    exact hS
end
end K20
set_option synthInstance.maxSize 100000
set_option synthInstance.maxHeartbeats 0
namespace K20
open PySem PySem.Spec L2 NB ER MKX DL
abbrev s_RootCode_word_on : Stmt := inClass (top 24) 5
theorem sc_RootCode_word_on : FnScope ["self", "places", "points", "weights", "scale", "word", "k", "place"] ["self", "places"] (defScope s_RootCode_word_on) := ⟨rfl, rfl, rfl, by decide +kernel, rfl, by decide +kernel, by decide +kernel⟩
section
variable {P : Program} {w : World} {K : PySem.W.Frag} {mg : Str → Option Value} {base : Heap}
variable {f_init : Addr} {fd_init : FuncData} {CH C CF C_WrongSize C_WrongPlace C_NoInverse : Addr}
open FLD PLY
/-- the word on these places -/
def wordV (m q r n first : Nat) (pl : List Nat) : List Nat := pl.foldl (fun w p => w.set p (mulm q (invq m q (wtv m q first (pl.map (pw q r)) (pw q r (pl.headD 0)))) (wtv m q first (pl.map (pw q r)) (pw q r p)))) (List.replicate n 0)
def rcWo (C CF CW CP : Addr) : RC := pur fun as S => ∃ (m q r : Nat) (l : List Nat) (n first checks : Nat) (g : List Nat) (ps : List Int), as = [.val (CodeO C (FldO CF m q r l) n first checks g), .val (.list (LI ps))] ∧ FldOk m q r l ∧ checks ≤ n ∧ n ≤ 300 ∧ first < 2 ^ 20 ∧ ps.length ≤ 1000 ∧
  (ps.length ≠ checks + 1 → S (.er CW 0)) ∧ (ps.length = checks + 1 → ∀ k, PlBad (n : Int) ps k → S (.er CP (k : Int))) ∧ (ps.length = checks + 1 → PlOk (n : Int) ps → ∃ pl : List Nat, ps = NI pl ∧ S (.ok (.own (LI (NI (wordV m q r n first pl))))))
instance {C CF CW CP : Addr} : MonoR (rcWo C CF CW CP) := inferInstanceAs (MonoR (pur _))
theorem ok_RootCode_word_on {f f_Field_root f_Field_power f_Field_times f_Field_inverse f_check_places f_weights_of : Addr} {fd fd_Field_root fd_Field_power fd_Field_times fd_Field_inverse fd_check_places fd_weights_of : FuncData} (F : Fun K "word_on" "RootCode.word_on" s_RootCode_word_on f fd) (T : CK K C) (B : Bl mg) (K_Field : Cls K CF)
    (M_Field_root : Meth K CF "root" f_Field_root) (b_Field_root : Binds K fd_Field_root ["self"] []) (G_Field_root : FnOk P w K mg base CX0 1 f_Field_root fd_Field_root ["self"] (spF (rcFRoot CF)))
    (M_Field_power : Meth K CF "power" f_Field_power) (b_Field_power : Binds K fd_Field_power ["self", "e", "k"] []) (G_Field_power : FnOk P w K mg base (L2.CX P w) 4 f_Field_power fd_Field_power ["self", "e", "k"] (spF (rcFPow CF)))
    (M_Field_times : Meth K CF "times" f_Field_times) (b_Field_times : Binds K fd_Field_times ["self", "e", "f"] []) (G_Field_times : FnOk P w K mg base CX0 1 f_Field_times fd_Field_times ["self", "e", "f"] (spF (rcFTimes CF)))
    (M_Field_inverse : Meth K CF "inverse" f_Field_inverse) (b_Field_inverse : Binds K fd_Field_inverse ["self", "e"] []) (G_Field_inverse : FnOk P w K mg base (L2.CX P w) 4 f_Field_inverse fd_Field_inverse ["self", "e"] (spF (rcFInv CF C_NoInverse)))
    (D_check_places : Df K mg "check_places" ["places", "n"] s_check_places f_check_places fd_check_places) (G_check_places : FnOk P w K mg base (L2.CX P w) 3 f_check_places fd_check_places ["places", "n"] (spF (rcPlc C_WrongPlace)))
    (D_weights_of : Df K mg "weights_of" ["field", "first", "points"] s_weights_of f_weights_of fd_weights_of) (G_weights_of : FnOk P w K mg base CX0 8 f_weights_of fd_weights_of ["field", "first", "points"] (spF (rcWts CF)))
    (X_WrongSize : XC K mg "WrongSize" C_WrongSize f_init CH) (G_init : FnOk P w K mg base CX0 1 f_init fd_init ["self", "at"] (sp_init K)) (b_init : Binds K fd_init ["self", "at"] []) :
    FnOk P w K mg base (L2.CX P w) 10 f fd ["self", "places"] (spF (rcWo C CF C_WrongSize C_WrongPlace)) := by
  refine okFX F sc_RootCode_word_on (fun F as S h => by obtain ⟨_, _, _, _, _, _, _, _, _, rfl, _⟩ := h; rfl) (fun cdv A outer s H E hr => ⟨_, _, (pss_cons (ps_if (pt_cmpR op_ne (pe_callB call_len_seq (by rfl) B.len PySem.boot_len (pa_cons (pv 1) pa_nil)) (pe_op op_add (pe_fld (pv 0) rfl) (pe_z 1)) (nomark _)) (pss_one (ps_err rfl X_WrongSize G_init (hr.mono (by decide)) b_init pass0 (takes_of rfl rfl rfl rfl) (pa_cons (pe_z 0) pa_nil))) pss_nil)
      (pss_cons (ps_expr (pe_callS G_check_places (hr.mono (by decide)) rfl D_check_places.g D_check_places.F.kp D_check_places.b (fun σ => passAt (W := fun cls d _ H => E cls d H) (takes_of rfl rfl rfl rfl) σ) (by exact (pa_cons (pv 1) (pa_cons (pe_fld (pv 0) rfl) pa_nil)))))
      (pss_cons (ps_setLc (i := 2) (own := [("place", 7)]) rfl sc_RootCode_word_on.nd rfl rfl (sw_true rfl rfl rfl (by decide +kernel)) (pi_list (pv 1)) (blkOk_by (own := [("place", 7)]) (N := ["self", "places", "points", "weights", "scale", "word", "k", "place"]) (sc := defScope s_RootCode_word_on) (by decide +kernel)) (fun _ _ _ _ _ => (pg_name (i := 7) sc_RootCode_word_on.nd rfl (Or.inl rfl) (Or.inr rfl))) (fun _ _ _ _ _ => pts_nil) (fun _ _ _ _ _ => (pe_meth (pe_fldK (K := K) (by rfl) (pe_fld (pv 0) rfl)) K_Field M_Field_power G_Field_power (hr.mono (by decide)) b_Field_power .nil passL (by exact (pa_cons (pe_meth0 (pe_fldK (K := K) (by rfl) (pe_fld (pv 0) rfl)) K_Field M_Field_root G_Field_root (hr.mono (by decide)) b_Field_root .nil pass00) (pa_cons (pv 7) pa_nil))))))
      (pss_cons (ps_set (i := 3) sc_RootCode_word_on.nd rfl (Or.inl rfl) (pe_call G_weights_of (hr.mono (by decide)) rfl D_weights_of.g D_weights_of.F.kp D_weights_of.b .nil pass00 (pa_cons (pe_fld (pv 0) rfl) (pa_cons (pe_fld (pv 0) rfl) (pa_cons (pv 2) pa_nil)))))
      (pss_cons (ps_set (i := 4) sc_RootCode_word_on.nd rfl (Or.inl rfl) (pe_mtS (pe_fld (pv 0) rfl) K_Field M_Field_inverse G_Field_inverse (hr.mono (by decide)) b_Field_inverse (fun σ => passAt (W := fun cls d _ H => E cls d H) (takes_of rfl rfl rfl rfl) σ) (by exact (pa_cons (pe_ix ix_list (pv 3) (pe_z 0) (fun _ _ => rfl)) pa_nil))))
      (pss_cons (ps_set (i := 5) sc_RootCode_word_on.nd rfl (Or.inl rfl) (pe_op op_rep (pe_lst (pa_cons (pe_z 0) pa_nil)) (pe_fld (pv 0) rfl)))
      (pss_cons (ps_for (passes_of rfl) rfl (pi_enum rfl B.enumerate (pa_cons (pv 1) pa_nil)) (pg_tup rfl (pgs_cons (pg_name (i := 6) sc_RootCode_word_on.nd rfl (Or.inl rfl) (Or.inr rfl)) (pgs_cons (pg_name (i := 7) sc_RootCode_word_on.nd rfl (Or.inl rfl) (Or.inr rfl)) pgs_nil)))
        (pss_one (ps_asg (pe_meth (pe_fld (pv 0) rfl) K_Field M_Field_times G_Field_times (hr.mono (by decide)) b_Field_times .nil pass00 (by exact (pa_cons (pv 4) (pa_cons (pe_ix ix_list (pv 3) (pv 6) (fun _ _ => rfl)) pa_nil)))) (pg_sub (pv 5) (pv 7) set_list))))
      (pss_one (ps_ret (pv 5)))))))))), fun F0 ER h => by infer_instance, fun F0 as S h => ?_⟩)
  obtain ⟨m, q, r, l, n, first, checks, g, ps, rfl, O, nc, n3, f9, hl, h1, h2, h3⟩ := h
  have sl := sizeLine_eq
  have s1 : 1 ≤ sizeLine := by omega
  have FD := O.fd
  have lp := LI_len ps
  have fn : (fsC (FldO CF m q r l) n first checks g).lookup ("n" : Str) = some (.int (n : Int)) := fsC_app _ _ _ _ _ (fsC4_n _ _ _ _)
  have fc : (fsC (FldO CF m q r l) n first checks g).lookup ("checks" : Str) = some (.int (checks : Int)) := fsC_app _ _ _ _ _ (fsC4_checks _ _ _ _)
  have ff : (fsC (FldO CF m q r l) n first checks g).lookup ("field" : Str) = some (FldO CF m q r l) := fsC_app _ _ _ _ _ (fsC4_field _ _ _ _)
  have fi : (fsC (FldO CF m q r l) n first checks g).lookup ("first" : Str) = some (.int (first : Int)) := fsC_app _ _ _ _ _ (fsC4_first _ _ _ _)
  refine ⟨C, _, _, rfl, T.cl, T.n4, fc, brN (fun c => ?_) fun c => ?_⟩
  · have c : ¬ ((LI ps).length : Int) = (checks : Int) + 1 := c
    rw [lp] at c
    exact ⟨by decide, h1 (by omega)⟩
  · have c : ((LI ps).length : Int) = (checks : Int) + 1 := c
    rw [lp] at c
    have c : ps.length = checks + 1 := by omega
    refine ⟨C, _, _, rfl, T.cl, T.n2, fn, fun y => (∃ k, PlBad (n : Int) ps k ∧ y = .er C_WrongPlace (k : Int)) ∨ (PlOk (n : Int) ps ∧ y = .ok (.val .none)), ⟨ps, (n : Int), rfl, hl, fun k h => .inl ⟨k, h, rfl⟩, fun h => .inr ⟨h, rfl⟩⟩, ?_⟩
    rintro y (⟨k, hk, rfl⟩ | ⟨hok, rfl⟩)
    · exact h2 c k hk
    obtain ⟨pl, rfl, hS⟩ := h3 c hok
    rw [NI_len] at c hl
    have atN : ∀ {i : Nat} {z : Int}, (NI pl)[i]? = some z → ∃ p, pl[i]? = some p ∧ z = (p : Int) := fun {i z} hz => by
      unfold NI at hz
      rw [List.getElem?_map] at hz
      cases e : pl[i]? with
      | none => rw [e] at hz; cases hz
      | some y => rw [e] at hz; cases hz; exact ⟨y, rfl, rfl⟩
    have pn : ∀ p ∈ pl, p < n := fun p hp => by
      obtain ⟨i, hi⟩ := List.mem_iff_getElem?.mp hp
      have : (NI pl)[i]? = some (p : Int) := by unfold NI; rw [List.getElem?_map, hi]; rfl
      have := hok i (p : Int) this
      unfold badP at this
      omega
    obtain ⟨X, hX⟩ : ∃ X, X = pl.map (pw q r) := ⟨_, rfl⟩
    have Xl : X.length = checks + 1 := by rw [hX, List.length_map, c]
    have Xe : COD.El m X := fun a ha => by rw [hX] at ha; obtain ⟨p, _, rfl⟩ := List.mem_map.mp ha; exact pw_lt FD r p
    have r0' := r0 FD O.lr.1
    have X0 : ∀ x ∈ X, x ≠ 0 := fun a ha => by rw [hX] at ha; obtain ⟨p, _, rfl⟩ := List.mem_map.mp ha; exact pw_ne FD O.lr.1.lt r0' p
    refine ⟨fun _ => rfl, rfl, fun i acc => acc = LI (NI ((pl.take i).map (pw q r))), rfl, ?_, ?_⟩
    · rintro i d acc hd rfl
      obtain ⟨z, hz, rfl⟩ := LI_inv hd
      obtain ⟨p, hp, rfl⟩ := atN hz
      have hpn := pn p (List.mem_of_getElem? hp)
      have hi := (List.getElem?_eq_some_iff.mp hp).1
      refine brT ⟨C, _, _, rfl, T.cl, T.n1, ff, _, rfl, fsF_no m q r l, C, _, _, rfl, T.cl, T.n1, ff, _, rfl, fsF_no m q r l, fun y => y = .ok (.val (.int (r : Int))), ⟨m, q, r, l, rfl, O, rfl⟩, ?_⟩
      rintro y rfl
      refine ⟨fun _ => rfl, fun y => y = .ok (.val (.int ((pw q r p : Nat) : Int))), ⟨m, q, r, l, r, p, rfl, O, O.lr.1.lt, by omega, rfl⟩, ?_⟩
      rintro y rfl
      refine ⟨fun _ => rfl, by rw [LI_NI_len, List.length_map, List.length_take]; omega, ?_⟩
      show _ ++ LI (NI [pw q r p]) = _
      rw [NI_app, List.take_add_one, hp, List.map_append]; rfl
    rintro acc hacc
    have hacc : acc = LI (NI X) := by
      have h : acc = LI (NI ((pl.take (LI (NI pl)).length).map (pw q r))) := hacc
      rw [LI_NI_len, List.take_length, ← hX] at h; exact h
    rw [hacc]
    refine .inr ?_
    refine ⟨C, _, _, rfl, T.cl, T.n1, ff, C, _, _, rfl, T.cl, T.n3, fi, fun y => y = .ok (.own (LI (NI (X.map (wtv m q first X))))), ⟨m, q, r, l, first, X, rfl, O, f9, Xe, X0, by omega, rfl⟩, ?_⟩
    rintro y rfl
    refine ⟨fun _ => LI_flatD _, .inr ?_⟩
    obtain ⟨p0, pr, hpl⟩ : ∃ p0 pr, pl = p0 :: pr := by
      cases pl with
      | nil => simp at c
      | cons a b => exact ⟨a, b, rfl⟩
    obtain ⟨x0, hx0⟩ : ∃ x0, x0 = pw q r p0 := ⟨_, rfl⟩
    have x0m : x0 ∈ X := by rw [hX, hpl, hx0]; exact List.mem_cons_self
    have w0n : wtv m q first X x0 ≠ 0 := fun z => by
      have := invq_ok FD O.lr.1 (mulm_lt FD _ _) (wt_ne FD Xe (Xe x0 x0m) (X0 x0 x0m) first)
      unfold wtv at z
      rw [z, mulm_zero FD] at this; cases this
    have w0l : wtv m q first X x0 < 2 ^ m := invq_lt FD _
    have wl : (X.map (wtv m q first X)).length = checks + 1 := by rw [List.length_map, Xl]
    have wat : ∀ {i p : Nat}, pl[i]? = some p → atI (LI (NI (X.map (wtv m q first X)))) (i : Int) = some (.int ((wtv m q first X (pw q r p) : Nat) : Int)) := fun {i p} h => by
      refine atI_nat ?_
      have hi := (List.getElem?_eq_some_iff.mp h).1
      rw [NI_getI (by omega), List.getD_eq_getElem?_getD, List.getElem?_map, hX, List.getElem?_map, h]; rfl
    obtain ⟨sc, hsc⟩ : ∃ sc, sc = invq m q (wtv m q first X x0) := ⟨_, rfl⟩
    have scl : sc < 2 ^ m := by rw [hsc]; exact invq_lt FD _
    have h0 : pl[0]? = some p0 := by rw [hpl]; rfl
    have w00 := wat h0
    rw [← hx0] at w00
    refine ⟨C, _, _, rfl, T.cl, T.n1, ff, _, rfl, fsF_no m q r l, _, w00, fun y => y = .ok (.val (.int (sc : Int))), ⟨m, q, r, l, _, rfl, O, w0l, fun z => absurd z w0n, fun b hb e => by rw [inv_uniq FD O.lr.1 w0l w0n hb e, hsc]⟩, ?_⟩
    rintro y rfl
    refine ⟨fun _ => rfl, s1, C, _, _, rfl, T.cl, T.n2, fn, by omega, by omega, (by show 1 * ((n : Nat) : Int).toNat ≤ sizeLine; omega), .inl ?_⟩
    have zr : (List.replicate ((n : Nat) : Int).toNat [PyData.int 0]).flatten = LI (NI (List.replicate n 0)) := by
      have := zeros_app [] n
      rw [show LI (NI []) = ([] : List PyData) from rfl, List.nil_append, List.nil_append] at this
      exact this
    rw [zr]
    let W : List Nat → List Nat := fun l => l.foldl (fun w p => w.set p (mulm q sc (wtv m q first X (pw q r p)))) (List.replicate n 0)
    have Wl : ∀ l, (W l).length = n := fun l => by
      have : ∀ (l : List Nat) (a : List Nat), (l.foldl (fun w p => w.set p (mulm q sc (wtv m q first X (pw q r p)))) a).length = a.length := fun l => by
        induction l with
        | nil => exact fun a => rfl
        | cons x l ih => exact fun a => by rw [List.foldl_cons, ih, List.length_set]
      exact (this l _).trans List.length_replicate
    refine ⟨rfl, fun i σ => ∃ o6 o7 : Option SV, σ = [some (.val (CodeO C (FldO CF m q r l) n first checks g)), some (.val (.list (LI (NI pl)))), some (.val (.list (LI (NI X)))), some (.val (.list (LI (NI (X.map (wtv m q first X)))))), some (.val (.int (sc : Int))), some (.own (LI (NI (W (pl.take i))))), o6, o7], ⟨none, none, rfl⟩, ?_, ?_⟩
    · rintro i d σ hd ⟨o6, o7, rfl⟩
      obtain ⟨d2, hd2, rfl⟩ := enumD_at hd
      obtain ⟨z, hz, rfl⟩ := LI_inv hd2
      obtain ⟨p, hp, rfl⟩ := atN hz
      have hpn := pn p (List.mem_of_getElem? hp)
      refine ⟨rfl, C, _, _, rfl, T.cl, T.n1, ff, _, rfl, fsF_no m q r l, _, wat hp, fun y => y = .ok (.val (.int ((mulm q sc (wtv m q first X (pw q r p)) : Nat) : Int))), ⟨m, q, r, l, _, _, rfl, O, scl, invq_lt FD _, rfl⟩, ?_⟩
      rintro y rfl
      refine ⟨fun _ => rfl, p, ?_, some (.val (.int (i : Int))), some (.val (.int (p : Int))), ?_⟩
      · rw [LI_NI_len, Wl]; exact ixN_nat hpn
      · have e : LI (NI (W (pl.take (i + 1)))) = (LI (NI (W (pl.take i)))).set p (.int ((mulm q sc (wtv m q first X (pw q r p)) : Nat) : Int)) := by
          rw [List.take_add_one, hp]
          show LI (NI (List.foldl _ _ (pl.take i ++ [p]))) = _
          rw [List.foldl_append]
          show LI (NI ((W (pl.take i)).set p _)) = _
          unfold LI NI
          rw [List.map_set, List.map_set]
        rw [e]; rfl
    · rintro σ ⟨o6, o7, rfl⟩
      have el : (enumD (LI (NI pl))).length = pl.length := by unfold enumD; rw [List.length_mapIdx, LI_NI_len]
      rw [el, List.take_length]
      have : W pl = wordV m q r n first pl := by
        show List.foldl _ _ pl = List.foldl _ _ pl
        rw [hsc, hx0, hX, hpl]; rfl
      rw [this]
      exact hS
end
end K20
set_option synthInstance.maxSize 100000
set_option synthInstance.maxHeartbeats 0
namespace K20
open PySem PySem.Spec L2 NB ER MKX DL
section
open FLD PLY
theorem setW_ev {m q x : Nat} (F : Fd m q) {co : Nat → Nat} (hc : ∀ p, co p < 2 ^ m) : ∀ (l a : List Nat), l.Nodup → (∀ p ∈ l, a[p]? = some 0) → ev q x (l.foldl (fun w p => w.set p (co p)) a) = ev q x a ^^^ COD.sumX (fun p => mulm q (co p) (pw q x p)) l
  | [], a, _, _ => (Nat.xor_zero _).symm
  | p :: l, a, nd, h => by
    obtain ⟨np, nd'⟩ := List.nodup_cons.mp nd
    have e := ev_set F (x := x) (hc p) (t := a) (k := p) (d := 0) (h p List.mem_cons_self)
    rw [Nat.zero_xor] at e
    rw [List.foldl_cons, setW_ev F hc l _ nd' fun p2 h2 => by
      rw [List.getElem?_set_ne (fun z => np (by rw [z]; exact h2))]
      exact h p2 (List.mem_cons_of_mem _ h2), e, Nat.xor_assoc]
    rfl
theorem setW_at {co : Nat → Nat} : ∀ (l a : List Nat), l.Nodup → (∀ p ∈ l, p < a.length) → ∀ i, (l.foldl (fun w p => w.set p (co p)) a).getD i 0 = if i ∈ l then co i else a.getD i 0
  | [], a, _, _, i => by rw [if_neg (by simp)]; rfl
  | p :: l, a, nd, h, i => by
    obtain ⟨np, nd'⟩ := List.nodup_cons.mp nd
    rw [List.foldl_cons, setW_at l _ nd' (fun p2 h2 => by rw [List.length_set]; exact h p2 (List.mem_cons_of_mem _ h2)) i]
    by_cases e : i = p
    · subst e
      rw [if_neg np, if_pos List.mem_cons_self, set_getD (h i List.mem_cons_self), if_pos rfl]
    · by_cases e2 : i ∈ l
      · rw [if_pos e2, if_pos (List.mem_cons_of_mem _ e2)]
      · rw [if_neg e2, if_neg (fun z => (List.mem_cons.mp z).elim e e2), set_getD (h p List.mem_cons_self), if_neg e]
theorem setW_len {co : Nat → Nat} : ∀ (l a : List Nat), (l.foldl (fun w p => w.set p (co p)) a).length = a.length
  | [], _ => rfl
  | p :: l, a => by rw [List.foldl_cons, setW_len l, List.length_set]
theorem sumX_map (f h : Nat → Nat) : ∀ l : List Nat, COD.sumX f (l.map h) = COD.sumX (fun p => f (h p)) l
  | [] => rfl
  | p :: l => by show f (h p) ^^^ COD.sumX f (l.map h) = _; rw [sumX_map f h l]; rfl
variable {m q r : Nat} {l : List Nat}
structure PlsOk (m n : Nat) (pl : List Nat) (c : Nat) : Prop where
  nd : pl.Nodup
  lt : ∀ p ∈ pl, p < n
  len : pl.length = c + 1
  n1 : n ≤ 2 ^ m - 1
theorem pts_nd {n c : Nat} {pl : List Nat} (O : FldOk m q r l) (h : PlsOk m n pl c) : (pl.map (pw q r)).Nodup := by
  have : ∀ l : List Nat, l.Nodup → (∀ p ∈ l, p < 2 ^ m - 1) → (l.map (pw q r)).Nodup := fun l => by
    induction l with
    | nil => exact fun _ _ => List.nodup_nil
    | cons a t ih =>
      intro nd hl
      obtain ⟨na, nd'⟩ := List.nodup_cons.mp nd
      refine List.nodup_cons.mpr ⟨fun hm => ?_, ih nd' fun p hp => hl p (List.mem_cons_of_mem _ hp)⟩
      obtain ⟨b, hb, e⟩ := List.mem_map.mp hm
      have := pw_inj O.fd O.lr.1 (hl b (List.mem_cons_of_mem _ hb)) (hl a List.mem_cons_self) e
      exact na (this ▸ hb)
  exact this pl h.nd fun p hp => Nat.lt_of_lt_of_le (h.lt p hp) h.n1
theorem pts_El (O : FldOk m q r l) (pl : List Nat) : COD.El m (pl.map (pw q r)) := fun a ha => by obtain ⟨p, _, rfl⟩ := List.mem_map.mp ha; exact pw_lt O.fd r p
theorem pts_ne (O : FldOk m q r l) (pl : List Nat) : ∀ x ∈ pl.map (pw q r), x ≠ 0 := fun a ha => by obtain ⟨p, _, rfl⟩ := List.mem_map.mp ha; exact pw_ne O.fd O.lr.1.lt (r0 O.fd O.lr.1) p
theorem wtv_lt (O : FldOk m q r l) (first : Nat) (X : List Nat) (x : Nat) : wtv m q first X x < 2 ^ m := invq_lt O.fd _
theorem wtv_one (O : FldOk m q r l) {X : List Nat} (hX : COD.El m X) {x : Nat} (hx : x < 2 ^ m) (hx0 : x ≠ 0) (first : Nat) : mulm q (mulm q (wtv m q first X x) (pw q x first)) (ev q x (COD.frs q (COD.others X x))) = 1 := by
  rw [mulm_assoc O.fd, mulm_comm]
  exact invq_ok O.fd O.lr.1 (mulm_lt O.fd _ _) (wt_ne O.fd hX hx hx0 first)
theorem wtv_ne (O : FldOk m q r l) {X : List Nat} (hX : COD.El m X) {x : Nat} (hx : x < 2 ^ m) (hx0 : x ≠ 0) (first : Nat) : wtv m q first X x ≠ 0 := fun z => by
  have := wtv_one O hX hx hx0 first
  rw [z, zero_mulm O.fd, zero_mulm O.fd] at this; cases this
theorem wordV_len (first n : Nat) (pl : List Nat) : (wordV m q r n first pl).length = n := by unfold wordV; rw [setW_len, List.length_replicate]
/-- its value at the roots -/
theorem wordV_zero {n c first j : Nat} {pl : List Nat} (O : FldOk m q r l) (h : PlsOk m n pl c) (hj : j < c) : ev q (pw q r (first + j)) (wordV m q r n first pl) = 0 := by
  have F := O.fd
  obtain ⟨X, hX⟩ : ∃ X, X = pl.map (pw q r) := ⟨_, rfl⟩
  have Xe : COD.El m X := by rw [hX]; exact pts_El O pl
  have Xn : ∀ x ∈ X, x ≠ 0 := by rw [hX]; exact pts_ne O pl
  obtain ⟨sc, hsc⟩ : ∃ sc, sc = invq m q (wtv m q first X (pw q r (pl.headD 0))) := ⟨_, rfl⟩
  have e := setW_ev F (x := pw q r (first + j)) (co := fun p => mulm q sc (wtv m q first X (pw q r p))) (fun p => mulm_lt F _ _) pl (List.replicate n 0) h.nd fun p hp => by rw [List.getElem?_replicate, if_pos (h.lt p hp)]
  have u : wordV m q r n first pl = pl.foldl (fun w p => w.set p (mulm q sc (wtv m q first X (pw q r p)))) (List.replicate n 0) := by unfold wordV; rw [hsc, hX]
  rw [u]
  refine e.trans ?_
  rw [ev_zeros F, Nat.zero_xor]
  have t : ∀ p ∈ pl, mulm q (mulm q sc (wtv m q first X (pw q r p))) (pw q (pw q r (first + j)) p) = mulm q sc (mulm q (mulm q (wtv m q first X (pw q r p)) (pw q (pw q r p) first)) (pw q (pw q r p) j)) := fun p _ => by
    rw [pw_pw F, Nat.mul_comm, ← pw_pw F, pw_add F, mulm_assoc F, ← mulm_assoc F (wtv m q first X (pw q r p))]
  rw [COD.sumX_congr t, ← COD.mulm_sumX F, ← sumX_map (fun x => mulm q (mulm q (wtv m q first X x) (pw q x first)) (pw q x j)) (pw q r), ← hX]
  rw [COD.wts_zero F (c := c) (u := fun x => mulm q (wtv m q first X x) (pw q x first)) (by rw [hX]; exact pts_nd O h) Xe (by rw [hX, List.length_map, h.len]) hj (fun x _ => mulm_lt F _ _) fun x hx => wtv_one O Xe (Xe x hx) (Xn x hx) first, mulm_zero F]
theorem wordV_at {n c first : Nat} {pl : List Nat} (h : PlsOk m n pl c) (i : Nat) : (wordV m q r n first pl).getD i 0 = if i ∈ pl then mulm q (invq m q (wtv m q first (pl.map (pw q r)) (pw q r (pl.headD 0)))) (wtv m q first (pl.map (pw q r)) (pw q r i)) else 0 := by
  unfold wordV
  rw [setW_at pl _ h.nd (fun p hp => by rw [List.length_replicate]; exact h.lt p hp) i, rep_getD]
theorem wordV_El {n c first : Nat} {pl : List Nat} (O : FldOk m q r l) (h : PlsOk m n pl c) : COD.El m (wordV m q r n first pl) := fun d hd => by
  obtain ⟨i, hi⟩ := List.mem_iff_getElem?.mp hd
  have := wordV_at (q := q) (r := r) (first := first) h i
  rw [List.getD_eq_getElem?_getD, hi] at this
  have this : d = _ := this
  rw [this]
  split
  · exact mulm_lt O.fd _ _
  · exact Nat.two_pow_pos m
theorem head_mem {n c : Nat} {pl : List Nat} (h : PlsOk m n pl c) : pl.headD 0 ∈ pl := by
  cases pl with
  | nil => have := h.len; simp at this
  | cons a t => exact List.mem_cons_self
theorem wordV_one {n c first : Nat} {pl : List Nat} (O : FldOk m q r l) (h : PlsOk m n pl c) : (wordV m q r n first pl).getD (pl.headD 0) 0 = 1 := by
  have hm := head_mem h
  rw [wordV_at h, if_pos hm, mulm_comm]
  have hx : pw q r (pl.headD 0) ∈ pl.map (pw q r) := List.mem_map.mpr ⟨_, hm, rfl⟩
  exact invq_ok O.fd O.lr.1 (wtv_lt O _ _ _) (wtv_ne O (pts_El O pl) (pts_El O pl _ hx) (pts_ne O pl _ hx) first)
theorem wordV_ne {n c first i : Nat} {pl : List Nat} (O : FldOk m q r l) (h : PlsOk m n pl c) : (wordV m q r n first pl).getD i 0 ≠ 0 ↔ i ∈ pl := by
  have hm := head_mem h
  rw [wordV_at h]
  by_cases e : i ∈ pl
  · rw [if_pos e]
    refine ⟨fun _ => e, fun _ => ?_⟩
    have hx : ∀ p ∈ pl, pw q r p ∈ pl.map (pw q r) := fun p hp => List.mem_map.mpr ⟨_, hp, rfl⟩
    have n1 := wtv_ne O (pts_El O pl) (pts_El O pl _ (hx i e)) (pts_ne O pl _ (hx i e)) first
    have n0 := wtv_ne O (pts_El O pl) (pts_El O pl _ (hx _ hm)) (pts_ne O pl _ (hx _ hm)) first
    refine mulm_ne O.fd (invq_lt O.fd _) (wtv_lt O _ _ _) (fun z => ?_) n1
    have := invq_ok O.fd O.lr.1 (wtv_lt O first (pl.map (pw q r)) (pw q r (pl.headD 0))) n0
    rw [z, mulm_zero O.fd] at this; cases this
  · rw [if_neg e]
    exact ⟨fun z => absurd rfl z, fun z => absurd z e⟩
end
end K20
set_option synthInstance.maxSize 100000
set_option synthInstance.maxHeartbeats 0
namespace K20
open PySem PySem.Spec L2 NB ER MKX DL
section
open FLD PLY
theorem sumX_xor (f g : Nat → Nat) : ∀ l : List Nat, COD.sumX (fun x => f x ^^^ g x) l = COD.sumX f l ^^^ COD.sumX g l
  | [] => (Nat.xor_self 0).symm
  | a :: l => by
    show (f a ^^^ g a) ^^^ COD.sumX (fun x => f x ^^^ g x) l = (f a ^^^ COD.sumX f l) ^^^ (g a ^^^ COD.sumX g l)
    rw [sumX_xor f g l]
    simp only [Nat.xor_assoc]
    rw [← Nat.xor_assoc (g a), Nat.xor_comm (g a) (COD.sumX f l), Nat.xor_assoc]
theorem sumX_mapS (f h : Nat → Nat) : ∀ l : List Nat, COD.sumX f (l.map h) = COD.sumX (fun p => f (h p)) l
  | [] => rfl
  | p :: l => by show f (h p) ^^^ COD.sumX f (l.map h) = _; rw [sumX_mapS f h l]; rfl
theorem ev_sum {m q y : Nat} (F : Fd m q) : ∀ W : List Nat, COD.El m W → ev q y W = COD.sumX (fun p => mulm q (W.getD p 0) (pw q y p)) (List.range W.length)
  | [], _ => rfl
  | c :: W, h => by
    have hc := h c List.mem_cons_self
    rw [ev_cons, List.length_cons, List.range_succ_eq_map]
    show _ = mulm q c (pw q y 0) ^^^ COD.sumX _ ((List.range W.length).map Nat.succ)
    rw [sumX_mapS, pw_zero, mulm_one F hc, ev_sum F W fun a ha => h a (List.mem_cons_of_mem _ ha), mulm_comm, COD.mulm_sumX F, Nat.xor_comm]
    congr 1
    refine COD.sumX_congr fun p _ => ?_
    show mulm q y (mulm q (W.getD p 0) (pw q y p)) = mulm q ((c :: W).getD (p + 1) 0) (pw q y (p + 1))
    rw [List.getD_cons_succ, pw_succ, mulm_comm (q := q) y, mulm_assoc F]
variable {m q r : Nat}
theorem vanish (F : Fd m q) {c first n : Nat} {W : List Nat} (We : COD.El m W) (Wl : W.length = n) (Wz : ∀ j, j < c → ev q (pw q r (first + j)) W = 0) :
    ∀ (L : List Nat) (j : Nat), COD.El m L → L.length + j ≤ c → COD.sumX (fun p => mulm q (mulm q (W.getD p 0) (pw q (pw q r p) (first + j))) (ev q (pw q r p) L)) (List.range n) = 0
  | [], j, _, _ => COD.sumX_zero fun p _ => by rw [ev_nil, mulm_zero F]
  | a :: L, j, hL, hj => by
    have hj : L.length + 1 + j ≤ c := hj
    have h1 := vanish F We Wl Wz L (j + 1) (fun b hb => hL b (List.mem_cons_of_mem _ hb)) (by omega)
    have h2 := Wz j (by omega)
    rw [ev_sum F W We, Wl] at h2
    have e : ∀ p ∈ List.range n, mulm q (mulm q (W.getD p 0) (pw q (pw q r p) (first + j))) (ev q (pw q r p) (a :: L)) =
        mulm q a (mulm q (W.getD p 0) (pw q (pw q r (first + j)) p)) ^^^ mulm q (mulm q (W.getD p 0) (pw q (pw q r p) (first + (j + 1)))) (ev q (pw q r p) L) := fun p _ => by
      rw [ev_cons, mulm_xor F, Nat.xor_comm]
      congr 1
      · rw [mulm_comm, pw_pw F, pw_pw F, Nat.mul_comm]
      · rw [show first + (j + 1) = (first + j) + 1 by omega, pw_succ, mulm_comm (ev q (pw q r p) L), ← mulm_assoc F, mulm_assoc F (W.getD p 0)]
    rw [COD.sumX_congr e, sumX_xor, ← COD.mulm_sumX F, h2, h1, mulm_zero F, Nat.xor_zero]
/-- a word that is 0 at so many roots, and not 0 at no more places, is 0 -/
theorem low_zero (F : Fd m q) (R : IsRoot m q r) {c first n : Nat} {W S : List Nat} (We : COD.El m W) (Wl : W.length = n) (n1 : n ≤ 2 ^ m - 1) (Wz : ∀ j, j < c → ev q (pw q r (first + j)) W = 0)
    (hS : S.length ≤ c) (sup : ∀ p, p < n → W.getD p 0 ≠ 0 → p ∈ S) : ∀ p, W.getD p 0 = 0 := fun p0 => by
  refine Classical.byContradiction fun h0 => ?_
  have p0n : p0 < n := by
    refine Nat.lt_of_not_le fun z => h0 ?_
    rw [List.getD_eq_getElem?_getD, List.getElem?_eq_none (by omega)]; rfl
  have p0S := sup p0 p0n h0
  obtain ⟨T, hT⟩ : ∃ T, T = S.filter (fun p => decide (p ≠ p0 ∧ p < n)) := ⟨_, rfl⟩
  have Tl : T.length < S.length := by
    rw [hT]
    exact List.length_filter_lt_length_iff_exists.mpr ⟨p0, p0S, by simp⟩
  have Tm : ∀ p, p ∈ T ↔ p ∈ S ∧ p ≠ p0 ∧ p < n := fun p => by rw [hT, List.mem_filter, decide_eq_true_iff]
  obtain ⟨X, hX⟩ : ∃ X, X = T.map (pw q r) := ⟨_, rfl⟩
  have Xl : X.length = T.length := by rw [hX, List.length_map]
  have Xe : COD.El m X := fun a ha => by rw [hX] at ha; obtain ⟨p, _, rfl⟩ := List.mem_map.mp ha; exact pw_lt F r p
  have nX : pw q r p0 ∉ X := fun ha => by
    rw [hX] at ha
    obtain ⟨p, hp, e⟩ := List.mem_map.mp ha
    obtain ⟨_, hne, hlt⟩ := (Tm p).mp hp
    exact hne (pw_inj F R (by omega) (by omega) e)
  have v := vanish (r := r) F We Wl Wz (COD.frs q X) 0 (COD.frs_mon F _ X rfl Xe).el (by
    rw [(COD.frs_mon F _ X rfl Xe).len]; omega)
  have nd : (List.range n).Nodup := List.nodup_range
  rw [COD.sumX_one (y := p0) nd (List.mem_range.mpr p0n) (fun p hp hne => by
    have hp := List.mem_range.mp hp
    by_cases z : W.getD p 0 = 0
    · rw [z, zero_mulm F, zero_mulm F]
    · rw [COD.ev_frs F (pw_lt F r p) _ X rfl (by rw [hX]; exact List.mem_map.mpr ⟨p, (Tm p).mpr ⟨sup p hp z, hne, hp⟩, rfl⟩), mulm_zero F])] at v
  have W0 : W.getD p0 0 < 2 ^ m := COD.getD_lt We p0
  exact mulm_ne F (mulm_lt F _ _) (COD.ev_lt' F (COD.frs_mon F _ X rfl Xe).el) (mulm_ne F W0 (pw_lt F _ _) h0 (pw_ne F (pw_lt F _ _) (pw_ne F R.lt (FLD.r0 F R) _) _)) (COD.ev_frs_ne F (pw_lt F r p0) _ X rfl Xe nX) v
end
end K20
set_option synthInstance.maxSize 100000
set_option synthInstance.maxHeartbeats 0
namespace K20
open PySem PySem.Spec L2 NB ER MKX DL
abbrev s__law_is_word : Stmt := top 46
theorem sc__law_is_word : FnScope ["f", "shape", "symbols", "root", "total", "k"] ["f", "shape", "symbols"] (defScope s__law_is_word) := ⟨rfl, rfl, rfl, by decide +kernel, rfl, by decide +kernel, by decide +kernel⟩
section
variable {P : Program} {w : World} {K : PySem.W.Frag} {mg : Str → Option Value} {base : Heap}
open FLD PLY
def rcLShp : RC := pur fun as S => ∃ (ds : List Int) (k size : Nat), as = [.val (.list (LI ds)), .val (.int (k : Int)), .val (.int (size : Int))] ∧ k ≤ 10000 ∧ 4 ≤ size ∧ size ≤ 1000 ∧ ∀ n first c : Nat, 2 ≤ n → n ≤ 16 → n + 1 ≤ size → first + 2 ≤ size → 1 ≤ c → c + 1 ≤ n → S (.ok (.val (ShT n first c)))
instance : MonoR rcLShp := inferInstanceAs (MonoR (pur _))
def rcLIw : RC := pur fun as S => ∃ (m q r n first checks : Nat) (sy : List Nat), as = [.val (FT3 m q r), .val (ShT n first checks), .val (.list (LI (NI sy)))] ∧ Fd m q ∧ LeastRoot m q r ∧ first ≤ 1000 ∧ checks ≤ 100 ∧ COD.El m sy ∧ sy.length = n ∧ n ≤ 1000 ∧ (∀ x ∈ rtsC q r first checks, ev q x sy = 0) ∧ S (.ok (.val (.bool true)))
instance : MonoR rcLIw := inferInstanceAs (MonoR (pur _))
theorem ok__law_is_word {f f__law_roots f__law_times : Addr} {fd fd__law_roots fd__law_times : FuncData} (D : Df K mg "_law_is_word" ["f", "shape", "symbols"] s__law_is_word f fd) (B : Bl mg)
    (D__law_roots : Df K mg "_law_roots" ["f", "shape"] s__law_roots f__law_roots fd__law_roots) (G__law_roots : FnOk P w K mg base CX0 1 f__law_roots fd__law_roots ["f", "shape"] (spF rcLRoots))
    (D__law_times : Df K mg "_law_times" ["f", "e", "g"] s__law_times f__law_times fd__law_times) (G__law_times : FnOk P w K mg base CX0 1 f__law_times fd__law_times ["f", "e", "g"] (spF rcT3)) :
    FnOk P w K mg base CX0 3 f fd ["f", "shape", "symbols"] (spF rcLIw) := by
  refine okF D.F sc__law_is_word (fun F as S h => by obtain ⟨_, _, _, _, _, _, _, rfl, _⟩ := h; rfl) (fun cdv A outer s H E hr => ⟨_, _, (pss_cons (ps_if (pt_cmpR op_ne (pe_callB call_len_seq (by rfl) B.len PySem.boot_len (pa_cons (pv 2) pa_nil)) (pe_ix ix_tup (pv 1) (pe_z 0) (fun _ _ => rfl)) (nomark _)) (pss_one (ps_ret pe_bl)) pss_nil)
      (pss_cons (ps_for PassesOwn.never rfl (pi_list (pe_call G__law_roots (hr.mono (by decide)) rfl D__law_roots.g D__law_roots.F.kp D__law_roots.b .nil pass00 (pa_cons (pv 0) (pa_cons (pv 1) pa_nil)))) (pg_name (i := 3) sc__law_is_word.nd rfl (Or.inl rfl) (Or.inr rfl))
        (pss_cons (ps_set (i := 4) sc__law_is_word.nd rfl (Or.inl rfl) (pe_z 0))
        (pss_cons (ps_for PassesOwn.never rfl (pi_range3 rfl B.range (pa_cons (pe_op op_sub (pe_callB call_len_seq (by rfl) B.len PySem.boot_len (pa_cons (pv 2) pa_nil)) (pe_z 1)) (pa_cons (pe_un un_neg (pe_z 1)) (pa_cons (pe_un un_neg (pe_z 1)) pa_nil)))) (pg_name (i := 5) sc__law_is_word.nd rfl (Or.inl rfl) (Or.inr rfl))
          (pss_one (ps_set (i := 4) sc__law_is_word.nd rfl (Or.inl rfl) (pe_op op_xor (pe_call G__law_times (hr.mono (by decide)) rfl D__law_times.g D__law_times.F.kp D__law_times.b .nil pass00 (pa_cons (pv 0) (pa_cons (pv 4) (pa_cons (pv 3) pa_nil)))) (pe_ix ix_list (pv 2) (pv 5) (fun _ _ => rfl))))))
        (pss_one (ps_if (pt_cmpR op_ne (pv 4) (pe_z 0) (nomark _)) (pss_one (ps_ret pe_bl)) pss_nil)))))
      (pss_one (ps_ret pe_bl)))), fun F0 => by infer_instance, fun F0 as S h => ?_⟩)
  obtain ⟨m, q, r, n, first, checks, sy, rfl, F, LR, b1, b2, hE, hl, hn, hz, hS⟩ := h
  have sl := sizeLine_eq
  refine ⟨_, rfl, brNF (by show ((LI (NI sy)).length : Int) = (n : Int); rw [LI_NI_len, hl]) ?_⟩
  refine ⟨fun y => y = .ok (.own (LI (NI (rtsC q r first checks)))), ⟨m, q, r, n, first, checks, rfl, F, LR, b1, b2, rfl⟩, ?_⟩
  rintro y rfl
  refine ⟨fun _ => LI_flatD _, rfl, fun i σ => ∃ o3 o4 o5 : Option SV, σ = [some (.val (FT3 m q r)), some (.val (ShT n first checks)), some (.val (.list (LI (NI sy)))), o3, o4, o5], ⟨none, none, none, rfl⟩, ?_, ?_⟩
  · rintro i d σ hd ⟨o3, o4, o5, rfl⟩
    obtain ⟨z, hzz, rfl⟩ := LI_inv hd
    obtain ⟨x, hx, rfl⟩ : ∃ y, (rtsC q r first checks)[i]? = some y ∧ z = (y : Int) := by
      unfold NI at hzz
      rw [List.getElem?_map] at hzz
      cases e : (rtsC q r first checks)[i]? with
      | none => rw [e] at hzz; cases hzz
      | some y => rw [e] at hzz; cases hzz; exact ⟨y, rfl, rfl⟩
    have xm := List.mem_of_getElem? hx
    have xl : x < 2 ^ m := rtsC_El F r first checks x xm
    have rg : RgC (((LI (NI sy)).length : Int) - 1) (-1) (-1) n := by
      have := RgC.neg (i := ((LI (NI sy)).length : Int) - 1) (j := -1) (by rw [LI_NI_len]; omega) (by rw [LI_NI_len]; omega) (by decide) (by decide)
      rw [LI_NI_len, hl, show ((n : Int) - 1 - -1).toNat = n by omega] at this
      rw [LI_NI_len, hl]; exact this
    refine ⟨_, _, _, n, rfl, rfl, rfl, rg, rfl, fun t σ => ∃ o5 : Option SV, σ = [some (.val (FT3 m q r)), some (.val (ShT n first checks)), some (.val (.list (LI (NI sy)))), some (.val (.int (x : Int))), some (.val (.int ((ev q x (sy.drop (n - t)) : Nat) : Int))), o5], ⟨o5, ?_⟩, ?_, ?_⟩
    · rw [Nat.sub_zero, List.drop_of_length_le (by omega)]; rfl
    · rintro t d σ hd ⟨o5, rfl⟩
      obtain ⟨ht, rfl⟩ := stepD_at hd
      have dE : COD.El m (sy.drop (n - t)) := fun c hc => hE c (List.mem_of_mem_drop hc)
      have ei : (((LI (NI sy)).length : Int) - 1) + (t : Int) * (-1) = ((n - 1 - t : Nat) : Int) := by rw [LI_NI_len]; omega
      have hlt : n - 1 - t < sy.length := by omega
      have av : atI (LI (NI sy)) ((((LI (NI sy)).length : Int) - 1) + (t : Int) * (-1)) = some (.int ((sy.getD (n - 1 - t) 0 : Nat) : Int)) := by rw [ei]; exact atI_nat (NI_getI hlt)
      refine ⟨fun y => y = .ok (.val (.int ((mulm q (ev q x (sy.drop (n - t))) x : Nat) : Int))), ⟨m, q, _, x, _, rfl, F, ev_lt F dE, xl, rfl⟩, ?_⟩
      rintro y rfl
      refine ⟨fun _ => rfl, _, av, some (.val (.int ((((LI (NI sy)).length : Int) - 1) + (t : Int) * (-1)))), ?_⟩
      have ed : sy.drop (n - (t + 1)) = sy.getD (n - 1 - t) 0 :: sy.drop (n - t) := by
        rw [show n - (t + 1) = n - 1 - t by omega, List.drop_eq_getElem_cons hlt, show n - 1 - t + 1 = n - t by omega, List.getD_eq_getElem?_getD, List.getElem?_eq_getElem hlt]; rfl
      have ex : Builtin.bitXor ((mulm q (ev q x (sy.drop (n - t))) x : Nat) : Int) ((sy.getD (n - 1 - t) 0 : Nat) : Int) = ((ev q x (sy.drop (n - (t + 1))) : Nat) : Int) := by rw [ed, ev_cons]; exact xor_nn _ _
      dsimp only
      rw [← ex]
      rfl
    · rintro σ ⟨o5, rfl⟩
      rw [stepD_len, Nat.sub_self, List.drop_zero, hz x xm]
      exact brNF rfl ⟨_, _, _, rfl⟩
  · rintro σ ⟨o3, o4, o5, rfl⟩
    exact hS
def rcLSp : RC := pur fun as S => ∃ (pl : List Nat) (n dr : Nat), as = [.val (.list (LI (NI pl))), .val (.int (n : Int)), .val (.int (dr : Int))] ∧ 1 ≤ pl.length ∧ pl.length ≤ 100 ∧ n ≤ 1000 ∧ ∀ (us : List Int) (x : PyData), us.length = pl.length → (x = .none ∨ ∃ j : Nat, x = .int (j : Int) ∧ PlBad (n : Int) us j) → S (.ok (.val (.tuple [.list (LI us), x])))
instance : MonoR rcLSp := inferInstanceAs (MonoR (pur _))
end
end K20
set_option synthInstance.maxSize 100000
set_option synthInstance.maxHeartbeats 0
namespace K20
open PySem PySem.Spec L2 NB ER MKX DL
abbrev s__law_choices : Stmt := top 47
theorem sc__law_choices : FnScope ["n", "count", "rows", "turn", "longer", "row", "place"] ["n", "count"] (defScope s__law_choices) := ⟨rfl, rfl, rfl, by decide +kernel, rfl, by decide +kernel, by decide +kernel⟩
section
variable {P : Program} {w : World} {K : PySem.W.Frag} {mg : Str → Option Value} {base : Heap}
theorem atI_back {α : Type} {ds : List α} {i : Int} {k : Nat} {d : α} (e : i + ds.length = (k : Int)) (hi : i < 0) (h : ds[k]? = some d) : atI ds i = some d := by
  unfold atI ixN
  rw [if_neg (by omega), if_pos (by omega), e]
  show ds[(k : Int).toNat]? = _
  rw [Int.toNat_natCast]; exact h
def LLD (rs : List (List Nat)) : List PyData := rs.map fun l => .list (LI (NI l))
theorem LLD_len (rs : List (List Nat)) : (LLD rs).length = rs.length := List.length_map _
theorem LLD_app (a b : List (List Nat)) : LLD a ++ LLD b = LLD (a ++ b) := by unfold LLD; rw [List.map_append]
theorem LLD_at {rs : List (List Nat)} {i : Nat} {d : PyData} (h : (LLD rs)[i]? = some d) : ∃ l, rs[i]? = some l ∧ d = .list (LI (NI l)) := by
  unfold LLD at h
  rw [List.getElem?_map] at h
  cases e : rs[i]? with
  | none => rw [e] at h; cases h
  | some l => rw [e] at h; exact ⟨l, rfl, (Option.some.inj h).symm⟩
theorem LLD_flat (rs : List (List Nat)) : flatN 2 (.list (LLD rs)) = true := List.all_eq_true.mpr fun x hx => by obtain ⟨l, _, rfl⟩ := List.mem_map.mp hx; exact LI_flatN (NI l)
def Asc (n c : Nat) (l : List Nat) : Prop := l.Pairwise (· < ·) ∧ (∀ p ∈ l, p < n) ∧ l.length = c
def rcChs : RC := pur fun as S => ∃ n c : Nat, as = [.val (.int (n : Int)), .val (.int (c : Int))] ∧ n ≤ 7 ∧ c ≤ 7 ∧ ∀ rs : List (List Nat), (∀ l ∈ rs, Asc n c l) → rs.length ≤ 8 ^ c → S (.ok (.val (.list (LLD rs))))
instance : MonoR rcChs := inferInstanceAs (MonoR (pur _))
theorem ok__law_choices {f : Addr} {fd : FuncData} (D : Df K mg "_law_choices" ["n", "count"] s__law_choices f fd) (B : Bl mg) :
    FnOk P w K mg base CX0 1 f fd ["n", "count"] (spF rcChs) := by
  refine okF D.F sc__law_choices (fun F as S h => by obtain ⟨_, _, rfl, _⟩ := h; rfl) (fun cdv A outer s H E hr => ⟨_, _, (pss_cons (ps_set (i := 2) sc__law_choices.nd rfl (Or.inl rfl) (pe_lst (pa_cons (pe_lst pa_nil) pa_nil)))
      (pss_cons (ps_for PassesOwn.never rfl (pi_range1 rfl B.range (pa_cons (pv 1) pa_nil)) (pg_name (i := 3) sc__law_choices.nd rfl (Or.inl rfl) (Or.inr rfl))
        (pss_cons (ps_set (i := 4) sc__law_choices.nd rfl (Or.inl rfl) (pe_lst pa_nil))
        (pss_cons (ps_for PassesOwn.never rfl (pi_list (pv 2)) (pg_name (i := 5) sc__law_choices.nd rfl (Or.inr rfl))
          (pss_one (ps_set (i := 4) sc__law_choices.nd rfl (Or.inl rfl) (pe_op op_cat (pv 4) (pe_lc (own := [("place", 6)]) rfl sc__law_choices.nd (pi_range2 rfl B.range (pa_cons (pe_op op_add (pe_ix ix_list (pe_op op_cat (pe_lst (pa_cons (pe_un un_neg (pe_z 1)) pa_nil)) (pv 5)) (pe_un un_neg (pe_z 1)) (fun _ _ => rfl)) (pe_z 1)) (pa_cons (pv 0) pa_nil))) (blkOk_by (own := [("place", 6)]) (N := ["n", "count", "rows", "turn", "longer", "row", "place"]) (sc := defScope s__law_choices) (by decide +kernel)) (fun _ _ _ _ _ => (pg_name (i := 6) sc__law_choices.nd rfl (Or.inl rfl) (Or.inr rfl))) (fun _ _ _ _ _ => pts_nil) (fun _ _ _ _ _ => (pe_op op_cat (pv 5) (pe_lst (pa_cons (pv 6) pa_nil)))))))))
        (pss_one (ps_set (i := 2) sc__law_choices.nd rfl (Or.inl rfl) (pv 4))))))
      (pss_one (ps_ret (pv 2))))), fun F0 => by infer_instance, fun F0 as S h => ?_⟩)
  obtain ⟨n, c, rfl, hn, hc, hS⟩ := h
  have sl := sizeLine_eq
  have z0 : 0 ≤ sizeLine := Nat.zero_le _
  have z1 : 1 ≤ sizeLine := by omega
  have p8 : ∀ {i : Nat}, i ≤ 7 → 8 ^ i ≤ 2097152 := fun {i} h => Nat.pow_le_pow_right (n := 8) (by decide) h
  refine ⟨z0, z1, .inr ?_⟩
  refine ⟨⟨by omega, by omega⟩, rfl, fun i σ => ∃ (rs : List (List Nat)) (o3 o4 o5 o6 : Option SV), σ = [some (.val (.int (n : Int))), some (.val (.int (c : Int))), some (.val (.list (LLD rs))), o3, o4, o5, o6] ∧ (∀ l ∈ rs, Asc n i l) ∧ rs.length ≤ 8 ^ i, ⟨[[]], none, none, none, none, rfl, fun l hl => ?_, by decide⟩, ?_, ?_⟩
  · rw [List.mem_singleton.mp hl]; exact ⟨List.Pairwise.nil, fun p hp => absurd hp List.not_mem_nil, rfl⟩
  · rintro i d σ hd ⟨rs, o3, o4, o5, o6, rfl, h1, h2⟩
    obtain ⟨hi, rfl⟩ := rangeD_at hd
    have hi' : i < c := by
      have h : i < ((c : Nat) : Int).toNat := hi
      omega
    have q8 := p8 (i := i) (by omega)
    refine ⟨z0, .inr ?_⟩
    refine ⟨rfl, fun j σ => ∃ (ls : List (List Nat)) (o5 o6 : Option SV), σ = [some (.val (.int (n : Int))), some (.val (.int (c : Int))), some (.val (.list (LLD rs))), some (.val (.int (0 + (i : Int)))), some (.val (.list (LLD ls))), o5, o6] ∧ (∀ l ∈ ls, Asc n (i + 1) l) ∧ ls.length ≤ 8 * j, ⟨[], _, _, rfl, fun l hl => absurd hl List.not_mem_nil, Nat.zero_le _⟩, ?_, ?_⟩
    · rintro j d σ hd ⟨ls, o5, o6, rfl, g1, g2⟩
      obtain ⟨l, hl, rfl⟩ := LLD_at hd
      have hj := (List.getElem?_eq_some_iff.mp hl).1
      obtain ⟨l1, l2, l3⟩ := h1 l (List.mem_of_getElem? hl)
      have ll : (LI (NI l)).length = i := by rw [LI_NI_len, l3]
      obtain ⟨z, hz, hzl, zb⟩ : ∃ z : Int, atI ([PyData.int (-1)] ++ LI (NI l)) (-1) = some (.int z) ∧ (∀ p ∈ l, (p : Int) ≤ z) ∧ -1 ≤ z ∧ z < n := by
        rcases List.eq_nil_or_concat l with rfl | ⟨l', x, rfl⟩
        · exact ⟨-1, rfl, fun p hp => absurd hp List.not_mem_nil, by omega, by omega⟩
        · rw [List.concat_eq_append] at *
          refine ⟨(x : Int), ?_, fun p hp => ?_, by omega, ?_⟩
          · rw [← NI_app, ← List.append_assoc]
            refine atI_back (k := ([PyData.int (-1)] ++ LI (NI l')).length) ?_ (by decide) ?_
            · rw [List.length_append]; show -1 + (((([PyData.int (-1)] ++ LI (NI l')).length + 1 : Nat)) : Int) = _; omega
            · rw [List.getElem?_append_right (Nat.le_refl _), Nat.sub_self]; rfl
          · rcases List.mem_append.mp hp with h | h
            · have := (List.pairwise_append.mp l1).2.2 p h x (by simp); omega
            · rw [List.mem_singleton.mp h]; omega
          · have := l2 x (by simp); omega
      refine ⟨z1, (by show ([PyData.int (-1)] : List PyData).length + (LI (NI l)).length ≤ sizeLine; rw [ll]; show 1 + i ≤ _; omega), .int z, hz, ⟨by omega, by omega, by omega, by omega⟩, rfl, fun k acc => ∃ ms : List (List Nat), acc = LLD ms ∧ (∀ l ∈ ms, Asc n (i + 1) l) ∧ ms.length ≤ k, ⟨[], rfl, fun l hl => absurd hl List.not_mem_nil, Nat.le_refl _⟩, ?_, ?_⟩
      · rintro k d acc hd ⟨ms, rfl, m1, m2⟩
        obtain ⟨hk, rfl⟩ := rangeD_at hd
        obtain ⟨p, hp⟩ := Int.eq_ofNat_of_zero_le (show 0 ≤ z + 1 + (k : Int) by omega)
        have hpn : p < n := by
          have h : k < ((n : Int) - (z + 1)).toNat := hk
          omega
        have hk7 : k ≤ 7 := by
          have h : k < ((n : Int) - (z + 1)).toNat := hk
          omega
        refine brT ⟨z1, (by show (LI (NI l)).length + 1 ≤ sizeLine; rw [ll]; omega), by rw [LLD_len]; omega, ms ++ [l ++ [p]], ?_, fun t ht => ?_, by rw [List.length_append]; exact Nat.add_le_add_right m2 1⟩
        · have e : LI (NI l) ++ [PyData.int (z + 1 + (k : Int))] = LI (NI (l ++ [p])) := by rw [hp, ← NI_app]; rfl
          show LLD ms ++ [.list (LI (NI l) ++ [PyData.int (z + 1 + (k : Int))])] = _
          rw [e, ← LLD_app]; rfl
        · rcases List.mem_append.mp ht with h | h
          · exact m1 t h
          · rw [List.mem_singleton.mp h]
            refine ⟨List.pairwise_append.mpr ⟨l1, by simp, fun a ha b hb => ?_⟩, fun a ha => ?_, by rw [List.length_append, l3]; rfl⟩
            · rw [List.mem_singleton.mp hb]; have := hzl a ha; omega
            · rcases List.mem_append.mp ha with h | h
              · exact l2 a h
              · rw [List.mem_singleton.mp h]; exact hpn
      · rintro acc ⟨ms, rfl, m1, m2⟩
        rw [rangeD_len] at m2
        have m2 : ms.length ≤ ((n : Int) - (z + 1)).toNat := m2
        have hj8 : j < 8 ^ i := by omega
        refine ⟨(by rw [LLD_len, LLD_len]; omega), .inr ⟨ls ++ ms, some (.val (.list (LI (NI l)))), o6, ?_, fun t ht => (List.mem_append.mp ht).elim (g1 t) (m1 t), by rw [List.length_append]; omega⟩⟩
        show [_, _, _, _, some (SV.val (.list (LLD ls ++ LLD ms))), _, _] = _
        rw [LLD_app]
    · rintro σ ⟨ls, o5, o6, rfl, g1, g2⟩
      rw [LLD_len] at g2
      exact ⟨ls, _, _, _, _, rfl, g1, by rw [Nat.pow_succ]; omega⟩
  · rintro σ ⟨rs, o3, o4, o5, o6, rfl, h1, h2⟩
    have e : (rangeD 0 ((c : Nat) : Int).toNat).length = c := by rw [rangeD_len, Int.toNat_natCast]
    have h1 : ∀ l ∈ rs, Asc n c l := fun l hl => by
      have := h1 l hl
      exact e ▸ this
    exact hS rs h1 (by exact e ▸ h2)
end
end K20
set_option synthInstance.maxSize 100000
set_option synthInstance.maxHeartbeats 0
namespace K20
open PySem PySem.Spec L2 NB ER MKX DL
section
open FLD PLY
/-- the places that are not 0 -/
def sup (n : Nat) (W : List Nat) : List Nat := (List.range n).filter fun k => decide (W.getD k 0 ≠ 0)
theorem sup_mem {n : Nat} {W : List Nat} {p : Nat} : p ∈ sup n W ↔ p < n ∧ W.getD p 0 ≠ 0 := by unfold sup; rw [List.mem_filter, List.mem_range, decide_eq_true_iff]
theorem sup_asc (n : Nat) (W : List Nat) : (sup n W).Pairwise (· < ·) := List.Pairwise.filter _ List.pairwise_lt_range
structure CW (m q r n first c : Nat) (W : List Nat) : Prop where
  el : COD.El m W
  len : W.length = n
  z : ∀ j, j < c → ev q (pw q r (first + j)) W = 0
variable {m q r n first c : Nat}
theorem getD_ext {a b : List Nat} (h : a.length = b.length) (k : ∀ i, a.getD i 0 = b.getD i 0) : a = b := by
  refine List.ext_getElem? fun i => ?_
  by_cases z : i < a.length
  · have := k i
    rw [List.getD_eq_getElem?_getD, List.getD_eq_getElem?_getD, List.getElem?_eq_getElem z, List.getElem?_eq_getElem (h ▸ z)] at this
    rw [List.getElem?_eq_getElem z, List.getElem?_eq_getElem (h ▸ z)]
    exact congrArg some this
  · rw [List.getElem?_eq_none (by omega), List.getElem?_eq_none (by omega)]
theorem cw_low (F : Fd m q) (R : IsRoot m q r) (n1 : n ≤ 2 ^ m - 1) {W S : List Nat} (h : CW m q r n first c W) (hS : S.length ≤ c) (hs : ∀ p, p < n → W.getD p 0 ≠ 0 → p ∈ S) : ∀ p, W.getD p 0 = 0 := low_zero F R h.el h.len n1 h.z hS hs
theorem cw_weight (F : Fd m q) (R : IsRoot m q r) (n1 : n ≤ 2 ^ m - 1) {W : List Nat} (h : CW m q r n first c W) : sup n W = [] ∨ c + 1 ≤ (sup n W).length := by
  rcases Nat.lt_or_ge c (sup n W).length with z | z
  · exact .inr z
  · left
    have := cw_low F R n1 h z fun p hp hn => sup_mem.mpr ⟨hp, hn⟩
    exact List.eq_nil_iff_forall_not_mem.mpr fun p hp => (sup_mem.mp hp).2 (this p)
theorem cw_xor (F : Fd m q) {W V : List Nat} (h : CW m q r n first c W) (k : CW m q r n first c V) : CW m q r n first c (List.zipWith (· ^^^ ·) W V) := by
  have l : W.length = V.length := by rw [h.len, k.len]
  refine ⟨fun d hd => ?_, by rw [List.length_zipWith, h.len, k.len, Nat.min_self], fun j hj => by rw [ev_zip F l, h.z j hj, k.z j hj]; rfl⟩
  obtain ⟨i, hi⟩ := List.mem_iff_getElem?.mp hd
  have := COD.zipX_getD l i
  rw [List.getD_eq_getElem?_getD, hi] at this
  have this : d = _ := this
  rw [this]
  exact Nat.xor_lt_two_pow (COD.getD_lt h.el i) (COD.getD_lt k.el i)
/-- two words differ in many places -/
theorem cw_apart (F : Fd m q) (R : IsRoot m q r) (n1 : n ≤ 2 ^ m - 1) {W V : List Nat} (h : CW m q r n first c W) (k : CW m q r n first c V) (ne : V ≠ W) : c + 1 ≤ ((List.range n).filter fun i => decide (W.getD i 0 ≠ V.getD i 0)).length := by
  have l : W.length = V.length := by rw [h.len, k.len]
  have e : (List.range n).filter (fun i => decide (W.getD i 0 ≠ V.getD i 0)) = sup n (List.zipWith (· ^^^ ·) W V) := by
    unfold sup
    refine List.filter_congr fun i _ => ?_
    rw [COD.zipX_getD l i]
    exact decide_eq_decide.mpr ⟨fun z y => z (COD.xor0 y), fun z y => z (by rw [y, Nat.xor_self])⟩
  rw [e]
  rcases cw_weight F R n1 (cw_xor F h k) with z | z
  · refine absurd (getD_ext l fun i => ?_).symm ne
    refine Classical.byContradiction fun y => ?_
    have hi : i < n := by
      refine Nat.lt_of_not_le fun w => y ?_
      rw [List.getD_eq_getElem?_getD, List.getD_eq_getElem?_getD, List.getElem?_eq_none (by rw [h.len]; exact w), List.getElem?_eq_none (by rw [k.len]; exact w)]
    have : i ∈ sup n (List.zipWith (· ^^^ ·) W V) := sup_mem.mpr ⟨hi, fun w => by rw [COD.zipX_getD l i] at w; exact y (COD.xor0 w)⟩
    rw [z] at this; cases this
  · exact z
def scl (q e : Nat) (W : List Nat) : List Nat := W.map fun a => mulm q a e
theorem scl_getD (F : Fd m q) (e : Nat) (W : List Nat) (i : Nat) : (scl q e W).getD i 0 = mulm q (W.getD i 0) e := by
  unfold scl
  rw [List.getD_eq_getElem?_getD, List.getD_eq_getElem?_getD, List.getElem?_map]
  cases W[i]? with
  | none => exact (zero_mulm F e).symm
  | some a => rfl
theorem cw_scl (F : Fd m q) {W : List Nat} (h : CW m q r n first c W) (e : Nat) : CW m q r n first c (scl q e W) := by
  refine ⟨fun a ha => by unfold scl at ha; obtain ⟨b, _, rfl⟩ := List.mem_map.mp ha; exact mulm_lt F _ _, by unfold scl; rw [List.length_map, h.len], fun j hj => ?_⟩
  unfold scl
  rw [List.map_congr_left (fun a _ => mulm_comm a e), ev_map F, h.z j hj, mulm_zero F]
variable {l : List Nat}
theorem cw_wordV {pl : List Nat} (O : FldOk m q r l) (h : PlsOk m n pl c) : CW m q r n first c (wordV m q r n first pl) := ⟨wordV_El O h, wordV_len _ _ _, fun j hj => wordV_zero O h hj⟩
theorem incr_eq : ∀ a b : List Nat, a.Pairwise (· < ·) → b.Pairwise (· < ·) → (∀ x, x ∈ a ↔ x ∈ b) → a = b
  | [], [], _, _, _ => rfl
  | [], y :: b, _, _, h => absurd ((h y).mpr List.mem_cons_self) List.not_mem_nil
  | x :: a, [], _, _, h => absurd ((h x).mp List.mem_cons_self) List.not_mem_nil
  | x :: a, y :: b, ha, hb, h => by
    obtain ⟨a1, a2⟩ := List.pairwise_cons.mp ha
    obtain ⟨b1, b2⟩ := List.pairwise_cons.mp hb
    have e : x = y := by
      rcases List.mem_cons.mp ((h x).mp List.mem_cons_self) with z | z
      · exact z
      · rcases List.mem_cons.mp ((h y).mpr List.mem_cons_self) with u | u
        · exact u.symm
        · have := b1 x z; have := a1 y u; omega
    subst e
    rw [incr_eq a b a2 b2 fun z => ⟨fun hz => ?_, fun hz => ?_⟩]
    · rcases List.mem_cons.mp ((h z).mp (List.mem_cons_of_mem _ hz)) with u | u
      · have := a1 z hz; omega
      · exact u
    · rcases List.mem_cons.mp ((h z).mpr (List.mem_cons_of_mem _ hz)) with u | u
      · have := b1 z hz; omega
      · exact u
/-- the words that are not 0 just there are the multiples of one -/
theorem cw_mult {pl W : List Nat} (O : FldOk m q r l) (h : PlsOk m n pl c) (asc : pl.Pairwise (· < ·)) : (CW m q r n first c W ∧ sup n W = pl) ↔ ∃ e, e < 2 ^ m ∧ e ≠ 0 ∧ W = scl q e (wordV m q r n first pl) := by
  have F := O.fd
  have V := cw_wordV (first := first) O h
  have hm := head_mem h
  constructor
  · rintro ⟨hW, hs⟩
    obtain ⟨e, he⟩ : ∃ e, e = W.getD (pl.headD 0) 0 := ⟨_, rfl⟩
    have el : e < 2 ^ m := by rw [he]; exact COD.getD_lt hW.el _
    have e0 : e ≠ 0 := by
      rw [← hs] at hm
      rw [he]; exact (hs ▸ (sup_mem.mp hm).2)
    have S := cw_scl F V e
    have lW : W.length = (scl q e (wordV m q r n first pl)).length := by rw [hW.len, S.len]
    refine ⟨e, el, e0, getD_ext lW fun i => ?_⟩
    obtain ⟨p0, pr, hpl⟩ : ∃ p0 pr, pl = p0 :: pr := by
      cases pl with
      | nil => have := h.len; simp at this
      | cons a b => exact ⟨a, b, rfl⟩
    have prl : pr.length ≤ c := by have := h.len; rw [hpl] at this; simp at this; omega
    have := cw_low F O.lr.1 h.n1 (cw_xor F hW S) prl fun p hp hn => by
      rw [COD.zipX_getD lW, scl_getD F] at hn
      have : p ∈ pl := by
        refine Classical.byContradiction fun z => hn ?_
        have z1 : W.getD p 0 = 0 := Classical.byContradiction fun y => z (hs ▸ sup_mem.mpr ⟨hp, y⟩)
        have z2 : (wordV m q r n first pl).getD p 0 = 0 := Classical.byContradiction fun y => z ((wordV_ne O h).mp y)
        rw [z1, z2, zero_mulm F]; rfl
      rw [hpl] at this
      rcases List.mem_cons.mp this with z | z
      · exfalso
        apply hn
        have e1 : p = pl.headD 0 := by rw [hpl]; exact z
        rw [e1, wordV_one O h, one_mulm F el, he, Nat.xor_self]
      · exact z
    have := this i
    rw [COD.zipX_getD lW] at this
    exact COD.xor0 this
  · rintro ⟨e, el, e0, rfl⟩
    have S := cw_scl F V e
    refine ⟨S, incr_eq _ _ (sup_asc _ _) asc fun x => ?_⟩
    rw [sup_mem, scl_getD F]
    constructor
    · rintro ⟨_, hn⟩
      refine (wordV_ne O h).mp fun z => hn (by rw [z, zero_mulm F])
    · intro hx
      exact ⟨h.lt x hx, mulm_ne F (COD.getD_lt V.el x) el ((wordV_ne O h).mpr hx) e0⟩
end
section
open PySem.W (keyToks keyToksAll dataLt)
theorem toks_inj : ∀ a b : List Nat, keyToksAll (LI (NI a)) = keyToksAll (LI (NI b)) → a = b
  | [], [], _ => rfl
  | [], y :: b, h => by
    have h : keyToksAll [] = keyToksAll (.int (y : Int) :: LI (NI b)) := h
    rw [PySem.W.toks_all_cons, keyToksAll] at h
    cases h
  | x :: a, [], h => by
    have h : keyToksAll (.int (x : Int) :: LI (NI a)) = keyToksAll [] := h
    rw [PySem.W.toks_all_cons, keyToksAll] at h
    cases h
  | x :: a, y :: b, h => by
    have h : keyToksAll (.int (x : Int) :: LI (NI a)) = keyToksAll (.int (y : Int) :: LI (NI b)) := h
    rw [PySem.W.toks_all_cons, PySem.W.toks_all_cons, keyToks, keyToks] at h
    simp only [List.cons_append, List.nil_append, List.cons.injEq, Sum.inl.injEq, true_and] at h
    rw [toks_inj a b h.2, show x = y by omega]
theorem lt_anti {a b : List Nat} (h : dataLt (.list (LI (NI a))) (.list (LI (NI b))) = false) (k : dataLt (.list (LI (NI b))) (.list (LI (NI a))) = false) : a = b := by
  have := PyProof.Rows.lex_total _ _ h k
  rw [keyToks, keyToks] at this
  exact toks_inj a b this
theorem sorted_same {rs ss : List (List Nat)} (p : rs.Perm ss) {es fs : List PyData} (e1 : es.Perm (LLD rs)) (e2 : es.Pairwise fun a b => dataLt b a = false) (f1 : fs.Perm (LLD ss)) (f2 : fs.Pairwise fun a b => dataLt b a = false) : es = fs := by
  have inL : ∀ {a : PyData} {gs : List PyData} {ts : List (List Nat)}, gs.Perm (LLD ts) → a ∈ gs → ∃ l, a = .list (LI (NI l)) := fun {a gs ts} p h => by
    obtain ⟨l, _, e⟩ := List.mem_map.mp (p.mem_iff.mp h)
    exact ⟨l, e.symm⟩
  refine List.Perm.eq_of_pairwise (le := fun a b => dataLt b a = false) (fun a b ha hb h k => ?_) e2 f2 (e1.trans ((p.map _).trans f1.symm))
  obtain ⟨x, rfl⟩ := inL e1 ha
  obtain ⟨y, rfl⟩ := inL f1 hb
  rw [lt_anti k h]
theorem LLD_alike (rs : List (List Nat)) : PySem.W.AllAlike (LLD rs) := PySem.W.AllAlike.of fun a b => by
  rw [PySem.W.alike]; exact PySem.W.alike_ints _ _
theorem LLD_sortable (rs : List (List Nat)) : PySem.W.Sortable (LLD rs) := PySem.W.Sortable.others fun b => ⟨fun z => (by cases z), fun xs z => (by cases z)⟩
theorem LLD_depth (rs : List (List Nat)) : ∀ d ∈ LLD rs, d.depth ≤ 60 := fun d hd => by
  obtain ⟨l, _, rfl⟩ := List.mem_map.mp hd
  rw [PyData.depth]
  have := PySem.W.depth_ints (NI l)
  unfold LI
  rw [this]; decide
theorem eqv_NI (a b : List Nat) : PyData.eqv (.list (LI (NI a))) (.list (LI (NI b))) = decide (a = b) := by
  rw [PyData.eqv]
  induction a generalizing b with
  | nil =>
    cases b with
    | nil => simp [LI, NI, PyData.eqvAll]
    | cons y b => simp [LI, NI, PyData.eqvAll]
  | cons x a ih =>
    cases b with
    | nil => simp [LI, NI, PyData.eqvAll]
    | cons y b =>
      show PyData.eqvAll (.int (x : Int) :: LI (NI a)) (.int (y : Int) :: LI (NI b)) = _
      rw [PyData.eqvAll, ih b, PyData.eqv]
      have : ((x : Int) == (y : Int)) = decide (x = y) := by
        by_cases z : x = y
        · subst z; simp
        · rw [decide_eq_false z]; simp; omega
      rw [this]
      by_cases z : x = y <;> by_cases u : a = b <;> simp [z, u]
theorem eqNI {sx sy : SV} {a b : List Nat} {P : SV → Prop} (e1 : sx.dat? = some (.list (LI (NI a)))) (e2 : sy.dat? = some (.list (LI (NI b)))) (h : P (.val (.bool (decide (a = b))))) : oEqD false sx sy P := ⟨by
  rw [e1, e2]
  exact ⟨shp (LI_flatN _), shp (LI_flatN _), by rw [eqv_NI]; exact h⟩⟩
theorem neNI {sx sy : SV} {a b : List Nat} {P : SV → Prop} (e1 : sx.dat? = some (.list (LI (NI a)))) (e2 : sy.dat? = some (.list (LI (NI b)))) (h : P (.val (.bool (!decide (a = b))))) : oEqD true sx sy P := ⟨by
  rw [e1, e2]
  exact ⟨shp (LI_flatN _), shp (LI_flatN _), by rw [eqv_NI]; exact h⟩⟩
end
end K20
set_option synthInstance.maxSize 100000
set_option synthInstance.maxHeartbeats 0
namespace K20
open PySem PySem.Spec L2 NB ER MKX DL
section
open FLD PLY
theorem rts_nd {m q r : Nat} (F : Fd m q) (R : IsRoot m q r) (first : Nat) {c : Nat} (hc : c ≤ 2 ^ m - 1) : (rtsC q r first c).Nodup := by
  unfold rtsC
  have : ∀ k, k ≤ c → ((List.range k).map fun j => pw q r (first + j)).Nodup := fun k => by
    induction k with
    | zero => exact fun _ => List.nodup_nil
    | succ k ih =>
      intro hk
      rw [List.range_succ, List.map_append]
      refine List.nodup_append.mpr ⟨ih (by omega), by simp, fun a ha b hb => ?_⟩
      obtain ⟨j, hj, rfl⟩ := List.mem_map.mp ha
      have hj := List.mem_range.mp hj
      have hb : b = pw q r (first + k) := by simpa using hb
      rw [hb]
      intro e
      rw [pw_add F, pw_add F, mulm_comm (pw q r first), mulm_comm (pw q r first)] at e
      have := mulm_cancel F (pw_lt F r j) (pw_lt F r k) (pw_lt F r first) (pw_ne F R.lt (FLD.r0 F R) first) e
      have := pw_inj F R (by omega) (by omega) this
      omega
  exact this c (Nat.le_refl _)
/-- all messages -/
def MSof (s cnt : Nat) : List (List Nat) := if cnt = 2 then (List.range (s * s)).map fun k => [k % s, k / s] else (List.range s).map fun e => [e]
theorem nodup_map {α β : Type} {f : α → β} : ∀ {l : List α}, l.Nodup → (∀ a ∈ l, ∀ b ∈ l, f a = f b → a = b) → (l.map f).Nodup
  | [], _, _ => List.nodup_nil
  | a :: l, nd, h => by
    obtain ⟨na, nd'⟩ := List.nodup_cons.mp nd
    refine List.nodup_cons.mpr ⟨fun hm => ?_, nodup_map nd' fun x hx y hy => h x (List.mem_cons_of_mem _ hx) y (List.mem_cons_of_mem _ hy)⟩
    obtain ⟨b, hb, e⟩ := List.mem_map.mp hm
    exact na (h b (List.mem_cons_of_mem _ hb) a List.mem_cons_self e ▸ hb)
theorem MS_nodup {s cnt : Nat} (hs : 0 < s) : (MSof s cnt).Nodup := by
  unfold MSof
  split
  · refine nodup_map List.nodup_range fun a _ b _ e => ?_
    simp only [List.cons.injEq, and_true] at e
    rw [← Nat.div_add_mod a s, ← Nat.div_add_mod b s, e.1, e.2]
  · exact nodup_map List.nodup_range fun a _ b _ e => by simpa using e
theorem MS_mem {m cnt : Nat} (hc : cnt = 1 ∨ cnt = 2) (msg : List Nat) : msg ∈ MSof (2 ^ m) cnt ↔ COD.El m msg ∧ msg.length = cnt := by
  have s0 := Nat.two_pow_pos m
  unfold MSof
  rcases hc with rfl | rfl
  · rw [if_neg (by decide), List.mem_map]
    constructor
    · rintro ⟨e, he, rfl⟩
      exact ⟨fun a ha => by rw [List.mem_singleton.mp ha]; exact List.mem_range.mp he, rfl⟩
    · rintro ⟨h, l⟩
      obtain ⟨a, rfl⟩ := List.length_eq_one_iff.mp l
      exact ⟨a, List.mem_range.mpr (h a (by simp)), rfl⟩
  · rw [if_pos rfl, List.mem_map]
    constructor
    · rintro ⟨k, hk, rfl⟩
      have hk := List.mem_range.mp hk
      refine ⟨fun a ha => ?_, rfl⟩
      simp only [List.mem_cons, List.not_mem_nil, or_false] at ha
      rcases ha with rfl | rfl
      · exact Nat.mod_lt _ s0
      · exact Nat.div_lt_of_lt_mul hk
    · rintro ⟨h, l⟩
      match msg, l with
      | [a, b], _ =>
        have ha := h a (by simp)
        have hb := h b (by simp)
        refine ⟨a + 2 ^ m * b, List.mem_range.mpr ?_, ?_⟩
        · have : 2 ^ m * (b + 1) ≤ 2 ^ m * 2 ^ m := Nat.mul_le_mul_left _ hb
          rw [Nat.mul_add, Nat.mul_one] at this; omega
        · rw [Nat.add_mul_mod_self_left, Nat.mod_eq_of_lt ha, Nat.add_mul_div_left _ _ s0, Nat.div_eq_of_lt ha, Nat.zero_add]
theorem MS_len {s cnt : Nat} : (MSof s cnt).length = if cnt = 2 then s * s else s := by
  unfold MSof
  split <;> simp
theorem MS_zero {s cnt : Nat} (hs : 0 < s) (hc : cnt = 1 ∨ cnt = 2) : (MSof s cnt)[0]? = some (List.replicate cnt 0) := by
  unfold MSof
  rcases hc with rfl | rfl
  · rw [if_neg (by decide), List.getElem?_map, List.getElem?_range hs]; rfl
  · rw [if_pos rfl, List.getElem?_map, List.getElem?_range (Nat.mul_pos hs hs)]
    show some [0 % s, 0 / s] = _
    rw [Nat.zero_mod, Nat.zero_div]; rfl
variable {m q r n first c cnt : Nat} {l : List Nat}
def WSof (m q r first c cnt : Nat) : List (List Nat) := (MSof (2 ^ m) cnt).map (COD.cwd q (genC q r first c) c)
theorem cw_cwd (O : FldOk m q r l) (hn : n = c + cnt) {msg : List Nat} (h : COD.El m msg) (hl : msg.length = cnt) : CW m q r n first c (COD.cwd q (genC q r first c) c msg) := by
  have F := O.fd
  refine ⟨COD.cwd_El F h, by rw [COD.cwd_len, hl, hn], fun j hj => ?_⟩
  have e := rtsC_len q r first c
  have := COD.cwd_zero F (rs := rtsC q r first c) (rtsC_El F r first c) h (x := pw q r (first + j)) (List.mem_map.mpr ⟨j, List.mem_range.mpr hj, rfl⟩)
  rw [e] at this
  exact this
theorem cwd_cw (O : FldOk m q r l) (hn : n = c + cnt) (hc : c ≤ 2 ^ m - 1) {W : List Nat} (h : CW m q r n first c W) : W = COD.cwd q (genC q r first c) c (W.drop c) := by
  have F := O.fd
  have e := rtsC_len q r first c
  have := COD.word_cwd F (rtsC_El F r first c) (rts_nd F O.lr.1 first hc) h.el (by rw [e, h.len]; omega) fun x hx => by
    obtain ⟨j, hj, rfl⟩ := List.mem_map.mp hx
    exact h.z j (List.mem_range.mp hj)
  rw [e] at this
  exact this
theorem WS_mem (O : FldOk m q r l) (h12 : cnt = 1 ∨ cnt = 2) (hn : n = c + cnt) (hc : c ≤ 2 ^ m - 1) (W : List Nat) : W ∈ WSof m q r first c cnt ↔ CW m q r n first c W := by
  unfold WSof
  rw [List.mem_map]
  constructor
  · rintro ⟨msg, hm, rfl⟩
    obtain ⟨a, b⟩ := (MS_mem h12 msg).mp hm
    exact cw_cwd O hn a b
  · intro h
    refine ⟨W.drop c, (MS_mem h12 _).mpr ⟨fun a ha => h.el a (List.mem_of_mem_drop ha), by rw [List.length_drop, h.len]; omega⟩, (cwd_cw O hn hc h).symm⟩
theorem WS_nodup : (WSof m q r first c cnt).Nodup := nodup_map (MS_nodup (Nat.two_pow_pos m)) fun a _ b _ e => by
  rw [← COD.cwd_msg (q := q) (g := genC q r first c) (c := c) (msg := a), e, COD.cwd_msg]
theorem WS_zero (O : FldOk m q r l) (h12 : cnt = 1 ∨ cnt = 2) (hn : n = c + cnt) (hc : c ≤ 2 ^ m - 1) : (WSof m q r first c cnt)[0]? = some (List.replicate n 0) := by
  have F := O.fd
  unfold WSof
  rw [List.getElem?_map, MS_zero (Nat.two_pow_pos m) h12]
  have h : CW m q r n first c (List.replicate n 0) := ⟨fun a ha => by rw [(List.mem_replicate.mp ha).2]; exact Nat.two_pow_pos m, List.length_replicate, fun j _ => ev_zeros F n⟩
  have := cwd_cw O hn hc h
  rw [List.drop_replicate, hn, Nat.add_sub_cancel_left, ← hn] at this
  exact congrArg some this.symm
/-- the words whose places these are -/
theorem found_perm (O : FldOk m q r l) (h12 : cnt = 1 ∨ cnt = 2) (hn : n = c + cnt) (n1 : n ≤ 2 ^ m - 1) {pl : List Nat} (asc : Asc n (c + 1) pl) :
    (((List.range (WSof m q r first c cnt).length).filter fun k => decide (((WSof m q r first c cnt).map (sup n)).getD k [] = pl)).map fun k => (WSof m q r first c cnt).getD k []).Perm
      ((List.range (2 ^ m - 1)).map fun e => scl q (e + 1) (wordV m q r n first pl)) := by
  obtain ⟨a1, a2, a3⟩ := asc
  have F := O.fd
  have PO : PlsOk m n pl c := ⟨a1.imp fun {a b} h e => by omega, a2, a3, n1⟩
  obtain ⟨WS, hWS⟩ : ∃ WS, WS = WSof m q r first c cnt := ⟨_, rfl⟩
  have nd : WS.Nodup := by rw [hWS]; exact WS_nodup
  have mem := WS_mem (n := n) (first := first) O h12 hn (by omega)
  rw [← hWS] at mem ⊢
  have gD : ∀ {k : Nat}, k < WS.length → WS[k]? = some (WS.getD k []) := fun {k} h => by rw [List.getD_eq_getElem?_getD, List.getElem?_eq_getElem h]; rfl
  have gS : ∀ {k : Nat}, k < WS.length → (WS.map (sup n)).getD k [] = sup n (WS.getD k []) := fun {k} h => by
    rw [List.getD_eq_getElem?_getD, List.getElem?_map, gD h]; rfl
  refine (List.perm_ext_iff_of_nodup ?_ ?_).mpr fun W => ?_
  · refine nodup_map (List.Pairwise.filter _ List.nodup_range) fun a ha b hb e => ?_
    have ha := List.mem_range.mp (List.mem_filter.mp ha).1
    have hb := List.mem_range.mp (List.mem_filter.mp hb).1
    have := gD ha
    rw [e, ← gD hb] at this
    exact (List.getElem?_inj ha nd).mp this
  · refine nodup_map List.nodup_range fun a ha b hb e => ?_
    have ha := List.mem_range.mp ha
    have hb := List.mem_range.mp hb
    have := congrArg (fun W => List.getD W (pl.headD 0) 0) e
    have this : (scl q (a + 1) (wordV m q r n first pl)).getD (pl.headD 0) 0 = (scl q (b + 1) (wordV m q r n first pl)).getD (pl.headD 0) 0 := this
    rw [scl_getD F, scl_getD F, wordV_one O PO, one_mulm F (by omega), one_mulm F (by omega)] at this
    omega
  · constructor
    · intro h
      obtain ⟨k, hk, rfl⟩ := List.mem_map.mp h
      obtain ⟨hk, hs⟩ := List.mem_filter.mp hk
      have hk := List.mem_range.mp hk
      have hs := of_decide_eq_true hs
      rw [gS hk] at hs
      obtain ⟨e, e1, e2, e3⟩ := (cw_mult O PO a1).mp ⟨(mem _).mp (List.mem_of_getElem? (gD hk)), hs⟩
      refine List.mem_map.mpr ⟨e - 1, List.mem_range.mpr (by omega), ?_⟩
      rw [show e - 1 + 1 = e by omega]; exact e3.symm
    · intro h
      obtain ⟨e, he, rfl⟩ := List.mem_map.mp h
      have he := List.mem_range.mp he
      obtain ⟨h1, h2⟩ := (cw_mult (first := first) O PO a1).mpr ⟨e + 1, by omega, by omega, rfl⟩
      obtain ⟨k, hk⟩ := List.mem_iff_getElem?.mp ((mem _).mpr h1)
      have kl := (List.getElem?_eq_some_iff.mp hk).1
      have e3 : WS.getD k [] = scl q (e + 1) (wordV m q r n first pl) := by rw [List.getD_eq_getElem?_getD, hk]; rfl
      refine List.mem_map.mpr ⟨k, List.mem_filter.mpr ⟨List.mem_range.mpr kl, decide_eq_true ?_⟩, e3⟩
      rw [gS kl, e3]; exact h2
end
end K20
set_option synthInstance.maxSize 100000
set_option synthInstance.maxHeartbeats 0
namespace K20
open PySem PySem.Spec L2 NB ER MKX DL
abbrev s_law : Stmt := top 48
theorem sc_law : FnScope ["script", "draws", "m", "f", "size", "n", "count", "shape", "code", "messages", "words", "supports", "i", "other", "places", "found", "least", "due", "e", "k", "message", "row", "symbol"] ["script"] (defScope s_law) := ⟨rfl, rfl, rfl, by decide +kernel, rfl, by decide +kernel, by decide +kernel⟩
section
variable {P : Program} {w : World} {K : PySem.W.Frag} {mg : Str → Option Value} {base : Heap}
variable {f_init : Addr} {fd_init : FuncData} {C CF C_OutOfRange C_NotIrreducible C_WrongSize C_WrongPlace : Addr}
open FLD PLY
theorem fsC_no (fo n first checks g) {x : Str} (h1 : (x == ("field" : Str)) = false := by decide +kernel) (h2 : (x == ("n" : Str)) = false := by decide +kernel) (h3 : (x == ("first" : Str)) = false := by decide +kernel) (h4 : (x == ("checks" : Str)) = false := by decide +kernel) (h5 : (x == ("_generator" : Str)) = false := by decide +kernel) : (fsC fo n first checks g).lookup x = none := by
  unfold fsC fsC4
  show List.lookup x [_, _, _, _, _] = none
  rw [lk_ne h1, lk_ne h2, lk_ne h3, lk_ne h4, lk_ne h5]; rfl
theorem bad_not {n : Int} {ps : List Int} {i : Nat} (h : PlBad n ps i) : ¬ PlOk n ps := fun ok => by
  obtain ⟨x, e1, e2, _⟩ := h
  exact ok i x e1 e2
theorem lg_nat {k : Nat} (h : k < 2 ^ 40) : ((k : Int)).natAbs.log2 < 1920 := by
  rw [Int.natAbs_natCast]
  by_cases z : k = 0
  · rw [z]; decide
  · exact Nat.lt_of_lt_of_le ((Nat.log2_lt (k := 40) z).mpr h) (by decide)
/-- Field(m, q), where that is a field -/
theorem fld_go {C C1 C2 : Addr} {F0 : Hp} {m q : Nat} {P : SV → Prop} {ER : Addr → Int → Prop} {z1 z2 : Int} (F : Fd m q) (e1 : z1 = (m : Int)) (e2 : z2 = (q : Int)) (h : ∀ r logs, FldOk m q r logs → P (.val (FldO C m q r logs))) : ∃ S, rcFld C C1 C2 F0 [.val (.int z1), .val (.int z2)] S ∧ ∀ r, S r → match r with
    | .ok sv => (∃ d, sv = .val d) ∧ P sv
    | .er C i => ER C i := by
  subst e1 e2
  have h2 := F.h2
  have h8 := F.h8
  have q512 := q_512 F
  refine ⟨fun y => ∃ r logs, FldOk m q r logs ∧ y = .ok (.val (FldO C m q r logs)), ⟨m, q, rfl, lg_nat (by omega), lg_nat (by omega), by rw [Int.natAbs_natCast]; omega, fun z => absurd ⟨by omega, by omega⟩ z, fun _ _ z => absurd ⟨by omega, by rw [Int.toNat_natCast, Int.toNat_natCast]; exact F⟩ z, fun mn qn r logs e1 e2 O => ?_⟩, ?_⟩
  · have : mn = m := by omega
    have : qn = q := by omega
    subst mn qn
    exact ⟨r, logs, O, rfl⟩
  · rintro y ⟨r, logs, O, rfl⟩
    exact ⟨⟨_, rfl⟩, h r logs O⟩
/-- RootCode(field, n, first, checks), where that is a code -/
theorem code_go {C CF CO : Addr} {F0 : Hp} {m q r : Nat} {logs : List Nat} {n first checks : Nat} {P : SV → Prop} {ER : Addr → Int → Prop} {z1 z2 z3 : Int} (O : FldOk m q r logs) (n2 : 2 ≤ n) (n3 : n ≤ 2 ^ m - 1) (f2 : first ≤ 2 ^ m - 2) (c1 : 1 ≤ checks) (c2 : checks ≤ n - 1) (c3 : checks ≤ 100) (e1 : z1 = (n : Int)) (e2 : z2 = (first : Int)) (e3 : z3 = (checks : Int))
    (h : P (.val (CodeO C (FldO CF m q r logs) n first checks (genC q r first checks)))) : ∃ S, rcCode C CF CO F0 [.val (FldO CF m q r logs), .val (.int z1), .val (.int z2), .val (.int z3)] S ∧ ∀ r, S r → match r with
    | .ok sv => (∃ d, sv = .val d) ∧ P sv
    | .er C i => ER C i := by
  subst e1 e2 e3
  refine ⟨fun y => y = .ok (.val (CodeO C (FldO CF m q r logs) n first checks (genC q r first checks))), ⟨m, q, r, logs, n, first, checks, rfl, O, by omega, fun z => absurd ⟨by omega, by omega⟩ z, fun _ _ z => absurd ⟨by omega, by omega⟩ z, fun _ _ _ _ z => absurd ⟨by omega, by omega⟩ z, fun _ _ _ _ _ _ => by simp only [Int.toNat_natCast]⟩, ?_⟩
  rintro y rfl
  exact ⟨⟨_, rfl⟩, h⟩
theorem least_same {m q r r2 : Nat} (h : LeastRoot m q r) (k : LeastRoot m q r2) : r = r2 := by
  rcases Nat.lt_trichotomy r r2 with z | z | z
  · exact absurd h.1 (k.2 r z)
  · exact z
  · exact absurd k.1 (h.2 r2 z)
theorem plok_of {n : Nat} {pl : List Nat} (hs : pl.Pairwise (· < ·)) (hl : ∀ p ∈ pl, p < n) : PlOk (n : Int) (NI pl) := fun k u hu => by
  unfold NI at hu
  rw [List.getElem?_map] at hu
  cases e : pl[k]? with
  | none => rw [e] at hu; cases hu
  | some p =>
    rw [e] at hu; cases hu
    have h1 := hl p (List.mem_of_getElem? e)
    unfold badP prvP
    by_cases z : k = 0
    · rw [if_pos z]; show ¬ ((p : Int) ≤ -1 ∨ (n : Int) ≤ (p : Int)); omega
    · rw [if_neg z]
      have hk := (List.getElem?_eq_some_iff.mp e).1
      have e2 : pl[k - 1]? = some pl[k - 1] := List.getElem?_eq_getElem (by omega)
      have lt : pl[k - 1] < pl[k] := List.pairwise_iff_getElem.mp hs (k - 1) k (by omega) hk (by omega)
      have ep : pl[k] = p := (List.getElem?_eq_some_iff.mp e).2
      have e3 : (NI pl)[k - 1]? = some ((pl[k - 1] : Nat) : Int) := by unfold NI; rw [List.getElem?_map, e2]; rfl
      rw [List.getD_eq_getElem?_getD, e3]
      show ¬ ((p : Int) ≤ ((pl[k - 1] : Nat) : Int) ∨ (n : Int) ≤ (p : Int))
      omega
theorem ok_law {f f__law_draws f__law_mix f__law_field f__law_choices f__law_is_word f__law_times f_Field___init__ f_RootCode___init__ f_RootCode_word_on f_RootCode_codeword : Addr} {fd fd__law_draws fd__law_mix fd__law_field fd__law_choices fd__law_is_word fd__law_times fd_Field___init__ fd_RootCode___init__ fd_RootCode_word_on fd_RootCode_codeword : FuncData} (D : Df K mg "law" ["script"] s_law f fd) (B : Bl mg) (z_sorted : mg "sorted" = none) (K_RootCode : Cls K C)
    (D__law_draws : Df K mg "_law_draws" ["script"] s__law_draws f__law_draws fd__law_draws) (G__law_draws : FnOk P w K mg base CX0 1 f__law_draws fd__law_draws ["script"] (sp_draws K))
    (D__law_mix : Df K mg "_law_mix" ["draws", "k", "many"] s__law_mix f__law_mix fd__law_mix) (G__law_mix : FnOk P w K mg base CX0 1 f__law_mix fd__law_mix ["draws", "k", "many"] (spF rcMix))
    (D__law_field : Df K mg "_law_field" ["draws", "k", "m"] s__law_field f__law_field fd__law_field) (G__law_field : FnOk P w K mg base CX0 3 f__law_field fd__law_field ["draws", "k", "m"] (spF rcLF))
    (D__law_choices : Df K mg "_law_choices" ["n", "count"] s__law_choices f__law_choices fd__law_choices) (G__law_choices : FnOk P w K mg base CX0 1 f__law_choices fd__law_choices ["n", "count"] (spF rcChs))
    (D__law_is_word : Df K mg "_law_is_word" ["f", "shape", "symbols"] s__law_is_word f__law_is_word fd__law_is_word) (G__law_is_word : FnOk P w K mg base CX0 3 f__law_is_word fd__law_is_word ["f", "shape", "symbols"] (spF rcLIw))
    (D__law_times : Df K mg "_law_times" ["f", "e", "g"] s__law_times f__law_times fd__law_times) (G__law_times : FnOk P w K mg base CX0 1 f__law_times fd__law_times ["f", "e", "g"] (spF rcT3))
    (M_Field : Mk K CF f_Field___init__) (g_Field : mg "Field" = some (.ref CF)) (b_Field___init__ : Binds K fd_Field___init__ ["self", "m", "modulus"] []) (G_Field___init__ : FnOk P w K mg base (L2.CX P w) 8 f_Field___init__ fd_Field___init__ ["self", "m", "modulus"] (spI CF (rcFld CF C_OutOfRange C_NotIrreducible)))
    (M_RootCode : Mk K C f_RootCode___init__) (g_RootCode : mg "RootCode" = some (.ref C)) (b_RootCode___init__ : Binds K fd_RootCode___init__ ["self", "field", "n", "first", "checks"] []) (G_RootCode___init__ : FnOk P w K mg base (L2.CX P w) 8 f_RootCode___init__ fd_RootCode___init__ ["self", "field", "n", "first", "checks"] (spI C (rcCode C CF C_OutOfRange)))
    (M_RootCode_word_on : Meth K C "word_on" f_RootCode_word_on) (b_RootCode_word_on : Binds K fd_RootCode_word_on ["self", "places"] []) (G_RootCode_word_on : FnOk P w K mg base (L2.CX P w) 10 f_RootCode_word_on fd_RootCode_word_on ["self", "places"] (spF (rcWo C CF C_WrongSize C_WrongPlace)))
    (M_RootCode_codeword : Meth K C "codeword" f_RootCode_codeword) (b_RootCode_codeword : Binds K fd_RootCode_codeword ["self", "message"] []) (G_RootCode_codeword : FnOk P w K mg base (L2.CX P w) 7 f_RootCode_codeword fd_RootCode_codeword ["self", "message"] (spF (rcCw C CF C_WrongSize))) :
    FnOk P w K mg base CX0 14 f fd ["script"] (sp_law K) := by
  refine okLaw D.F sc_law (by decide) (fun cdv A outer s H E hr => ⟨_, _, (pss_cons (ps_set (i := 1) sc_law.nd rfl (Or.inl rfl) (pe_call G__law_draws (hr.mono (by decide)) rfl D__law_draws.g D__law_draws.F.kp D__law_draws.b .nil pass00 (pa_cons (pv 0) pa_nil)))
      (pss_cons (ps_set (i := 2) sc_law.nd rfl (Or.inl rfl) (pe_op op_add (pe_z 2) (pe_call G__law_mix (hr.mono (by decide)) rfl D__law_mix.g D__law_mix.F.kp D__law_mix.b .nil pass00 (pa_cons (pv 1) (pa_cons (pe_z 0) (pa_cons (pe_z 2) pa_nil))))))
      (pss_cons (ps_set (i := 3) sc_law.nd rfl (Or.inr rfl) (pe_call G__law_field (hr.mono (by decide)) rfl D__law_field.g D__law_field.F.kp D__law_field.b .nil pass00 (pa_cons (pv 1) (pa_cons (pe_z 1) (pa_cons (pv 2) pa_nil)))))
      (pss_cons (ps_set (i := 4) sc_law.nd rfl (Or.inr rfl) (pe_op op_shl (pe_z 1) (pv 2)))
      (pss_cons (ps_set (i := 5) sc_law.nd rfl (Or.inl rfl) (pe_op op_add (pe_z 2) (pe_call G__law_mix (hr.mono (by decide)) rfl D__law_mix.g D__law_mix.F.kp D__law_mix.b .nil pass00 (pa_cons (pv 1) (pa_cons (pe_z 2) (pa_cons (pe_op op_sub (pv 4) (pe_z 2)) pa_nil))))))
      (pss_cons (ps_set (i := 6) sc_law.nd rfl (Or.inl rfl) (pe_op op_add (pe_z 1) (pe_call G__law_mix (hr.mono (by decide)) rfl D__law_mix.g D__law_mix.F.kp D__law_mix.b .nil pass00 (pa_cons (pv 1) (pa_cons (pe_z 3) (pa_cons (pe_callB (call_min2 rfl) (by rfl) B.min (by decide +kernel) (pa_cons (pe_z 2) (pa_cons (pe_op op_sub (pv 5) (pe_z 1)) pa_nil))) pa_nil))))))
      (pss_cons (ps_set (i := 7) sc_law.nd rfl (Or.inr rfl) (pe_tup (pa_cons (pv 5) (pa_cons (pe_call G__law_mix (hr.mono (by decide)) rfl D__law_mix.g D__law_mix.F.kp D__law_mix.b .nil pass00 (pa_cons (pv 1) (pa_cons (pe_z 4) (pa_cons (pe_op op_sub (pv 4) (pe_z 1)) pa_nil)))) (pa_cons (pe_op op_sub (pv 5) (pv 6)) pa_nil)))))
      (pss_cons (ps_set (i := 8) sc_law.nd rfl (Or.inr rfl) (pe_make M_RootCode G_RootCode___init__ (hr.mono (by decide)) rfl g_RootCode b_RootCode___init__ .nil passL (by exact (pa_cons (pe_make M_Field G_Field___init__ (hr.mono (by decide)) rfl g_Field b_Field___init__ .nil passL (by exact (pa_cons (pv 2) (pa_cons (pe_ix ix_tup (pv 3) (pe_z 1) (fun _ _ => rfl)) pa_nil)))) (pa_cons (pe_ix ix_tup (pv 7) (pe_z 0) (fun _ _ => rfl)) (pa_cons (pe_ix ix_tup (pv 7) (pe_z 1) (fun _ _ => rfl)) (pa_cons (pe_ix ix_tup (pv 7) (pe_z 2) (fun _ _ => rfl)) pa_nil)))))))
      (pss_cons (ps_setLc (i := 9) (own := [("e", 18)]) rfl sc_law.nd rfl rfl (sw_true rfl rfl rfl (by decide +kernel)) (pi_range1 rfl B.range (pa_cons (pv 4) pa_nil)) (blkOk_by (own := [("e", 18)]) (N := ["script", "draws", "m", "f", "size", "n", "count", "shape", "code", "messages", "words", "supports", "i", "other", "places", "found", "least", "due", "e", "k", "message", "row", "symbol"]) (sc := defScope s_law) (by decide +kernel)) (fun _ _ _ _ _ => (pg_name (i := 18) sc_law.nd rfl (Or.inl rfl) (Or.inr rfl))) (fun _ _ _ _ _ => pts_nil) (fun _ _ _ _ _ => (pe_lst (pa_cons (pv 18) pa_nil))))
      (C8.pss_cut (ps_if (pt_cmpR op_eq (pv 6) (pe_z 2) (nomark _)) (pss_one (ps_setLc (i := 9) (own := [("k", 19)]) rfl sc_law.nd rfl rfl (sw_true rfl rfl rfl (by decide +kernel)) (pi_range1 rfl B.range (pa_cons (pe_op op_mul (pv 4) (pv 4)) pa_nil)) (blkOk_by (own := [("k", 19)]) (N := ["script", "draws", "m", "f", "size", "n", "count", "shape", "code", "messages", "words", "supports", "i", "other", "places", "found", "least", "due", "e", "k", "message", "row", "symbol"]) (sc := defScope s_law) (by decide +kernel)) (fun _ _ _ _ _ => (pg_name (i := 19) sc_law.nd rfl (Or.inl rfl) (Or.inr rfl))) (fun _ _ _ _ _ => pts_nil) (fun _ _ _ _ _ => (pe_lst (pa_cons (pe_op op_mod (pe_callTy call_int1 (by rfl) B.int (by decide +kernel) (pa_cons (pv 19) pa_nil)) (pv 4)) (pa_cons (pe_op op_fdiv (pv 19) (pv 4)) pa_nil)))))) pss_nil)
      (pss_cons (ps_set (i := 10) sc_law.nd rfl (Or.inr rfl) (pe_lc (own := [("message", 20)]) rfl sc_law.nd (pi_list (pv 9)) (blkOk_by (own := [("message", 20)]) (N := ["script", "draws", "m", "f", "size", "n", "count", "shape", "code", "messages", "words", "supports", "i", "other", "places", "found", "least", "due", "e", "k", "message", "row", "symbol"]) (sc := defScope s_law) (by decide +kernel)) (fun _ _ _ _ _ => (pg_name (i := 20) sc_law.nd rfl (Or.inl rfl) (Or.inr rfl))) (fun _ _ _ _ _ => pts_nil) (fun _ _ _ _ _ => (pe_meth (pv 8) K_RootCode M_RootCode_codeword G_RootCode_codeword (hr.mono (by decide)) b_RootCode_codeword .nil passL (by exact (pa_cons (pv 20) pa_nil))))))
      (pss_cons (ps_set (i := 11) sc_law.nd rfl (Or.inr rfl) (pe_lst pa_nil))
      (pss_cons (ps_for PassesOwn.never rfl (pi_range1 rfl B.range (pa_cons (pe_callB call_len_seq (by rfl) B.len PySem.boot_len (pa_cons (pv 10) pa_nil)) pa_nil)) (pg_name (i := 12) sc_law.nd rfl (Or.inr rfl))
        (pss_cons (ps_if (pt_not (pt_val (pe_call G__law_is_word (hr.mono (by decide)) rfl D__law_is_word.g D__law_is_word.F.kp D__law_is_word.b .nil pass00 (pa_cons (pv 3) (pa_cons (pv 7) (pa_cons (pe_ix ix_list (pv 10) (pv 12) (fun _ _ => rfl)) pa_nil)))))) (pss_one (ps_ret pe_bl)) pss_nil)
        (pss_cons (ps_expr (pe_bm PySem.F.plainAttrs_list PySem.F.slot_list_append PySem.F.type_list_append mt_append (pv 11) (pa_cons (pe_lc (own := [("k", 19)]) rfl sc_law.nd (pi_range1 rfl B.range (pa_cons (pv 5) pa_nil)) (blkOk_by (own := [("k", 19)]) (N := ["script", "draws", "m", "f", "size", "n", "count", "shape", "code", "messages", "words", "supports", "i", "other", "places", "found", "least", "due", "e", "k", "message", "row", "symbol"]) (sc := defScope s_law) (by decide +kernel)) (fun _ _ _ _ _ => (pg_name (i := 19) sc_law.nd rfl (Or.inl rfl) (Or.inr rfl))) (fun _ _ _ _ _ => (pts_one (pt_cmpR op_ne (pe_ix (ix_listK (K := K) rfl) (pe_ix (ix_listK (K := K) rfl) (pv 10) (pv 12) (fun _ _ => rfl)) (pv 19) (fun _ _ => rfl)) (pe_z 0) (nomark _)))) (fun _ _ _ _ _ => (pv 19))) pa_nil)))
        (pss_cons (ps_set (i := 13) sc_law.nd rfl (Or.inr rfl) (pe_ix ix_list (pv 10) (pe_call G__law_mix (hr.mono (by decide)) rfl D__law_mix.g D__law_mix.F.kp D__law_mix.b .nil pass00 (pa_cons (pv 1) (pa_cons (pe_op op_add (pe_z 10) (pv 12)) (pa_cons (pe_callB call_len_seq (by rfl) B.len PySem.boot_len (pa_cons (pv 10) pa_nil)) pa_nil)))) (fun _ _ => rfl)))
        (pss_one (ps_if (PW.pt (pw_and (pt_cmpR (op_neD hr.units) (pv 13) (pe_ix ix_list (pv 10) (pv 12) (fun _ _ => rfl)) (nomark _)) (pw_and1 (pt_cmpR op_lt (pe_callB call_len_seq (by rfl) B.len PySem.boot_len (pa_cons (pe_lc (own := [("k", 19)]) rfl sc_law.nd (pi_range1 rfl B.range (pa_cons (pv 5) pa_nil)) (blkOk_by (own := [("k", 19)]) (N := ["script", "draws", "m", "f", "size", "n", "count", "shape", "code", "messages", "words", "supports", "i", "other", "places", "found", "least", "due", "e", "k", "message", "row", "symbol"]) (sc := defScope s_law) (by decide +kernel)) (fun _ _ _ _ _ => (pg_name (i := 19) sc_law.nd rfl (Or.inl rfl) (Or.inr rfl))) (fun _ _ _ _ _ => (pts_one (pt_cmpR op_ne (pe_ix (ix_listK (K := K) rfl) (pe_ix (ix_listK (K := K) rfl) (pv 10) (pv 12) (fun _ _ => rfl)) (pv 19) (fun _ _ => rfl)) (pe_ix (ix_listK (K := K) rfl) (pv 13) (pv 19) (fun _ _ => rfl)) (nomark _)))) (fun _ _ _ _ _ => (pv 19))) pa_nil)) (pe_op op_add (pe_ix ix_tup (pv 7) (pe_z 2) (fun _ _ => rfl)) (pe_z 1)) (nomark _))))) (pss_one (ps_ret pe_bl)) pss_nil))))))
      (pss_cons (ps_if (PW.pt (pw_or (pt_cmpR op_gt (pe_callB call_len_seq (by rfl) B.len PySem.boot_len (pa_cons (pe_lc (own := [("row", 21)]) rfl sc_law.nd (pi_list (pv 11)) (blkOk_by (own := [("row", 21)]) (N := ["script", "draws", "m", "f", "size", "n", "count", "shape", "code", "messages", "words", "supports", "i", "other", "places", "found", "least", "due", "e", "k", "message", "row", "symbol"]) (sc := defScope s_law) (by decide +kernel)) (fun _ _ _ _ _ => (pg_name (i := 21) sc_law.nd rfl (Or.inl rfl) (Or.inr rfl))) (fun _ _ _ _ _ => (pts_one (pt_chain op_lt op_lt (pe_z 0) (pe_callB (call_lenK (K := K) (by rfl)) (by rfl) B.len PySem.boot_len (pa_cons (pv 21) pa_nil)) (pe_op op_add (pe_ix (ix_tupK (K := K) rfl) (pv 7) (pe_z 2) (fun _ _ => rfl)) (pe_z 1))))) (fun _ _ _ _ _ => (pv 21))) pa_nil)) (pe_z 0) (nomark _)) (pw_or1 (pt_cmpR (op_neD hr.units) (pe_ix ix_list (pv 11) (pe_z 0) (fun _ _ => rfl)) (pe_lst pa_nil) (nomark _))))) (pss_one (ps_ret pe_bl)) pss_nil)
      (pss_cons (ps_for PassesOwn.never rfl (pi_list (pe_call G__law_choices (hr.mono (by decide)) rfl D__law_choices.g D__law_choices.F.kp D__law_choices.b .nil pass00 (pa_cons (pv 5) (pa_cons (pe_op op_add (pe_ix ix_tup (pv 7) (pe_z 2) (fun _ _ => rfl)) (pe_z 1)) pa_nil)))) (pg_name (i := 14) sc_law.nd rfl (Or.inr rfl))
        (pss_cons (ps_setLc (i := 15) (own := [("k", 19)]) rfl sc_law.nd rfl rfl (sw_true rfl rfl rfl (by decide +kernel)) (pi_range1 rfl B.range (pa_cons (pe_callB call_len_seq (by rfl) B.len PySem.boot_len (pa_cons (pv 10) pa_nil)) pa_nil)) (blkOk_by (own := [("k", 19)]) (N := ["script", "draws", "m", "f", "size", "n", "count", "shape", "code", "messages", "words", "supports", "i", "other", "places", "found", "least", "due", "e", "k", "message", "row", "symbol"]) (sc := defScope s_law) (by decide +kernel)) (fun _ _ _ _ _ => (pg_name (i := 19) sc_law.nd rfl (Or.inl rfl) (Or.inr rfl))) (fun _ _ _ _ _ => (pts_one (pt_cmpR (op_eqDK (K := K) rfl hr.units) (pe_ix (ix_listK (K := K) rfl) (pv 11) (pv 19) (fun _ _ => rfl)) (pv 14) (nomark _)))) (fun _ _ _ _ _ => (pv 19)))
        (pss_cons (ps_set (i := 16) sc_law.nd rfl (Or.inr rfl) (pe_meth (pv 8) K_RootCode M_RootCode_word_on G_RootCode_word_on (hr.mono (by decide)) b_RootCode_word_on .nil passL (by exact (pa_cons (pv 14) pa_nil))))
        (pss_cons (ps_set (i := 17) sc_law.nd rfl (Or.inl rfl) (pe_callB (cr_sortedD hr.units) (by rfl) z_sorted (by decide +kernel) (pa_cons (pe_lc (own := [("e", 18)]) rfl sc_law.nd (pi_range2 rfl B.range (pa_cons (pe_z 1) (pa_cons (pv 4) pa_nil))) (blkOk_by (own := [("e", 18)]) (N := ["script", "draws", "m", "f", "size", "n", "count", "shape", "code", "messages", "words", "supports", "i", "other", "places", "found", "least", "due", "e", "k", "message", "row", "symbol"]) (sc := defScope s_law) (by decide +kernel)) (fun _ _ _ _ _ => (pg_name (i := 18) sc_law.nd rfl (Or.inr rfl))) (fun _ _ _ _ _ => pts_nil) (fun _ _ _ _ _ => (pe_lc (own := [("symbol", 22)]) rfl sc_law.nd (pi_listK (K := K) (by rfl) (pv 16)) (blkOk_by (by rfl)) (fun _ _ _ _ _ => (pg_name (i := 22) sc_law.nd rfl (Or.inl rfl) (Or.inr rfl))) (fun _ _ _ _ _ => pts_nil) (fun _ _ _ _ _ => (pe_call G__law_times (hr.mono (by decide)) rfl D__law_times.g D__law_times.F.kp D__law_times.b .nil pass00 (pa_cons (pv 3) (pa_cons (pv 22) (pa_cons (pv 18) pa_nil)))))))) pa_nil)))
        (pss_one (ps_if (PW.pt (pw_or (pt_cmpR op_ne (pe_callB call_len_seq (by rfl) B.len PySem.boot_len (pa_cons (pv 15) pa_nil)) (pe_op op_sub (pv 4) (pe_z 1)) (nomark _)) (pw_or1 (pt_cmpR (op_neD hr.units) (pe_callB (cr_sortedD hr.units) (by rfl) z_sorted (by decide +kernel) (pa_cons (pe_lc (own := [("k", 19)]) rfl sc_law.nd (pi_list (pv 15)) (blkOk_by (own := [("k", 19)]) (N := ["script", "draws", "m", "f", "size", "n", "count", "shape", "code", "messages", "words", "supports", "i", "other", "places", "found", "least", "due", "e", "k", "message", "row", "symbol"]) (sc := defScope s_law) (by decide +kernel)) (fun _ _ _ _ _ => (pg_name (i := 19) sc_law.nd rfl (Or.inl rfl) (Or.inr rfl))) (fun _ _ _ _ _ => pts_nil) (fun _ _ _ _ _ => (pe_ix (ix_listK (K := K) rfl) (pv 10) (pv 19) (fun _ _ => rfl)))) pa_nil)) (pv 17) (nomark _))))) (pss_one (ps_ret pe_bl)) pss_nil))))))
      (pss_one (ps_ret pe_bl))))))))))))))))), fun F0 => by infer_instance, fun F0 xs hxs => ?_⟩)
  have sl := sizeLine_eq
  change dSeq _ _ _ (none :: some (SV.val (.list (LI xs))) :: [none, none, none, none, none, none, none, none, none, none, none, none, none, none, none, none, none, none, none, none, none])
  have na : ∀ {x : Bool}, false = true → x = true := fun z => Bool.noConfusion z
  have q0 : 0 ≤ sizeLine := Nat.zero_le _
  have q1 : 1 ≤ sizeLine := by omega
  have q2 : 2 ≤ sizeLine := by omega
  have q3 : 3 ≤ sizeLine := by omega
  refine ⟨fun y => ∃ v : Nat, v < 2 ∧ y = .ok (.val (.int (v : Int))), ⟨xs, 0, 2, rfl, by decide, by decide, by decide, fun v g0 g1 => ⟨v.toNat, by omega, by rw [Int.toNat_of_nonneg g0]⟩⟩, ?_⟩
  rintro y ⟨v, hv, rfl⟩
  obtain ⟨mm, hmm⟩ : ∃ mm, mm = 2 + v := ⟨_, rfl⟩
  have m2 : 2 ≤ mm := by omega
  have m3 : mm ≤ 3 := by omega
  refine ⟨fun _ => rfl, oI0_go (d := .int (mm : Int)) (by exact congrArg PyData.int (by omega)) ?_⟩
  have p4 : 4 ≤ 2 ^ mm := Nat.pow_le_pow_right (n := 2) (by decide) m2
  have p8 : 2 ^ mm ≤ 8 := Nat.pow_le_pow_right (n := 2) (by decide) m3
  obtain ⟨sz, hsz⟩ : ∃ sz, sz = 2 ^ mm := ⟨_, rfl⟩
  have eV : (1 : Int) * 2 ^ ((mm : Nat) : Int).toNat = ((sz : Nat) : Int) := by rw [Int.one_mul, Int.toNat_natCast, hsz, Int.natCast_pow]; rfl
  have cP : CPow 1 ((mm : Nat) : Int) := ⟨by omega, by omega, by decide⟩
  refine ⟨fun y => ∃ q r, Fd mm q ∧ LeastRoot mm q r ∧ y = .ok (.val (FT3 mm q r)), ⟨xs, 1, mm, rfl, by decide, by decide, m2, by omega, fun q r a b => ⟨q, r, a, b, rfl⟩⟩, ?_⟩
  rintro y ⟨q, r, FD, LR, rfl⟩
  refine ⟨na, ?_⟩
  refine ⟨cP, ?_⟩
  conv =>
    arg 1
    arg 1
    change PyData.int ((1 : Int) * 2 ^ ((mm : Nat) : Int).toNat)
    rw [eV]
  refine ⟨fun y => ∃ v : Nat, v < sz - 2 ∧ y = .ok (.val (.int (v : Int))), ⟨xs, 2, (sz : Int) - 2, rfl, by decide, by decide, by omega, fun v g0 g1 => ⟨v.toNat, by omega, by rw [Int.toNat_of_nonneg g0]⟩⟩, ?_⟩
  rintro y ⟨u, hu, rfl⟩
  obtain ⟨n, hn⟩ : ∃ n, n = 2 + u := ⟨_, rfl⟩
  refine ⟨fun _ => rfl, oI0_go (d := .int (n : Int)) (by exact congrArg PyData.int (by omega)) ?_⟩
  refine ⟨fun y => ∃ v : Nat, v < 2 ∧ v < n - 1 ∧ y = .ok (.val (.int (v : Int))), ⟨xs, 3, if (n : Int) - 1 < 2 then (n : Int) - 1 else 2, rfl, by decide, by decide, by split <;> omega, fun v g0 g1 => ⟨v.toNat, by split at g1 <;> omega, by split at g1 <;> omega, by rw [Int.toNat_of_nonneg g0]⟩⟩, ?_⟩
  rintro y ⟨t, ht2, htn, rfl⟩
  obtain ⟨cnt, hcnt⟩ : ∃ cnt, cnt = 1 + t := ⟨_, rfl⟩
  refine ⟨fun _ => rfl, oI0_go (d := .int (cnt : Int)) (by exact congrArg PyData.int (by omega)) ?_⟩
  refine ⟨fun y => ∃ v : Nat, v < sz - 1 ∧ y = .ok (.val (.int (v : Int))), ⟨xs, 4, (sz : Int) - 1, rfl, by decide, by decide, by omega, fun v g0 g1 => ⟨v.toNat, by omega, by rw [Int.toNat_of_nonneg g0]⟩⟩, ?_⟩
  rintro y ⟨first, hfi, rfl⟩
  obtain ⟨c, hc⟩ : ∃ c, n = c + cnt := ⟨n - cnt, by omega⟩
  have c1 : 1 ≤ c := by omega
  have c12 : cnt = 1 ∨ cnt = 2 := by omega
  have n1 : n ≤ 2 ^ mm - 1 := by omega
  have cm : c ≤ 2 ^ mm - 1 := by omega
  have eC : (n : Int) - (cnt : Int) = (c : Int) := by omega
  refine ⟨fun _ => rfl, q3, ?_⟩
  conv =>
    arg 1
    arg 1
    change PyData.tuple [.int (n : Int), .int (first : Int), .int ((n : Int) - (cnt : Int))]
    rw [eC]
    change ShT n first c
  refine ⟨.int (q : Int), rfl, ?_⟩
  refine fld_go FD rfl rfl fun r' l O => ?_
  have eR : r' = r := least_same O.lr LR
  subst eR
  refine ⟨.int (n : Int), rfl, .int (first : Int), rfl, .int (c : Int), rfl, ?_⟩
  refine code_go O (by omega) (by omega) (by omega) c1 (by omega) (by omega) rfl rfl rfl ?_
  have f20 : first < 2 ^ 20 := by omega
  have lsz : ∀ {x : Nat}, x ≤ 64 → x ≤ sizeLine := fun h => by omega
  refine ⟨⟨by omega, by omega⟩, rfl, fun i acc => acc = LLD ((List.range i).map fun e => [e]), rfl, ?_, ?_⟩
  · rintro i d acc hd rfl
    obtain ⟨hi, rfl⟩ := rangeD_at hd
    have hi' : i < sz := by
      have h : i < ((sz : Nat) : Int).toNat := hi
      omega
    refine brT ⟨q1, by rw [LLD_len, List.length_map, List.length_range]; omega, ?_⟩
    have e1 : (0 : Int) + (i : Int) = (i : Int) := by omega
    show _ ++ [PyData.list [.int (0 + (i : Int))]] = _
    rw [e1, List.range_succ, List.map_append, ← LLD_app]; rfl
  rintro acc hacc
  have hacc : acc = LLD ((List.range sz).map fun e => [e]) := by
    have h : acc = LLD ((List.range (rangeD 0 ((sz : Nat) : Int).toNat).length).map fun e => [e]) := hacc
    rw [rangeD_len, Int.toNat_natCast] at h; exact h
  rw [hacc]
  refine .inr ?_
  dsimp only [List.set_cons_succ, List.set_cons_zero]
  obtain ⟨MS, hMS⟩ : ∃ MS, MS = MSof sz cnt := ⟨_, rfl⟩
  refine ⟨fun σ => σ = [none, some (.val (.list (LI xs))), some (.val (.int (mm : Int))), some (.val (FT3 mm q r')), some (.val (.int (sz : Int))), some (.val (.int (n : Int))), some (.val (.int (cnt : Int))), some (.val (ShT n first c)), some (.val (CodeO C (FldO CF mm q r' l) n first c (genC q r' first c))), some (.val (.list (LLD MS))), none, none, none, none, none, none, none, none, none, none, none, none, none], ?_, ?_⟩
  · refine brD (fun cc => ?_) fun cc => ?_
    · have cc : ((cnt : Nat) : Int) = 2 := cc
      have c2 : cnt = 2 := by omega
      have ss : ((sz : Nat) : Int) * (sz : Int) = ((sz * sz : Nat) : Int) := by rw [Int.natCast_mul]
      have ss64 : sz * sz ≤ 64 := Nat.mul_le_mul (by omega : sz ≤ 8) (by omega : sz ≤ 8)
      refine ⟨.inl ⟨by omega, by omega⟩, ⟨(by show _ ≤ ((sz : Nat) : Int) * (sz : Int); rw [ss]; omega), (by show ((sz : Nat) : Int) * (sz : Int) < _; rw [ss]; omega)⟩, rfl, fun i acc => acc = LLD ((List.range i).map fun k => [k % sz, k / sz]), rfl, ?_, ?_⟩
      · rintro i d acc hd rfl
        obtain ⟨hi, rfl⟩ := rangeD_at hd
        have hi' : i < sz * sz := by
          have h : i < (((sz : Nat) : Int) * (sz : Int)).toNat := hi
          rw [ss] at h; omega
        have e1 : (0 : Int) + (i : Int) = (i : Int) := by omega
        refine brT ⟨(by show (0 : Int) < (sz : Int); omega), ⟨by omega, by omega⟩, q2, by rw [LLD_len, List.length_map, List.length_range]; omega, ?_⟩
        show _ ++ [PyData.list [.int ((0 + (i : Int)) % (sz : Int)), .int ((0 + (i : Int)) / (sz : Int))]] = _
        rw [e1, List.range_succ, List.map_append, ← LLD_app]; rfl
      · rintro acc hacc
        have hacc : acc = LLD MS := by
          have h : acc = LLD ((List.range (rangeD 0 (((sz : Nat) : Int) * (sz : Int)).toNat).length).map fun k => [k % sz, k / sz]) := hacc
          rw [rangeD_len, ss, Int.toNat_natCast] at h
          rw [h, hMS]
          unfold MSof
          rw [if_pos c2]
        rw [hacc]
        exact .inr rfl
    · have cc : ¬ ((cnt : Nat) : Int) = 2 := cc
      have c2 : cnt ≠ 2 := by omega
      have : LLD ((List.range sz).map fun e => [e]) = LLD MS := by
        rw [hMS]
        unfold MSof
        rw [if_neg c2]
      rw [this]
  rintro σ rfl
  have MSl : MS.length ≤ 64 := by
    rw [hMS, MS_len]
    split
    · exact Nat.mul_le_mul (by omega : sz ≤ 8) (by omega : sz ≤ 8)
    · omega
  have MSm : ∀ msg ∈ MS, COD.El mm msg ∧ msg.length = cnt := fun msg h => by
    rw [hMS, hsz] at h
    exact (MS_mem c12 msg).mp h
  have Mo : COD.Mon mm (genC q r' first c) c := COD.frs_mon FD c (rtsC q r' first c) (rtsC_len _ _ _ _) (rtsC_El FD _ _ _)
  refine ⟨rfl, fun i acc => acc = LLD ((MS.take i).map (COD.cwd q (genC q r' first c) c)), rfl, ?_, ?_⟩
  · rintro i d acc hd rfl
    obtain ⟨msg, hm, rfl⟩ := LLD_at hd
    obtain ⟨ml, ml2⟩ := MSm msg (List.mem_of_getElem? hm)
    have hi := (List.getElem?_eq_some_iff.mp hm).1
    refine brT ⟨_, rfl, fsC_no _ _ _ _ _, fun y => y = .ok (.own (LI (NI (COD.cwd q (genC q r' first c) c msg)))), ⟨mm, q, r', l, n, first, c, genC q r' first c, msg, rfl, O, Mo, by omega, by omega, by omega, ml, by omega, fun z => absurd (by omega) z, fun _ => rfl⟩, ?_⟩
    rintro y rfl
    refine ⟨fun _ => LI_flatD _, by rw [LLD_len, List.length_map, List.length_take]; omega, ?_⟩
    show _ = LLD ((MS.take (i + 1)).map (COD.cwd q (genC q r' first c) c))
    rw [List.take_add_one, hm, Option.toList_some, List.map_append, ← LLD_app]; rfl
  rintro acc hacc
  obtain ⟨WS, hWS⟩ : ∃ WS, WS = WSof mm q r' first c cnt := ⟨_, rfl⟩
  have hacc : acc = LLD WS := by
    have h : acc = LLD ((MS.take (LLD MS).length).map (COD.cwd q (genC q r' first c) c)) := hacc
    rw [LLD_len, List.take_length] at h
    rw [h, hWS]
    unfold WSof
    rw [hMS, hsz]
  rw [hacc]
  have WSl : WS.length ≤ 64 := by
    rw [hWS]
    unfold WSof
    rw [List.length_map, ← hsz, ← hMS]; exact MSl
  have WSm : ∀ W, W ∈ WS ↔ CW mm q r' n first c W := fun W => by rw [hWS]; exact WS_mem O c12 hc cm W
  have W0 : WS[0]? = some (List.replicate n 0) := by rw [hWS]; exact WS_zero O c12 hc cm
  have WSp : 0 < WS.length := (List.getElem?_eq_some_iff.mp W0).1
  have atL : ∀ {rs : List (List Nat)} {k : Nat} {W : List Nat}, rs[k]? = some W → atI (LLD rs) (k : Int) = some (.list (LI (NI W))) := fun {rs k W} h => D_atN (by unfold LLD; rw [List.getElem?_map, h]; rfl)
  refine .inr ⟨q0, .inl ?_⟩
  dsimp only [List.set_cons_succ, List.set_cons_zero]
  have wl : (LLD WS).length = WS.length := LLD_len WS
  obtain ⟨SL, hSL⟩ : ∃ SL, SL = WS.map (sup n) := ⟨_, rfl⟩
  have SLl : SL.length = WS.length := by rw [hSL, List.length_map]
  have SLat : ∀ {k : Nat} {W : List Nat}, WS[k]? = some W → SL[k]? = some (sup n W) := fun {k W} h => by rw [hSL, List.getElem?_map, h]; rfl
  have aW : ∀ {W : List Nat} {i : Nat}, W.length = n → i < n → atI (LI (NI W)) ((0 : Int) + (i : Int)) = some (.int ((W.getD i 0 : Nat) : Int)) := fun {W i} h h2 => by rw [Int.zero_add]; exact D_atN (NI_getI (by omega))
  have c3 : ((c : Nat) : Int) + 1 = ((c + 1 : Nat) : Int) := by omega
  refine ⟨⟨by rw [wl]; omega, by rw [wl]; omega⟩, rfl, fun i σ => ∃ o12 o13 : Option SV, σ = [none, some (.val (.list (LI xs))), some (.val (.int (mm : Int))), some (.val (FT3 mm q r')), some (.val (.int (sz : Int))), some (.val (.int (n : Int))), some (.val (.int (cnt : Int))), some (.val (ShT n first c)), some (.val (CodeO C (FldO CF mm q r' l) n first c (genC q r' first c))), some (.val (.list (LLD MS))), some (.val (.list (LLD WS))), some (.own (LLD (SL.take i))), o12, o13, none, none, none, none, none, none, none, none, none], ⟨none, none, rfl⟩, ?_, ?_⟩
  · rintro i d σ hd ⟨o12, o13, rfl⟩
    obtain ⟨hi, rfl⟩ := rangeD_at hd
    have hi : i < WS.length := by
      have h : i < (((LLD WS).length : Nat) : Int).toNat := hi
      rw [wl] at h; omega
    obtain ⟨W, hW⟩ : ∃ W, WS[i]? = some W := ⟨_, List.getElem?_eq_getElem hi⟩
    have CWW := (WSm W).mp (List.mem_of_getElem? hW)
    have aw : atI (LLD WS) ((0 : Int) + (i : Int)) = some (.list (LI (NI W))) := by rw [Int.zero_add]; exact atL hW
    dsimp only [List.set_cons_succ, List.set_cons_zero]
    refine ⟨_, aw, fun y => y = .ok (.val (.bool true)), ⟨mm, q, r', n, first, c, W, rfl, FD, O.lr, by omega, by omega, CWW.el, CWW.len, by omega, fun x hx => ?_, rfl⟩, ?_⟩
    · obtain ⟨j, hj, rfl⟩ := List.mem_map.mp hx
      exact CWW.z j (List.mem_range.mp hj)
    rintro y rfl
    refine ⟨fun _ => rfl, brF ?_⟩
    refine ⟨⟨by omega, by omega⟩, rfl, fun k acc => acc = LI (NI ((List.range k).filter fun k => decide (W.getD k 0 ≠ 0))), rfl, ?_, ?_⟩
    · rintro k d acc hd rfl
      obtain ⟨hk, rfl⟩ := rangeD_at hd
      have hk : k < n := by
        have h : k < ((n : Nat) : Int).toNat := hk
        omega
      refine ⟨_, aw, _, aW CWW.len hk, brN (fun cc => ?_) fun cc => ?_⟩
      · have cc : ¬ ((W.getD k 0 : Nat) : Int) = 0 := cc
        refine ⟨?_, ?_⟩
        · rw [LI_NI_len]
          have h1 : ((List.range k).filter (fun i => decide (W.getD i 0 ≠ 0))).length ≤ (List.range k).length := List.length_filter_le _ _
          rw [List.length_range] at h1; omega
        · show LI (NI ((List.range k).filter _)) ++ [.int (0 + (k : Int))] = LI (NI ((List.range (k + 1)).filter _))
          rw [List.range_succ, List.filter_append, List.filter_cons_of_pos (by simp only [decide_eq_true_iff]; omega), ← NI_app, Int.zero_add]; rfl
      · have cc : ((W.getD k 0 : Nat) : Int) = 0 := cc
        show LI (NI ((List.range k).filter _)) = LI (NI ((List.range (k + 1)).filter _))
        rw [List.range_succ, List.filter_append, List.filter_cons_of_neg (by simp only [decide_eq_true_iff]; omega)]; simp
    rintro acc hacc
    have hacc : acc = LI (NI (sup n W)) := by
      have h : acc = LI (NI ((List.range (rangeD 0 ((n : Nat) : Int).toNat).length).filter fun k => decide (W.getD k 0 ≠ 0))) := hacc
      rw [rangeD_len, Int.toNat_natCast] at h; exact h
    rw [hacc]
    have eT : LLD (SL.take i) ++ [PyData.list (LI (NI (sup n W)))] = LLD (SL.take (i + 1)) := by
      rw [List.take_add_one, SLat hW, Option.toList_some, ← LLD_app]; rfl
    refine ⟨by rw [LLD_len, List.length_take]; omega, ?_⟩
    dsimp only [SV.fix?, List.set_cons_succ, List.set_cons_zero]
    rw [eT]
    refine ⟨fun y => ∃ j : Nat, j < WS.length ∧ y = .ok (.val (.int (j : Int))), ⟨xs, 10 + (0 + (i : Int)), _, rfl, by omega, by omega, by rw [wl]; omega, fun v g0 g1 => ⟨v.toNat, by rw [wl] at g1; omega, by rw [Int.toNat_of_nonneg g0]⟩⟩, ?_⟩
    rintro y ⟨j, hj, rfl⟩
    obtain ⟨V, hV⟩ : ∃ V, WS[j]? = some V := ⟨_, List.getElem?_eq_getElem hj⟩
    have CWV := (WSm V).mp (List.mem_of_getElem? hV)
    refine ⟨fun _ => rfl, _, atL hV, ?_⟩
    dsimp only [List.set_cons_succ, List.set_cons_zero]
    refine ⟨_, aw, neNI (a := V) (b := W) rfl rfl (brN (fun ne => ?_) fun _ => brF ⟨_, _, rfl⟩)⟩
    refine ⟨⟨by omega, by omega⟩, rfl, fun k acc => acc = LI (NI ((List.range k).filter fun k => decide (W.getD k 0 ≠ V.getD k 0))), rfl, ?_, ?_⟩
    · rintro k d acc hd rfl
      obtain ⟨hk, rfl⟩ := rangeD_at hd
      have hk : k < n := by
        have h : k < ((n : Nat) : Int).toNat := hk
        omega
      refine ⟨_, aw, _, aW CWW.len hk, _, aW CWV.len hk, brN (fun cc => ?_) fun cc => ?_⟩
      · have cc : ¬ ((W.getD k 0 : Nat) : Int) = ((V.getD k 0 : Nat) : Int) := cc
        refine ⟨?_, ?_⟩
        · rw [LI_NI_len]
          have h1 : ((List.range k).filter (fun i => decide (W.getD i 0 ≠ V.getD i 0))).length ≤ (List.range k).length := List.length_filter_le _ _
          rw [List.length_range] at h1; omega
        · show LI (NI ((List.range k).filter _)) ++ [.int (0 + (k : Int))] = LI (NI ((List.range (k + 1)).filter _))
          rw [List.range_succ, List.filter_append, List.filter_cons_of_pos (by simp only [decide_eq_true_iff]; omega), ← NI_app, Int.zero_add]; rfl
      · have cc : ((W.getD k 0 : Nat) : Int) = ((V.getD k 0 : Nat) : Int) := cc
        show LI (NI ((List.range k).filter _)) = LI (NI ((List.range (k + 1)).filter _))
        rw [List.range_succ, List.filter_append, List.filter_cons_of_neg (by simp only [decide_eq_true_iff]; omega)]; simp
    rintro acc hacc
    have hacc : acc = LI (NI ((List.range n).filter fun k => decide (W.getD k 0 ≠ V.getD k 0))) := by
      have h : acc = LI (NI ((List.range (rangeD 0 ((n : Nat) : Int).toNat).length).filter fun k => decide (W.getD k 0 ≠ V.getD k 0))) := hacc
      rw [rangeD_len, Int.toNat_natCast] at h; exact h
    rw [hacc]
    have far := cw_apart FD O.lr.1 n1 CWW CWV ne
    exact ⟨_, rfl, brX (by rw [LI_NI_len]; omega) ⟨_, _, rfl⟩⟩
  rintro σ ⟨o12, o13, rfl⟩
  have eR : (rangeD 0 (((LLD WS).length : Nat) : Int).toNat).length = SL.length := by rw [rangeD_len, Int.toNat_natCast, wl, SLl]
  rw [eR, List.take_length]
  refine ⟨rfl, fun i acc => acc = [], rfl, ?_, ?_⟩
  · rintro i d acc hd rfl
    obtain ⟨S, hS, rfl⟩ := LLD_at hd
    have hi : i < WS.length := by
      have := (List.getElem?_eq_some_iff.mp hS).1
      omega
    obtain ⟨W, hW⟩ : ∃ W, WS[i]? = some W := ⟨_, List.getElem?_eq_getElem hi⟩
    have e := SLat hW
    rw [hS] at e
    cases e
    have CWW := (WSm W).mp (List.mem_of_getElem? hW)
    refine brD (fun c0 => ?_) fun c0 => brF rfl
    have c0 : (0 : Int) < ((LI (NI (sup n W))).length : Int) := c0
    rw [LI_NI_len] at c0
    rcases cw_weight FD O.lr.1 n1 CWW with z | z
    · rw [z] at c0; exact absurd c0 (by decide)
    · exact ⟨_, rfl, brX (by rw [LI_NI_len]; omega) rfl⟩
  rintro acc rfl
  refine brX (by decide) ⟨_, by exact atL (k := 0) (SLat W0), q0, neNI (a := sup n (List.replicate n 0)) (b := []) rfl rfl ?_⟩
  have s0 : sup n (List.replicate n 0) = [] := by
    refine List.eq_nil_iff_forall_not_mem.mpr fun p hp => (sup_mem.mp hp).2 ?_
    rw [List.getD_eq_getElem?_getD, List.getElem?_replicate]
    split <;> rfl
  rw [s0]
  refine brF ?_
  refine ⟨_, rfl, fun y => ∃ rs : List (List Nat), (∀ l ∈ rs, Asc n (c + 1) l) ∧ y = .ok (.val (.list (LLD rs))), ⟨n, c + 1, rfl, by omega, by omega, fun rs h _ => ⟨rs, h, rfl⟩⟩, ?_⟩
  rintro y ⟨rs, hrs, rfl⟩
  refine ⟨na, rfl, fun i σ => ∃ o12 o13 o14 o15 o16 o17 : Option SV, σ = [none, some (.val (.list (LI xs))), some (.val (.int (mm : Int))), some (.val (FT3 mm q r')), some (.val (.int (sz : Int))), some (.val (.int (n : Int))), some (.val (.int (cnt : Int))), some (.val (ShT n first c)), some (.val (CodeO C (FldO CF mm q r' l) n first c (genC q r' first c))), some (.val (.list (LLD MS))), some (.val (.list (LLD WS))), some (.own (LLD SL)), o12, o13, o14, o15, o16, o17, none, none, none, none, none], ⟨_, _, _, _, _, _, rfl⟩, ?_, ?_⟩
  · rintro i d σ hd ⟨o12, o13, o14, o15, o16, o17, rfl⟩
    obtain ⟨pl, hpl, rfl⟩ := LLD_at hd
    have asc := hrs pl (List.mem_of_getElem? hpl)
    obtain ⟨pa1, pa2, pa3⟩ := asc
    have PO : PlsOk mm n pl c := ⟨pa1.imp fun {a b} h e => by omega, pa2, pa3, n1⟩
    have POk := plok_of (n := n) pa1 pa2
    dsimp only [List.set_cons_succ, List.set_cons_zero]
    -- found
    obtain ⟨Fl, hFl⟩ : ∃ Fl, Fl = (List.range WS.length).filter fun k => decide (SL.getD k [] = pl) := ⟨_, rfl⟩
    refine ⟨⟨by rw [wl]; omega, by rw [wl]; omega⟩, rfl, fun k acc => acc = LI (NI ((List.range k).filter fun k => decide (SL.getD k [] = pl))), rfl, ?_, ?_⟩
    · rintro k d acc hd rfl
      obtain ⟨hk, rfl⟩ := rangeD_at hd
      have hk : k < WS.length := by
        have h : k < (((LLD WS).length : Nat) : Int).toNat := hk
        rw [wl] at h; omega
      obtain ⟨S, hS⟩ : ∃ S, SL[k]? = some S := ⟨_, List.getElem?_eq_getElem (by omega)⟩
      have eS : SL.getD k [] = S := by rw [List.getD_eq_getElem?_getD, hS]; rfl
      refine ⟨_, (by rw [Int.zero_add]; exact atL hS), eqNI (a := S) (b := pl) rfl rfl (brD (fun cc => ?_) fun cc => ?_)⟩
      · refine ⟨?_, ?_⟩
        · rw [LI_NI_len]
          have h1 : ((List.range k).filter (fun k => decide (SL.getD k [] = pl))).length ≤ (List.range k).length := List.length_filter_le _ _
          rw [List.length_range] at h1; omega
        · show LI (NI ((List.range k).filter _)) ++ [.int (0 + (k : Int))] = LI (NI ((List.range (k + 1)).filter _))
          rw [List.range_succ, List.filter_append, List.filter_cons_of_pos (by simp only [decide_eq_true_iff]; rw [eS]; exact cc), ← NI_app, Int.zero_add]; rfl
      · show LI (NI ((List.range k).filter _)) = LI (NI ((List.range (k + 1)).filter _))
        rw [List.range_succ, List.filter_append, List.filter_cons_of_neg (by simp only [decide_eq_true_iff]; rw [eS]; exact cc)]; simp
    rintro acc hacc
    have hacc : acc = LI (NI Fl) := by
      have h : acc = LI (NI ((List.range (rangeD 0 (((LLD WS).length : Nat) : Int).toNat).length).filter fun k => decide (SL.getD k [] = pl))) := hacc
      rw [rangeD_len, wl, Int.toNat_natCast, ← hFl] at h; exact h
    rw [hacc]
    have FlM : ∀ k ∈ Fl, k < WS.length := fun k hk => by rw [hFl] at hk; exact List.mem_range.mp (List.mem_filter.mp hk).1
    have perm := found_perm (first := first) O c12 hc n1 ⟨pa1, pa2, pa3⟩
    rw [← hWS, ← hSL, ← hFl] at perm
    have Fll : Fl.length = 2 ^ mm - 1 := by
      have := perm.length_eq
      rw [List.length_map, List.length_map, List.length_range] at this; exact this
    refine .inr ?_
    -- least
    obtain ⟨V, hV⟩ : ∃ V, V = wordV mm q r' n first pl := ⟨_, rfl⟩
    rw [← hV] at perm
    have Vl : V.length = n := by rw [hV]; exact wordV_len _ _ _
    have Ve : COD.El mm V := by rw [hV]; exact wordV_El O PO
    dsimp only [List.set_cons_succ, List.set_cons_zero]
    refine ⟨_, rfl, fsC_no _ _ _ _ _, fun y => y = .ok (.own (LI (NI V))), ⟨mm, q, r', l, n, first, c, genC q r' first c, NI pl, rfl, O, by omega, by omega, f20, by rw [NI_len]; omega, fun z => absurd (by rw [NI_len]; exact pa3) z, fun _ k hk => absurd POk (bad_not hk), fun _ _ => ⟨pl, rfl, by rw [hV]⟩⟩, ?_⟩
    rintro y rfl
    refine ⟨fun _ => LI_flatD _, .inr ?_⟩
    dsimp only [List.set_cons_succ, List.set_cons_zero]
    -- due
    obtain ⟨ss, hss⟩ : ∃ ss, ss = (List.range (2 ^ mm - 1)).map fun e => scl q (e + 1) V := ⟨_, rfl⟩
    refine ⟨⟨by decide, by decide, by omega, by omega⟩, rfl, fun k acc => acc = LLD ((List.range k).map fun e => scl q (e + 1) V), rfl, ?_, ?_⟩
    · rintro k d acc hd rfl
      obtain ⟨hk, rfl⟩ := rangeD_at hd
      have hk : k + 1 < sz := by
        have h : k < ((sz : Nat) - 1 : Int).toNat := hk
        omega
      have e1 : (1 : Int) + (k : Int) = ((k + 1 : Nat) : Int) := by omega
      refine brT ⟨rfl, fun j acc => acc = LI (NI (scl q (k + 1) (V.take j))), rfl, ?_, ?_⟩
      · rintro j d acc hd rfl
        obtain ⟨z, hz, rfl⟩ := LI_inv hd
        obtain ⟨a, ha, rfl⟩ : ∃ y, V[j]? = some y ∧ z = (y : Int) := by
          unfold NI at hz
          rw [List.getElem?_map] at hz
          cases e : V[j]? with
          | none => rw [e] at hz; cases hz
          | some y => rw [e] at hz; cases hz; exact ⟨y, rfl, rfl⟩
        have hj := (List.getElem?_eq_some_iff.mp ha).1
        refine brT ⟨fun y => y = .ok (.val (.int ((mulm q a (k + 1) : Nat) : Int))), ⟨mm, q, a, k + 1, _, (by rw [← e1]; rfl), FD, Ve a (List.mem_of_getElem? ha), by omega, rfl⟩, ?_⟩
        rintro y rfl
        refine ⟨fun _ => rfl, by rw [LI_NI_len]; unfold scl; rw [List.length_map, List.length_take]; omega, ?_⟩
        show _ ++ LI (NI [mulm q a (k + 1)]) = LI (NI (scl q (k + 1) (V.take (j + 1))))
        unfold scl
        rw [NI_app, List.take_add_one, ha, List.map_append]; rfl
      · rintro acc hacc
        have hacc : acc = LI (NI (scl q (k + 1) V)) := by
          have h : acc = LI (NI (scl q (k + 1) (V.take (LI (NI V)).length))) := hacc
          rw [LI_NI_len, List.take_length] at h; exact h
        rw [hacc]
        refine ⟨by rw [LLD_len, List.length_map, List.length_range]; omega, ?_⟩
        show _ = LLD ((List.range (k + 1)).map fun e => scl q (e + 1) V)
        rw [List.range_succ, List.map_append, ← LLD_app]; rfl
    rintro acc hacc
    have hacc : acc = LLD ss := by
      have h : acc = LLD ((List.range (rangeD 1 ((sz : Nat) - 1 : Int).toNat).length).map fun e => scl q (e + 1) V) := hacc
      rw [rangeD_len, show ((sz : Nat) - 1 : Int).toNat = 2 ^ mm - 1 by omega, ← hss] at h; exact h
    rw [hacc]
    have lay : ∀ ts : List (List Nat), PyData.canLayAll0 (LLD ts) = true := fun ts => by
      have := (N_lay 2 _ (LLD_flat ts)).1
      rw [PyData.canLay0] at this; exact this
    refine ⟨_, rfl, lay ss, LLD_alike ss, LLD_sortable ss, LLD_depth ss, fun fs f1 f2 => .inr ?_⟩
    dsimp only [List.set_cons_succ, List.set_cons_zero]
    have szm : ((LI (NI Fl)).length : Int) = (sz : Int) - 1 := by rw [LI_NI_len, Fll]; omega
    refine brNF szm ?_
    refine ⟨rfl, fun k acc => acc = LLD ((Fl.take k).map fun k => WS.getD k []), rfl, ?_, ?_⟩
    · rintro k d acc hd rfl
      obtain ⟨z, hz, rfl⟩ := LI_inv hd
      obtain ⟨a, ha, rfl⟩ : ∃ y, Fl[k]? = some y ∧ z = (y : Int) := by
        unfold NI at hz
        rw [List.getElem?_map] at hz
        cases e : Fl[k]? with
        | none => rw [e] at hz; cases hz
        | some y => rw [e] at hz; cases hz; exact ⟨y, rfl, rfl⟩
      have hk := (List.getElem?_eq_some_iff.mp ha).1
      have al := FlM a (List.mem_of_getElem? ha)
      have eW : WS[a]? = some (WS.getD a []) := by rw [List.getD_eq_getElem?_getD, List.getElem?_eq_getElem al]; rfl
      refine brT ⟨_, atL eW, by rw [LLD_len, List.length_map, List.length_take]; omega, ?_⟩
      show _ = LLD ((Fl.take (k + 1)).map fun k => WS.getD k [])
      rw [List.take_add_one, ha, Option.toList_some, List.map_append, ← LLD_app]; rfl
    rintro acc hacc
    have hacc : acc = LLD (Fl.map fun k => WS.getD k []) := by
      have h : acc = LLD ((Fl.take (LI (NI Fl)).length).map fun k => WS.getD k []) := hacc
      rw [LI_NI_len, List.take_length] at h; exact h
    rw [hacc]
    rw [← hss] at perm
    refine ⟨_, rfl, lay _, LLD_alike _, LLD_sortable _, LLD_depth _, fun es e1 e2 => ?_⟩
    have same := sorted_same perm e1 e2 f1 f2
    rw [same]
    have ffl : flatN 2 (.list fs) = true := List.all_eq_true.mpr fun x hx => by
      obtain ⟨t, _, rfl⟩ := List.mem_map.mp (f1.mem_iff.mp hx)
      exact LI_flatN (NI t)
    exact neD2 (d := .list fs) rfl rfl ffl (brF ⟨_, _, _, _, _, _, rfl⟩)
  · rintro σ ⟨o12, o13, o14, o15, o16, o17, rfl⟩
    exact rfl
end
end K20
set_option synthInstance.maxSize 100000
set_option synthInstance.maxHeartbeats 0
namespace K20
open PySem PySem.Spec L2 NB ER MKX DL
theorem all_mk {l : PySem.W.OpenLaw} {w : World} {K : PySem.W.Frag} {h : Heap} {mg : Str → Option Value} {fa : Addr} (X : K.In h) (G : h.Ns mainGlobals mg) (hfa : mg "law" = some (.ref fa))
    {C_Field : Addr}
    {f_Field___init__ : Addr} {od_Field___init__ an_Field___init__ : Option Addr} {sl_Field___init__ : Array (Option Value)} {oc_Field___init__ kV_Field___init__ dc_Field___init__ pm_Field___init__ cd_Field___init__ ct_Field___init__ : Value}
    {f_Field_add : Addr} {od_Field_add an_Field_add : Option Addr} {sl_Field_add : Array (Option Value)} {oc_Field_add kV_Field_add dc_Field_add pm_Field_add cd_Field_add ct_Field_add : Value}
    {f_Field_inverse : Addr} {od_Field_inverse an_Field_inverse : Option Addr} {sl_Field_inverse : Array (Option Value)} {oc_Field_inverse kV_Field_inverse dc_Field_inverse pm_Field_inverse cd_Field_inverse ct_Field_inverse : Value}
    {f_Field_log : Addr} {od_Field_log an_Field_log : Option Addr} {sl_Field_log : Array (Option Value)} {oc_Field_log kV_Field_log dc_Field_log pm_Field_log cd_Field_log ct_Field_log : Value}
    {f_Field_power : Addr} {od_Field_power an_Field_power : Option Addr} {sl_Field_power : Array (Option Value)} {oc_Field_power kV_Field_power dc_Field_power pm_Field_power cd_Field_power ct_Field_power : Value}
    {f_Field_root : Addr} {od_Field_root an_Field_root : Option Addr} {sl_Field_root : Array (Option Value)} {oc_Field_root kV_Field_root dc_Field_root pm_Field_root cd_Field_root ct_Field_root : Value}
    {f_Field_scaled : Addr} {od_Field_scaled an_Field_scaled : Option Addr} {sl_Field_scaled : Array (Option Value)} {oc_Field_scaled kV_Field_scaled dc_Field_scaled pm_Field_scaled cd_Field_scaled ct_Field_scaled : Value}
    {f_Field_size : Addr} {od_Field_size an_Field_size : Option Addr} {sl_Field_size : Array (Option Value)} {oc_Field_size kV_Field_size dc_Field_size pm_Field_size cd_Field_size ct_Field_size : Value}
    {f_Field_times : Addr} {od_Field_times an_Field_times : Option Addr} {sl_Field_times : Array (Option Value)} {oc_Field_times kV_Field_times dc_Field_times pm_Field_times cd_Field_times ct_Field_times : Value}
    {C_RootCode : Addr}
    {f_RootCode___init__ : Addr} {od_RootCode___init__ an_RootCode___init__ : Option Addr} {sl_RootCode___init__ : Array (Option Value)} {oc_RootCode___init__ kV_RootCode___init__ dc_RootCode___init__ pm_RootCode___init__ cd_RootCode___init__ ct_RootCode___init__ : Value}
    {f_RootCode_roots : Addr} {od_RootCode_roots an_RootCode_roots : Option Addr} {sl_RootCode_roots : Array (Option Value)} {oc_RootCode_roots kV_RootCode_roots dc_RootCode_roots pm_RootCode_roots cd_RootCode_roots ct_RootCode_roots : Value}
    {f_RootCode_codeword : Addr} {od_RootCode_codeword an_RootCode_codeword : Option Addr} {sl_RootCode_codeword : Array (Option Value)} {oc_RootCode_codeword kV_RootCode_codeword dc_RootCode_codeword pm_RootCode_codeword cd_RootCode_codeword ct_RootCode_codeword : Value}
    {f_RootCode_word_on : Addr} {od_RootCode_word_on an_RootCode_word_on : Option Addr} {sl_RootCode_word_on : Array (Option Value)} {oc_RootCode_word_on kV_RootCode_word_on dc_RootCode_word_on pm_RootCode_word_on cd_RootCode_word_on ct_RootCode_word_on : Value}
    {f__law_choices : Addr} {od__law_choices an__law_choices : Option Addr} {sl__law_choices : Array (Option Value)} {oc__law_choices kV__law_choices dc__law_choices pm__law_choices cd__law_choices ct__law_choices : Value}
    {f__law_draws : Addr} {od__law_draws an__law_draws : Option Addr} {sl__law_draws : Array (Option Value)} {oc__law_draws kV__law_draws dc__law_draws pm__law_draws cd__law_draws ct__law_draws : Value}
    {f__law_field : Addr} {od__law_field an__law_field : Option Addr} {sl__law_field : Array (Option Value)} {oc__law_field kV__law_field dc__law_field pm__law_field cd__law_field ct__law_field : Value}
    {f__law_is_prime : Addr} {od__law_is_prime an__law_is_prime : Option Addr} {sl__law_is_prime : Array (Option Value)} {oc__law_is_prime kV__law_is_prime dc__law_is_prime pm__law_is_prime cd__law_is_prime ct__law_is_prime : Value}
    {f__law_is_word : Addr} {od__law_is_word an__law_is_word : Option Addr} {sl__law_is_word : Array (Option Value)} {oc__law_is_word kV__law_is_word dc__law_is_word pm__law_is_word cd__law_is_word ct__law_is_word : Value}
    {f__law_mix : Addr} {od__law_mix an__law_mix : Option Addr} {sl__law_mix : Array (Option Value)} {oc__law_mix kV__law_mix dc__law_mix pm__law_mix cd__law_mix ct__law_mix : Value}
    {f__law_roots : Addr} {od__law_roots an__law_roots : Option Addr} {sl__law_roots : Array (Option Value)} {oc__law_roots kV__law_roots dc__law_roots pm__law_roots cd__law_roots ct__law_roots : Value}
    {f__law_times : Addr} {od__law_times an__law_times : Option Addr} {sl__law_times : Array (Option Value)} {oc__law_times kV__law_times dc__law_times pm__law_times cd__law_times ct__law_times : Value}
    {f__powers_of : Addr} {od__powers_of an__powers_of : Option Addr} {sl__powers_of : Array (Option Value)} {oc__powers_of kV__powers_of dc__powers_of pm__powers_of cd__powers_of ct__powers_of : Value}
    {f__root_powers : Addr} {od__root_powers an__root_powers : Option Addr} {sl__root_powers : Array (Option Value)} {oc__root_powers kV__root_powers dc__root_powers pm__root_powers cd__root_powers ct__root_powers : Value}
    {f__weight : Addr} {od__weight an__weight : Option Addr} {sl__weight : Array (Option Value)} {oc__weight kV__weight dc__weight pm__weight cd__weight ct__weight : Value}
    {f_check_places : Addr} {od_check_places an_check_places : Option Addr} {sl_check_places : Array (Option Value)} {oc_check_places kV_check_places dc_check_places pm_check_places cd_check_places ct_check_places : Value}
    {f_common : Addr} {od_common an_common : Option Addr} {sl_common : Array (Option Value)} {oc_common kV_common dc_common pm_common cd_common ct_common : Value}
    {f_degree : Addr} {od_degree an_degree : Option Addr} {sl_degree : Array (Option Value)} {oc_degree kV_degree dc_degree pm_degree cd_degree ct_degree : Value}
    {f_divide_binary : Addr} {od_divide_binary an_divide_binary : Option Addr} {sl_divide_binary : Array (Option Value)} {oc_divide_binary kV_divide_binary dc_divide_binary pm_divide_binary cd_divide_binary ct_divide_binary : Value}
    {f_divide_polys : Addr} {od_divide_polys an_divide_polys : Option Addr} {sl_divide_polys : Array (Option Value)} {oc_divide_polys kV_divide_polys dc_divide_polys pm_divide_polys cd_divide_polys ct_divide_polys : Value}
    {f_from_roots : Addr} {od_from_roots an_from_roots : Option Addr} {sl_from_roots : Array (Option Value)} {oc_from_roots kV_from_roots dc_from_roots pm_from_roots cd_from_roots ct_from_roots : Value}
    {f_is_irreducible : Addr} {od_is_irreducible an_is_irreducible : Option Addr} {sl_is_irreducible : Array (Option Value)} {oc_is_irreducible kV_is_irreducible dc_is_irreducible pm_is_irreducible cd_is_irreducible ct_is_irreducible : Value}
    {f_product_rest : Addr} {od_product_rest an_product_rest : Option Addr} {sl_product_rest : Array (Option Value)} {oc_product_rest kV_product_rest dc_product_rest pm_product_rest cd_product_rest ct_product_rest : Value}
    {f_times_binary : Addr} {od_times_binary an_times_binary : Option Addr} {sl_times_binary : Array (Option Value)} {oc_times_binary kV_times_binary dc_times_binary pm_times_binary cd_times_binary ct_times_binary : Value}
    {f_times_polys : Addr} {od_times_polys an_times_polys : Option Addr} {sl_times_polys : Array (Option Value)} {oc_times_polys kV_times_polys dc_times_polys pm_times_polys cd_times_polys ct_times_polys : Value}
    {f_trimmed : Addr} {od_trimmed an_trimmed : Option Addr} {sl_trimmed : Array (Option Value)} {oc_trimmed kV_trimmed dc_trimmed pm_trimmed cd_trimmed ct_trimmed : Value}
    {f_weights_of : Addr} {od_weights_of an_weights_of : Option Addr} {sl_weights_of : Array (Option Value)} {oc_weights_of kV_weights_of dc_weights_of pm_weights_of cd_weights_of ct_weights_of : Value}
    {f_law : Addr} {od_law an_law : Option Addr} {sl_law : Array (Option Value)} {oc_law kV_law dc_law pm_law cd_law ct_law : Value}
    {f_init : Addr} {od_init an_init : Option Addr} {sl_init : Array (Option Value)} {oc_init kV_init dc_init pm_init cd_init ct_init : Value}
    {C_HaulError C_OutOfRange C_NotIrreducible C_NoInverse C_NoDivisor C_WrongSize C_WrongPlace : Addr}
    {nm_HaulError q_HaulError : Str} {N_HaulError : Addr} {bs_HaulError bm_HaulError : List Value} {sn_HaulError : List Str} {sub_HaulError : List Value} {ab_HaulError : Bool} {col_HaulError : Option Bool} {dd_HaulError : Option Addr} {k0_HaulError k1_HaulError k2_HaulError k3_HaulError k5_HaulError : Option Value}
    {nm_OutOfRange q_OutOfRange : Str} {N_OutOfRange : Addr} {bs_OutOfRange bm_OutOfRange : List Value} {sn_OutOfRange : List Str} {sub_OutOfRange : List Value} {ab_OutOfRange : Bool} {col_OutOfRange : Option Bool} {dd_OutOfRange : Option Addr} {k0_OutOfRange k1_OutOfRange k2_OutOfRange k3_OutOfRange k5_OutOfRange : Option Value}
    {nm_NotIrreducible q_NotIrreducible : Str} {N_NotIrreducible : Addr} {bs_NotIrreducible bm_NotIrreducible : List Value} {sn_NotIrreducible : List Str} {sub_NotIrreducible : List Value} {ab_NotIrreducible : Bool} {col_NotIrreducible : Option Bool} {dd_NotIrreducible : Option Addr} {k0_NotIrreducible k1_NotIrreducible k2_NotIrreducible k3_NotIrreducible k5_NotIrreducible : Option Value}
    {nm_NoInverse q_NoInverse : Str} {N_NoInverse : Addr} {bs_NoInverse bm_NoInverse : List Value} {sn_NoInverse : List Str} {sub_NoInverse : List Value} {ab_NoInverse : Bool} {col_NoInverse : Option Bool} {dd_NoInverse : Option Addr} {k0_NoInverse k1_NoInverse k2_NoInverse k3_NoInverse k5_NoInverse : Option Value}
    {nm_NoDivisor q_NoDivisor : Str} {N_NoDivisor : Addr} {bs_NoDivisor bm_NoDivisor : List Value} {sn_NoDivisor : List Str} {sub_NoDivisor : List Value} {ab_NoDivisor : Bool} {col_NoDivisor : Option Bool} {dd_NoDivisor : Option Addr} {k0_NoDivisor k1_NoDivisor k2_NoDivisor k3_NoDivisor k5_NoDivisor : Option Value}
    {nm_WrongSize q_WrongSize : Str} {N_WrongSize : Addr} {bs_WrongSize bm_WrongSize : List Value} {sn_WrongSize : List Str} {sub_WrongSize : List Value} {ab_WrongSize : Bool} {col_WrongSize : Option Bool} {dd_WrongSize : Option Addr} {k0_WrongSize k1_WrongSize k2_WrongSize k3_WrongSize k5_WrongSize : Option Value}
    {nm_WrongPlace q_WrongPlace : Str} {N_WrongPlace : Addr} {bs_WrongPlace bm_WrongPlace : List Value} {sn_WrongPlace : List Str} {sub_WrongPlace : List Value} {ab_WrongPlace : Bool} {col_WrongPlace : Option Bool} {dd_WrongPlace : Option Addr} {k0_WrongPlace k1_WrongPlace k2_WrongPlace k3_WrongPlace k5_WrongPlace : Option Value}
    {t_X : Tok}
    (a_HaulError : PySem.W.nsIn K mainGlobals "HaulError" = some (some (.ref C_HaulError)))
    (a_OutOfRange : PySem.W.nsIn K mainGlobals "OutOfRange" = some (some (.ref C_OutOfRange)))
    (a_NotIrreducible : PySem.W.nsIn K mainGlobals "NotIrreducible" = some (some (.ref C_NotIrreducible)))
    (a_NoInverse : PySem.W.nsIn K mainGlobals "NoInverse" = some (some (.ref C_NoInverse)))
    (a_NoDivisor : PySem.W.nsIn K mainGlobals "NoDivisor" = some (some (.ref C_NoDivisor)))
    (a_WrongSize : PySem.W.nsIn K mainGlobals "WrongSize" = some (some (.ref C_WrongSize)))
    (a_WrongPlace : PySem.W.nsIn K mainGlobals "WrongPlace" = some (some (.ref C_WrongPlace)))
    (i_init : PySem.W.findIn K (.ref C_HaulError) "__init__" = some (some (.ref f_init)))
    (ti_init : PySem.W.typeIn K (.ref f_init) = some (.type "function"))
    (l_init : K.lookup f_init = some ⟨oc_init, od_init, .func (PySem.W.fnOf "__init__" "HaulError.__init__" (defArgs s_init) (defBody s_init) (defScope s_init) .none kV_init dc_init pm_init an_init cd_init ct_init), sl_init⟩)
    (c_init : PySem.W.codeIn K cd_init "HaulError.__init__" = true)
    (k_init : PySem.W.keepIn K (.ref f_init) = true)
    (v_init : PySem.W.findCls K (.type "ValueError") (.type "type") "__init__" = some (.val (.builtin "ValueError.__init__")))
    (sp_cls : PySem.W.specialIn K (.builtin "object.__class__") "__get__" = some (some (.builtin "getset_descriptor.__get__")))
    (tk_cls : PySem.W.takesIn K (.builtin "object.__class__") = some true)
    (x_HaulError : K.lookup C_HaulError = some (excClassObj nm_HaulError q_HaulError C_HaulError N_HaulError bs_HaulError bm_HaulError true sn_HaulError sub_HaulError ab_HaulError col_HaulError dd_HaulError k0_HaulError k1_HaulError k2_HaulError k3_HaulError k5_HaulError "ValueError.__new__"))
    (r_HaulError : PySem.HandSPX.refsVE bm_HaulError = true)
    (sa_HaulError : PySem.W.findIn K (.ref C_HaulError) "__setattr__" = some (some (.builtin "object.__setattr__")))
    (ga_HaulError : PySem.W.findIn K (.ref C_HaulError) "__getattribute__" = some (some (.builtin "BaseException.__getattribute__")))
    (gg_HaulError : PySem.W.findIn K (.ref C_HaulError) "__getattr__" = some none)
    (cl_HaulError : PySem.W.findIn K (.ref C_HaulError) "__class__" = some (some (.builtin "object.__class__")))
    (no_HaulError : PySem.W.findIn K (.ref C_HaulError) "at" = some none)
    (e_HaulError : PySem.W.subIn K (.ref C_HaulError) (.type "BaseException") = some true)
    (ty_HaulError : PySem.W.typeIn K (.ref C_HaulError) = some (.type "type"))
    (kc_HaulError : PySem.W.keepIn K (.ref C_HaulError) = true)
    (hd_HaulError : PySem.W.hasDictIn K C_HaulError = true)
    (mo_HaulError : PySem.W.mroIn K C_HaulError (.type "object") = some true)
    (su_HaulError : PySem.W.subIn K (.ref C_HaulError) (.ref C_HaulError) = some true)
    (x_OutOfRange : K.lookup C_OutOfRange = some (excClassObj nm_OutOfRange q_OutOfRange C_OutOfRange N_OutOfRange bs_OutOfRange bm_OutOfRange true sn_OutOfRange sub_OutOfRange ab_OutOfRange col_OutOfRange dd_OutOfRange k0_OutOfRange k1_OutOfRange k2_OutOfRange k3_OutOfRange k5_OutOfRange "ValueError.__new__"))
    (r_OutOfRange : PySem.HandSPX.refsVE bm_OutOfRange = true)
    (sa_OutOfRange : PySem.W.findIn K (.ref C_OutOfRange) "__setattr__" = some (some (.builtin "object.__setattr__")))
    (ga_OutOfRange : PySem.W.findIn K (.ref C_OutOfRange) "__getattribute__" = some (some (.builtin "BaseException.__getattribute__")))
    (gg_OutOfRange : PySem.W.findIn K (.ref C_OutOfRange) "__getattr__" = some none)
    (cl_OutOfRange : PySem.W.findIn K (.ref C_OutOfRange) "__class__" = some (some (.builtin "object.__class__")))
    (no_OutOfRange : PySem.W.findIn K (.ref C_OutOfRange) "at" = some none)
    (ii_OutOfRange : PySem.W.findIn K (.ref C_OutOfRange) "__init__" = some (some (.ref f_init)))
    (e_OutOfRange : PySem.W.subIn K (.ref C_OutOfRange) (.type "BaseException") = some true)
    (ty_OutOfRange : PySem.W.typeIn K (.ref C_OutOfRange) = some (.type "type"))
    (kc_OutOfRange : PySem.W.keepIn K (.ref C_OutOfRange) = true)
    (hd_OutOfRange : PySem.W.hasDictIn K C_OutOfRange = true)
    (mo_OutOfRange : PySem.W.mroIn K C_OutOfRange (.type "object") = some true)
    (su_OutOfRange : PySem.W.subIn K (.ref C_OutOfRange) (.ref C_HaulError) = some true)
    (x_NotIrreducible : K.lookup C_NotIrreducible = some (excClassObj nm_NotIrreducible q_NotIrreducible C_NotIrreducible N_NotIrreducible bs_NotIrreducible bm_NotIrreducible true sn_NotIrreducible sub_NotIrreducible ab_NotIrreducible col_NotIrreducible dd_NotIrreducible k0_NotIrreducible k1_NotIrreducible k2_NotIrreducible k3_NotIrreducible k5_NotIrreducible "ValueError.__new__"))
    (r_NotIrreducible : PySem.HandSPX.refsVE bm_NotIrreducible = true)
    (sa_NotIrreducible : PySem.W.findIn K (.ref C_NotIrreducible) "__setattr__" = some (some (.builtin "object.__setattr__")))
    (ga_NotIrreducible : PySem.W.findIn K (.ref C_NotIrreducible) "__getattribute__" = some (some (.builtin "BaseException.__getattribute__")))
    (gg_NotIrreducible : PySem.W.findIn K (.ref C_NotIrreducible) "__getattr__" = some none)
    (cl_NotIrreducible : PySem.W.findIn K (.ref C_NotIrreducible) "__class__" = some (some (.builtin "object.__class__")))
    (no_NotIrreducible : PySem.W.findIn K (.ref C_NotIrreducible) "at" = some none)
    (ii_NotIrreducible : PySem.W.findIn K (.ref C_NotIrreducible) "__init__" = some (some (.ref f_init)))
    (e_NotIrreducible : PySem.W.subIn K (.ref C_NotIrreducible) (.type "BaseException") = some true)
    (ty_NotIrreducible : PySem.W.typeIn K (.ref C_NotIrreducible) = some (.type "type"))
    (kc_NotIrreducible : PySem.W.keepIn K (.ref C_NotIrreducible) = true)
    (hd_NotIrreducible : PySem.W.hasDictIn K C_NotIrreducible = true)
    (mo_NotIrreducible : PySem.W.mroIn K C_NotIrreducible (.type "object") = some true)
    (su_NotIrreducible : PySem.W.subIn K (.ref C_NotIrreducible) (.ref C_HaulError) = some true)
    (x_NoInverse : K.lookup C_NoInverse = some (excClassObj nm_NoInverse q_NoInverse C_NoInverse N_NoInverse bs_NoInverse bm_NoInverse true sn_NoInverse sub_NoInverse ab_NoInverse col_NoInverse dd_NoInverse k0_NoInverse k1_NoInverse k2_NoInverse k3_NoInverse k5_NoInverse "ValueError.__new__"))
    (r_NoInverse : PySem.HandSPX.refsVE bm_NoInverse = true)
    (sa_NoInverse : PySem.W.findIn K (.ref C_NoInverse) "__setattr__" = some (some (.builtin "object.__setattr__")))
    (ga_NoInverse : PySem.W.findIn K (.ref C_NoInverse) "__getattribute__" = some (some (.builtin "BaseException.__getattribute__")))
    (gg_NoInverse : PySem.W.findIn K (.ref C_NoInverse) "__getattr__" = some none)
    (cl_NoInverse : PySem.W.findIn K (.ref C_NoInverse) "__class__" = some (some (.builtin "object.__class__")))
    (no_NoInverse : PySem.W.findIn K (.ref C_NoInverse) "at" = some none)
    (ii_NoInverse : PySem.W.findIn K (.ref C_NoInverse) "__init__" = some (some (.ref f_init)))
    (e_NoInverse : PySem.W.subIn K (.ref C_NoInverse) (.type "BaseException") = some true)
    (ty_NoInverse : PySem.W.typeIn K (.ref C_NoInverse) = some (.type "type"))
    (kc_NoInverse : PySem.W.keepIn K (.ref C_NoInverse) = true)
    (hd_NoInverse : PySem.W.hasDictIn K C_NoInverse = true)
    (mo_NoInverse : PySem.W.mroIn K C_NoInverse (.type "object") = some true)
    (su_NoInverse : PySem.W.subIn K (.ref C_NoInverse) (.ref C_HaulError) = some true)
    (x_NoDivisor : K.lookup C_NoDivisor = some (excClassObj nm_NoDivisor q_NoDivisor C_NoDivisor N_NoDivisor bs_NoDivisor bm_NoDivisor true sn_NoDivisor sub_NoDivisor ab_NoDivisor col_NoDivisor dd_NoDivisor k0_NoDivisor k1_NoDivisor k2_NoDivisor k3_NoDivisor k5_NoDivisor "ValueError.__new__"))
    (r_NoDivisor : PySem.HandSPX.refsVE bm_NoDivisor = true)
    (sa_NoDivisor : PySem.W.findIn K (.ref C_NoDivisor) "__setattr__" = some (some (.builtin "object.__setattr__")))
    (ga_NoDivisor : PySem.W.findIn K (.ref C_NoDivisor) "__getattribute__" = some (some (.builtin "BaseException.__getattribute__")))
    (gg_NoDivisor : PySem.W.findIn K (.ref C_NoDivisor) "__getattr__" = some none)
    (cl_NoDivisor : PySem.W.findIn K (.ref C_NoDivisor) "__class__" = some (some (.builtin "object.__class__")))
    (no_NoDivisor : PySem.W.findIn K (.ref C_NoDivisor) "at" = some none)
    (ii_NoDivisor : PySem.W.findIn K (.ref C_NoDivisor) "__init__" = some (some (.ref f_init)))
    (e_NoDivisor : PySem.W.subIn K (.ref C_NoDivisor) (.type "BaseException") = some true)
    (ty_NoDivisor : PySem.W.typeIn K (.ref C_NoDivisor) = some (.type "type"))
    (kc_NoDivisor : PySem.W.keepIn K (.ref C_NoDivisor) = true)
    (hd_NoDivisor : PySem.W.hasDictIn K C_NoDivisor = true)
    (mo_NoDivisor : PySem.W.mroIn K C_NoDivisor (.type "object") = some true)
    (su_NoDivisor : PySem.W.subIn K (.ref C_NoDivisor) (.ref C_HaulError) = some true)
    (x_WrongSize : K.lookup C_WrongSize = some (excClassObj nm_WrongSize q_WrongSize C_WrongSize N_WrongSize bs_WrongSize bm_WrongSize true sn_WrongSize sub_WrongSize ab_WrongSize col_WrongSize dd_WrongSize k0_WrongSize k1_WrongSize k2_WrongSize k3_WrongSize k5_WrongSize "ValueError.__new__"))
    (r_WrongSize : PySem.HandSPX.refsVE bm_WrongSize = true)
    (sa_WrongSize : PySem.W.findIn K (.ref C_WrongSize) "__setattr__" = some (some (.builtin "object.__setattr__")))
    (ga_WrongSize : PySem.W.findIn K (.ref C_WrongSize) "__getattribute__" = some (some (.builtin "BaseException.__getattribute__")))
    (gg_WrongSize : PySem.W.findIn K (.ref C_WrongSize) "__getattr__" = some none)
    (cl_WrongSize : PySem.W.findIn K (.ref C_WrongSize) "__class__" = some (some (.builtin "object.__class__")))
    (no_WrongSize : PySem.W.findIn K (.ref C_WrongSize) "at" = some none)
    (ii_WrongSize : PySem.W.findIn K (.ref C_WrongSize) "__init__" = some (some (.ref f_init)))
    (e_WrongSize : PySem.W.subIn K (.ref C_WrongSize) (.type "BaseException") = some true)
    (ty_WrongSize : PySem.W.typeIn K (.ref C_WrongSize) = some (.type "type"))
    (kc_WrongSize : PySem.W.keepIn K (.ref C_WrongSize) = true)
    (hd_WrongSize : PySem.W.hasDictIn K C_WrongSize = true)
    (mo_WrongSize : PySem.W.mroIn K C_WrongSize (.type "object") = some true)
    (su_WrongSize : PySem.W.subIn K (.ref C_WrongSize) (.ref C_HaulError) = some true)
    (x_WrongPlace : K.lookup C_WrongPlace = some (excClassObj nm_WrongPlace q_WrongPlace C_WrongPlace N_WrongPlace bs_WrongPlace bm_WrongPlace true sn_WrongPlace sub_WrongPlace ab_WrongPlace col_WrongPlace dd_WrongPlace k0_WrongPlace k1_WrongPlace k2_WrongPlace k3_WrongPlace k5_WrongPlace "ValueError.__new__"))
    (r_WrongPlace : PySem.HandSPX.refsVE bm_WrongPlace = true)
    (sa_WrongPlace : PySem.W.findIn K (.ref C_WrongPlace) "__setattr__" = some (some (.builtin "object.__setattr__")))
    (ga_WrongPlace : PySem.W.findIn K (.ref C_WrongPlace) "__getattribute__" = some (some (.builtin "BaseException.__getattribute__")))
    (gg_WrongPlace : PySem.W.findIn K (.ref C_WrongPlace) "__getattr__" = some none)
    (cl_WrongPlace : PySem.W.findIn K (.ref C_WrongPlace) "__class__" = some (some (.builtin "object.__class__")))
    (no_WrongPlace : PySem.W.findIn K (.ref C_WrongPlace) "at" = some none)
    (ii_WrongPlace : PySem.W.findIn K (.ref C_WrongPlace) "__init__" = some (some (.ref f_init)))
    (e_WrongPlace : PySem.W.subIn K (.ref C_WrongPlace) (.type "BaseException") = some true)
    (ty_WrongPlace : PySem.W.typeIn K (.ref C_WrongPlace) = some (.type "type"))
    (kc_WrongPlace : PySem.W.keepIn K (.ref C_WrongPlace) = true)
    (hd_WrongPlace : PySem.W.hasDictIn K C_WrongPlace = true)
    (mo_WrongPlace : PySem.W.mroIn K C_WrongPlace (.type "object") = some true)
    (su_WrongPlace : PySem.W.subIn K (.ref C_WrongPlace) (.ref C_HaulError) = some true)
    (a__law_choices : PySem.W.nsIn K mainGlobals "_law_choices" = some (some (.ref f__law_choices)))
    (l__law_choices : K.lookup f__law_choices = some ⟨oc__law_choices, od__law_choices, .func (PySem.W.fnOf "_law_choices" "_law_choices" (defArgs s__law_choices) (defBody s__law_choices) (defScope s__law_choices) .none kV__law_choices dc__law_choices pm__law_choices an__law_choices cd__law_choices ct__law_choices), sl__law_choices⟩)
    (c__law_choices : PySem.W.codeIn K cd__law_choices "_law_choices" = true)
    (k__law_choices : PySem.W.keepIn K (.ref f__law_choices) = true)
    (a__law_draws : PySem.W.nsIn K mainGlobals "_law_draws" = some (some (.ref f__law_draws)))
    (l__law_draws : K.lookup f__law_draws = some ⟨oc__law_draws, od__law_draws, .func (PySem.W.fnOf "_law_draws" "_law_draws" (defArgs s__law_draws) (defBody s__law_draws) (defScope s__law_draws) .none kV__law_draws dc__law_draws pm__law_draws an__law_draws cd__law_draws ct__law_draws), sl__law_draws⟩)
    (c__law_draws : PySem.W.codeIn K cd__law_draws "_law_draws" = true)
    (k__law_draws : PySem.W.keepIn K (.ref f__law_draws) = true)
    (a__law_field : PySem.W.nsIn K mainGlobals "_law_field" = some (some (.ref f__law_field)))
    (l__law_field : K.lookup f__law_field = some ⟨oc__law_field, od__law_field, .func (PySem.W.fnOf "_law_field" "_law_field" (defArgs s__law_field) (defBody s__law_field) (defScope s__law_field) .none kV__law_field dc__law_field pm__law_field an__law_field cd__law_field ct__law_field), sl__law_field⟩)
    (c__law_field : PySem.W.codeIn K cd__law_field "_law_field" = true)
    (k__law_field : PySem.W.keepIn K (.ref f__law_field) = true)
    (a__law_is_prime : PySem.W.nsIn K mainGlobals "_law_is_prime" = some (some (.ref f__law_is_prime)))
    (l__law_is_prime : K.lookup f__law_is_prime = some ⟨oc__law_is_prime, od__law_is_prime, .func (PySem.W.fnOf "_law_is_prime" "_law_is_prime" (defArgs s__law_is_prime) (defBody s__law_is_prime) (defScope s__law_is_prime) .none kV__law_is_prime dc__law_is_prime pm__law_is_prime an__law_is_prime cd__law_is_prime ct__law_is_prime), sl__law_is_prime⟩)
    (c__law_is_prime : PySem.W.codeIn K cd__law_is_prime "_law_is_prime" = true)
    (k__law_is_prime : PySem.W.keepIn K (.ref f__law_is_prime) = true)
    (a__law_is_word : PySem.W.nsIn K mainGlobals "_law_is_word" = some (some (.ref f__law_is_word)))
    (l__law_is_word : K.lookup f__law_is_word = some ⟨oc__law_is_word, od__law_is_word, .func (PySem.W.fnOf "_law_is_word" "_law_is_word" (defArgs s__law_is_word) (defBody s__law_is_word) (defScope s__law_is_word) .none kV__law_is_word dc__law_is_word pm__law_is_word an__law_is_word cd__law_is_word ct__law_is_word), sl__law_is_word⟩)
    (c__law_is_word : PySem.W.codeIn K cd__law_is_word "_law_is_word" = true)
    (k__law_is_word : PySem.W.keepIn K (.ref f__law_is_word) = true)
    (a__law_mix : PySem.W.nsIn K mainGlobals "_law_mix" = some (some (.ref f__law_mix)))
    (l__law_mix : K.lookup f__law_mix = some ⟨oc__law_mix, od__law_mix, .func (PySem.W.fnOf "_law_mix" "_law_mix" (defArgs s__law_mix) (defBody s__law_mix) (defScope s__law_mix) .none kV__law_mix dc__law_mix pm__law_mix an__law_mix cd__law_mix ct__law_mix), sl__law_mix⟩)
    (c__law_mix : PySem.W.codeIn K cd__law_mix "_law_mix" = true)
    (k__law_mix : PySem.W.keepIn K (.ref f__law_mix) = true)
    (a__law_roots : PySem.W.nsIn K mainGlobals "_law_roots" = some (some (.ref f__law_roots)))
    (l__law_roots : K.lookup f__law_roots = some ⟨oc__law_roots, od__law_roots, .func (PySem.W.fnOf "_law_roots" "_law_roots" (defArgs s__law_roots) (defBody s__law_roots) (defScope s__law_roots) .none kV__law_roots dc__law_roots pm__law_roots an__law_roots cd__law_roots ct__law_roots), sl__law_roots⟩)
    (c__law_roots : PySem.W.codeIn K cd__law_roots "_law_roots" = true)
    (k__law_roots : PySem.W.keepIn K (.ref f__law_roots) = true)
    (a__law_times : PySem.W.nsIn K mainGlobals "_law_times" = some (some (.ref f__law_times)))
    (l__law_times : K.lookup f__law_times = some ⟨oc__law_times, od__law_times, .func (PySem.W.fnOf "_law_times" "_law_times" (defArgs s__law_times) (defBody s__law_times) (defScope s__law_times) .none kV__law_times dc__law_times pm__law_times an__law_times cd__law_times ct__law_times), sl__law_times⟩)
    (c__law_times : PySem.W.codeIn K cd__law_times "_law_times" = true)
    (k__law_times : PySem.W.keepIn K (.ref f__law_times) = true)
    (a__powers_of : PySem.W.nsIn K mainGlobals "_powers_of" = some (some (.ref f__powers_of)))
    (l__powers_of : K.lookup f__powers_of = some ⟨oc__powers_of, od__powers_of, .func (PySem.W.fnOf "_powers_of" "_powers_of" (defArgs s__powers_of) (defBody s__powers_of) (defScope s__powers_of) .none kV__powers_of dc__powers_of pm__powers_of an__powers_of cd__powers_of ct__powers_of), sl__powers_of⟩)
    (c__powers_of : PySem.W.codeIn K cd__powers_of "_powers_of" = true)
    (k__powers_of : PySem.W.keepIn K (.ref f__powers_of) = true)
    (a__root_powers : PySem.W.nsIn K mainGlobals "_root_powers" = some (some (.ref f__root_powers)))
    (l__root_powers : K.lookup f__root_powers = some ⟨oc__root_powers, od__root_powers, .func (PySem.W.fnOf "_root_powers" "_root_powers" (defArgs s__root_powers) (defBody s__root_powers) (defScope s__root_powers) .none kV__root_powers dc__root_powers pm__root_powers an__root_powers cd__root_powers ct__root_powers), sl__root_powers⟩)
    (c__root_powers : PySem.W.codeIn K cd__root_powers "_root_powers" = true)
    (k__root_powers : PySem.W.keepIn K (.ref f__root_powers) = true)
    (a__weight : PySem.W.nsIn K mainGlobals "_weight" = some (some (.ref f__weight)))
    (l__weight : K.lookup f__weight = some ⟨oc__weight, od__weight, .func (PySem.W.fnOf "_weight" "_weight" (defArgs s__weight) (defBody s__weight) (defScope s__weight) .none kV__weight dc__weight pm__weight an__weight cd__weight ct__weight), sl__weight⟩)
    (c__weight : PySem.W.codeIn K cd__weight "_weight" = true)
    (k__weight : PySem.W.keepIn K (.ref f__weight) = true)
    (a_check_places : PySem.W.nsIn K mainGlobals "check_places" = some (some (.ref f_check_places)))
    (l_check_places : K.lookup f_check_places = some ⟨oc_check_places, od_check_places, .func (PySem.W.fnOf "check_places" "check_places" (defArgs s_check_places) (defBody s_check_places) (defScope s_check_places) .none kV_check_places dc_check_places pm_check_places an_check_places cd_check_places ct_check_places), sl_check_places⟩)
    (c_check_places : PySem.W.codeIn K cd_check_places "check_places" = true)
    (k_check_places : PySem.W.keepIn K (.ref f_check_places) = true)
    (a_common : PySem.W.nsIn K mainGlobals "common" = some (some (.ref f_common)))
    (l_common : K.lookup f_common = some ⟨oc_common, od_common, .func (PySem.W.fnOf "common" "common" (defArgs s_common) (defBody s_common) (defScope s_common) .none kV_common dc_common pm_common an_common cd_common ct_common), sl_common⟩)
    (c_common : PySem.W.codeIn K cd_common "common" = true)
    (k_common : PySem.W.keepIn K (.ref f_common) = true)
    (a_degree : PySem.W.nsIn K mainGlobals "degree" = some (some (.ref f_degree)))
    (l_degree : K.lookup f_degree = some ⟨oc_degree, od_degree, .func (PySem.W.fnOf "degree" "degree" (defArgs s_degree) (defBody s_degree) (defScope s_degree) .none kV_degree dc_degree pm_degree an_degree cd_degree ct_degree), sl_degree⟩)
    (c_degree : PySem.W.codeIn K cd_degree "degree" = true)
    (k_degree : PySem.W.keepIn K (.ref f_degree) = true)
    (a_divide_binary : PySem.W.nsIn K mainGlobals "divide_binary" = some (some (.ref f_divide_binary)))
    (l_divide_binary : K.lookup f_divide_binary = some ⟨oc_divide_binary, od_divide_binary, .func (PySem.W.fnOf "divide" "divide" (defArgs s_divide_binary) (defBody s_divide_binary) (defScope s_divide_binary) .none kV_divide_binary dc_divide_binary pm_divide_binary an_divide_binary cd_divide_binary ct_divide_binary), sl_divide_binary⟩)
    (c_divide_binary : PySem.W.codeIn K cd_divide_binary "divide" = true)
    (k_divide_binary : PySem.W.keepIn K (.ref f_divide_binary) = true)
    (a_divide_polys : PySem.W.nsIn K mainGlobals "divide_polys" = some (some (.ref f_divide_polys)))
    (l_divide_polys : K.lookup f_divide_polys = some ⟨oc_divide_polys, od_divide_polys, .func (PySem.W.fnOf "divide" "divide" (defArgs s_divide_polys) (defBody s_divide_polys) (defScope s_divide_polys) .none kV_divide_polys dc_divide_polys pm_divide_polys an_divide_polys cd_divide_polys ct_divide_polys), sl_divide_polys⟩)
    (c_divide_polys : PySem.W.codeIn K cd_divide_polys "divide" = true)
    (k_divide_polys : PySem.W.keepIn K (.ref f_divide_polys) = true)
    (a_from_roots : PySem.W.nsIn K mainGlobals "from_roots" = some (some (.ref f_from_roots)))
    (l_from_roots : K.lookup f_from_roots = some ⟨oc_from_roots, od_from_roots, .func (PySem.W.fnOf "from_roots" "from_roots" (defArgs s_from_roots) (defBody s_from_roots) (defScope s_from_roots) .none kV_from_roots dc_from_roots pm_from_roots an_from_roots cd_from_roots ct_from_roots), sl_from_roots⟩)
    (c_from_roots : PySem.W.codeIn K cd_from_roots "from_roots" = true)
    (k_from_roots : PySem.W.keepIn K (.ref f_from_roots) = true)
    (a_is_irreducible : PySem.W.nsIn K mainGlobals "is_irreducible" = some (some (.ref f_is_irreducible)))
    (l_is_irreducible : K.lookup f_is_irreducible = some ⟨oc_is_irreducible, od_is_irreducible, .func (PySem.W.fnOf "is_irreducible" "is_irreducible" (defArgs s_is_irreducible) (defBody s_is_irreducible) (defScope s_is_irreducible) .none kV_is_irreducible dc_is_irreducible pm_is_irreducible an_is_irreducible cd_is_irreducible ct_is_irreducible), sl_is_irreducible⟩)
    (c_is_irreducible : PySem.W.codeIn K cd_is_irreducible "is_irreducible" = true)
    (k_is_irreducible : PySem.W.keepIn K (.ref f_is_irreducible) = true)
    (a_product_rest : PySem.W.nsIn K mainGlobals "product_rest" = some (some (.ref f_product_rest)))
    (l_product_rest : K.lookup f_product_rest = some ⟨oc_product_rest, od_product_rest, .func (PySem.W.fnOf "product_rest" "product_rest" (defArgs s_product_rest) (defBody s_product_rest) (defScope s_product_rest) .none kV_product_rest dc_product_rest pm_product_rest an_product_rest cd_product_rest ct_product_rest), sl_product_rest⟩)
    (c_product_rest : PySem.W.codeIn K cd_product_rest "product_rest" = true)
    (k_product_rest : PySem.W.keepIn K (.ref f_product_rest) = true)
    (a_times_binary : PySem.W.nsIn K mainGlobals "times_binary" = some (some (.ref f_times_binary)))
    (l_times_binary : K.lookup f_times_binary = some ⟨oc_times_binary, od_times_binary, .func (PySem.W.fnOf "times" "times" (defArgs s_times_binary) (defBody s_times_binary) (defScope s_times_binary) .none kV_times_binary dc_times_binary pm_times_binary an_times_binary cd_times_binary ct_times_binary), sl_times_binary⟩)
    (c_times_binary : PySem.W.codeIn K cd_times_binary "times" = true)
    (k_times_binary : PySem.W.keepIn K (.ref f_times_binary) = true)
    (a_times_polys : PySem.W.nsIn K mainGlobals "times_polys" = some (some (.ref f_times_polys)))
    (l_times_polys : K.lookup f_times_polys = some ⟨oc_times_polys, od_times_polys, .func (PySem.W.fnOf "times" "times" (defArgs s_times_polys) (defBody s_times_polys) (defScope s_times_polys) .none kV_times_polys dc_times_polys pm_times_polys an_times_polys cd_times_polys ct_times_polys), sl_times_polys⟩)
    (c_times_polys : PySem.W.codeIn K cd_times_polys "times" = true)
    (k_times_polys : PySem.W.keepIn K (.ref f_times_polys) = true)
    (a_trimmed : PySem.W.nsIn K mainGlobals "trimmed" = some (some (.ref f_trimmed)))
    (l_trimmed : K.lookup f_trimmed = some ⟨oc_trimmed, od_trimmed, .func (PySem.W.fnOf "trimmed" "trimmed" (defArgs s_trimmed) (defBody s_trimmed) (defScope s_trimmed) .none kV_trimmed dc_trimmed pm_trimmed an_trimmed cd_trimmed ct_trimmed), sl_trimmed⟩)
    (c_trimmed : PySem.W.codeIn K cd_trimmed "trimmed" = true)
    (k_trimmed : PySem.W.keepIn K (.ref f_trimmed) = true)
    (a_weights_of : PySem.W.nsIn K mainGlobals "weights_of" = some (some (.ref f_weights_of)))
    (l_weights_of : K.lookup f_weights_of = some ⟨oc_weights_of, od_weights_of, .func (PySem.W.fnOf "weights_of" "weights_of" (defArgs s_weights_of) (defBody s_weights_of) (defScope s_weights_of) .none kV_weights_of dc_weights_of pm_weights_of an_weights_of cd_weights_of ct_weights_of), sl_weights_of⟩)
    (c_weights_of : PySem.W.codeIn K cd_weights_of "weights_of" = true)
    (k_weights_of : PySem.W.keepIn K (.ref f_weights_of) = true)
    (a_law : PySem.W.nsIn K mainGlobals "law" = some (some (.ref f_law)))
    (l_law : K.lookup f_law = some ⟨oc_law, od_law, .func (PySem.W.fnOf "law" "law" (defArgs s_law) (defBody s_law) (defScope s_law) .none kV_law dc_law pm_law an_law cd_law ct_law), sl_law⟩)
    (c_law : PySem.W.codeIn K cd_law "law" = true)
    (k_law : PySem.W.keepIn K (.ref f_law) = true)
    (a_X : PySem.W.nsIn K mainGlobals "X" = some (some (.int 2 t_X)))
    (a_Field : PySem.W.nsIn K mainGlobals "Field" = some (some (.ref C_Field)))
    (pg_Field : PySem.W.plainGet K C_Field Str.empty = true)
    (hd_Field : PySem.W.hasDictIn K C_Field = true)
    (po_Field : PySem.W.plainOver K C_Field = true)
    (sa_Field : PySem.W.findIn K (.ref C_Field) "__setattr__" = some (some (.builtin "object.__setattr__")))
    (mk_Field : PySem.W.makesIn K C_Field = true)
    (kc_Field : PySem.W.keepIn K (.ref C_Field) = true)
    (n_Field__bits : PySem.W.findIn K (.ref C_Field) "_bits" = some none)
    (n_Field__modulus : PySem.W.findIn K (.ref C_Field) "_modulus" = some none)
    (n_Field__turn : PySem.W.findIn K (.ref C_Field) "_turn" = some none)
    (n_Field__powers : PySem.W.findIn K (.ref C_Field) "_powers" = some none)
    (n_Field__logs : PySem.W.findIn K (.ref C_Field) "_logs" = some none)
    (n_Field__products : PySem.W.findIn K (.ref C_Field) "_products" = some none)
    (a_Field___init__ : PySem.W.findIn K (.ref C_Field) "__init__" = some (some (.ref f_Field___init__)))
    (i_Field___init__ : PySem.W.isFn K (.ref f_Field___init__) = true)
    (l_Field___init__ : K.lookup f_Field___init__ = some ⟨oc_Field___init__, od_Field___init__, .func (PySem.W.fnOf "__init__" "Field.__init__" (defArgs s_Field___init__) (defBody s_Field___init__) (defScope s_Field___init__) .none kV_Field___init__ dc_Field___init__ pm_Field___init__ an_Field___init__ cd_Field___init__ ct_Field___init__), sl_Field___init__⟩)
    (c_Field___init__ : PySem.W.codeIn K cd_Field___init__ "Field.__init__" = true)
    (k_Field___init__ : PySem.W.keepIn K (.ref f_Field___init__) = true)
    (a_Field_add : PySem.W.findIn K (.ref C_Field) "add" = some (some (.ref f_Field_add)))
    (i_Field_add : PySem.W.isFn K (.ref f_Field_add) = true)
    (l_Field_add : K.lookup f_Field_add = some ⟨oc_Field_add, od_Field_add, .func (PySem.W.fnOf "add" "Field.add" (defArgs s_Field_add) (defBody s_Field_add) (defScope s_Field_add) .none kV_Field_add dc_Field_add pm_Field_add an_Field_add cd_Field_add ct_Field_add), sl_Field_add⟩)
    (c_Field_add : PySem.W.codeIn K cd_Field_add "Field.add" = true)
    (k_Field_add : PySem.W.keepIn K (.ref f_Field_add) = true)
    (a_Field_inverse : PySem.W.findIn K (.ref C_Field) "inverse" = some (some (.ref f_Field_inverse)))
    (i_Field_inverse : PySem.W.isFn K (.ref f_Field_inverse) = true)
    (l_Field_inverse : K.lookup f_Field_inverse = some ⟨oc_Field_inverse, od_Field_inverse, .func (PySem.W.fnOf "inverse" "Field.inverse" (defArgs s_Field_inverse) (defBody s_Field_inverse) (defScope s_Field_inverse) .none kV_Field_inverse dc_Field_inverse pm_Field_inverse an_Field_inverse cd_Field_inverse ct_Field_inverse), sl_Field_inverse⟩)
    (c_Field_inverse : PySem.W.codeIn K cd_Field_inverse "Field.inverse" = true)
    (k_Field_inverse : PySem.W.keepIn K (.ref f_Field_inverse) = true)
    (a_Field_log : PySem.W.findIn K (.ref C_Field) "log" = some (some (.ref f_Field_log)))
    (i_Field_log : PySem.W.isFn K (.ref f_Field_log) = true)
    (l_Field_log : K.lookup f_Field_log = some ⟨oc_Field_log, od_Field_log, .func (PySem.W.fnOf "log" "Field.log" (defArgs s_Field_log) (defBody s_Field_log) (defScope s_Field_log) .none kV_Field_log dc_Field_log pm_Field_log an_Field_log cd_Field_log ct_Field_log), sl_Field_log⟩)
    (c_Field_log : PySem.W.codeIn K cd_Field_log "Field.log" = true)
    (k_Field_log : PySem.W.keepIn K (.ref f_Field_log) = true)
    (a_Field_power : PySem.W.findIn K (.ref C_Field) "power" = some (some (.ref f_Field_power)))
    (i_Field_power : PySem.W.isFn K (.ref f_Field_power) = true)
    (l_Field_power : K.lookup f_Field_power = some ⟨oc_Field_power, od_Field_power, .func (PySem.W.fnOf "power" "Field.power" (defArgs s_Field_power) (defBody s_Field_power) (defScope s_Field_power) .none kV_Field_power dc_Field_power pm_Field_power an_Field_power cd_Field_power ct_Field_power), sl_Field_power⟩)
    (c_Field_power : PySem.W.codeIn K cd_Field_power "Field.power" = true)
    (k_Field_power : PySem.W.keepIn K (.ref f_Field_power) = true)
    (a_Field_root : PySem.W.findIn K (.ref C_Field) "root" = some (some (.ref f_Field_root)))
    (i_Field_root : PySem.W.isFn K (.ref f_Field_root) = true)
    (l_Field_root : K.lookup f_Field_root = some ⟨oc_Field_root, od_Field_root, .func (PySem.W.fnOf "root" "Field.root" (defArgs s_Field_root) (defBody s_Field_root) (defScope s_Field_root) .none kV_Field_root dc_Field_root pm_Field_root an_Field_root cd_Field_root ct_Field_root), sl_Field_root⟩)
    (c_Field_root : PySem.W.codeIn K cd_Field_root "Field.root" = true)
    (k_Field_root : PySem.W.keepIn K (.ref f_Field_root) = true)
    (a_Field_scaled : PySem.W.findIn K (.ref C_Field) "scaled" = some (some (.ref f_Field_scaled)))
    (i_Field_scaled : PySem.W.isFn K (.ref f_Field_scaled) = true)
    (l_Field_scaled : K.lookup f_Field_scaled = some ⟨oc_Field_scaled, od_Field_scaled, .func (PySem.W.fnOf "scaled" "Field.scaled" (defArgs s_Field_scaled) (defBody s_Field_scaled) (defScope s_Field_scaled) .none kV_Field_scaled dc_Field_scaled pm_Field_scaled an_Field_scaled cd_Field_scaled ct_Field_scaled), sl_Field_scaled⟩)
    (c_Field_scaled : PySem.W.codeIn K cd_Field_scaled "Field.scaled" = true)
    (k_Field_scaled : PySem.W.keepIn K (.ref f_Field_scaled) = true)
    (a_Field_size : PySem.W.findIn K (.ref C_Field) "size" = some (some (.ref f_Field_size)))
    (i_Field_size : PySem.W.isFn K (.ref f_Field_size) = true)
    (l_Field_size : K.lookup f_Field_size = some ⟨oc_Field_size, od_Field_size, .func (PySem.W.fnOf "size" "Field.size" (defArgs s_Field_size) (defBody s_Field_size) (defScope s_Field_size) .none kV_Field_size dc_Field_size pm_Field_size an_Field_size cd_Field_size ct_Field_size), sl_Field_size⟩)
    (c_Field_size : PySem.W.codeIn K cd_Field_size "Field.size" = true)
    (k_Field_size : PySem.W.keepIn K (.ref f_Field_size) = true)
    (a_Field_times : PySem.W.findIn K (.ref C_Field) "times" = some (some (.ref f_Field_times)))
    (i_Field_times : PySem.W.isFn K (.ref f_Field_times) = true)
    (l_Field_times : K.lookup f_Field_times = some ⟨oc_Field_times, od_Field_times, .func (PySem.W.fnOf "times" "Field.times" (defArgs s_Field_times) (defBody s_Field_times) (defScope s_Field_times) .none kV_Field_times dc_Field_times pm_Field_times an_Field_times cd_Field_times ct_Field_times), sl_Field_times⟩)
    (c_Field_times : PySem.W.codeIn K cd_Field_times "Field.times" = true)
    (k_Field_times : PySem.W.keepIn K (.ref f_Field_times) = true)
    (a_RootCode : PySem.W.nsIn K mainGlobals "RootCode" = some (some (.ref C_RootCode)))
    (pg_RootCode : PySem.W.plainGet K C_RootCode Str.empty = true)
    (hd_RootCode : PySem.W.hasDictIn K C_RootCode = true)
    (po_RootCode : PySem.W.plainOver K C_RootCode = true)
    (sa_RootCode : PySem.W.findIn K (.ref C_RootCode) "__setattr__" = some (some (.builtin "object.__setattr__")))
    (mk_RootCode : PySem.W.makesIn K C_RootCode = true)
    (kc_RootCode : PySem.W.keepIn K (.ref C_RootCode) = true)
    (n_RootCode_field : PySem.W.findIn K (.ref C_RootCode) "field" = some none)
    (n_RootCode_n : PySem.W.findIn K (.ref C_RootCode) "n" = some none)
    (n_RootCode_first : PySem.W.findIn K (.ref C_RootCode) "first" = some none)
    (n_RootCode_checks : PySem.W.findIn K (.ref C_RootCode) "checks" = some none)
    (n_RootCode__generator : PySem.W.findIn K (.ref C_RootCode) "_generator" = some none)
    (a_RootCode___init__ : PySem.W.findIn K (.ref C_RootCode) "__init__" = some (some (.ref f_RootCode___init__)))
    (i_RootCode___init__ : PySem.W.isFn K (.ref f_RootCode___init__) = true)
    (l_RootCode___init__ : K.lookup f_RootCode___init__ = some ⟨oc_RootCode___init__, od_RootCode___init__, .func (PySem.W.fnOf "__init__" "RootCode.__init__" (defArgs s_RootCode___init__) (defBody s_RootCode___init__) (defScope s_RootCode___init__) .none kV_RootCode___init__ dc_RootCode___init__ pm_RootCode___init__ an_RootCode___init__ cd_RootCode___init__ ct_RootCode___init__), sl_RootCode___init__⟩)
    (c_RootCode___init__ : PySem.W.codeIn K cd_RootCode___init__ "RootCode.__init__" = true)
    (k_RootCode___init__ : PySem.W.keepIn K (.ref f_RootCode___init__) = true)
    (a_RootCode_roots : PySem.W.findIn K (.ref C_RootCode) "roots" = some (some (.ref f_RootCode_roots)))
    (i_RootCode_roots : PySem.W.isFn K (.ref f_RootCode_roots) = true)
    (l_RootCode_roots : K.lookup f_RootCode_roots = some ⟨oc_RootCode_roots, od_RootCode_roots, .func (PySem.W.fnOf "roots" "RootCode.roots" (defArgs s_RootCode_roots) (defBody s_RootCode_roots) (defScope s_RootCode_roots) .none kV_RootCode_roots dc_RootCode_roots pm_RootCode_roots an_RootCode_roots cd_RootCode_roots ct_RootCode_roots), sl_RootCode_roots⟩)
    (c_RootCode_roots : PySem.W.codeIn K cd_RootCode_roots "RootCode.roots" = true)
    (k_RootCode_roots : PySem.W.keepIn K (.ref f_RootCode_roots) = true)
    (a_RootCode_codeword : PySem.W.findIn K (.ref C_RootCode) "codeword" = some (some (.ref f_RootCode_codeword)))
    (i_RootCode_codeword : PySem.W.isFn K (.ref f_RootCode_codeword) = true)
    (l_RootCode_codeword : K.lookup f_RootCode_codeword = some ⟨oc_RootCode_codeword, od_RootCode_codeword, .func (PySem.W.fnOf "codeword" "RootCode.codeword" (defArgs s_RootCode_codeword) (defBody s_RootCode_codeword) (defScope s_RootCode_codeword) .none kV_RootCode_codeword dc_RootCode_codeword pm_RootCode_codeword an_RootCode_codeword cd_RootCode_codeword ct_RootCode_codeword), sl_RootCode_codeword⟩)
    (c_RootCode_codeword : PySem.W.codeIn K cd_RootCode_codeword "RootCode.codeword" = true)
    (k_RootCode_codeword : PySem.W.keepIn K (.ref f_RootCode_codeword) = true)
    (a_RootCode_word_on : PySem.W.findIn K (.ref C_RootCode) "word_on" = some (some (.ref f_RootCode_word_on)))
    (i_RootCode_word_on : PySem.W.isFn K (.ref f_RootCode_word_on) = true)
    (l_RootCode_word_on : K.lookup f_RootCode_word_on = some ⟨oc_RootCode_word_on, od_RootCode_word_on, .func (PySem.W.fnOf "word_on" "RootCode.word_on" (defArgs s_RootCode_word_on) (defBody s_RootCode_word_on) (defScope s_RootCode_word_on) .none kV_RootCode_word_on dc_RootCode_word_on pm_RootCode_word_on an_RootCode_word_on cd_RootCode_word_on ct_RootCode_word_on), sl_RootCode_word_on⟩)
    (c_RootCode_word_on : PySem.W.codeIn K cd_RootCode_word_on "RootCode.word_on" = true)
    (k_RootCode_word_on : PySem.W.keepIn K (.ref f_RootCode_word_on) = true)
    (z_sorted : PySem.W.nsIn K mainGlobals "sorted" = some none)
    (z_range : PySem.W.nsIn K mainGlobals "range" = some none)
    (z_len : PySem.W.nsIn K mainGlobals "len" = some none)
    (z_abs : PySem.W.nsIn K mainGlobals "abs" = some none)
    (z_int : PySem.W.nsIn K mainGlobals "int" = some none)
    (z_max : PySem.W.nsIn K mainGlobals "max" = some none)
    (z_min : PySem.W.nsIn K mainGlobals "min" = some none)
    (z_sum : PySem.W.nsIn K mainGlobals "sum" = some none)
    (z_list : PySem.W.nsIn K mainGlobals "list" = some none)
    (z_isinstance : PySem.W.nsIn K mainGlobals "isinstance" = some none)
    (z_enumerate : PySem.W.nsIn K mainGlobals "enumerate" = some none)
    (z_zip : PySem.W.nsIn K mainGlobals "zip" = some none)
    (z_reversed : PySem.W.nsIn K mainGlobals "reversed" = some none)
    (z_any : PySem.W.nsIn K mainGlobals "any" = some none)
    (z_all : PySem.W.nsIn K mainGlobals "all" = some none)
    (z_ValueError : PySem.W.nsIn K mainGlobals "ValueError" = some none)
    : ∃ fd : FuncData, (∀ (s : Shared) (v : Value), BindsTo s fd ⟨[v], []⟩ [("script", v)]) ∧ ∀ base : Heap, K.In base → base.Ns mainGlobals mg → FnOk l.prog w K mg base CX0 14 fa fd ["script"] (sp_law K) := by
  have e := hfa.symm.trans (PySem.W.mg_of X G a_law)
  cases e
  have B : Bl mg := ⟨PySem.W.mg_none_of X G z_range, PySem.W.mg_none_of X G z_len, PySem.W.mg_none_of X G z_abs, PySem.W.mg_none_of X G z_int, PySem.W.mg_none_of X G z_max, PySem.W.mg_none_of X G z_min, PySem.W.mg_none_of X G z_sum, PySem.W.mg_none_of X G z_list, PySem.W.mg_none_of X G z_isinstance, PySem.W.mg_none_of X G z_enumerate, PySem.W.mg_none_of X G z_zip, PySem.W.mg_none_of X G z_reversed, PySem.W.mg_none_of X G z_any, PySem.W.mg_none_of X G z_all, PySem.W.mg_none_of X G z_ValueError⟩
  have F__law_choices := fun_mk (st := s__law_choices) l__law_choices c__law_choices k__law_choices
  have D__law_choices : Df K mg "_law_choices" ["n", "count"] s__law_choices _ _ := ⟨F__law_choices, PySem.W.mg_of X G a__law_choices, F__law_choices.binds (ps := ["n", "count"]) fun _ _ _ _ _ _ us hl => match us, hl with | [_, _], _ => rfl⟩
  have F__law_draws := fun_mk (st := s__law_draws) l__law_draws c__law_draws k__law_draws
  have D__law_draws : Df K mg "_law_draws" ["script"] s__law_draws _ _ := ⟨F__law_draws, PySem.W.mg_of X G a__law_draws, F__law_draws.binds (ps := ["script"]) fun _ _ _ _ _ _ us hl => match us, hl with | [_], _ => rfl⟩
  have F__law_field := fun_mk (st := s__law_field) l__law_field c__law_field k__law_field
  have D__law_field : Df K mg "_law_field" ["draws", "k", "m"] s__law_field _ _ := ⟨F__law_field, PySem.W.mg_of X G a__law_field, F__law_field.binds (ps := ["draws", "k", "m"]) fun _ _ _ _ _ _ us hl => match us, hl with | [_, _, _], _ => rfl⟩
  have F__law_is_prime := fun_mk (st := s__law_is_prime) l__law_is_prime c__law_is_prime k__law_is_prime
  have D__law_is_prime : Df K mg "_law_is_prime" ["p", "m"] s__law_is_prime _ _ := ⟨F__law_is_prime, PySem.W.mg_of X G a__law_is_prime, F__law_is_prime.binds (ps := ["p", "m"]) fun _ _ _ _ _ _ us hl => match us, hl with | [_, _], _ => rfl⟩
  have F__law_is_word := fun_mk (st := s__law_is_word) l__law_is_word c__law_is_word k__law_is_word
  have D__law_is_word : Df K mg "_law_is_word" ["f", "shape", "symbols"] s__law_is_word _ _ := ⟨F__law_is_word, PySem.W.mg_of X G a__law_is_word, F__law_is_word.binds (ps := ["f", "shape", "symbols"]) fun _ _ _ _ _ _ us hl => match us, hl with | [_, _, _], _ => rfl⟩
  have F__law_mix := fun_mk (st := s__law_mix) l__law_mix c__law_mix k__law_mix
  have D__law_mix : Df K mg "_law_mix" ["draws", "k", "many"] s__law_mix _ _ := ⟨F__law_mix, PySem.W.mg_of X G a__law_mix, F__law_mix.binds (ps := ["draws", "k", "many"]) fun _ _ _ _ _ _ us hl => match us, hl with | [_, _, _], _ => rfl⟩
  have F__law_roots := fun_mk (st := s__law_roots) l__law_roots c__law_roots k__law_roots
  have D__law_roots : Df K mg "_law_roots" ["f", "shape"] s__law_roots _ _ := ⟨F__law_roots, PySem.W.mg_of X G a__law_roots, F__law_roots.binds (ps := ["f", "shape"]) fun _ _ _ _ _ _ us hl => match us, hl with | [_, _], _ => rfl⟩
  have F__law_times := fun_mk (st := s__law_times) l__law_times c__law_times k__law_times
  have D__law_times : Df K mg "_law_times" ["f", "e", "g"] s__law_times _ _ := ⟨F__law_times, PySem.W.mg_of X G a__law_times, F__law_times.binds (ps := ["f", "e", "g"]) fun _ _ _ _ _ _ us hl => match us, hl with | [_, _, _], _ => rfl⟩
  have F__powers_of := fun_mk (st := s__powers_of) l__powers_of c__powers_of k__powers_of
  have D__powers_of : Df K mg "_powers_of" ["e", "modulus"] s__powers_of _ _ := ⟨F__powers_of, PySem.W.mg_of X G a__powers_of, F__powers_of.binds (ps := ["e", "modulus"]) fun _ _ _ _ _ _ us hl => match us, hl with | [_, _], _ => rfl⟩
  have F__root_powers := fun_mk (st := s__root_powers) l__root_powers c__root_powers k__root_powers
  have D__root_powers : Df K mg "_root_powers" ["turn", "modulus"] s__root_powers _ _ := ⟨F__root_powers, PySem.W.mg_of X G a__root_powers, F__root_powers.binds (ps := ["turn", "modulus"]) fun _ _ _ _ _ _ us hl => match us, hl with | [_, _], _ => rfl⟩
  have F__weight := fun_mk (st := s__weight) l__weight c__weight k__weight
  have D__weight : Df K mg "_weight" ["field", "first", "point", "points"] s__weight _ _ := ⟨F__weight, PySem.W.mg_of X G a__weight, F__weight.binds (ps := ["field", "first", "point", "points"]) fun _ _ _ _ _ _ us hl => match us, hl with | [_, _, _, _], _ => rfl⟩
  have F_check_places := fun_mk (st := s_check_places) l_check_places c_check_places k_check_places
  have D_check_places : Df K mg "check_places" ["places", "n"] s_check_places _ _ := ⟨F_check_places, PySem.W.mg_of X G a_check_places, F_check_places.binds (ps := ["places", "n"]) fun _ _ _ _ _ _ us hl => match us, hl with | [_, _], _ => rfl⟩
  have F_common := fun_mk (st := s_common) l_common c_common k_common
  have D_common : Df K mg "common" ["p", "q"] s_common _ _ := ⟨F_common, PySem.W.mg_of X G a_common, F_common.binds (ps := ["p", "q"]) fun _ _ _ _ _ _ us hl => match us, hl with | [_, _], _ => rfl⟩
  have F_degree := fun_mk (st := s_degree) l_degree c_degree k_degree
  have D_degree : Df K mg "degree" ["p"] s_degree _ _ := ⟨F_degree, PySem.W.mg_of X G a_degree, F_degree.binds (ps := ["p"]) fun _ _ _ _ _ _ us hl => match us, hl with | [_], _ => rfl⟩
  have F_divide_binary := fun_mk (st := s_divide_binary) l_divide_binary c_divide_binary k_divide_binary
  have D_divide_binary : Da K mg "divide_binary" "divide" ["p", "q"] s_divide_binary _ _ := ⟨F_divide_binary, PySem.W.mg_of X G a_divide_binary, F_divide_binary.binds (ps := ["p", "q"]) fun _ _ _ _ _ _ us hl => match us, hl with | [_, _], _ => rfl⟩
  have F_divide_polys := fun_mk (st := s_divide_polys) l_divide_polys c_divide_polys k_divide_polys
  have D_divide_polys : Da K mg "divide_polys" "divide" ["field", "p", "q"] s_divide_polys _ _ := ⟨F_divide_polys, PySem.W.mg_of X G a_divide_polys, F_divide_polys.binds (ps := ["field", "p", "q"]) fun _ _ _ _ _ _ us hl => match us, hl with | [_, _, _], _ => rfl⟩
  have F_from_roots := fun_mk (st := s_from_roots) l_from_roots c_from_roots k_from_roots
  have D_from_roots : Df K mg "from_roots" ["field", "roots"] s_from_roots _ _ := ⟨F_from_roots, PySem.W.mg_of X G a_from_roots, F_from_roots.binds (ps := ["field", "roots"]) fun _ _ _ _ _ _ us hl => match us, hl with | [_, _], _ => rfl⟩
  have F_is_irreducible := fun_mk (st := s_is_irreducible) l_is_irreducible c_is_irreducible k_is_irreducible
  have D_is_irreducible : Df K mg "is_irreducible" ["p"] s_is_irreducible _ _ := ⟨F_is_irreducible, PySem.W.mg_of X G a_is_irreducible, F_is_irreducible.binds (ps := ["p"]) fun _ _ _ _ _ _ us hl => match us, hl with | [_], _ => rfl⟩
  have F_product_rest := fun_mk (st := s_product_rest) l_product_rest c_product_rest k_product_rest
  have D_product_rest : Df K mg "product_rest" ["p", "q", "modulus"] s_product_rest _ _ := ⟨F_product_rest, PySem.W.mg_of X G a_product_rest, F_product_rest.binds (ps := ["p", "q", "modulus"]) fun _ _ _ _ _ _ us hl => match us, hl with | [_, _, _], _ => rfl⟩
  have F_times_binary := fun_mk (st := s_times_binary) l_times_binary c_times_binary k_times_binary
  have D_times_binary : Da K mg "times_binary" "times" ["p", "q"] s_times_binary _ _ := ⟨F_times_binary, PySem.W.mg_of X G a_times_binary, F_times_binary.binds (ps := ["p", "q"]) fun _ _ _ _ _ _ us hl => match us, hl with | [_, _], _ => rfl⟩
  have F_times_polys := fun_mk (st := s_times_polys) l_times_polys c_times_polys k_times_polys
  have D_times_polys : Da K mg "times_polys" "times" ["field", "p", "q"] s_times_polys _ _ := ⟨F_times_polys, PySem.W.mg_of X G a_times_polys, F_times_polys.binds (ps := ["field", "p", "q"]) fun _ _ _ _ _ _ us hl => match us, hl with | [_, _, _], _ => rfl⟩
  have F_trimmed := fun_mk (st := s_trimmed) l_trimmed c_trimmed k_trimmed
  have D_trimmed : Df K mg "trimmed" ["coefficients"] s_trimmed _ _ := ⟨F_trimmed, PySem.W.mg_of X G a_trimmed, F_trimmed.binds (ps := ["coefficients"]) fun _ _ _ _ _ _ us hl => match us, hl with | [_], _ => rfl⟩
  have F_weights_of := fun_mk (st := s_weights_of) l_weights_of c_weights_of k_weights_of
  have D_weights_of : Df K mg "weights_of" ["field", "first", "points"] s_weights_of _ _ := ⟨F_weights_of, PySem.W.mg_of X G a_weights_of, F_weights_of.binds (ps := ["field", "first", "points"]) fun _ _ _ _ _ _ us hl => match us, hl with | [_, _, _], _ => rfl⟩
  have F_law := fun_mk (st := s_law) l_law c_law k_law
  have D_law : Df K mg "law" ["script"] s_law _ _ := ⟨F_law, PySem.W.mg_of X G a_law, F_law.binds (ps := ["script"]) fun _ _ _ _ _ _ us hl => match us, hl with | [_], _ => rfl⟩
  have F_init := fun_mk (st := s_init) l_init c_init k_init
  have b_init := F_init.binds (ps := ["self", "at"]) fun _ _ _ _ _ _ us hl => match us, hl with | [_, _], _ => rfl
  have X_HaulError : XC K mg "HaulError" C_HaulError f_init C_HaulError := ⟨⟨⟨nm_HaulError, q_HaulError, N_HaulError, bs_HaulError, bm_HaulError, sn_HaulError, sub_HaulError, ab_HaulError, col_HaulError, dd_HaulError, k0_HaulError, k1_HaulError, k2_HaulError, k3_HaulError, k5_HaulError, x_HaulError, r_HaulError⟩, sa_HaulError, e_HaulError, ty_HaulError, kc_HaulError⟩, ga_HaulError, gg_HaulError, hd_HaulError, cl_HaulError, sp_cls, tk_cls, mo_HaulError, no_HaulError, PySem.W.mg_of X G a_HaulError, i_init, ti_init, PySem.W.exm_ref e_HaulError hd_HaulError ty_HaulError su_HaulError⟩
  have X_OutOfRange : XC K mg "OutOfRange" C_OutOfRange f_init C_HaulError := ⟨⟨⟨nm_OutOfRange, q_OutOfRange, N_OutOfRange, bs_OutOfRange, bm_OutOfRange, sn_OutOfRange, sub_OutOfRange, ab_OutOfRange, col_OutOfRange, dd_OutOfRange, k0_OutOfRange, k1_OutOfRange, k2_OutOfRange, k3_OutOfRange, k5_OutOfRange, x_OutOfRange, r_OutOfRange⟩, sa_OutOfRange, e_OutOfRange, ty_OutOfRange, kc_OutOfRange⟩, ga_OutOfRange, gg_OutOfRange, hd_OutOfRange, cl_OutOfRange, sp_cls, tk_cls, mo_OutOfRange, no_OutOfRange, PySem.W.mg_of X G a_OutOfRange, ii_OutOfRange, ti_init, PySem.W.exm_ref e_HaulError hd_HaulError ty_HaulError su_OutOfRange⟩
  have X_NotIrreducible : XC K mg "NotIrreducible" C_NotIrreducible f_init C_HaulError := ⟨⟨⟨nm_NotIrreducible, q_NotIrreducible, N_NotIrreducible, bs_NotIrreducible, bm_NotIrreducible, sn_NotIrreducible, sub_NotIrreducible, ab_NotIrreducible, col_NotIrreducible, dd_NotIrreducible, k0_NotIrreducible, k1_NotIrreducible, k2_NotIrreducible, k3_NotIrreducible, k5_NotIrreducible, x_NotIrreducible, r_NotIrreducible⟩, sa_NotIrreducible, e_NotIrreducible, ty_NotIrreducible, kc_NotIrreducible⟩, ga_NotIrreducible, gg_NotIrreducible, hd_NotIrreducible, cl_NotIrreducible, sp_cls, tk_cls, mo_NotIrreducible, no_NotIrreducible, PySem.W.mg_of X G a_NotIrreducible, ii_NotIrreducible, ti_init, PySem.W.exm_ref e_HaulError hd_HaulError ty_HaulError su_NotIrreducible⟩
  have X_NoInverse : XC K mg "NoInverse" C_NoInverse f_init C_HaulError := ⟨⟨⟨nm_NoInverse, q_NoInverse, N_NoInverse, bs_NoInverse, bm_NoInverse, sn_NoInverse, sub_NoInverse, ab_NoInverse, col_NoInverse, dd_NoInverse, k0_NoInverse, k1_NoInverse, k2_NoInverse, k3_NoInverse, k5_NoInverse, x_NoInverse, r_NoInverse⟩, sa_NoInverse, e_NoInverse, ty_NoInverse, kc_NoInverse⟩, ga_NoInverse, gg_NoInverse, hd_NoInverse, cl_NoInverse, sp_cls, tk_cls, mo_NoInverse, no_NoInverse, PySem.W.mg_of X G a_NoInverse, ii_NoInverse, ti_init, PySem.W.exm_ref e_HaulError hd_HaulError ty_HaulError su_NoInverse⟩
  have X_NoDivisor : XC K mg "NoDivisor" C_NoDivisor f_init C_HaulError := ⟨⟨⟨nm_NoDivisor, q_NoDivisor, N_NoDivisor, bs_NoDivisor, bm_NoDivisor, sn_NoDivisor, sub_NoDivisor, ab_NoDivisor, col_NoDivisor, dd_NoDivisor, k0_NoDivisor, k1_NoDivisor, k2_NoDivisor, k3_NoDivisor, k5_NoDivisor, x_NoDivisor, r_NoDivisor⟩, sa_NoDivisor, e_NoDivisor, ty_NoDivisor, kc_NoDivisor⟩, ga_NoDivisor, gg_NoDivisor, hd_NoDivisor, cl_NoDivisor, sp_cls, tk_cls, mo_NoDivisor, no_NoDivisor, PySem.W.mg_of X G a_NoDivisor, ii_NoDivisor, ti_init, PySem.W.exm_ref e_HaulError hd_HaulError ty_HaulError su_NoDivisor⟩
  have X_WrongSize : XC K mg "WrongSize" C_WrongSize f_init C_HaulError := ⟨⟨⟨nm_WrongSize, q_WrongSize, N_WrongSize, bs_WrongSize, bm_WrongSize, sn_WrongSize, sub_WrongSize, ab_WrongSize, col_WrongSize, dd_WrongSize, k0_WrongSize, k1_WrongSize, k2_WrongSize, k3_WrongSize, k5_WrongSize, x_WrongSize, r_WrongSize⟩, sa_WrongSize, e_WrongSize, ty_WrongSize, kc_WrongSize⟩, ga_WrongSize, gg_WrongSize, hd_WrongSize, cl_WrongSize, sp_cls, tk_cls, mo_WrongSize, no_WrongSize, PySem.W.mg_of X G a_WrongSize, ii_WrongSize, ti_init, PySem.W.exm_ref e_HaulError hd_HaulError ty_HaulError su_WrongSize⟩
  have X_WrongPlace : XC K mg "WrongPlace" C_WrongPlace f_init C_HaulError := ⟨⟨⟨nm_WrongPlace, q_WrongPlace, N_WrongPlace, bs_WrongPlace, bm_WrongPlace, sn_WrongPlace, sub_WrongPlace, ab_WrongPlace, col_WrongPlace, dd_WrongPlace, k0_WrongPlace, k1_WrongPlace, k2_WrongPlace, k3_WrongPlace, k5_WrongPlace, x_WrongPlace, r_WrongPlace⟩, sa_WrongPlace, e_WrongPlace, ty_WrongPlace, kc_WrongPlace⟩, ga_WrongPlace, gg_WrongPlace, hd_WrongPlace, cl_WrongPlace, sp_cls, tk_cls, mo_WrongPlace, no_WrongPlace, PySem.W.mg_of X G a_WrongPlace, ii_WrongPlace, ti_init, PySem.W.exm_ref e_HaulError hd_HaulError ty_HaulError su_WrongPlace⟩
  have K_Field : Cls K C_Field := ⟨pg_Field, hd_Field, po_Field, sa_Field⟩
  have g_Field := PySem.W.mg_of X G a_Field
  have F_Field___init__ := fun_mk (st := s_Field___init__) l_Field___init__ c_Field___init__ k_Field___init__
  have b_Field___init__ := F_Field___init__.binds (ps := ["self", "m", "modulus"]) fun _ _ _ _ _ _ us hl => match us, hl with | [_, _, _], _ => rfl
  have M_Field : Mk K C_Field f_Field___init__ := ⟨mk_Field, a_Field___init__, i_Field___init__, kc_Field⟩
  have F_Field_add := fun_mk (st := s_Field_add) l_Field_add c_Field_add k_Field_add
  have b_Field_add := F_Field_add.binds (ps := ["self", "e", "f"]) fun _ _ _ _ _ _ us hl => match us, hl with | [_, _, _], _ => rfl
  have M_Field_add : Meth K C_Field "add" f_Field_add := ⟨a_Field_add, i_Field_add, k_Field_add⟩
  have F_Field_inverse := fun_mk (st := s_Field_inverse) l_Field_inverse c_Field_inverse k_Field_inverse
  have b_Field_inverse := F_Field_inverse.binds (ps := ["self", "e"]) fun _ _ _ _ _ _ us hl => match us, hl with | [_, _], _ => rfl
  have M_Field_inverse : Meth K C_Field "inverse" f_Field_inverse := ⟨a_Field_inverse, i_Field_inverse, k_Field_inverse⟩
  have F_Field_log := fun_mk (st := s_Field_log) l_Field_log c_Field_log k_Field_log
  have b_Field_log := F_Field_log.binds (ps := ["self", "e"]) fun _ _ _ _ _ _ us hl => match us, hl with | [_, _], _ => rfl
  have M_Field_log : Meth K C_Field "log" f_Field_log := ⟨a_Field_log, i_Field_log, k_Field_log⟩
  have F_Field_power := fun_mk (st := s_Field_power) l_Field_power c_Field_power k_Field_power
  have b_Field_power := F_Field_power.binds (ps := ["self", "e", "k"]) fun _ _ _ _ _ _ us hl => match us, hl with | [_, _, _], _ => rfl
  have M_Field_power : Meth K C_Field "power" f_Field_power := ⟨a_Field_power, i_Field_power, k_Field_power⟩
  have F_Field_root := fun_mk (st := s_Field_root) l_Field_root c_Field_root k_Field_root
  have b_Field_root := F_Field_root.binds (ps := ["self"]) fun _ _ _ _ _ _ us hl => match us, hl with | [_], _ => rfl
  have M_Field_root : Meth K C_Field "root" f_Field_root := ⟨a_Field_root, i_Field_root, k_Field_root⟩
  have F_Field_scaled := fun_mk (st := s_Field_scaled) l_Field_scaled c_Field_scaled k_Field_scaled
  have b_Field_scaled := F_Field_scaled.binds (ps := ["self", "items", "e"]) fun _ _ _ _ _ _ us hl => match us, hl with | [_, _, _], _ => rfl
  have M_Field_scaled : Meth K C_Field "scaled" f_Field_scaled := ⟨a_Field_scaled, i_Field_scaled, k_Field_scaled⟩
  have F_Field_size := fun_mk (st := s_Field_size) l_Field_size c_Field_size k_Field_size
  have b_Field_size := F_Field_size.binds (ps := ["self"]) fun _ _ _ _ _ _ us hl => match us, hl with | [_], _ => rfl
  have M_Field_size : Meth K C_Field "size" f_Field_size := ⟨a_Field_size, i_Field_size, k_Field_size⟩
  have F_Field_times := fun_mk (st := s_Field_times) l_Field_times c_Field_times k_Field_times
  have b_Field_times := F_Field_times.binds (ps := ["self", "e", "f"]) fun _ _ _ _ _ _ us hl => match us, hl with | [_, _, _], _ => rfl
  have M_Field_times : Meth K C_Field "times" f_Field_times := ⟨a_Field_times, i_Field_times, k_Field_times⟩
  have K_RootCode : Cls K C_RootCode := ⟨pg_RootCode, hd_RootCode, po_RootCode, sa_RootCode⟩
  have g_RootCode := PySem.W.mg_of X G a_RootCode
  have F_RootCode___init__ := fun_mk (st := s_RootCode___init__) l_RootCode___init__ c_RootCode___init__ k_RootCode___init__
  have b_RootCode___init__ := F_RootCode___init__.binds (ps := ["self", "field", "n", "first", "checks"]) fun _ _ _ _ _ _ us hl => match us, hl with | [_, _, _, _, _], _ => rfl
  have M_RootCode : Mk K C_RootCode f_RootCode___init__ := ⟨mk_RootCode, a_RootCode___init__, i_RootCode___init__, kc_RootCode⟩
  have F_RootCode_roots := fun_mk (st := s_RootCode_roots) l_RootCode_roots c_RootCode_roots k_RootCode_roots
  have b_RootCode_roots := F_RootCode_roots.binds (ps := ["self"]) fun _ _ _ _ _ _ us hl => match us, hl with | [_], _ => rfl
  have M_RootCode_roots : Meth K C_RootCode "roots" f_RootCode_roots := ⟨a_RootCode_roots, i_RootCode_roots, k_RootCode_roots⟩
  have F_RootCode_codeword := fun_mk (st := s_RootCode_codeword) l_RootCode_codeword c_RootCode_codeword k_RootCode_codeword
  have b_RootCode_codeword := F_RootCode_codeword.binds (ps := ["self", "message"]) fun _ _ _ _ _ _ us hl => match us, hl with | [_, _], _ => rfl
  have M_RootCode_codeword : Meth K C_RootCode "codeword" f_RootCode_codeword := ⟨a_RootCode_codeword, i_RootCode_codeword, k_RootCode_codeword⟩
  have F_RootCode_word_on := fun_mk (st := s_RootCode_word_on) l_RootCode_word_on c_RootCode_word_on k_RootCode_word_on
  have b_RootCode_word_on := F_RootCode_word_on.binds (ps := ["self", "places"]) fun _ _ _ _ _ _ us hl => match us, hl with | [_, _], _ => rfl
  have M_RootCode_word_on : Meth K C_RootCode "word_on" f_RootCode_word_on := ⟨a_RootCode_word_on, i_RootCode_word_on, k_RootCode_word_on⟩
  have c_X := PySem.W.mg_of X G a_X
  refine ⟨PySem.W.fnOf "law" "law" (defArgs s_law) (defBody s_law) (defScope s_law) .none kV_law dc_law pm_law an_law cd_law ct_law, fun s v => .of_eq rfl, fun base _ _ => ?_⟩
  have T_FK : FK K C_Field := ⟨K_Field, n_Field__bits, n_Field__modulus, n_Field__turn, n_Field__powers, n_Field__logs, n_Field__products⟩
  have T_CK : CK K C_RootCode := ⟨K_RootCode, n_RootCode_field, n_RootCode_n, n_RootCode_first, n_RootCode_checks, n_RootCode__generator⟩
  have Z_sorted := PySem.W.mg_none_of X G z_sorted
  have G_init := ok_init (P := l.prog) (w := w) (base := base) F_init B.ValueError v_init
  have G__law_draws := ok__law_draws (P := l.prog) (w := w) (base := base) (mg := mg) D__law_draws B
  have G__law_mix := ok__law_mix (P := l.prog) (w := w) (base := base) (mg := mg) D__law_mix B
  have G_Field_times := ok_Field_times (P := l.prog) (w := w) (base := base) (mg := mg) F_Field_times T_FK
  have G_Field_log := ok_Field_log (P := l.prog) (w := w) (base := base) (mg := mg) F_Field_log T_FK X_NoInverse G_init b_init
  have G_Field_scaled := ok_Field_scaled (P := l.prog) (w := w) (base := base) (mg := mg) F_Field_scaled T_FK
  have G_trimmed := ok_trimmed (P := l.prog) (w := w) (base := base) (mg := mg) D_trimmed B
  have G_Field___init__ := ok_Field___init__ (P := l.prog) (w := w) (base := base) (mg := mg) F_Field___init__ B T_FK c_X D_degree D_is_irreducible D__root_powers D__powers_of D_product_rest D_common D_times_binary D_divide_binary X_OutOfRange X_NotIrreducible X_NoDivisor G_init b_init
  have G__law_times := ok__law_times (P := l.prog) (w := w) (base := base) (mg := mg) D__law_times B
  have G__law_is_prime := ok__law_is_prime (P := l.prog) (w := w) (base := base) (mg := mg) D__law_is_prime B
  have G_Field_size := ok_Field_size (P := l.prog) (w := w) (base := base) (mg := mg) F_Field_size T_FK
  have G_Field_root := ok_Field_root (P := l.prog) (w := w) (base := base) (mg := mg) F_Field_root T_FK
  have G_Field_add := ok_Field_add (P := l.prog) (w := w) (base := base) (mg := mg) F_Field_add (C := C_Field)
  have G__law_roots := ok__law_roots (P := l.prog) (w := w) (base := base) (mg := mg) D__law_roots B
  have G_check_places := ok_check_places (P := l.prog) (w := w) (base := base) (mg := mg) D_check_places B X_WrongPlace G_init b_init
  have G__law_choices := ok__law_choices (P := l.prog) (w := w) (base := base) (mg := mg) D__law_choices B
  have G_Field_inverse := ok_Field_inverse (P := l.prog) (w := w) (base := base) (mg := mg) F_Field_inverse T_FK K_Field M_Field_log b_Field_log G_Field_log
  have G_times_polys := ok_times_polys (P := l.prog) (w := w) (base := base) (mg := mg) D_times_polys B K_Field M_Field_scaled b_Field_scaled G_Field_scaled D_trimmed G_trimmed
  have G__law_field := ok__law_field (P := l.prog) (w := w) (base := base) (mg := mg) D__law_field B D__law_mix G__law_mix D__law_is_prime G__law_is_prime D__law_times G__law_times
  have G_Field_power := ok_Field_power (P := l.prog) (w := w) (base := base) (mg := mg) F_Field_power T_FK K_Field M_Field_log b_Field_log G_Field_log
  have G__law_is_word := ok__law_is_word (P := l.prog) (w := w) (base := base) (mg := mg) D__law_is_word B D__law_roots G__law_roots D__law_times G__law_times
  have G_divide_polys := ok_divide_polys (P := l.prog) (w := w) (base := base) (mg := mg) D_divide_polys B K_Field M_Field_scaled b_Field_scaled G_Field_scaled M_Field_times b_Field_times G_Field_times M_Field_inverse b_Field_inverse G_Field_inverse D_trimmed G_trimmed X_NoDivisor G_init b_init
  have G_from_roots := ok_from_roots (P := l.prog) (w := w) (base := base) (mg := mg) D_from_roots B D_times_polys G_times_polys
  have G_RootCode_roots := ok_RootCode_roots (P := l.prog) (w := w) (base := base) (mg := mg) F_RootCode_roots T_CK B K_Field M_Field_root b_Field_root G_Field_root M_Field_power b_Field_power G_Field_power
  have G__weight := ok__weight (P := l.prog) (w := w) (base := base) (mg := mg) D__weight B K_Field T_FK M_Field_power b_Field_power G_Field_power M_Field_times b_Field_times G_Field_times M_Field_add b_Field_add G_Field_add M_Field_inverse b_Field_inverse G_Field_inverse
  have G_RootCode___init__ := ok_RootCode___init__ (P := l.prog) (w := w) (base := base) (mg := mg) F_RootCode___init__ T_CK B K_Field M_Field_size b_Field_size G_Field_size K_RootCode M_RootCode_roots b_RootCode_roots G_RootCode_roots D_from_roots G_from_roots X_OutOfRange G_init b_init
  have G_RootCode_codeword := ok_RootCode_codeword (P := l.prog) (w := w) (base := base) (mg := mg) F_RootCode_codeword T_CK B D_divide_polys G_divide_polys X_WrongSize G_init b_init
  have G_weights_of := ok_weights_of (P := l.prog) (w := w) (base := base) (mg := mg) D_weights_of B D__weight G__weight
  have G_RootCode_word_on := ok_RootCode_word_on (P := l.prog) (w := w) (base := base) (mg := mg) F_RootCode_word_on T_CK B K_Field M_Field_root b_Field_root G_Field_root M_Field_power b_Field_power G_Field_power M_Field_times b_Field_times G_Field_times M_Field_inverse b_Field_inverse G_Field_inverse D_check_places G_check_places D_weights_of G_weights_of X_WrongSize G_init b_init
  exact ok_law (P := l.prog) (w := w) (base := base) (mg := mg) D_law B Z_sorted K_RootCode D__law_draws G__law_draws D__law_mix G__law_mix D__law_field G__law_field D__law_choices G__law_choices D__law_is_word G__law_is_word D__law_times G__law_times M_Field g_Field b_Field___init__ G_Field___init__ M_RootCode g_RootCode b_RootCode___init__ G_RootCode___init__ M_RootCode_word_on b_RootCode_word_on G_RootCode_word_on M_RootCode_codeword b_RootCode_codeword G_RootCode_codeword
end K20
open PySem PySem.W PyProof.Rows
set_option maxRecDepth 100000 in
set_option maxHeartbeats 0 in
theorem PySem.Challenge.cw_farhaul_k20_whole_least_distance_holds : PySem.Challenge.rw_farhaul_k20_whole_least_distance.Holds := by
  w_on; o_law; k_head; (case hw => w_witness2)
  k_fill
  refine L2.walk_of (l := PySem.Challenge.rw_farhaul_k20_whole_least_distance) (n := 63) (k := 14) (x := "script") (CX := fun _ => L2.CX0) (sp := fun w => DL.sp_law _) rfl (by decide) rfl ⟨rfl, by decide, by decide⟩ (fun w h Y => PySem.W.kIn_of Y) ?F (fun _ _ a ns hl _ hS => ⟨a, ns, rfl, hS, hl, fun _ => rfl⟩) (fun _ _ _ _ _ h => h)
  case F =>
    intro w mg fa h KX G hmg
    refine' K20.all_mk KX G hmg ?a_HaulError ?a_OutOfRange ?a_NotIrreducible ?a_NoInverse ?a_NoDivisor ?a_WrongSize ?a_WrongPlace ?i_init ?ti_init ?l_init ?c_init ?k_init ?v_init ?sp_cls ?tk_cls ?x_HaulError ?r_HaulError ?sa_HaulError ?ga_HaulError ?gg_HaulError ?cl_HaulError ?no_HaulError ?e_HaulError ?ty_HaulError ?kc_HaulError ?hd_HaulError ?mo_HaulError ?su_HaulError ?x_OutOfRange ?r_OutOfRange ?sa_OutOfRange ?ga_OutOfRange ?gg_OutOfRange ?cl_OutOfRange ?no_OutOfRange ?ii_OutOfRange ?e_OutOfRange ?ty_OutOfRange ?kc_OutOfRange ?hd_OutOfRange ?mo_OutOfRange ?su_OutOfRange ?x_NotIrreducible ?r_NotIrreducible ?sa_NotIrreducible ?ga_NotIrreducible ?gg_NotIrreducible ?cl_NotIrreducible ?no_NotIrreducible ?ii_NotIrreducible ?e_NotIrreducible ?ty_NotIrreducible ?kc_NotIrreducible ?hd_NotIrreducible ?mo_NotIrreducible ?su_NotIrreducible ?x_NoInverse ?r_NoInverse ?sa_NoInverse ?ga_NoInverse ?gg_NoInverse ?cl_NoInverse ?no_NoInverse ?ii_NoInverse ?e_NoInverse ?ty_NoInverse ?kc_NoInverse ?hd_NoInverse ?mo_NoInverse ?su_NoInverse ?x_NoDivisor ?r_NoDivisor ?sa_NoDivisor ?ga_NoDivisor ?gg_NoDivisor ?cl_NoDivisor ?no_NoDivisor ?ii_NoDivisor ?e_NoDivisor ?ty_NoDivisor ?kc_NoDivisor ?hd_NoDivisor ?mo_NoDivisor ?su_NoDivisor ?x_WrongSize ?r_WrongSize ?sa_WrongSize ?ga_WrongSize ?gg_WrongSize ?cl_WrongSize ?no_WrongSize ?ii_WrongSize ?e_WrongSize ?ty_WrongSize ?kc_WrongSize ?hd_WrongSize ?mo_WrongSize ?su_WrongSize ?x_WrongPlace ?r_WrongPlace ?sa_WrongPlace ?ga_WrongPlace ?gg_WrongPlace ?cl_WrongPlace ?no_WrongPlace ?ii_WrongPlace ?e_WrongPlace ?ty_WrongPlace ?kc_WrongPlace ?hd_WrongPlace ?mo_WrongPlace ?su_WrongPlace ?a__law_choices ?l__law_choices ?c__law_choices ?k__law_choices ?a__law_draws ?l__law_draws ?c__law_draws ?k__law_draws ?a__law_field ?l__law_field ?c__law_field ?k__law_field ?a__law_is_prime ?l__law_is_prime ?c__law_is_prime ?k__law_is_prime ?a__law_is_word ?l__law_is_word ?c__law_is_word ?k__law_is_word ?a__law_mix ?l__law_mix ?c__law_mix ?k__law_mix ?a__law_roots ?l__law_roots ?c__law_roots ?k__law_roots ?a__law_times ?l__law_times ?c__law_times ?k__law_times ?a__powers_of ?l__powers_of ?c__powers_of ?k__powers_of ?a__root_powers ?l__root_powers ?c__root_powers ?k__root_powers ?a__weight ?l__weight ?c__weight ?k__weight ?a_check_places ?l_check_places ?c_check_places ?k_check_places ?a_common ?l_common ?c_common ?k_common ?a_degree ?l_degree ?c_degree ?k_degree ?a_divide_binary ?l_divide_binary ?c_divide_binary ?k_divide_binary ?a_divide_polys ?l_divide_polys ?c_divide_polys ?k_divide_polys ?a_from_roots ?l_from_roots ?c_from_roots ?k_from_roots ?a_is_irreducible ?l_is_irreducible ?c_is_irreducible ?k_is_irreducible ?a_product_rest ?l_product_rest ?c_product_rest ?k_product_rest ?a_times_binary ?l_times_binary ?c_times_binary ?k_times_binary ?a_times_polys ?l_times_polys ?c_times_polys ?k_times_polys ?a_trimmed ?l_trimmed ?c_trimmed ?k_trimmed ?a_weights_of ?l_weights_of ?c_weights_of ?k_weights_of ?a_law ?l_law ?c_law ?k_law ?a_X ?a_Field ?pg_Field ?hd_Field ?po_Field ?sa_Field ?mk_Field ?kc_Field ?n_Field__bits ?n_Field__modulus ?n_Field__turn ?n_Field__powers ?n_Field__logs ?n_Field__products ?a_Field___init__ ?i_Field___init__ ?l_Field___init__ ?c_Field___init__ ?k_Field___init__ ?a_Field_add ?i_Field_add ?l_Field_add ?c_Field_add ?k_Field_add ?a_Field_inverse ?i_Field_inverse ?l_Field_inverse ?c_Field_inverse ?k_Field_inverse ?a_Field_log ?i_Field_log ?l_Field_log ?c_Field_log ?k_Field_log ?a_Field_power ?i_Field_power ?l_Field_power ?c_Field_power ?k_Field_power ?a_Field_root ?i_Field_root ?l_Field_root ?c_Field_root ?k_Field_root ?a_Field_scaled ?i_Field_scaled ?l_Field_scaled ?c_Field_scaled ?k_Field_scaled ?a_Field_size ?i_Field_size ?l_Field_size ?c_Field_size ?k_Field_size ?a_Field_times ?i_Field_times ?l_Field_times ?c_Field_times ?k_Field_times ?a_RootCode ?pg_RootCode ?hd_RootCode ?po_RootCode ?sa_RootCode ?mk_RootCode ?kc_RootCode ?n_RootCode_field ?n_RootCode_n ?n_RootCode_first ?n_RootCode_checks ?n_RootCode__generator ?a_RootCode___init__ ?i_RootCode___init__ ?l_RootCode___init__ ?c_RootCode___init__ ?k_RootCode___init__ ?a_RootCode_roots ?i_RootCode_roots ?l_RootCode_roots ?c_RootCode_roots ?k_RootCode_roots ?a_RootCode_codeword ?i_RootCode_codeword ?l_RootCode_codeword ?c_RootCode_codeword ?k_RootCode_codeword ?a_RootCode_word_on ?i_RootCode_word_on ?l_RootCode_word_on ?c_RootCode_word_on ?k_RootCode_word_on ?z_sorted ?z_range ?z_len ?z_abs ?z_int ?z_max ?z_min ?z_sum ?z_list ?z_isinstance ?z_enumerate ?z_zip ?z_reversed ?z_any ?z_all ?z_ValueError
    (case a_HaulError => k_is)
    (case a_OutOfRange => k_is)
    (case a_NotIrreducible => k_is)
    (case a_NoInverse => k_is)
    (case a_NoDivisor => k_is)
    (case a_WrongSize => k_is)
    (case a_WrongPlace => k_is)
    (case i_init => k_is)
    (case ti_init => k_is)
    (case l_init => k_is)
    (case c_init => k_is)
    (case k_init => k_is)
    (case v_init => first | k_is | decide +kernel | rfl)
    (case sp_cls => first | k_is | decide +kernel | rfl)
    (case tk_cls => first | k_is | decide +kernel | rfl)
    (case x_HaulError => k_is)
    (case r_HaulError => first | rfl | decide +kernel)
    (case sa_HaulError => k_is)
    (case ga_HaulError => k_is)
    (case gg_HaulError => k_is)
    (case cl_HaulError => k_is)
    (case no_HaulError => k_is)
    (case e_HaulError => k_is)
    (case ty_HaulError => k_is)
    (case kc_HaulError => k_is)
    (case hd_HaulError => k_is)
    (case mo_HaulError => k_is)
    (case su_HaulError => first | rfl | k_is)
    (case x_OutOfRange => k_is)
    (case r_OutOfRange => first | rfl | decide +kernel)
    (case sa_OutOfRange => k_is)
    (case ga_OutOfRange => k_is)
    (case gg_OutOfRange => k_is)
    (case cl_OutOfRange => k_is)
    (case no_OutOfRange => k_is)
    (case ii_OutOfRange => k_is)
    (case e_OutOfRange => k_is)
    (case ty_OutOfRange => k_is)
    (case kc_OutOfRange => k_is)
    (case hd_OutOfRange => k_is)
    (case mo_OutOfRange => k_is)
    (case su_OutOfRange => first | rfl | k_is)
    (case x_NotIrreducible => k_is)
    (case r_NotIrreducible => first | rfl | decide +kernel)
    (case sa_NotIrreducible => k_is)
    (case ga_NotIrreducible => k_is)
    (case gg_NotIrreducible => k_is)
    (case cl_NotIrreducible => k_is)
    (case no_NotIrreducible => k_is)
    (case ii_NotIrreducible => k_is)
    (case e_NotIrreducible => k_is)
    (case ty_NotIrreducible => k_is)
    (case kc_NotIrreducible => k_is)
    (case hd_NotIrreducible => k_is)
    (case mo_NotIrreducible => k_is)
    (case su_NotIrreducible => first | rfl | k_is)
    (case x_NoInverse => k_is)
    (case r_NoInverse => first | rfl | decide +kernel)
    (case sa_NoInverse => k_is)
    (case ga_NoInverse => k_is)
    (case gg_NoInverse => k_is)
    (case cl_NoInverse => k_is)
    (case no_NoInverse => k_is)
    (case ii_NoInverse => k_is)
    (case e_NoInverse => k_is)
    (case ty_NoInverse => k_is)
    (case kc_NoInverse => k_is)
    (case hd_NoInverse => k_is)
    (case mo_NoInverse => k_is)
    (case su_NoInverse => first | rfl | k_is)
    (case x_NoDivisor => k_is)
    (case r_NoDivisor => first | rfl | decide +kernel)
    (case sa_NoDivisor => k_is)
    (case ga_NoDivisor => k_is)
    (case gg_NoDivisor => k_is)
    (case cl_NoDivisor => k_is)
    (case no_NoDivisor => k_is)
    (case ii_NoDivisor => k_is)
    (case e_NoDivisor => k_is)
    (case ty_NoDivisor => k_is)
    (case kc_NoDivisor => k_is)
    (case hd_NoDivisor => k_is)
    (case mo_NoDivisor => k_is)
    (case su_NoDivisor => first | rfl | k_is)
    (case x_WrongSize => k_is)
    (case r_WrongSize => first | rfl | decide +kernel)
    (case sa_WrongSize => k_is)
    (case ga_WrongSize => k_is)
    (case gg_WrongSize => k_is)
    (case cl_WrongSize => k_is)
    (case no_WrongSize => k_is)
    (case ii_WrongSize => k_is)
    (case e_WrongSize => k_is)
    (case ty_WrongSize => k_is)
    (case kc_WrongSize => k_is)
    (case hd_WrongSize => k_is)
    (case mo_WrongSize => k_is)
    (case su_WrongSize => first | rfl | k_is)
    (case x_WrongPlace => k_is)
    (case r_WrongPlace => first | rfl | decide +kernel)
    (case sa_WrongPlace => k_is)
    (case ga_WrongPlace => k_is)
    (case gg_WrongPlace => k_is)
    (case cl_WrongPlace => k_is)
    (case no_WrongPlace => k_is)
    (case ii_WrongPlace => k_is)
    (case e_WrongPlace => k_is)
    (case ty_WrongPlace => k_is)
    (case kc_WrongPlace => k_is)
    (case hd_WrongPlace => k_is)
    (case mo_WrongPlace => k_is)
    (case su_WrongPlace => first | rfl | k_is)
    (case a__law_choices => k_is)
    (case l__law_choices => k_is)
    (case c__law_choices => k_is)
    (case k__law_choices => k_is)
    (case a__law_draws => k_is)
    (case l__law_draws => k_is)
    (case c__law_draws => k_is)
    (case k__law_draws => k_is)
    (case a__law_field => k_is)
    (case l__law_field => k_is)
    (case c__law_field => k_is)
    (case k__law_field => k_is)
    (case a__law_is_prime => k_is)
    (case l__law_is_prime => k_is)
    (case c__law_is_prime => k_is)
    (case k__law_is_prime => k_is)
    (case a__law_is_word => k_is)
    (case l__law_is_word => k_is)
    (case c__law_is_word => k_is)
    (case k__law_is_word => k_is)
    (case a__law_mix => k_is)
    (case l__law_mix => k_is)
    (case c__law_mix => k_is)
    (case k__law_mix => k_is)
    (case a__law_roots => k_is)
    (case l__law_roots => k_is)
    (case c__law_roots => k_is)
    (case k__law_roots => k_is)
    (case a__law_times => k_is)
    (case l__law_times => k_is)
    (case c__law_times => k_is)
    (case k__law_times => k_is)
    (case a__powers_of => k_is)
    (case l__powers_of => k_is)
    (case c__powers_of => k_is)
    (case k__powers_of => k_is)
    (case a__root_powers => k_is)
    (case l__root_powers => k_is)
    (case c__root_powers => k_is)
    (case k__root_powers => k_is)
    (case a__weight => k_is)
    (case l__weight => k_is)
    (case c__weight => k_is)
    (case k__weight => k_is)
    (case a_check_places => k_is)
    (case l_check_places => k_is)
    (case c_check_places => k_is)
    (case k_check_places => k_is)
    (case a_common => k_is)
    (case l_common => k_is)
    (case c_common => k_is)
    (case k_common => k_is)
    (case a_degree => k_is)
    (case l_degree => k_is)
    (case c_degree => k_is)
    (case k_degree => k_is)
    (case a_divide_binary => k_is)
    (case l_divide_binary => k_is)
    (case c_divide_binary => k_is)
    (case k_divide_binary => k_is)
    (case a_divide_polys => k_is)
    (case l_divide_polys => k_is)
    (case c_divide_polys => k_is)
    (case k_divide_polys => k_is)
    (case a_from_roots => k_is)
    (case l_from_roots => k_is)
    (case c_from_roots => k_is)
    (case k_from_roots => k_is)
    (case a_is_irreducible => k_is)
    (case l_is_irreducible => k_is)
    (case c_is_irreducible => k_is)
    (case k_is_irreducible => k_is)
    (case a_product_rest => k_is)
    (case l_product_rest => k_is)
    (case c_product_rest => k_is)
    (case k_product_rest => k_is)
    (case a_times_binary => k_is)
    (case l_times_binary => k_is)
    (case c_times_binary => k_is)
    (case k_times_binary => k_is)
    (case a_times_polys => k_is)
    (case l_times_polys => k_is)
    (case c_times_polys => k_is)
    (case k_times_polys => k_is)
    (case a_trimmed => k_is)
    (case l_trimmed => k_is)
    (case c_trimmed => k_is)
    (case k_trimmed => k_is)
    (case a_weights_of => k_is)
    (case l_weights_of => k_is)
    (case c_weights_of => k_is)
    (case k_weights_of => k_is)
    (case a_law => k_is)
    (case l_law => k_is)
    (case c_law => k_is)
    (case k_law => k_is)
    (case a_X => k_is)
    (case a_Field => k_is)
    (case pg_Field => k_is)
    (case hd_Field => k_is)
    (case po_Field => k_is)
    (case sa_Field => k_is)
    (case mk_Field => k_is)
    (case kc_Field => k_is)
    (case n_Field__bits => k_is)
    (case n_Field__modulus => k_is)
    (case n_Field__turn => k_is)
    (case n_Field__powers => k_is)
    (case n_Field__logs => k_is)
    (case n_Field__products => k_is)
    (case a_Field___init__ => k_is)
    (case i_Field___init__ => k_is)
    (case l_Field___init__ => k_is)
    (case c_Field___init__ => k_is)
    (case k_Field___init__ => k_is)
    (case a_Field_add => k_is)
    (case i_Field_add => k_is)
    (case l_Field_add => k_is)
    (case c_Field_add => k_is)
    (case k_Field_add => k_is)
    (case a_Field_inverse => k_is)
    (case i_Field_inverse => k_is)
    (case l_Field_inverse => k_is)
    (case c_Field_inverse => k_is)
    (case k_Field_inverse => k_is)
    (case a_Field_log => k_is)
    (case i_Field_log => k_is)
    (case l_Field_log => k_is)
    (case c_Field_log => k_is)
    (case k_Field_log => k_is)
    (case a_Field_power => k_is)
    (case i_Field_power => k_is)
    (case l_Field_power => k_is)
    (case c_Field_power => k_is)
    (case k_Field_power => k_is)
    (case a_Field_root => k_is)
    (case i_Field_root => k_is)
    (case l_Field_root => k_is)
    (case c_Field_root => k_is)
    (case k_Field_root => k_is)
    (case a_Field_scaled => k_is)
    (case i_Field_scaled => k_is)
    (case l_Field_scaled => k_is)
    (case c_Field_scaled => k_is)
    (case k_Field_scaled => k_is)
    (case a_Field_size => k_is)
    (case i_Field_size => k_is)
    (case l_Field_size => k_is)
    (case c_Field_size => k_is)
    (case k_Field_size => k_is)
    (case a_Field_times => k_is)
    (case i_Field_times => k_is)
    (case l_Field_times => k_is)
    (case c_Field_times => k_is)
    (case k_Field_times => k_is)
    (case a_RootCode => k_is)
    (case pg_RootCode => k_is)
    (case hd_RootCode => k_is)
    (case po_RootCode => k_is)
    (case sa_RootCode => k_is)
    (case mk_RootCode => k_is)
    (case kc_RootCode => k_is)
    (case n_RootCode_field => k_is)
    (case n_RootCode_n => k_is)
    (case n_RootCode_first => k_is)
    (case n_RootCode_checks => k_is)
    (case n_RootCode__generator => k_is)
    (case a_RootCode___init__ => k_is)
    (case i_RootCode___init__ => k_is)
    (case l_RootCode___init__ => k_is)
    (case c_RootCode___init__ => k_is)
    (case k_RootCode___init__ => k_is)
    (case a_RootCode_roots => k_is)
    (case i_RootCode_roots => k_is)
    (case l_RootCode_roots => k_is)
    (case c_RootCode_roots => k_is)
    (case k_RootCode_roots => k_is)
    (case a_RootCode_codeword => k_is)
    (case i_RootCode_codeword => k_is)
    (case l_RootCode_codeword => k_is)
    (case c_RootCode_codeword => k_is)
    (case k_RootCode_codeword => k_is)
    (case a_RootCode_word_on => k_is)
    (case i_RootCode_word_on => k_is)
    (case l_RootCode_word_on => k_is)
    (case c_RootCode_word_on => k_is)
    (case k_RootCode_word_on => k_is)
    (case z_sorted => k_is)
    (case z_range => k_is)
    (case z_len => k_is)
    (case z_abs => k_is)
    (case z_int => k_is)
    (case z_max => k_is)
    (case z_min => k_is)
    (case z_sum => k_is)
    (case z_list => k_is)
    (case z_isinstance => k_is)
    (case z_enumerate => k_is)
    (case z_zip => k_is)
    (case z_reversed => k_is)
    (case z_any => k_is)
    (case z_all => k_is)
    (case z_ValueError => k_is)
