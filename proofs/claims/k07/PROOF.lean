import PyProof.Rows.All
import Wide.All
import OpenK.AllK
import Wide.FinOn
import HandS.ForMost
import HandS.Comp
import HandS.Conv
import HandS.ExcCtx
import HandS.ExcField
import HandS.ExcInit
import HandS.ExcInitHot
import HandS.ExcIs
import HandS.FStr
import HandS.Flow
import HandS.Gcd
import HandS.HotCalls
import HandS.IsInst
import HandS.List
import HandS.Rev
import HandS.Text
import HandS.Walk
import HandS.Wide
import HandS.WideBits
import HandS.WordsDict
import KE.KExcIs
import PyProof.Rows.StrOr
import PySem.Challenge.RW_bitshades_k07_written_forms_read_back
set_option Elab.async false
set_option linter.all false
set_option maxRecDepth 100000
set_option maxHeartbeats 8000000
set_option exponentiation.threshold 20000
namespace Bv
open PySem PySem.Spec PyProof.Rows L2
/-! A layer of our own over HandS: readings that compute (a match on the values) and change the abstract heap by three words: Get, Alloc, Put. -/

/-- all that is tracked stays -/
def Ex (H H' : Hp) : Prop := ∀ a o, H a = some o → H' a = some o
/-- all but what stands at l stays -/
def ExB (l : Addr) (H H' : Hp) : Prop := ∀ a o, a ≠ l → H a = some o → H' a = some o
theorem Ex.refl (H : Hp) : Ex H H := fun _ _ h => h
theorem Ex.trans {H H1 H2 : Hp} (x : Ex H H1) (y : Ex H1 H2) : Ex H H2 := fun a o h => y a o (x a o h)
theorem Ex.but {H H' : Hp} (l : Addr) (x : Ex H H') : ExB l H H' := fun a o _ h => x a o h
theorem ExB.trans {l : Addr} {H H1 H2 : Hp} (x : ExB l H H1) (y : ExB l H1 H2) : ExB l H H2 := fun a o n h => y a o n (x a o n h)
theorem Ex.fresh {H H' : Hp} {p : Addr} (x : Ex H H') (h : H' p = none) : H p = none := by
  cases e : H p with
  | none => rfl
  | some o => rw [x p o e] at h; cases h
theorem Ex.new {H : Hp} {p : Addr} (o : HO) (h : H p = none) : Ex H (upd H p o) := fun a u e => by
  rw [upd_ne (ne_of_none e h)]; exact e
theorem Ex.over {H0 H H' : Hp} {l : Addr} (x : Ex H0 H) (y : ExB l H H') (n : H0 l = none) : Ex H0 H' := fun a o h =>
  y a o (ne_of_none h n) (x a o h)
theorem ExB.put {H : Hp} {l : Addr} (o : HO) : ExB l H (upd H l o) := fun a u n e => by
  rw [upd_ne n]; exact e

/-- what may be read at a -/
def view : HO → HO
  | .frz _ u => u
  | u => u
inductive Get (H : Hp) (a : Addr) (K : HO → Prop) : Prop where
  | mk (o : HO) (h : H a = some o) (k : K o) : Get H a K
inductive Alloc (H : Hp) (o : HO) (K : Addr → Hp → Prop) : Prop where
  | mk (k : ∀ p H', Ex H H' → H p = none → H' p = some o → K p H') : Alloc H o K
inductive Put (H : Hp) (a : Addr) (o : HO) (K : Hp → Prop) : Prop where
  | mk (k : ∀ H', ExB a H H' → H' a = some o → K H') : Put H a o K
inductive AtI {α : Type} (xs : List α) (i : Int) (K : α → Prop) : Prop where
  | mk (v : α) (h : atI xs i = some v) (k : K v) : AtI xs i K
theorem Alloc.at {H : Hp} {o : HO} {K : Addr → Hp → Prop} (x : Alloc H o K) (p : Addr) (hp : H p = none) : K p (upd H p o) := by
  cases x with
  | mk k => exact k p _ (Ex.new o hp) hp upd_same
theorem Put.at {H : Hp} {a : Addr} {o : HO} {K : Hp → Prop} (x : Put H a o K) : K (upd H a o) := by
  cases x with
  | mk k => exact k _ (ExB.put o) upd_same

section imp
variable {X : Cx}
theorem PE.imp {e : Expr} {t u : TE} (h : PE X e t) (k : ∀ σ H Q, u σ H Q → t σ H Q) : PE X e u := ⟨fun pins s σ H Q I q => h.run pins s σ H Q I (k σ H Q q)⟩
theorem PT.imp {e : Expr} {t u : TT} (h : PT X e t) (k : ∀ σ H Q, u σ H Q → t σ H Q) : PT X e u := ⟨fun pins s σ H Q I q => h.run pins s σ H Q I (k σ H Q q)⟩
theorem PW.imp {e : Expr} {t u : TT} (h : PW X e t) (k : ∀ σ H Q, u σ H Q → t σ H Q) : PW X e u := ⟨fun whole pins s σ H Q I q => h.run whole pins s σ H Q I (k σ H Q q)⟩
theorem PS.imp {e : Stmt} {t u : TS} (h : PS X e t) (k : ∀ D σ H, u D σ H → t D σ H) : PS X e u := ⟨fun pins s σ H D I q => h.run pins s σ H D I (k D σ H q)⟩
theorem OpR.imp {f : Value → Value → Sem Value} {r u : R2} (h : OpR X f r) (k : ∀ x y H Q, u x y H Q → r x y H Q) : OpR X f u :=
  fun pins s σ H x y v w Q I rx ry q => h pins s σ H x y v w Q I rx ry (k x y H Q q)
theorem CallR.imp {f : Value} {r u : List V → Hp → VK → Prop} (h : CallR X f r) (k : ∀ xs H Q, u xs H Q → r xs H Q) : CallR X f u :=
  fun pins s σ H xs us Q I rx q => h pins s σ H xs us Q I rx (k xs H Q q)
/-- ways by the values: at each pair some rule -/
theorem OpR.by {f : Value → Value → Sem Value} {u : R2} (k : ∀ x y H Q, u x y H Q → ∃ r, OpR X f r ∧ r x y H Q) : OpR X f u := fun pins s σ H x y v w Q I rx ry q => by
  obtain ⟨r, hr, q⟩ := k x y H Q q
  exact hr pins s σ H x y v w Q I rx ry q
theorem CallR.by {f : Value} {u : List V → Hp → VK → Prop} (k : ∀ xs H Q, u xs H Q → ∃ r, CallR X f r ∧ r xs H Q) : CallR X f u := fun pins s σ H xs us Q I rx q => by
  obtain ⟨r, hr, q⟩ := k xs H Q q
  exact hr pins s σ H xs us Q I rx q
end imp

/-! ### names, constants -/
def bVar (i : Nat) : TE := fun σ H Q => match σ[i]? with
  | some (some v) => Q v H
  | _ => False
section
variable {X : Cx}
theorem be_var (i : Nat) {x : Str} {pos : Pos} (hN : X.N[i]? = some x := by rfl) (hv : Vis X.env.scope x := by first | exact Or.inl rfl | exact Or.inr (Or.inl rfl) | exact Or.inr (Or.inr rfl)) (hd : (x == ("__debug__" : Str)) = false := by decide)
    (hcd : (x == ("__classdict__" : Str)) = false := by decide) : PE X (.Name x pos) (bVar i) := PE.imp (pe_var hN hv hd hcd) fun σ H Q q => by
  unfold bVar at q
  split at q
  · rename_i v e
    exact ⟨v, e, q⟩
  · exact q.elim
end

/-! ### operators on values -/
def bAdd : R2 := fun x y H Q => match x, y with
  | .int i, .int j => Q (.int (i + j)) H
  | .int i, .bl k => Q (.int (i + b2i k)) H
  | .str a, .str b => a.length + b.length ≤ sizeLine ∧ Q (.str (a ++ b)) H
  | .ref p, .ref q => Get H p fun o => Get H q fun u => match o, u with
    | .lst xs, .lst ys => xs.length + ys.length ≤ sizeLine ∧ Alloc H (.lst (xs ++ ys)) fun r H' => Q (.ref r) H'
    | _, _ => False
  | _, _ => False
def bSub : R2 := fun x y H Q => match x, y with
  | .int i, .int j => Q (.int (i - j)) H
  | _, _ => False
/-- a product: one factor small, or both of together some 2 ^ 27 bits -/
def CMulA (i j : Int) : Prop := CMul i j ∨ CMulX i j
theorem op_mulA {X : Cx} : OpR X (binaryOp .Mult) (rI CMulA fun i j => .int (i * j)) := opI fun _ _ _ _ _ _ _ hc q => mul_int q (hc.elim (·.ok) (·.ok))
def bMul : R2 := fun x y H Q => match x, y with
  | .int i, .int j => CMulA i j ∧ Q (.int (i * j)) H
  | .ref l, .int k => Get H l fun o => match o with
    | .lst xs => (-(2 ^ 63) ≤ k ∧ k < 2 ^ 63 ∧ xs.length * k.toNat ≤ sizeLine) ∧ Alloc H (.lst (List.replicate k.toNat xs).flatten) fun r H' => Q (.ref r) H'
    | _ => False
  | _, _ => False
/-- // by a divisor of any sign, its size below 2 ^ 9000 -/
def CDivX (_ j : Int) : Prop := j ≠ 0 ∧ j.natAbs.log2 < 9000
def bFdv : R2 := fun x y H Q => match x, y with
  | .int i, .int j => CDivX i j ∧ ∀ q, q = i.fdiv j → (0 < j → j * q ≤ i ∧ i < j * q + j) → Q (.int q) H
  | _, _ => False
def bMod : R2 := fun x y H Q => match x, y with
  | .int i, .int j => j ≠ 0 ∧ ∀ r, r = i.fmod j → (0 < j → 0 ≤ r ∧ r < j) → Q (.int r) H
  | _, _ => False
def bPow : R2 := fun x y H Q => match x, y with
  | .int i, .int j => CPow i j ∧ Q (.int (i ^ j.toNat)) H
  | _, _ => False
def bShl : R2 := fun x y H Q => match x, y with
  | .int i, .int j => CShl i j ∧ Q (.int (i * 2 ^ j.toNat)) H
  | _, _ => False
def bShr : R2 := fun x y H Q => match x, y with
  | .int i, .int j => 0 ≤ j ∧ Q (.int (i / 2 ^ j.toNat)) H
  | _, _ => False
def bBand : R2 := fun x y H Q => match x, y with
  | .int i, .int j => Q (.int (Builtin.bitAnd i j)) H
  | _, _ => False
def bBor : R2 := fun x y H Q => match x, y with
  | .int i, .int j => Q (.int (Builtin.bitOr i j)) H
  | _, _ => False
def bBxor : R2 := fun x y H Q => match x, y with
  | .int i, .int j => Q (.int (Builtin.bitXor i j)) H
  | _, _ => False
def bLt : R2 := fun x y H Q => match x, y with
  | .int i, .int j => Q (.bl (decide (i < j))) H
  | _, _ => False
def bLe : R2 := fun x y H Q => match x, y with
  | .int i, .int j => Q (.bl (decide (i ≤ j))) H
  | _, _ => False
def bGt : R2 := fun x y H Q => match x, y with
  | .int i, .int j => Q (.bl (decide (j < i))) H
  | _, _ => False
def bGe : R2 := fun x y H Q => match x, y with
  | .int i, .int j => Q (.bl (decide (j ≤ i))) H
  | _, _ => False
def isRef : V → Bool
  | .ref _ => true
  | _ => false
/-- == : scalars as they are; else as data -/
def bEq (K : PySem.W.Frag) : R2 := fun x y H Q => match x, y with
  | .int i, .int j => Q (.bl (decide (i = j))) H
  | .str i, .str j => Q (.bl (decide (i = j))) H
  | .bl i, .bl j => Q (.bl (decide (i = j))) H
  | .non, .non => Q (.bl true) H
  | .ref a, y => rEqD K (.ref a) y H Q
  | x, .ref a => rEqD K x (.ref a) H Q
  | x, y => scal x y = true ∧ Q (.bl (decide (x = y))) H
def bNe (K : PySem.W.Frag) : R2 := fun x y H Q => match x, y with
  | .int i, .int j => Q (.bl (!decide (i = j))) H
  | .str i, .str j => Q (.bl (!decide (i = j))) H
  | .bl i, .bl j => Q (.bl (!decide (i = j))) H
  | .non, .non => Q (.bl false) H
  | .ref a, y => rNeD K (.ref a) y H Q
  | x, .ref a => rNeD K x (.ref a) H Q
  | x, y => scal x y = true ∧ Q (.bl (!decide (x = y))) H
def isN : V → Bool
  | .non => true
  | _ => false
def bIsN : R2 := fun x y H Q => match y with
  | .non => Q (.bl (isN x)) H
  | _ => False
def bNotN : R2 := fun x y H Q => match y with
  | .non => Q (.bl (!isN x)) H
  | _ => False
def bIn (neg : Bool) : R2 := fun x y H Q => match y with
  | .ref p => Get H p fun o => match view o with
    | .lst xs => (flatV x = true ∧ xs.all flatV = true) ∧ Q (.bl (if neg then !inV x xs else inV x xs)) H
    | .tup xs => (flatV x = true ∧ xs.all flatV = true) ∧ Q (.bl (if neg then !inV x xs else inV x xs)) H
    | _ => False
  | _ => False
theorem isN_dec (x : V) : isN x = decide (x = .non) := by cases x <;> rfl


theorem rd_view {o u : HO} {H : Hp} {p : Addr} (e : H p = some o) (h : view o = u) : Rd H p u := by
  cases o with
  | frz ob w => exact .inr ⟨ob, by rw [e]; cases h; rfl⟩
  | _ => exact .inl (by rw [e, ← h]; rfl)
theorem sq_view {o : HO} {K : PySem.W.Frag} {H : Hp} {p : Addr} {xs : List V} (e : H p = some o) (h : view o = .lst xs) : SqL K H p xs := .inl (rd_view e h)
theorem st_view {o : HO} {K : PySem.W.Frag} {H : Hp} {p : Addr} {xs : List V} (e : H p = some o) (h : view o = .tup xs) : SqT K H p xs := .inl (rd_view e h)

section
variable {X : Cx}
theorem ob_add : OpR X (binaryOp .Add) bAdd := OpR.by fun x y H Q q => by
  cases x <;> cases y <;> first
    | exact False.elim q
    | exact ⟨_, op_add, _, _, rfl, rfl, q⟩
    | exact ⟨_, op_add_ib, _, _, rfl, rfl, q⟩
    | exact ⟨_, op_add_str, _, _, rfl, rfl, q.1, q.2⟩
    | (obtain ⟨o, ho, u, hu, q⟩ := q
       cases o <;> cases u <;> first
         | exact False.elim q
         | exact ⟨_, op_cat, _, _, _, _, rfl, rfl, ho, hu, q.1, fun r hr => q.2.at r hr⟩)
theorem ob_sub : OpR X (binaryOp .Sub) bSub := OpR.by fun x y H Q q => by
  cases x <;> cases y <;> first
    | exact False.elim q
    | exact ⟨_, op_sub, _, _, rfl, rfl, q⟩
theorem ob_mul : OpR X (binaryOp .Mult) bMul := OpR.by fun x y H Q q => by
  cases x <;> cases y <;> first
    | exact False.elim q
    | exact ⟨_, op_mulA, _, _, rfl, rfl, q.1, q.2⟩
    | (obtain ⟨o, ho, q⟩ := q
       cases o <;> first
         | exact False.elim q
         | exact ⟨_, op_rep, _, _, _, rfl, rfl, ho, q.1.1, q.1.2.1, q.1.2.2, fun r hr => q.2.at r hr⟩)
theorem op_fdivX : OpR X (binaryOp .FloorDiv) (rI CDivX fun i j => .int (i.fdiv j)) := opI fun _ _ _ _ _ _ _ hc q => floordiv_int hc.1 q (.inl (PyProof.noPylong_of_log2 hc.2))
theorem fdiv_at {i j : Int} (h : 0 < j) : j * i.fdiv j ≤ i ∧ i < j * i.fdiv j + j := by
  rw [Int.fdiv_eq_ediv_of_nonneg i (by omega)]
  have h1 := Int.mul_ediv_add_emod i j
  have h2 := Int.emod_nonneg i (show j ≠ 0 by omega)
  have h3 := Int.emod_lt_of_pos i h
  omega
theorem fmod_at {a b : Int} (h : 0 < b) : 0 ≤ a.fmod b ∧ a.fmod b < b := by
  rw [Int.fmod_eq_emod_of_nonneg a (by omega)]
  exact ⟨Int.emod_nonneg _ (by omega), Int.emod_lt_of_pos _ h⟩
theorem ob_fdv : OpR X (binaryOp .FloorDiv) bFdv := OpR.by fun x y H Q q => by
  cases x <;> cases y <;> first
    | exact False.elim q
    | exact ⟨_, op_fdivX, _, _, rfl, rfl, q.1, q.2 _ rfl fdiv_at⟩
theorem ob_mod : OpR X (binaryOp .Mod) bMod := OpR.by fun x y H Q q => by
  cases x <;> cases y <;> first
    | exact False.elim q
    | exact ⟨_, op_modN, _, _, rfl, rfl, q.1, q.2 _ rfl fmod_at⟩
theorem ob_pow : OpR X (binaryOp .Pow) bPow := OpR.by fun x y H Q q => by
  cases x <;> cases y <;> first
    | exact False.elim q
    | exact ⟨_, op_pow, _, _, rfl, rfl, q.1, q.2⟩
theorem ob_shl : OpR X (binaryOp .LShift) bShl := OpR.by fun x y H Q q => by
  cases x <;> cases y <;> first
    | exact False.elim q
    | exact ⟨_, op_shlW, _, _, rfl, rfl, q.1, q.2⟩
theorem ob_shr : OpR X (binaryOp .RShift) bShr := OpR.by fun x y H Q q => by
  cases x <;> cases y <;> first
    | exact False.elim q
    | exact ⟨_, op_shr, _, _, rfl, rfl, q.1, q.2⟩
theorem ob_and : OpR X (binaryOp .BitAnd) bBand := OpR.by fun x y H Q q => by
  cases x <;> cases y <;> first
    | exact False.elim q
    | exact ⟨_, op_and, _, _, rfl, rfl, q⟩
theorem ob_or : OpR X (binaryOp .BitOr) bBor := OpR.by fun x y H Q q => by
  cases x <;> cases y <;> first
    | exact False.elim q
    | exact ⟨_, op_or, _, _, rfl, rfl, q⟩
theorem ob_xor : OpR X (binaryOp .BitXor) bBxor := OpR.by fun x y H Q q => by
  cases x <;> cases y <;> first
    | exact False.elim q
    | exact ⟨_, op_xor, _, _, rfl, rfl, q⟩
theorem ob_lt : OpR X (compareOp .Lt) bLt := OpR.by fun x y H Q q => by
  cases x <;> cases y <;> first
    | exact False.elim q
    | exact ⟨_, op_lt, _, _, rfl, rfl, q⟩
theorem ob_le : OpR X (compareOp .LtE) bLe := OpR.by fun x y H Q q => by
  cases x <;> cases y <;> first
    | exact False.elim q
    | exact ⟨_, op_le, _, _, rfl, rfl, q⟩
theorem ob_gt : OpR X (compareOp .Gt) bGt := OpR.by fun x y H Q q => by
  cases x <;> cases y <;> first
    | exact False.elim q
    | exact ⟨_, op_gt, _, _, rfl, rfl, q⟩
theorem ob_ge : OpR X (compareOp .GtE) bGe := OpR.by fun x y H Q q => by
  cases x <;> cases y <;> first
    | exact False.elim q
    | exact ⟨_, op_ge, _, _, rfl, rfl, q⟩
theorem dv_int (i j : Int) : decide (V.int i = V.int j) = decide (i = j) := by
  by_cases h : i = j
  · subst h; simp
  · simp [h]
theorem dv_str (i j : Str) : decide (V.str i = V.str j) = decide (i = j) := by
  by_cases h : i = j
  · subst h; simp
  · simp [h]
theorem dv_bl (i j : Bool) : decide (V.bl i = V.bl j) = decide (i = j) := by
  by_cases h : i = j
  · subst h; simp
  · simp [h]
theorem ob_eq (hu : X.A.units + 64 < cLine) : OpR X (compareOp .Eq) (bEq X.K) := OpR.by fun x y H Q q => by
  cases x <;> cases y <;> first
    | exact ⟨_, op_eq, rfl, by rw [dv_int]; exact q⟩
    | exact ⟨_, op_eq, rfl, by rw [dv_str]; exact q⟩
    | exact ⟨_, op_eq, rfl, by rw [dv_bl]; exact q⟩
    | exact ⟨_, op_eq, rfl, q⟩
    | exact ⟨_, op_eq, q.1, q.2⟩
    | exact ⟨_, op_eqD hu, q⟩
theorem ob_ne (hu : X.A.units + 64 < cLine) : OpR X (compareOp .NotEq) (bNe X.K) := OpR.by fun x y H Q q => by
  cases x <;> cases y <;> first
    | exact ⟨_, op_ne, rfl, by rw [dv_int]; exact q⟩
    | exact ⟨_, op_ne, rfl, by rw [dv_str]; exact q⟩
    | exact ⟨_, op_ne, rfl, by rw [dv_bl]; exact q⟩
    | exact ⟨_, op_ne, rfl, q⟩
    | exact ⟨_, op_ne, q.1, q.2⟩
    | exact ⟨_, op_neD hu, q⟩
theorem ob_isN : OpR X (compareOp .Is) bIsN := OpR.by fun x y H Q q => by
  cases y <;> first
    | exact False.elim q
    | exact ⟨_, op_isN, rfl, by rw [← isN_dec]; exact q⟩
theorem ob_notN : OpR X (compareOp .IsNot) bNotN := OpR.by fun x y H Q q => by
  cases y <;> first
    | exact False.elim q
    | exact ⟨_, op_notN, rfl, by rw [← isN_dec]; exact q⟩
theorem ob_in : OpR X (compareOp .In) (bIn false) := OpR.by fun x y H Q q => by
  cases y <;> first
    | exact False.elim q
    | (obtain ⟨o, ho, q⟩ := q
       cases e : view o <;> rw [e] at q <;> first
         | exact False.elim q
         | exact ⟨_, op_in_seq, _, _, rfl, .inl (sq_view ho e), q.1.1, q.1.2, q.2⟩
         | exact ⟨_, op_in_seq, _, _, rfl, .inr (st_view ho e), q.1.1, q.1.2, q.2⟩)
theorem ob_nin : OpR X (compareOp .NotIn) (bIn true) := OpR.by fun x y H Q q => by
  cases y <;> first
    | exact False.elim q
    | (obtain ⟨o, ho, q⟩ := q
       cases e : view o <;> rw [e] at q <;> first
         | exact False.elim q
         | exact ⟨_, op_notIn_seq, _, _, rfl, .inl (sq_view ho e), q.1.1, q.1.2, q.2⟩
         | exact ⟨_, op_notIn_seq, _, _, rfl, .inr (st_view ho e), q.1.1, q.1.2, q.2⟩)
end
abbrev Sg := L2.St

/-! ### a reading that may be weakened behind -/
def upE (t : TE) : TE := fun σ H Q => ∃ Q0 : VK, t σ H Q0 ∧ ∀ v H', Q0 v H' → Q v H'
def upA (t : TA) : TA := fun σ H Q => ∃ Q0 : List V → Hp → Prop, t σ H Q0 ∧ ∀ v H', Q0 v H' → Q v H'
def upT (t : TT) : TT := fun σ H Q => ∃ Q0 : Bool → Hp → Prop, t σ H Q0 ∧ ∀ v H', Q0 v H' → Q v H'
section
variable {X : Cx}
theorem PE.up {e : Expr} {t : TE} (h : PE X e t) : PE X e (upE t) := ⟨fun pins s σ H Q I ⟨Q0, q, k⟩ => thn (h.run pins s σ H Q0 I q) fun u s' ⟨v, H', I', r, q'⟩ => ⟨v, H', I', r, k _ _ q'⟩⟩
theorem PA.up {es : List Expr} {t : TA} (h : PA X es t) : PA X es (upA t) := ⟨fun pos pins s σ H Q I ⟨Q0, q, k⟩ => thn (h.run pos pins s σ H Q0 I q) fun u s' ⟨v, H', I', r, q'⟩ => ⟨v, H', I', r, k _ _ q'⟩⟩
theorem PT.up {e : Expr} {t : TT} (h : PT X e t) : PT X e (upT t) := ⟨fun pins s σ H Q I ⟨Q0, q, k⟩ => thn (h.run pins s σ H Q0 I q) fun u s' ⟨H', I', q'⟩ => ⟨H', I', k _ _ q'⟩⟩
end

/-! ### a branch -/
theorem br_if {c : Bool} {A B : Prop} (h : (c = true → A) ∧ (c = false → B)) : if c = true then A else B := by
  cases c with
  | true => rw [if_pos rfl]; exact h.1 rfl
  | false => rw [if_neg Bool.false_ne_true]; exact h.2 rfl

/-! ### tests -/
def bTst (t : TE) : TT := fun σ H Q => t σ H fun x H' => match x with
  | .bl k => Q k H'
  | _ => False
/-- the truth of a value -/
def bTru (t : TE) : TT := fun σ H Q => t σ H fun x H' => match x with
  | .non => Q false H'
  | .bl b => Q b H'
  | .int i => Q (i != 0) H'
  | .str y => y.length ≤ sizeLine ∧ Q ((y.length : Int) != 0) H'
  | .ref p => Get H' p fun o => match view o with
    | .lst xs => Q (!xs.isEmpty) H'
    | .tup xs => Q (!xs.isEmpty) H'
    | _ => False
  | _ => False
def bAnd (t u : TT) : TT := fun σ H Q => t σ H fun c H1 => (c = true → u σ H1 Q) ∧ (c = false → Q false H1)
def bOr (t u : TT) : TT := fun σ H Q => t σ H fun c H1 => (c = true → Q true H1) ∧ (c = false → u σ H1 Q)
def bAndV (ta tb : TE) : TE := fun σ H Q => ta σ H fun x H1 => match x with
  | .bl c => (c = true → tb σ H1 Q) ∧ (c = false → Q (.bl false) H1)
  | _ => False
def bOrV (ta tb : TE) : TE := fun σ H Q => ta σ H fun x H1 => match x with
  | .bl c => (c = true → Q (.bl true) H1) ∧ (c = false → tb σ H1 Q)
  | _ => False
def bNotV (ta : TE) : TE := fun σ H Q => ta σ H fun x H1 => match x with
  | .bl c => Q (.bl (!c)) H1
  | _ => False
def bIfE (t : TT) (ta tb : TE) : TE := fun σ H Q => t σ H fun c H1 => (c = true → ta σ H1 Q) ∧ (c = false → tb σ H1 Q)
def bNeg : V → Hp → VK → Prop := fun x H Q => match x with
  | .int i => Q (.int (-i)) H
  | _ => False
section
variable {X : Cx} {a b c : Expr} {ta tb tc : TE} {t u : TT} {pos : Pos}
theorem bTst_eq (t : TE) : bTst t = tTest t := by
  funext σ H Q
  unfold bTst tTest
  congr 1
  funext x H'
  cases x with
  | bl k => exact propext ⟨fun h => ⟨k, rfl, h⟩, fun ⟨j, e, h⟩ => by cases e; exact h⟩
  | _ => exact propext ⟨False.elim, fun ⟨_, e, _⟩ => nomatch e⟩
theorem bt_cmp {op : CmpOp} {r : R2} (ho : OpR X (compareOp op) r) (ha : PE X a ta) (hb : PE X b tb) (hm : behindInMarks op b = false := by first | exact nomark _ | rfl) : PT X (.Compare a [op] [b] pos) (bTst (tOp r ta tb)) := by
  rw [bTst_eq]; exact pt_cmpR ho ha hb hm
theorem be_cmp {op : CmpOp} {r : R2} (ho : OpR X (compareOp op) r) (ha : PE X a ta) (hb : PE X b tb) (hm : behindInMarks op b = false := by first | exact nomark _ | rfl) : PE X (.Compare a [op] [b] pos) (tOp r ta tb) := pe_cmpR ho ha hb hm
theorem bt_tru (ha : PE X a ta) (he : ∀ whole, isTrue a X.env whole = (do let v ← whole; standAt a.pos; holding [v] (truthy v)) := by intro _; rfl) : PT X a (bTru ta) :=
  PT.imp (pt_truth (PE.up ha) he) fun σ H Q q => ⟨_, q, fun x H' q => by
    cases x with
    | non => exact ⟨_, rfl, q⟩
    | bl b => exact ⟨_, rfl, q⟩
    | int i => exact ⟨_, rfl, q⟩
    | str y => exact ⟨_, ⟨q.1, rfl⟩, q.2⟩
    | ref p =>
      obtain ⟨o, ho, q⟩ := q
      cases e : view o <;> rw [e] at q <;> first
        | exact False.elim q
        | exact ⟨_, .inl ⟨_, sq_view ho e, rfl⟩, q⟩
        | exact ⟨_, .inr (.inl ⟨_, st_view ho e, rfl⟩), q⟩
    | _ => exact False.elim q⟩
theorem bt_and {r : List Expr} (ha : PT X a t) (hb : PW X (.BoolOp .And (b :: r) pos) u) : PW X (.BoolOp .And (a :: b :: r) pos) (bAnd t u) :=
  PW.imp (pw_and (PT.up ha) hb) fun σ H Q q => ⟨_, q, fun _ _ z => br_if z⟩
theorem bt_or {r : List Expr} (ha : PT X a t) (hb : PW X (.BoolOp .Or (b :: r) pos) u) : PW X (.BoolOp .Or (a :: b :: r) pos) (bOr t u) :=
  PW.imp (pw_or (PT.up ha) hb) fun σ H Q q => ⟨_, q, fun _ _ z => br_if z⟩
theorem bt_and1 (ha : PT X a t) : PW X (.BoolOp .And [a] pos) t := pw_and1 ha
theorem bt_or1 (ha : PT X a t) : PW X (.BoolOp .Or [a] pos) t := pw_or1 ha
theorem bt_not (ha : PT X a t) : PT X (.UnaryOp .Not a pos) (tNot t) := pt_not ha
theorem be_and {r : List Expr} (ha : PE X a ta) (hb : PE X (.BoolOp .And (b :: r) pos) tb) : PE X (.BoolOp .And (a :: b :: r) pos) (bAndV ta tb) :=
  PE.imp (pe_and (PE.up ha) hb) fun σ H Q q => ⟨_, q, fun x _ z => by
    cases x with
    | bl c => exact ⟨c, rfl, br_if z⟩
    | _ => exact False.elim z⟩
theorem be_or {r : List Expr} (ha : PE X a ta) (hb : PE X (.BoolOp .Or (b :: r) pos) tb) : PE X (.BoolOp .Or (a :: b :: r) pos) (bOrV ta tb) :=
  PE.imp (pe_or (PE.up ha) hb) fun σ H Q q => ⟨_, q, fun x _ z => by
    cases x with
    | bl c => exact ⟨c, rfl, br_if z⟩
    | _ => exact False.elim z⟩
theorem be_one {op : BoolOp} (ha : PE X a ta) : PE X (.BoolOp op [a] pos) ta := pe_one ha
theorem be_not (ha : PE X a ta) : PE X (.UnaryOp .Not a pos) (bNotV ta) :=
  PE.imp (pe_not (PE.up ha)) fun σ H Q q => ⟨_, q, fun x _ z => by
    cases x with
    | bl c => exact ⟨c, rfl, z⟩
    | _ => exact False.elim z⟩
theorem be_ife (hc : PT X c t) (ha : PE X a ta) (hb : PE X b tb) : PE X (.IfExp c a b pos) (bIfE t ta tb) :=
  PE.imp (pe_ifExp (PT.up hc) ha hb) fun σ H Q q => ⟨_, q, fun _ _ z => br_if z⟩
theorem ob_neg : UnR X (unaryOp .USub) bNeg := fun pins s σ H x v Q I rx q => by
  cases x <;> first
    | exact False.elim q
    | exact un_neg pins s σ H _ v Q I rx ⟨_, rfl, q⟩
theorem be_bin {op : Operator} {r : R2} (ho : OpR X (binaryOp op) r) (ha : PE X a ta) (hb : PE X b tb) : PE X (.BinOp a op b pos) (tOp r ta tb) := pe_op ho ha hb
theorem be_un {op : UnaryOp} {r : V → Hp → VK → Prop} (ho : UnR X (unaryOp op) r) (ha : PE X a ta) : PE X (.UnaryOp op a pos) (tUn r ta) := pe_un ho ha
end

/-! ### subscripts -/
def bIx : R2 := fun x y H Q => match x, y with
  | .ref p, .int i => Get H p fun o => match view o with
    | .lst xs => AtI xs i fun v => Q v H
    | .tup xs => AtI xs i fun v => Q v H
    | _ => False
  | .str z, .int i => z.length ≤ sizeLine ∧ AtI z.cps.toList i fun c => Q (.str ⟨#[c]⟩) H
  | _, _ => False
section
variable {X : Cx} {a b c : Expr} {ta tb tc : TE} {t u : TT} {pos : Pos}
theorem ob_ix : IxR X bIx := by
  intro value slice pins s σ H x y v u Q I rx ry q hs
  cases x <;> cases y <;> first
    | exact False.elim q
    | (obtain ⟨hz, c, e, q⟩ := q
       exact ix_seq value slice pins s σ H _ _ v u Q I rx ry (.inr (.inr ⟨_, _, _, rfl, rfl, hz, e, q⟩)) hs)
    | (obtain ⟨o, ho, q⟩ := q
       cases e : view o <;> rw [e] at q <;> first
         | exact False.elim q
         | (obtain ⟨w, hw, q⟩ := q
            exact ix_seq value slice pins s σ H _ _ v u Q I rx ry (.inl ⟨_, _, _, _, rfl, rfl, sq_view ho e, hw, q⟩) hs)
         | (obtain ⟨w, hw, q⟩ := q
            exact ix_seq value slice pins s σ H _ _ v u Q I rx ry (.inr (.inl ⟨_, _, _, _, rfl, rfl, st_view ho e, hw, q⟩)) hs))
theorem be_ix (ha : PE X a ta) (hb : PE X b tb) (hs : PlainIx b := by exact fun _ _ => rfl) : PE X (.Subscript a b pos) (tOp bIx ta tb) := pe_ix ob_ix ha hb hs
end

/-! ### displays, arguments -/
structure PAn (X : Cx) (es : List Expr) (t : TA) : Prop where
  run : ∀ (pos : Pos) (pins : List (Addr × Obj)) (s : Shared) (σ : Sg) (H : Hp) (Q : List V → Hp → Prop), Inv X pins σ H s → t σ H Q →
    wpAny (model X.prog X.w) X.A (spliced (backTo pos (starEach es X.env))) (fun us s' => us.length = es.length ∧ AP X pins σ Q us s') X.xe s
def bTup (t : TA) : TE := fun σ H Q => t σ H fun xs H1 => Alloc H1 (.tup xs) fun p H' => Q (.ref p) H'
def bLst (t : TA) : TE := fun σ H Q => t σ H fun xs H1 => Alloc H1 (.lst xs) fun p H' => Q (.ref p) H'
def bDct0 : TE := fun _ H Q => Alloc H (.dK []) fun p H' => Q (.ref p) H'
section
variable {X : Cx} {e : Expr} {es : List Expr} {te : TE} {t : TA} {pos : Pos}
theorem PAn.pa (h : PAn X es t) : PA X es t := ⟨fun pos pins s σ H Q I q => thn (h.run pos pins s σ H Q I q) fun _ _ z => z.2⟩
theorem ba_nil : PAn X [] tNil := ⟨fun pos pins s σ H Q I h => Calls.spliced_nil ⟨rfl, [], H, I, .nil, h⟩⟩
theorem ba_cons (ha : PE X e te) (hr : PAn X es t) (hs : starEach (e :: es) X.env = (false, eval e X.env) :: starEach es X.env := by rfl) : PAn X (e :: es) (tCons te t) := by
  refine ⟨fun pos pins s σ H Q I h => ?_⟩
  rw [hs]
  refine Calls.spliced_cons (thn (ha.run pins s σ H _ I h) ?_)
  intro u s1 ⟨x, H1, I1, r1, q1⟩
  refine thn (hr.run pos pins s1 σ H1 _ I1 q1) ?_
  intro us s2 ⟨hl, xs, H2, I2, r2, q2⟩
  exact ⟨congrArg (· + 1) hl, x :: xs, H2, I2, .cons r1 r2, q2⟩
/-- the arguments are as many as are written -/
def upN (n : Nat) (t : TA) : TA := fun σ H Q => ∃ Q0 : List V → Hp → Prop, t σ H Q0 ∧ ∀ xs H', xs.length = n → Q0 xs H' → Q xs H'
theorem PAn.up (h : PAn X es t) : PA X es (upN es.length t) := ⟨fun pos pins s σ H Q I ⟨Q0, q, k⟩ => by
  refine thn (h.run pos pins s σ H Q0 I q) ?_
  intro us s' ⟨hl, xs, H', I', r, z⟩
  exact ⟨xs, H', I', r, k _ _ (by rw [r.length, hl]) z⟩⟩
theorem lenA {n : Nat} {xs : List V} (e : xs.length = n) (h : n ≤ 1000) : xs.length ≤ sizeLine := Nat.le_of_lt (small1000 (by omega))
theorem be_tup {x1} (h : PAn X es t) (hl : es.length ≤ 1000 := by decide) : PE X (.Tuple es x1 pos) (bTup t) :=
  PE.imp (pe_tup h.up) fun σ H Q q => ⟨_, q, fun xs H1 n z => ⟨lenA n hl, fun p hp => z.at p hp⟩⟩
theorem be_lst (h : PAn X es t) (hl : es.length ≤ 1000 := by decide) : PE X (.List es pos) (bLst t) :=
  PE.imp (pe_lst h.up) fun σ H Q q => ⟨_, q, fun xs H1 n z => ⟨lenA n hl, fun p hp => z.at p hp⟩⟩
theorem be_dct0 : PE X (.Dict [] [] pos) bDct0 := PE.imp pe_dnewK fun σ H Q q => fun p hp => q.at p hp
end

/-! ### built-in functions and classes, called -/
inductive Ty where
  | non | bl | int | str | lst | tup | dct
  deriving DecidableEq
def Ty.nm : Ty → String
  | .non => "NoneType" | .bl => "bool" | .int => "int" | .str => "str" | .lst => "list" | .tup => "tuple" | .dct => "dict"
/-- an instance of a is one of b -/
def Ty.is : Ty → Ty → Bool
  | .non, .non => true | .bl, .bl => true | .bl, .int => true | .int, .int => true | .str, .str => true
  | .lst, .lst => true | .tup, .tup => true | .dct, .dct => true
  | _, _ => false
theorem Ty.kit {K : PySem.W.Frag} (a b : Ty) : PySem.W.kitOne K (.type a.nm) (.type b.nm) = some (a.is b) := kit_ty (by cases a <;> cases b <;> decide +kernel)
/-- the type of a tracked object -/
def Ty.ho : HO → Option Ty
  | .lst _ => some .lst
  | .tup _ => some .tup
  | .dK _ => some .dct
  | .dT _ => some .dct
  | _ => none
/-- isinstance(x, T) for one of these T -/
def bIsi (T : Ty) (te : TE) : TE := fun σ H Q => te σ H fun x H' => match x with
  | .non => Q (.bl (Ty.is .non T)) H'
  | .bl _ => Q (.bl (Ty.is .bl T)) H'
  | .int _ => Q (.bl (Ty.is .int T)) H'
  | .str _ => Q (.bl (Ty.is .str T)) H'
  | .ref p => Get H' p fun o => match view o with
    | .lst _ => Q (.bl (Ty.is .lst T)) H'
    | .tup _ => Q (.bl (Ty.is .tup T)) H'
    | .dK _ => Q (.bl (Ty.is .dct T)) H'
    | _ => False
  | _ => False
/-- isinstance(x, (T, U)) -/
def bIsi2 (T U : Ty) (te : TE) : TE := fun σ H Q => te σ H fun x H' => Alloc H' (.tup [.ty T.nm, .ty U.nm]) fun _ H2 => match x with
  | .non => Q (.bl (Ty.is .non T || Ty.is .non U)) H2
  | .bl _ => Q (.bl (Ty.is .bl T || Ty.is .bl U)) H2
  | .int _ => Q (.bl (Ty.is .int T || Ty.is .int U)) H2
  | .str _ => Q (.bl (Ty.is .str T || Ty.is .str U)) H2
  | .ref p => Get H2 p fun o => match view o with
    | .lst _ => Q (.bl (Ty.is .lst T || Ty.is .lst U)) H2
    | .tup _ => Q (.bl (Ty.is .tup T || Ty.is .tup U)) H2
    | .dK _ => Q (.bl (Ty.is .dct T || Ty.is .dct U)) H2
    | _ => False
  | _ => False
def rIsiT1 (T : Ty) : List V → Hp → VK → Prop := fun xs H Q => match xs with
  | [x, .ty n] => n = T.nm ∧ match x with
    | .non => Q (.bl (Ty.is .non T)) H
    | .bl _ => Q (.bl (Ty.is .bl T)) H
    | .int _ => Q (.bl (Ty.is .int T)) H
    | .str _ => Q (.bl (Ty.is .str T)) H
    | .ref p => Get H p fun o => match view o with
      | .lst _ => Q (.bl (Ty.is .lst T)) H
      | .tup _ => Q (.bl (Ty.is .tup T)) H
      | .dK _ => Q (.bl (Ty.is .dct T)) H
      | _ => False
    | _ => False
  | _ => False
theorem ty_of {K : PySem.W.Frag} {H : Hp} {p : Addr} {o : HO} {t : Ty} (e : H p = some o) (h : Ty.ho (view o) = some t) (hz : ∀ ob u, o = .frz ob u → (∃ xs, u = .lst xs) ∨ (∃ xs, u = .tup xs) ∨ ∃ k, u = .dK k) : TyX K H (.ref p) (.type t.nm) := by
  cases o <;> first
    | (cases h; exact .base (.lst e))
    | (cases h; exact .base (.tup e))
    | (cases h; exact .base (.dK e))
    | (cases h; exact .base (.dT e))
    | (rename_i ob u
       rcases hz ob u rfl with ⟨xs, z⟩ | ⟨xs, z⟩ | ⟨k, z⟩
       · subst z; cases h; exact .base (.frz e)
       · subst z; cases h; exact .fTuple e
       · subst z; cases h; exact .fDict e)
    | cases h
theorem view_frz {o : HO} {u : HO} (h : view o = u) {ob w} (e : o = .frz ob w) : w = u := by subst e; exact h
section
variable {X : Cx}
theorem cr_isi (T : Ty) : CallR X (.builtin "isinstance") (rIsiT1 T) := CallR.by fun xs H Q q => by
  match xs, q with
  | [x, .ty n], ⟨hn, q⟩ =>
    subst hn
    refine ⟨_, call_isi, ?_⟩
    cases x <;> first
      | exact False.elim q
      | exact ⟨_, _, _, _, _, rfl, .ty _, .base .non, Ty.kit .non T, q⟩
      | exact ⟨_, _, _, _, _, rfl, .ty _, .base (.bl _), Ty.kit .bl T, q⟩
      | exact ⟨_, _, _, _, _, rfl, .ty _, .base (.int _), Ty.kit .int T, q⟩
      | exact ⟨_, _, _, _, _, rfl, .ty _, .base (.str _), Ty.kit .str T, q⟩
      | (obtain ⟨o, ho, q⟩ := q
         cases e : view o <;> rw [e] at q <;> first
           | exact False.elim q
           | exact ⟨_, _, _, _, _, rfl, .ty _, ty_of (t := .lst) ho (by rw [e]; rfl) (fun ob u z => .inl ⟨_, view_frz e z⟩), Ty.kit .lst T, q⟩
           | exact ⟨_, _, _, _, _, rfl, .ty _, ty_of (t := .tup) ho (by rw [e]; rfl) (fun ob u z => .inr (.inl ⟨_, view_frz e z⟩)), Ty.kit .tup T, q⟩
           | exact ⟨_, _, _, _, _, rfl, .ty _, ty_of (t := .dct) ho (by rw [e]; rfl) (fun ob u z => .inr (.inr ⟨_, view_frz e z⟩)), Ty.kit .dct T, q⟩)
def bInt (te : TE) : TE := fun σ H Q => te σ H fun x H' => match x with
  | .int i => Q (.int i) H'
  | .bl k => Q (.int (if k then 1 else 0)) H'
  | _ => False
def bLen (te : TE) : TE := fun σ H Q => te σ H fun x H' => match x with
  | .str y => y.length ≤ sizeLine ∧ Q (.int y.length) H'
  | .ref p => Get H' p fun o => match view o with
    | .lst xs => Q (.int xs.length) H'
    | .tup xs => Q (.int xs.length) H'
    | _ => False
  | _ => False
def bAbs (te : TE) : TE := fun σ H Q => te σ H fun x H' => match x with
  | .int i => Q (.int i.natAbs) H'
  | _ => False
def bMin (ta tb : TE) : TE := fun σ H Q => ta σ H fun x H1 => tb σ H1 fun y H2 => match x, y with
  | .int i, .int j => Q (.int (min i j)) H2
  | _, _ => False
def bMax (ta tb : TE) : TE := fun σ H Q => ta σ H fun x H1 => tb σ H1 fun y H2 => match x, y with
  | .int i, .int j => Q (.int (max i j)) H2
  | _, _ => False
def bList (te : TE) : TE := fun σ H Q => te σ H fun x H' => match x with
  | .ref p => Get H' p fun o => match view o with
    | .lst xs => Alloc H' (.lst xs) fun l H2 => Q (.ref l) H2
    | .tup xs => Alloc H' (.lst xs) fun l H2 => Q (.ref l) H2
    | _ => False
  | _ => False
/-- tuple(x): a new one of a list, the same of a tuple -/
def bTuple (te : TE) : TE := fun σ H Q => te σ H fun x H' => match x with
  | .ref p => Get H' p fun o => match view o with
    | .lst xs => Alloc H' (.tup xs) fun l H2 => Q (.ref l) H2
    | .tup _ => Q (.ref p) H'
    | _ => False
  | _ => False
def bGcd (ta tb : TE) : TE := fun σ H Q => ta σ H fun x H1 => tb σ H1 fun y H2 => match x, y with
  | .int i, .int j => Q (.int ((Nat.gcd i.natAbs j.natAbs : Nat) : Int)) H2
  | _, _ => False
variable {e a b : Expr} {te ta tb : TE} {p p2 p3 pos apos : Pos}
theorem be_ty (n : String) {x : Str} (hm : X.mg x = none) (hg : Gl X x := by rfl) (hv : bootBuiltins x = some (.type n) := by decide +kernel) (hn : x ≠ "__name__" := by decide) (hd : (x == ("__debug__" : Str)) = false := by decide) : PE X (.Name x p) (tC (.ty n)) := pe_bltn hg hm hv rfl hn hd
theorem be_isi (T : Ty) (hm : X.mg "isinstance" = none) (ha : PE X a ta) (hb : PE X b (tC (.ty T.nm))) (hg : Gl X "isinstance" := by rfl)
    (h1 : starEach [a, b] X.env = (false, eval a X.env) :: starEach [b] X.env := by rfl) (h2 : starEach [b] X.env = (false, eval b X.env) :: starEach [] X.env := by rfl)
    (hpl : (backTo pos (starEach [b] X.env)).any (·.1) = false := by rfl) :
    PE X (.Call (.Name "isinstance" p) [a, b] [] pos) (bIsi T ta) :=
  PE.imp (pe_callB (cr_isi T) hg hm (by decide +kernel) (pa_cons (PE.up ha) (pa_cons hb pa_nil h2) h1) (he := h1) (hpl := hpl)) fun σ H Q q => ⟨_, q, fun x H' z => ⟨rfl, z⟩⟩
theorem be_int (hm : X.mg "int" = none) (ha : PE X a ta) (hg : Gl X "int" := by rfl) (h1 : starEach [a] X.env = (false, eval a X.env) :: starEach [] X.env := by rfl) :
    PE X (.Call (.Name "int" p) [a] [] pos) (bInt ta) :=
  PE.imp (pe_callTy call_int1 hg hm (by decide +kernel) (pa_cons (PE.up ha) pa_nil h1) (he := h1) (hpl := rfl)) fun σ H Q q => ⟨_, q, fun x H' z => by
    cases x <;> first
      | exact False.elim z
      | exact .inl ⟨_, rfl, z⟩
      | exact .inr ⟨_, rfl, z⟩⟩
theorem be_len (hm : X.mg "len" = none) (ha : PE X a ta) (hg : Gl X "len" := by rfl) (h1 : starEach [a] X.env = (false, eval a X.env) :: starEach [] X.env := by rfl) :
    PE X (.Call (.Name "len" p) [a] [] pos) (bLen ta) :=
  PE.imp (pe_callB call_len hg hm (by decide +kernel) (pa_cons (PE.up ha) pa_nil h1) (he := h1) (hpl := rfl)) fun σ H Q q => ⟨_, q, fun x H' z => by
    cases x <;> first
      | exact False.elim z
      | exact ⟨_, _, rfl, ⟨z.1, rfl⟩, z.2⟩
      | (obtain ⟨o, ho, z⟩ := z
         cases e : view o <;> rw [e] at z <;> first
           | exact False.elim z
           | exact ⟨_, _, rfl, .inl ⟨_, sq_view ho e, rfl⟩, z⟩
           | exact ⟨_, _, rfl, .inr ⟨_, st_view ho e, rfl⟩, z⟩)⟩
theorem be_abs (hm : X.mg "abs" = none) (ha : PE X a ta) (hg : Gl X "abs" := by rfl) (h1 : starEach [a] X.env = (false, eval a X.env) :: starEach [] X.env := by rfl) :
    PE X (.Call (.Name "abs" p) [a] [] pos) (bAbs ta) :=
  PE.imp (pe_callB call_abs hg hm (by decide +kernel) (pa_cons (PE.up ha) pa_nil h1) (he := h1) (hpl := rfl)) fun σ H Q q => ⟨_, q, fun x H' z => by
    cases x <;> first
      | exact False.elim z
      | (rename_i i
         refine ⟨i, rfl, ?_⟩
         rw [show (if i < 0 then -i else i) = (i.natAbs : Int) from by split <;> omega]
         exact z)⟩
theorem ite_min (i j : Int) : (if j < i then j else i) = min i j := by split <;> omega
theorem ite_max (i j : Int) : (if j > i then j else i) = max i j := by split <;> omega
theorem be_min (hm : X.mg "min" = none) (hc : X.calm = true) (ha : PE X a ta) (hb : PE X b tb) (hg : Gl X "min" := by rfl)
    (h1 : starEach [a, b] X.env = (false, eval a X.env) :: starEach [b] X.env := by rfl) (h2 : starEach [b] X.env = (false, eval b X.env) :: starEach [] X.env := by rfl)
    (hpl : (backTo pos (starEach [b] X.env)).any (·.1) = false := by rfl) : PE X (.Call (.Name "min" p) [a, b] [] pos) (bMin ta tb) :=
  PE.imp (pe_callB (call_min2 hc) hg hm (by decide +kernel) (pa_cons (PE.up ha) (pa_cons (PE.up hb) pa_nil h2) h1) (he := h1) (hpl := hpl)) fun σ H Q q => ⟨_, q, fun x H' z => ⟨_, z, fun y H2 z => by
    cases x <;> cases y <;> first
      | exact False.elim z
      | exact ⟨_, _, rfl, by rw [ite_min]; exact z⟩⟩⟩
theorem be_max (hm : X.mg "max" = none) (hc : X.calm = true) (ha : PE X a ta) (hb : PE X b tb) (hg : Gl X "max" := by rfl)
    (h1 : starEach [a, b] X.env = (false, eval a X.env) :: starEach [b] X.env := by rfl) (h2 : starEach [b] X.env = (false, eval b X.env) :: starEach [] X.env := by rfl)
    (hpl : (backTo pos (starEach [b] X.env)).any (·.1) = false := by rfl) : PE X (.Call (.Name "max" p) [a, b] [] pos) (bMax ta tb) :=
  PE.imp (pe_callB (call_max2 hc) hg hm (by decide +kernel) (pa_cons (PE.up ha) (pa_cons (PE.up hb) pa_nil h2) h1) (he := h1) (hpl := hpl)) fun σ H Q q => ⟨_, q, fun x H' z => ⟨_, z, fun y H2 z => by
    cases x <;> cases y <;> first
      | exact False.elim z
      | exact ⟨_, _, rfl, by rw [ite_max]; exact z⟩⟩⟩
theorem be_list (hm : X.mg "list" = none) (ha : PE X a ta) (hg : Gl X "list" := by rfl) (h1 : starEach [a] X.env = (false, eval a X.env) :: starEach [] X.env := by rfl) :
    PE X (.Call (.Name "list" p) [a] [] pos) (bList ta) :=
  PE.imp (pe_callTy call_list_of hg hm (by decide +kernel) (pa_cons (PE.up ha) pa_nil h1) (he := h1) (hpl := rfl)) fun σ H Q q => ⟨_, q, fun x H' z => by
    cases x <;> first
      | exact False.elim z
      | (obtain ⟨o, ho, z⟩ := z
         cases e : view o <;> rw [e] at z <;> first
           | exact False.elim z
           | exact ⟨_, _, rfl, .inl (sq_view ho e), fun l hl => z.at l hl⟩
           | exact ⟨_, _, rfl, .inr (st_view ho e), fun l hl => z.at l hl⟩)⟩
theorem be_tuple (hm : X.mg "tuple" = none) (ha : PE X a ta) (hg : Gl X "tuple" := by rfl) (h1 : starEach [a] X.env = (false, eval a X.env) :: starEach [] X.env := by rfl) :
    PE X (.Call (.Name "tuple" p) [a] [] pos) (bTuple ta) :=
  PE.imp (pe_callTy call_tuple_of hg hm (by decide +kernel) (pa_cons (PE.up ha) pa_nil h1) (he := h1) (hpl := rfl)) fun σ H Q q => ⟨_, q, fun x H' z => by
    cases x <;> first
      | exact False.elim z
      | (obtain ⟨o, ho, z⟩ := z
         cases e : view o <;> rw [e] at z <;> first
           | exact False.elim z
           | exact ⟨_, _, rfl, .inl ⟨sq_view ho e, fun l hl => z.at l hl⟩⟩
           | exact ⟨_, _, rfl, .inr ⟨st_view ho e, z⟩⟩)⟩
theorem be_gcd (hm : X.mg "gcd" = some (.builtin "math.gcd")) (ha : PE X a ta) (hb : PE X b tb) (hg : Gl X "gcd" := by rfl)
    (h1 : starEach [a, b] X.env = (false, eval a X.env) :: starEach [b] X.env := by rfl) (h2 : starEach [b] X.env = (false, eval b X.env) :: starEach [] X.env := by rfl)
    (hpl : (backTo pos (starEach [b] X.env)).any (·.1) = false := by rfl) : PE X (.Call (.Name "gcd" p) [a, b] [] pos) (bGcd ta tb) :=
  PE.imp (pe_callBfun cr_gcd hg hm (pa_cons (PE.up ha) (pa_cons (PE.up hb) pa_nil h2) h1) (he := h1) (hpl := hpl)) fun σ H Q q => ⟨_, q, fun x H' z => ⟨_, z, fun y H2 z => by
    cases x <;> cases y <;> first
      | exact False.elim z
      | exact ⟨_, _, rfl, z⟩⟩⟩

/-! ### methods -/
def bBits (te : TE) : TE := fun σ H Q => te σ H fun x H' => match x with
  | .int i => Q (.int (Builtin.Int.intBits i : Nat)) H'
  | _ => False
theorem be_bits (ha : PE X a ta) (hbase : attributeBase a "bit_length" X.env (eval a X.env) = eval a X.env := by rfl) (hline : (apos.endLine == pos.line) = true := by rfl) :
    PE X (.Call (.Attribute a "bit_length" apos) [] [] pos) (bBits ta) :=
  PE.imp (pe_bits (PE.up ha) hbase hline) fun σ H Q q => ⟨_, q, fun x H' z => by
    cases x <;> first
      | exact False.elim z
      | exact ⟨_, rfl, z⟩⟩
/-- xs.append(e) -/
def bApp (ta tb : TE) : TE := fun σ H Q => ta σ H fun x H1 => match x with
  | .ref l => Get H1 l fun o => match o with
    | .lst _ => tb σ H1 fun y H2 => Get H2 l fun o => match o with
      | .lst xs => xs.length < sizeLine ∧ Put H2 l (.lst (xs ++ [y])) fun H3 => Q .non H3
      | _ => False
    | _ => False
  | _ => False
theorem be_app (ha : PE X a ta) (hb : PE X b tb) (hbase : attributeBase a "append" X.env (eval a X.env) = eval a X.env := by rfl)
    (hfew : ((backTo pos (starEach [b] X.env)).all (fun x => !x.1) && (backToKw pos (keywordEach [] X.env)).all (fun x => x.1.isSome) && decide ([b].length + ([] : List Keyword).length + (if ([] : List Keyword).isEmpty then 0 else 1) < 30)) = true := by rfl)
    (hline : (apos.endLine == pos.line) = true := by rfl) (hs : starEach [b] X.env = (false, eval b X.env) :: starEach [] X.env := by rfl) :
    PE X (.Call (.Attribute a "append" apos) [b] [] pos) (bApp ta tb) :=
  PE.imp (pe_bm PySem.F.plainAttrs_list PySem.F.slot_list_append PySem.F.type_list_append mt_append (PE.up ha) (pa_cons (PE.up hb) pa_nil hs) hbase hfew hline hs rfl) fun σ H Q q => ⟨_, q, fun x H1 z => by
    cases x <;> first
      | exact False.elim z
      | (obtain ⟨o, ho, z⟩ := z
         cases o <;> first
           | exact False.elim z
           | (refine ⟨.inl ⟨rfl, _, .inl (.inl ho)⟩, _, z, fun y H2 z => ?_⟩
              obtain ⟨o, ho, z⟩ := z
              cases o <;> first
                | exact False.elim z
                | exact ⟨_, _, _, rfl, rfl, ho, z.1, z.2.at⟩))⟩
end
/-! ### statements -/
def upG (t : TE) : TE := upE t
inductive IxI (n : Nat) (i : Int) (K : Nat → Prop) : Prop where
  | mk (j : Nat) (h : ixN n i = some j) (k : K j) : IxI n i K
/-- xs[i] = v -/
def bSetL : V → V → V → Hp → (Hp → Prop) → Prop := fun o i v H Q => match o, i with
  | .ref p, .int k => Get H p fun u => match u with
    | .lst xs => IxI xs.length k fun j => Put H p (.lst (xs.set j v)) Q
    | _ => False
  | _, _ => False
def bIf (c : TT) (t u : TS) : TS := fun D σ H => c σ H fun b H1 => (b = true → t D σ H1) ∧ (b = false → u D σ H1)
section
variable {X : Cx} {e : Expr} {te : TE} {pos : Pos} {t u : TS}
theorem ob_set : PSet X bSetL := by
  intro pins s σ H o i v ov iv w Q I ro ri rv h
  cases o <;> cases i <;> first
    | exact False.elim h
    | (obtain ⟨z, hz, h⟩ := h
       cases z <;> first
         | exact False.elim h
         | (obtain ⟨j, hj, h⟩ := h
            exact set_list pins s σ H _ _ v ov iv w Q I ro ri rv ⟨_, _, _, j, rfl, rfl, hz, hj, h.at⟩))
theorem bs_if {c : Expr} {tc : TT} {a b : List Stmt} (hc : PT X c tc) (ha : PSs X a t) (hb : PSs X b u) : PS X (.If c a b pos) (bIf tc t u) :=
  PS.imp (ps_if (PT.up hc) ha hb) fun D σ H q => ⟨_, q, fun _ _ z => br_if z⟩
end

/-! ### loops -/
/-- a list that the turns leave as it is -/
inductive LoopL (a : Addr) (xs : List V) (g : TG) (tb : TS) (D : Ends) (σ : Sg) (H : Hp) : Prop where
  | mk (Pv : Nat → Sg → Hp → Prop) (h0 : Pv 0 σ H) (hl : ∀ i σ H, i ≤ xs.length → Pv i σ H → Rd H a (.lst xs))
    (hs : ∀ i x σ H, xs[i]? = some x → Pv i σ H → g x σ H fun σ2 H2 => tb { D with nx := Pv (i + 1), ct := Pv (i + 1), bk := D.nx } σ2 H2) (hd : ∀ σ H, Pv xs.length σ H → D.nx σ H) : LoopL a xs g tb D σ H
inductive LoopT (a : Addr) (xs : List V) (g : TG) (tb : TS) (D : Ends) (σ : Sg) (H : Hp) : Prop where
  | mk (Pv : Nat → Sg → Hp → Prop) (h0 : Pv 0 σ H) (hl : ∀ i σ H, i ≤ xs.length → Pv i σ H → Rd H a (.tup xs))
    (hs : ∀ i x σ H, xs[i]? = some x → Pv i σ H → g x σ H fun σ2 H2 => tb { D with nx := Pv (i + 1), ct := Pv (i + 1), bk := D.nx } σ2 H2) (hd : ∀ σ H, Pv xs.length σ H → D.nx σ H) : LoopT a xs g tb D σ H
inductive LoopR (lo : Int) (n : Nat) (g : TG) (tb : TS) (D : Ends) (σ : Sg) (H : Hp) : Prop where
  | mk (Pv : Nat → Sg → Hp → Prop) (h0 : Pv 0 σ H)
    (hs : ∀ (i : Nat) σ H, i < n → Pv i σ H → g (.int (lo + i)) σ H fun σ2 H2 => tb { D with nx := Pv (i + 1), ct := Pv (i + 1), bk := D.nx } σ2 H2) (hd : ∀ σ H, Pv n σ H → D.nx σ H) : LoopR lo n g tb D σ H
def iAny (K : PySem.W.Frag) (te : TE) : TI := fun σ H R => te σ H fun x H1 => match x with
  | .ref a => (∃ xs, SqL K H1 a xs ∧ R (Itl K a) H1) ∨ (∃ xs, SqT K H1 a xs ∧ R (Itt K a) H1)
  | _ => False
def bForA (te : TE) (g : TG) (tb : TS) : TS := fun D σ H => te σ H fun x H1 => match x with
  | .ref a => Get H1 a fun o => match view o with
    | .lst xs => LoopL a xs g tb D σ H1
    | .tup xs => LoopT a xs g tb D σ H1
    | _ => False
  | _ => False
def bForR (ta : TE) (g : TG) (tb : TS) : TS := fun D σ H => ta σ H fun x H1 => match x with
  | .int n => (-(2 ^ 62) ≤ n ∧ n < 2 ^ 62) ∧ LoopR 0 n.toNat g tb D σ H1
  | _ => False
def bForR2 (ta tb' : TE) (g : TG) (tb : TS) : TS := fun D σ H => ta σ H fun x H1 => tb' σ H1 fun y H2 => match x, y with
  | .int i, .int j => ((-(2 ^ 62) ≤ i ∧ i < 2 ^ 62) ∧ -(2 ^ 62) ≤ j ∧ j < 2 ^ 62) ∧ LoopR i (j - i).toNat g tb D σ H2
  | _, _ => False
section
variable {X : Cx} {e a b tg : Expr} {te ta tb' : TE} {pos p p2 : Pos} {t u tb : TS} {g : TG} {body : List Stmt}
theorem pi_any (he : PE X e te) : PI X tg e (iAny X.K te) := by
  constructor
  intro pins s σ H R I h
  refine thn (he.run pins s σ H _ I h) ?_
  intro v s1 ⟨x, H1, I1, r1, q1⟩
  cases x <;> try exact False.elim q1
  rename_i a
  cases r1
  have fp : ∀ c ∈ [s1.heap.objs.size], FpOk X pins H1 c := by
    intro c hc
    rw [List.mem_singleton.mp hc]
    exact I1.fpOk (Nat.le_refl _) (I1.hok.fresh (Nat.le_refl _))
  have I2 : ∀ ob : Obj, Inv X pins σ H1 { s1 with heap := s1.heap.push ob } := fun ob => I1.kept (t' := s1.toks) (fun _ _ z => Heap.get?_push_of_some ob z)
  rcases q1 with ⟨xs, hq, q⟩ | ⟨xs, hq, q⟩
  · obtain ⟨its, _, pl, _⟩ := I1.list hq
    exact wpAny_pyIter_list pl.isList ⟨_, [s1.heap.objs.size], _, _, H1, rfl, I2 _, turn_list a _, ⟨_, Heap.get?_push_size _ rfl, rfl, rfl⟩, fp, q⟩
  · obtain ⟨its, _, pl, _⟩ := I1.tuple hq
    exact wpAny_pyIter_tuple (show s1.heap.IsTuple a its.toArray from pl) ⟨_, [s1.heap.objs.size], _, _, H1, rfl, I2 _, turn_tuple a _, ⟨_, Heap.get?_push_size _ rfl, rfl, rfl⟩, fp, q⟩
theorem bs_forA (hp : PassesOwn (model X.prog X.w) X.A X.env X.xe) (hc : X.calm = true) (he : PE X e te) (hg : PG X tg g) (hb : PSs X body tb)
    (hs : ∀ x, foldedSetIterable e X.env x = pure x := by intro _; rfl) : PS X (.For tg e body [] pos) (bForA te g tb) :=
  PS.imp (ps_for hp hc (pi_any (PE.up he)) hg hb hs) fun D σ H q => ⟨_, q, fun x H1 z => by
    cases x <;> try exact False.elim z
    rename_i a
    obtain ⟨o, ho, z⟩ := z
    cases e : view o <;> rw [e] at z <;> try exact False.elim z
    · obtain ⟨Pv, h0, hl, hs, hd⟩ := z
      exact .inl ⟨_, sq_view ho e, for_list Pv h0 (fun i σ H l p => .inl (hl i σ H l p)) hs hd⟩
    · obtain ⟨Pv, h0, hl, hs, hd⟩ := z
      exact .inr ⟨_, st_view ho e, for_tup Pv h0 (fun i σ H l p => .inl (hl i σ H l p)) hs hd⟩⟩
theorem bs_forR (hm : X.mg "range" = none) (hp : PassesOwn (model X.prog X.w) X.A X.env X.xe) (hc : X.calm = true) (ha : PE X a ta) (hg : PG X tg g) (hb : PSs X body tb) (hG : Gl X "range" := by rfl)
    (h1 : starEach [a] X.env = (false, eval a X.env) :: starEach [] X.env := by rfl)
    (hs : ∀ x, foldedSetIterable (.Call (.Name "range" p) [a] [] p2) X.env x = pure x := by intro _; rfl) : PS X (.For tg (.Call (.Name "range" p) [a] [] p2) body [] pos) (bForR ta g tb) :=
  PS.imp (ps_for hp hc (pi_range1 hG hm (pa_cons (PE.up ha) pa_nil h1) h1) hg hb hs) fun D σ H q => ⟨_, q, fun x H1 z => by
    cases x <;> try exact False.elim z
    rename_i n
    obtain ⟨⟨b1, b2⟩, Pv, h0, hs, hd⟩ := z
    exact ⟨n, rfl, b1, b2, for_range Pv h0 hs hd⟩⟩
theorem bs_forR2 (hm : X.mg "range" = none) (hp : PassesOwn (model X.prog X.w) X.A X.env X.xe) (hc : X.calm = true) (ha : PE X a ta) (hb' : PE X b tb') (hg : PG X tg g) (hb : PSs X body tb) (hG : Gl X "range" := by rfl)
    (h1 : starEach [a, b] X.env = (false, eval a X.env) :: starEach [b] X.env := by rfl) (h2 : starEach [b] X.env = (false, eval b X.env) :: starEach [] X.env := by rfl)
    (h3 : starEach [a, b] X.env = [(false, eval a X.env), (false, eval b X.env)] := by rfl)
    (hs : ∀ x, foldedSetIterable (.Call (.Name "range" p) [a, b] [] p2) X.env x = pure x := by intro _; rfl) : PS X (.For tg (.Call (.Name "range" p) [a, b] [] p2) body [] pos) (bForR2 ta tb' g tb) :=
  PS.imp (ps_for hp hc (pi_range2 hG hm (pa_cons (PE.up ha) (pa_cons (PE.up hb') pa_nil h2) h1) h3 h2) hg hb hs) fun D σ H q => ⟨_, q, fun x H1 z => ⟨_, z, fun y H2 z => by
    cases x <;> cases y <;> try exact False.elim z
    obtain ⟨⟨⟨b1, b2⟩, b3, b4⟩, Pv, h0, hs, hd⟩ := z
    exact ⟨_, _, rfl, ⟨b1, b2, b3, b4⟩, for_range Pv h0 hs hd⟩⟩⟩
end

/-! ### defs and calls -/
/-- a def of the module, called by position -/
inductive Fn (P : Program) (w : World) (K : PySem.W.Frag) (mg : Str → Option Value) (base : Heap) (k : Nat) (x : Str) (ps : List Str) (sp : Sp) : Prop where
  | mk (f : Addr) (fd : FuncData) (ok : FnOk P w K mg base (L2N.CX P w) k f fd ps sp) (at_ : mg x = some (.ref f)) (kp : PySem.W.keepIn K (.ref f) = true) (bi : Binds K fd ps []) : Fn P w K mg base k x ps sp
theorem Fn.mono {P : Program} {w : World} {K : PySem.W.Frag} {mg : Str → Option Value} {base : Heap} {j k : Nat} {x : Str} {ps : List Str} {sp : Sp} (h : Fn P w K mg base j x ps sp) (l : j ≤ k) : Fn P w K mg base k x ps sp := by
  obtain ⟨f, fd, ok, a, kp, bi⟩ := h
  exact ⟨f, fd, ok.mono l, a, kp, bi⟩
theorem Fn.imp {P : Program} {w : World} {K : PySem.W.Frag} {mg : Str → Option Value} {base : Heap} {k : Nat} {x : Str} {ps : List Str} {sp sp' : Sp} (h : Fn P w K mg base k x ps sp) (l : ∀ vs H Q E, sp' vs H Q E → sp vs H Q E) : Fn P w K mg base k x ps sp' := by
  obtain ⟨f, fd, ok, a, kp, bi⟩ := h
  exact ⟨f, fd, ok.imp l, a, kp, bi⟩
/-- .. by keywords alone, named ks; g puts their values in the order of the parameters -/
inductive FnK (P : Program) (w : World) (K : PySem.W.Frag) (mg : Str → Option Value) (base : Heap) (k : Nat) (x : Str) (ps ks : List Str) (g : List Nat) (sp : Sp) : Prop where
  | mk (f : Addr) (fd : FuncData) (ok : FnOk P w K mg base (L2N.CX P w) k f fd ps sp) (at_ : mg x = some (.ref f)) (kp : PySem.W.keepIn K (.ref f) = true)
    (bi : ∀ (s : Shared) (ws : List Value), K.In s.heap → ws.length = ks.length → BindsTo s fd ⟨[], ks.zip ws⟩ (ps.zip (g.filterMap fun i => ws[i]?))) : FnK P w K mg base k x ps ks g sp
def bCall (sp : Sp) (W : WX) (t : TA) : TE := fun σ H Q => t σ H fun vs H1 => sp vs H1 Q (fun cls d H' => W cls d σ H')
def bCallK (g : List Nat) (sp : Sp) (W : WX) (t : TA) : TE := fun σ H Q => t σ H fun vs H1 => sp (g.filterMap fun i => vs[i]?) H1 Q (fun cls d H' => W cls d σ H')
theorem Vals.perm {vs : List V} {us : List Value} (r : Vals vs us) : ∀ g : List Nat, Vals (g.filterMap fun i => vs[i]?) (g.filterMap fun i => us[i]?)
  | [] => .nil
  | i :: g => by
    cases e : vs[i]? with
    | some v =>
      obtain ⟨u, hu, ru⟩ := r.get e
      rw [List.filterMap_cons_some e, List.filterMap_cons_some hu]
      exact .cons ru (Vals.perm r g)
    | none =>
      rw [List.filterMap_cons_none e, List.filterMap_cons_none (r.none_of e)]
      exact Vals.perm r g
section
variable {X : Cx} {k : Nat} {x : Str} {ps ks : List Str} {sp : Sp} {W : WX} {p pos kpos : Pos} {e : Expr} {es : List Expr} {te : TE} {t : TA} {g : List Nat} {kws : List Keyword}
theorem be_call (F : Fn X.prog X.w X.K X.mg X.base k x ps sp) (hr : Room k X.A) (tk : L2N.Takes X W) (ha : PAn X (e :: es) t) (hg : Gl X x := by rfl) (hdb : (x == ("__debug__" : Str)) = false := by decide)
    (he : starEach (e :: es) X.env = (false, eval e X.env) :: starEach es X.env := by rfl) (hpl : (backTo pos (starEach es X.env)).any (·.1) = false := by rfl) : PE X (.Call (.Name x p) (e :: es) [] pos) (bCall sp W t) := by
  obtain ⟨f, fd, ok, a, kp, bi⟩ := F
  exact pe_callS (E := fun σ cls d H' => W cls d σ H') ok hr hg a kp bi (fun σ => L2N.passAt tk σ) ha.pa hdb he hpl
theorem be_call0 (F : Fn X.prog X.w X.K X.mg X.base k x ps sp) (hr : Room k X.A) (tk : L2N.Takes X W) (hg : Gl X x := by rfl) (hdb : (x == ("__debug__" : Str)) = false := by decide) : PE X (.Call (.Name x p) [] [] pos) (bCall sp W tNil) := by
  obtain ⟨f, fd, ok, a, kp, bi⟩ := F
  constructor
  intro pins s σ H Q I h
  refine wpAny_Call_Name_kw (ld_glob I hg a (PySem.W.callWith_K0 I.kIn kp ?_) hdb)
  exact run_fnS (E := fun σ cls d H' => W cls d σ H') (us := []) ok hr bi (L2N.passAt tk σ) I .nil h
structure PKn (X : Cx) (kws : List Keyword) (t : TA) : Prop where
  run : ∀ (pos : Pos) (pins : List (Addr × Obj)) (s : Shared) (σ : Sg) (H : Hp) (Q : List V → Hp → Prop), Inv X pins σ H s → t σ H Q →
    wpAny (model X.prog X.w) X.A (evalAll ((backToKw pos (keywordEach kws X.env)).map (·.2))) (fun us s' => us.length = kws.length ∧ AP X pins σ Q us s') X.xe s
theorem bk_nil : PKn X [] tNil := ⟨fun _ _ _ _ H Q I h => wpAny_evalAll_nil ⟨rfl, [], H, I, .nil, h⟩⟩
theorem bk_cons {nm : Option Str} (ha : PE X e te) (hr : PKn X kws t) : PKn X (⟨nm, e, kpos⟩ :: kws) (tCons te t) := by
  constructor
  intro pos pins s σ H Q I h
  show wpAny _ _ (evalAll ((do let v ← eval e X.env; standAt pos; pure v) :: _)) _ _ s
  refine wpAny_evalAll_cons (wpAny_bind (thn (ha.run pins s σ H _ I h) ?_))
  intro u s1 ⟨x, H1, I1, r1, q1⟩
  refine wpAny_bind (wpAny_standAt (wpAny_pure (thn (hr.run pos pins s1 σ H1 _ I1 q1) ?_)))
  intro us s2 ⟨hl, xs, H2, I2, r2, q2⟩
  exact ⟨congrArg (· + 1) hl, x :: xs, H2, I2, .cons r1 r2, q2⟩
theorem be_callK (F : FnK X.prog X.w X.K X.mg X.base k x ps ks g sp) (hr : Room k X.A) (tk : L2N.Takes X W) (hkw : PKn X kws t) (hg : Gl X x := by rfl) (hdb : (x == ("__debug__" : Str)) = false := by decide)
    (hall : (backToKw pos (keywordEach kws X.env)).all (·.1.isSome) = true := by rfl) (hks : (backToKw pos (keywordEach kws X.env)).filterMap (·.1) = ks := by rfl)
    (hln : kws.length = ks.length := by rfl)
    (hpl : ((backTo pos (starEach [] X.env)).any (·.1) || (backToKw pos (keywordEach kws X.env)).any (·.1.isNone)) = false := by rfl) :
    PE X (.Call (.Name x p) [] kws pos) (bCallK g sp W t) := by
  obtain ⟨f, fd, ok, a, kp, bi⟩ := F
  constructor
  intro pins s σ H Q I h
  refine wpAny_Call_Name_kw (ld_glob I hg a (PySem.W.callWith_KW0 (h₀ := X.base) I.ok.mod.kin kp hall (thn (hkw.run pos pins s σ H _ I h) ?_) hpl) hdb)
  intro ws s1 ⟨hl, vs, H1, I1, r, q⟩
  refine ⟨I1.kIn, ?_⟩
  rw [hks]
  have r2 := Vals.perm r g
  refine wpAny_call (codeAny_mono (ok.run X.A X.stack s1 H1 ⟨[], ks.zip ws⟩ _ _ Q _ hr I1.env0 (bi s1 ws I1.kIn (hl.trans hln)) r2 q) ?_)
  intro r s' hq
  cases r with
  | error e => exact L2N.passAt tk σ pins H1 s1 e s' I1 hq
  | ok fl => cases fl <;> first
    | exact I1.after hq
    | exact False.elim hq
end

/-! ### a def's body -/
abbrev wE (E : XK) : WX := fun cls d _ H => E cls d H
/-- the end of a body -/
abbrev dE (Q : VK) : Ends := { nx := fun _ H' => Q .non H', rt := Q }
abbrev cxN (P : Program) (w : World) (K : PySem.W.Frag) (mg : Str → Option Value) (base : Heap) (N : List Str) (qual : Str) (scope : Scope) (f : Addr) (cd : Value) (A : Around) (outer : List Env) (s : Shared) (H : Hp) (E : XK) : Cx :=
  cxOf (L2N.CX P w) P w K mg base N qual scope f cd A outer s H E
section
variable {P : Program} {w : World} {K : PySem.W.Frag} {mg : Str → Option Value} {base : Heap}
theorem fn_ok {x qual : Str} {st : Stmt} {f : Addr} {fd : FuncData} {N ps : List Str} {k : Nat} {sp : Sp} {b : WX → TS} (F : Fun K x qual st f fd) (S : FnScope N ps (defScope st))
    (rd : ∀ vs H Q E, sp vs H Q E → vs.length = ps.length ∧ b (wE E) (dE Q) (start N vs) H)
    (dv : ∀ (cdv : Value) (A : Around) (outer : List Env) (s : Shared) (H : Hp) (E : XK), Room k (A.deeper (envOfC qual (defScope st) s.heap.objs.size f cdv)) →
      L2N.Takes (cxN P w K mg base N qual (defScope st) f cdv A outer s H E) (wE E) → PassesOwn (model P w) (A.deeper (envOfC qual (defScope st) s.heap.objs.size f cdv)) (envOfC qual (defScope st) s.heap.objs.size f cdv) (cxN P w K mg base N qual (defScope st) f cdv A outer s H E).xe →
      PSs (cxN P w K mg base N qual (defScope st) f cdv A outer s H E) (defBody st) (b (wE E))) : FnOk P w K mg base (L2N.CX P w) (k + 1) f fd ps sp := by
  obtain ⟨oc, od, kV, doc, pm, an, cdv, ct, osl, rfl, lk, hcd⟩ := F.ex
  refine fn_of lk hcd S (fun vs H Q E h => (rd vs H Q E h).1) fun A outer s H vs Q E hr hsp => ⟨b (wE E), ?_, (rd vs H Q E hsp).2⟩
  exact dv cdv A outer s H E hr (L2N.takes_of rfl rfl rfl rfl) PassesOwn.leaving
end
/-! ### an own error class: class X(..): def __init__(self, f): self.f = f -/
def spInit (C : Addr) (f : Str) : Sp := fun vs H Q _ => ∃ (a : Addr) (v : V), vs = [.ref a, v] ∧ H a = some (exo a C none) ∧
  ∀ dx, H dx = none → dx ≠ a → Q .non (upd (upd H dx (exd dx [(f, v)])) a (exo a C (some dx)))
/-- what the written part says of the class -/
structure ExK (K : PySem.W.Frag) (C : Addr) : Prop where
  oex : OexC K C
  ga : PySem.W.findIn K (.ref C) "__getattribute__" = some (some (.builtin "BaseException.__getattribute__"))
  gg : PySem.W.findIn K (.ref C) "__getattr__" = some none
  hd : PySem.W.hasDictIn K C = true
  ca : PySem.W.findIn K (.ref C) "__class__" = some (some (.builtin "object.__class__"))
  cn : PySem.W.specialIn K (.builtin "object.__class__") "__get__" = some (some (.builtin "getset_descriptor.__get__"))
  ct : PySem.W.takesIn K (.builtin "object.__class__") = some true
  cm : PySem.W.mroIn K C (.type "object") = some true
/-- a class with its __init__, by the module's name x -/
structure ExM (P : Program) (w : World) (K : PySem.W.Frag) (mg : Str → Option Value) (base : Heap) (x : Str) (C : Addr) (f : Str) : Prop where
  ex : ExK K C
  at_ : mg x = some (.ref C)
  no : PySem.W.findIn K (.ref C) f = some none
  ini : ∃ (fI : Addr) (fd : FuncData), PySem.W.findIn K (.ref C) "__init__" = some (some (.ref fI)) ∧ PySem.W.typeIn K (.ref fI) = some (.type "function") ∧
    FnOk P w K mg base CX0 1 fI fd ["self", f] (spInit C f) ∧ Binds K fd ["self", f] []
theorem init_ok {P : Program} {w : World} {K : PySem.W.Frag} {mg : Str → Option Value} {base : Heap} {C fI : Addr} {fd : FuncData} {st : Stmt} {f qual : Str} {p1 p2 p3 p4 : Pos} (F : Fun K "__init__" qual st fI fd) (S : FnScope ["self", f] ["self", f] (defScope st))
    (hb : defBody st = [.Assign [.Attribute (.Name "self" p1) f p2] (.Name f p3) p4]) (T : OexC K C) (hno : PySem.W.findIn K (.ref C) f = some none)
    (v0 : (defScope st).names.lookup ("self" : Str) = some .local) (v1 : (defScope st).names.lookup f = some .local)
    (d1 : (f == ("__debug__" : Str)) = false) (d2 : (f == ("__classdict__" : Str)) = false) : FnOk P w K mg base CX0 1 fI fd ["self", f] (spInit C f) := by
  refine F.ok (k := 0) S ?_ ?_
  · rintro vs H Q E ⟨a, v, rfl, _⟩
    rfl
  · rintro cdv A outer s H vs Q E hr ⟨a, v, rfl, ha, k⟩
    rw [hb]
    refine ⟨_, pss_one (ps_ost (pe_var (i := 0) rfl (.inl v0)) (pe_var (i := 1) rfl (.inl v1) d1 d2)), ?_⟩
    exact ⟨v, rfl, .ref a, rfl, a, C, rfl, T, hno, .inl ⟨ha, k⟩⟩

inductive NewX (H : Hp) (f : Str) (v : V) (K : Addr → Hp → Prop) : Prop where
  | mk (k : ∀ d H', Ex H H' → H d = none → H' d = some (.xd [(f, v)]) → K d H') : NewX H f v K
/-- raise X(e) -/
def bRaise (C : Addr) (f : Str) (W : WX) (te : TE) : TS := fun _ σ H => te σ H fun v H1 => NewX H1 f v fun d H' => W (.ref C) (some d) σ H'
section
variable {X : Cx} {x f : Str} {C : Addr} {W : WX} {p pos pos2 : Pos} {e : Expr} {te : TE}
theorem pmk_x (M : ExM X.prog X.w X.K X.mg X.base x C f) (hr : Room 2 X.A) (he : PE X e te) (hg : Gl X x := by rfl) (hdb : (x == ("__debug__" : Str)) = false := by decide)
    (hs : starEach [e] X.env = (false, eval e X.env) :: starEach [] X.env := by rfl) :
    L2N.PMk X (.Call (.Name x p) [e] [] pos) (fun σ H Q => te σ H fun v H1 => NewX H1 f v fun d H' => Q (.ref C) (some d) H') := by
  intro pins s σ H Q I h
  obtain ⟨T, _⟩ := id M.ex
  obtain ⟨nm, q, N, bs, bm, sn, sub, ab, col, dd, k0, k1, k2, k3, k5, hC, hbm⟩ := T.cls
  obtain ⟨fI, fd, iC, tI, ok, bi⟩ := M.ini
  have ha : PA X [e] (tCons (upE te) tNil) := pa_cons (PE.up he) pa_nil hs
  refine wpAny_Call_Name_kw (ld_glob I hg M.at_ (PySem.W.callWith_K (h₀ := X.base) I.ok.mod.kin T.kC
    (thn (ha.run pos pins s σ H (fun vs H1 => ∃ v, vs = [v] ∧ NewX H1 f v fun d H' => Q (.ref C) (some d) H') I ⟨_, h, fun v H1 z => ⟨v, rfl, z⟩⟩) ?_) hs rfl) hdb)
  intro us s1 ⟨vs, H1, I1, r1, v, ev, hq⟩
  subst ev
  refine ⟨I1.kIn, ?_⟩
  obtain ⟨u, rfl, ru⟩ := vals1 r1
  obtain ⟨hp, g, dr, tk, os⟩ := s1
  have a1 : hp.objs.size ≤ hp.objs.size + 1 := by omega
  have na : H1 (hp.objs.size + 1) = none := I1.hok.fresh a1
  -- the new object with its args
  let hp2 : Heap := (hp.push (PySem.W.kdv_tup [u])).push (PySem.HandSPX.excO C hp.objs.size)
  have keep2 : ∀ b o, hp.get? b = some o → hp2.get? b = some o := by
    intro b o z
    exact Heap.get?_push_of_some _ (Heap.get?_push_of_some _ z)
  have new2 : hp2.get? (hp.objs.size + 1) = some (PySem.HandSPX.excO C hp.objs.size) := by
    show ((hp.push _).push _).get? _ = _
    heap_get
  have I2 : Inv X pins σ (upd H1 (hp.objs.size + 1) (exo (hp.objs.size + 1) C none)) ⟨hp2, g, dr, tk, os⟩ :=
    I1.laid (t' := tk) keep2 a1 (exo_ok new2)
  have r2 : Vals [V.ref (hp.objs.size + 1), v] [Value.ref (hp.objs.size + 1), u] := .cons rfl (.cons ru .nil)
  have b2 := bi ⟨hp2, g, dr, tk, os⟩ [Value.ref (hp.objs.size + 1), u] I2.kIn rfl
  let goal : VK := fun v2 H2 => v2 = .non ∧ ∃ d, H2 = upd (upd (upd H1 (hp.objs.size + 1) (exo (hp.objs.size + 1) C none)) d (exd d [(f, v)])) (hp.objs.size + 1) (exo (hp.objs.size + 1) C (some d)) ∧
    upd H1 (hp.objs.size + 1) (exo (hp.objs.size + 1) C none) d = none ∧ d ≠ hp.objs.size + 1
  have hspec : spInit C f [V.ref (hp.objs.size + 1), v] (upd H1 (hp.objs.size + 1) (exo (hp.objs.size + 1) C none)) goal (fun _ _ _ => False) :=
    ⟨_, v, rfl, upd_same, fun dx n1 n2 => ⟨rfl, dx, rfl, n1, n2⟩⟩
  show wpAny _ _ (call (.ref C) [u]) _ _ _
  refine wpAny_call (PySem.HandSPX.call_own F.excBase_ValueError (fun Y => PySem.HandSPX.refsVE_contains Y bm hbm) (I1.kIn _ _ hC) (PySem.W.looks_findIn I1.kIn iC) (fun self => PySem.W.bind_fn I1.kIn self tI)
    (show [u].length ≤ sizeLine from lenA (n := 1) (xs := [v]) rfl (by decide) |> fun z => z) (codeAny_mono (ok.run _ X.stack _ _ ⟨[Value.ref (hp.objs.size + 1), u], []⟩ _ _ goal _ (hr.make C [u] []) (I2.env0.make C [u] []) b2 r2 hspec) ?_))
  intro r s' hq'
  cases r with
  | error er => exact False.elim hq'
  | ok fl =>
    cases fl <;> try exact False.elim hq'
    obtain ⟨v2, H2, os2, bare2, un2, hok2, rv, ev2, d, eH, nd, nda⟩ := hq'
    subst ev2
    have nd1 : H1 d = none := by
      rw [upd_ne nda] at nd
      exact nd
    have ea : H2 (hp.objs.size + 1) = some (exo (hp.objs.size + 1) C (some d)) := by rw [eH]; exact upd_same
    have ed : H2 d = some (exd d [(f, v)]) := by rw [eH, upd_ne nda]; exact upd_same
    obtain ⟨h2, g2, d2, t2, os'⟩ := s'
    obtain ⟨t0, G, J, kG, ge, hoe, naa⟩ := mk_end0 (d2 := d2) (t2 := t2) I1 a1 keep2 un2 hok2 os2 bare2 ea ed nd1
    refine ⟨rv, hp.objs.size + 1, _, _, ⟨G, g2, d2, t2, os'⟩, _, .ref C, some d, rfl, J, kG, ge, hoe, ⟨rfl, rfl, fun ws hw => ?_⟩, rfl, rfl, naa, rfl, bare2, raises_own T.exC T.tyC, ?_⟩
    · cases hw
      rfl
    · obtain ⟨k⟩ := hq
      refine k d _ (fun b o z => ?_) nd1 upd_same
      have hbd : b ≠ d := ne_of_none z nd1
      have hba : b ≠ hp.objs.size + 1 := ne_of_none z na
      rw [upd_ne hbd, del_ne hba, eH, upd_ne hba, upd_ne hbd, upd_ne hba]
      exact z
theorem bs_raise (M : ExM X.prog X.w X.K X.mg X.base x C f) (hr : Room 2 X.A) (hc : X.calm = true) (tk : L2N.Takes X W) (he : PE X e te) (hg : Gl X x := by rfl) (hdb : (x == ("__debug__" : Str)) = false := by decide)
    (hs : starEach [e] X.env = (false, eval e X.env) :: starEach [] X.env := by rfl) : PS X (.Raise (some (.Call (.Name x p) [e] [] pos)) none pos2) (bRaise C f W te) :=
  L2N.ps_raise hc tk (pmk_x M hr he hg hdb hs)
end

/-! ### the exception that is handled -/
/-- the context bears it, at a: an instance of the class at C, its dict d -/
structure HotX (X : Cx) (a : Addr) (cls : Value) (d : Option Addr) : Prop where
  pin : ∃ oe : Obj, (a, oe) ∈ X.pn ∧ L2N.Zn cls d oe ∧ ∃ vs : Array Value, oe.data = .fields vs
  hd : X.A.handled = some (.ref a)
theorem HotX.hot {X : Cx} {a : Addr} {cls : Value} {d : Option Addr} (h : HotX X a cls d) : L2H.HotC X := by
  obtain ⟨⟨oe, hm, z, vs, hv⟩, hh⟩ := h
  exact ⟨(a, oe), ⟨hh, vs, hv, z.2.2 vs hv⟩, hm⟩
/-- a def that is called where it is handled -/
structure FnXOk (P : Program) (w : World) (K : PySem.W.Frag) (mg : Str → Option Value) (base : Heap) (k : Nat) (f : Addr) (fd : FuncData) (ps : List Str) (sp : Addr → Value → Option Addr → Sp) : Prop where
  len : ∀ a cls d vs H Q E, sp a cls d vs H Q E → vs.length = ps.length
  run : ∀ (A : Around) (outer : List Env) (s : Shared) (H : Hp) (args : Args) (us : List Value) (vs : List V) (Q : VK) (E : XK) (p : Addr × Obj) (cls : Value) (d : Option Addr), L2H.RoomH k A → L2H.Hot1 A p → L2N.Zn cls d p.2 → L2H.PinOk outer H s p →
    Env0 P w K mg base A outer s H → BindsTo s fd args (ps.zip us) → Vals vs us → sp p.1 cls d vs H Q E → codeAny (model P w) A (.call (.ref f) args) (CR (L2N.CX P w) outer P w H s Q E) s
inductive FnX (P : Program) (w : World) (K : PySem.W.Frag) (mg : Str → Option Value) (base : Heap) (k : Nat) (x : Str) (ps : List Str) (sp : Addr → Value → Option Addr → Sp) : Prop where
  | mk (f : Addr) (fd : FuncData) (ok : FnXOk P w K mg base k f fd ps sp) (at_ : mg x = some (.ref f)) (kp : PySem.W.keepIn K (.ref f) = true) (bi : Binds K fd ps []) : FnX P w K mg base k x ps sp
theorem FnX.mono {P : Program} {w : World} {K : PySem.W.Frag} {mg : Str → Option Value} {base : Heap} {j k : Nat} {x : Str} {ps : List Str} {sp : Addr → Value → Option Addr → Sp} (h : FnX P w K mg base j x ps sp) (l : j ≤ k) : FnX P w K mg base k x ps sp := by
  obtain ⟨f, fd, ok, a, kp, bi⟩ := h
  exact ⟨f, fd, ⟨ok.len, fun A outer s H args us vs Q E p cls d hr => ok.run A outer s H args us vs Q E p cls d (hr.mono l)⟩, a, kp, bi⟩
abbrev cxX (P : Program) (w : World) (K : PySem.W.Frag) (mg : Str → Option Value) (base : Heap) (N : List Str) (qual : Str) (scope : Scope) (f : Addr) (cd : Value) (A : Around) (outer : List Env) (s : Shared) (H : Hp) (E : XK) (p : Addr × Obj) : Cx :=
  L2H.cxH (L2N.CX P w) P w K mg base N qual scope f cd A outer s H E p
section
variable {P : Program} {w : World} {K : PySem.W.Frag} {mg : Str → Option Value} {base : Heap}
theorem fnx_ok {x qual : Str} {st : Stmt} {f : Addr} {fd : FuncData} {N ps : List Str} {k : Nat} {sp : Addr → Value → Option Addr → Sp} {b : Addr → Value → Option Addr → TS} (F : Fun K x qual st f fd) (S : FnScope N ps (defScope st))
    (rd : ∀ a cls d vs H Q E, sp a cls d vs H Q E → vs.length = ps.length ∧ b a cls d (dE Q) (start N vs) H)
    (dv : ∀ (cdv : Value) (A : Around) (outer : List Env) (s : Shared) (H : Hp) (E : XK) (p : Addr × Obj) (cls : Value) (d : Option Addr), L2H.RoomH k (A.deeper (envOfC qual (defScope st) s.heap.objs.size f cdv)) →
      HotX (cxX P w K mg base N qual (defScope st) f cdv A outer s H E p) p.1 cls d → PSs (cxX P w K mg base N qual (defScope st) f cdv A outer s H E p) (defBody st) (b p.1 cls d)) : FnXOk P w K mg base (k + 1) f fd ps sp := by
  obtain ⟨oc, od, kV, doc, pm, an, cdv, ct, osl, rfl, lk, hcd⟩ := F.ex
  refine ⟨fun a cls d vs H Q E h => (rd a cls d vs H Q E h).1, ?_⟩
  intro A outer s H args us vs Q E p cls d hr hot hz hpin e0 hb r hsp
  have hl := (rd _ _ _ vs H Q E hsp).1
  have KX : K.In s.heap := e0.mod.kin.keeps (fun _ _ z => (e0.bs _ _ z).1)
  have lim : s.heap.NoLimit := e0.mod.nolimit.keeps (fun _ _ z => (e0.bs _ _ z).1)
  refine codeAny_call_function hr.depth (KX _ _ lk) rfl S.co S.gen rfl (PySem.W.codeRec_of KX hcd) (hb _ _ _ _ (wpAny_newFunctionEnv_cells S.kind ?_ ?_))
  · rintro ⟨n, v⟩ hy
    rcases S.par n (List.of_mem_zip hy).1 with z | z
    · exact .inl z
    · exact .inr ⟨z, PySem.W.cellsFrom_some _ _ _ (.inl z)⟩
  · intro env he s1 x1
    subst he
    have I := L2H.inv_startH (CX := L2N.CX P w) (E := E) S hpin e0 hl r x1
    have hx : HotX (cxX P w K mg base N qual (defScope st) f cdv A outer s H E p) p.1 cls d := ⟨⟨p.2, List.mem_singleton.mpr rfl, hz, hot.2.imp fun _ z => z.1⟩, hot.1⟩
    have body := (dv cdv A outer s H E p cls d (hr.deeper _) hx).run [] s1 (start N vs) H (dE Q) I (rd _ _ _ vs H Q E hsp).2
    refine ⟨lim.keeps x1.toInCall.keep, codeAny_func (wpAny_mono body ?_ fun _ _ z => z)⟩
    intro fl s' hs
    cases fl
    · obtain ⟨σ', H', J, q⟩ := hs
      exact ⟨V.non, H', J.os, J.bare, J.base, J.hok, rfl, q⟩
    · obtain ⟨_, _, _, q⟩ := hs
      exact False.elim q
    · obtain ⟨_, _, _, q⟩ := hs
      exact False.elim q
    · obtain ⟨v, σ', H', J, rv, q⟩ := hs
      exact ⟨v, H', J.os, J.bare, J.base, J.hok, rv, q⟩
end
section
variable {X : Cx} {k : Nat} {x n : Str} {ps : List Str} {sp : Addr → Value → Option Addr → Sp} {sp0 : Sp} {W : WX} {p p2 p3 pos : Pos} {e o : Expr} {es : List Expr} {te : TE} {t : TA} {a C : Addr} {cls : Value} {d : Option Addr}
theorem be_callX (F : FnX X.prog X.w X.K X.mg X.base k x ps sp) (hr : L2H.RoomH k X.A) (hx : HotX X a cls d) (tk : L2N.Takes X W) (ha : PAn X (e :: es) t) (hg : Gl X x := by rfl) (hdb : (x == ("__debug__" : Str)) = false := by decide)
    (he : starEach (e :: es) X.env = (false, eval e X.env) :: starEach es X.env := by rfl) (hpl : (backTo pos (starEach es X.env)).any (·.1) = false := by rfl) : PE X (.Call (.Name x p) (e :: es) [] pos) (bCall (sp a cls d) W t) := by
  obtain ⟨f, fd, ok, at_, kp, bi⟩ := F
  constructor
  intro pins s σ H Q I h
  refine wpAny_Call_Name_kw (ld_glob I hg at_ (PySem.W.callWith_K (h₀ := X.base) I.ok.mod.kin kp (thn (ha.pa.run pos pins s σ H _ I h) ?_) he hpl) hdb)
  intro us s1 ⟨vs, H1, I1, r, q⟩
  refine ⟨I1.kIn, ?_⟩
  have hl : us.length = ps.length := by rw [← r.length]; exact ok.len _ _ _ _ _ _ _ q
  have b2 := bi s1 us I1.kIn (by simpa using hl)
  rw [List.append_nil] at b2
  obtain ⟨⟨oe, hm, hz, ws, hws⟩, hh⟩ := hx
  have P1 := I1.pin (a, oe) (List.mem_append_left _ hm)
  have pk : L2H.PinOk X.stack H1 s1 (a, oe) := by
    refine ⟨P1.1, P1.2.1, fun z => ?_, P1.2.2.2.2⟩
    rcases List.mem_cons.mp (I1.stkSub a z) with y | y
    · exact P1.2.2.1 y
    · exact P1.2.2.2.1 y
  refine wpAny_call (codeAny_mono (ok.run X.A X.stack s1 H1 ⟨us, []⟩ us vs Q _ (a, oe) cls d hr ⟨hh, ws, hws, hz.2.2 ws hws⟩ hz pk I1.env0 b2 r q) ?_)
  intro r s' hq
  cases r with
  | error e => exact L2N.passAt tk σ pins H1 s1 e s' I1 hq
  | ok fl => cases fl <;> first
    | exact I1.after hq
    | exact False.elim hq
/-- isinstance(e, X), e the exception that is handled, X an own class or a built-in one -/
def bIsX (K : PySem.W.Frag) (a : Addr) (cls : Value) (c : Value) (te : TE) : TE := fun σ H Q => te σ H fun x H1 => x = .ref a ∧ (∃ D, cls = .ref D ∧ ExK K D) ∧ (∀ dd, d = some dd → ∃ fs, H1 dd = some (.xd fs)) ∧ ∃ b, PySem.W.kitOne K cls c = some b ∧ Q (.bl b) H1
theorem inst_at {pins : List (Addr × Obj)} {σ : Sg} {H : Hp} {s : Shared} {D : Addr} (hx : HotX X a (.ref D) d) (I : Inv X pins σ H s) (hd : ∀ dd, d = some dd → ∃ fs, H dd = some (.xd fs)) : ∃ oe od, PySem.W.InstAt s.heap a oe D od ∧ (∀ dd fs, d = some dd → H dd = some (.xd fs) → ∃ (o : Obj) (m : Str → Option Value), od = some o ∧ (∀ name, PySem.W.lookIn name o = some (m name)) ∧ ∀ f, RelO (fs.lookup f) (m f)) := by
  obtain ⟨⟨oe, hm, hz, ws, hws⟩, hh⟩ := hx
  have P1 := I.pin (a, oe) (List.mem_append_left _ hm)
  have nc : PySem.W.notCls oe = true := by unfold PySem.W.notCls; rw [hws] <;> rfl
  cases d with
  | none => exact ⟨oe, none, ⟨P1.1, hz.1, nc, by rw [hz.2.1]; trivial⟩, fun _ _ z => nomatch z⟩
  | some dd =>
    obtain ⟨fs, hf⟩ := hd dd rfl
    obtain ⟨m, hn, hr⟩ := (show ObjOk X.prog X.w H s.heap dd (.xd fs) from I.hok dd _ hf)
    obtain ⟨o, ho, hl⟩ := lookIn_ns hn
    refine ⟨oe, some o, ⟨P1.1, hz.1, nc, by rw [hz.2.1]; exact ho⟩, fun d2 fs2 e1 e2 => ?_⟩
    cases e1
    rw [hf] at e2
    cases e2
    exact ⟨o, m, rfl, hl, hr⟩
theorem be_isX {c : Value} {v : V} (hx : HotX X a cls d) (hm : X.mg "isinstance" = none) (he : PE X e te) (ho : PE X o (tC v)) (hv : ∀ u, RelV v u → u = c) (hg : Gl X "isinstance" := by rfl)
    (h1 : starEach [e, o] X.env = (false, eval e X.env) :: starEach [o] X.env := by rfl) (h2 : starEach [o] X.env = (false, eval o X.env) :: starEach [] X.env := by rfl)
    (hpl : (backTo pos (starEach [o] X.env)).any (·.1) = false := by rfl) : PE X (.Call (.Name "isinstance" p) [e, o] [] pos) (bIsX (d := d) X.K a cls c te) := by
  have cr : CallR X (.builtin "isinstance") (fun xs H Q => xs = [.ref a, v] ∧ (∃ D, cls = .ref D ∧ ExK X.K D) ∧ (∀ dd, d = some dd → ∃ fs, H dd = some (.xd fs)) ∧ ∃ b, PySem.W.kitOne X.K cls c = some b ∧ Q (.bl b) H) := by
    intro pins s σ H xs us Q I r ⟨ex, ⟨D, eD, T⟩, hd, b, hb, q⟩
    subst ex
    subst eD
    obtain ⟨u1, u2, rfl, r1, r2⟩ := vals2 r
    obtain rfl : u1 = Value.ref a := r1
    have e2 := hv u2 r2
    subst e2
    obtain ⟨oe, od, J, _⟩ := inst_at hx I hd
    have hcl : (PySem.W.clsIn X.K D).isSome = true := by
      obtain ⟨cd, hc, _⟩ := PySem.W.any_some T.hd
      rw [hc]; rfl
    exact PySem.W.kia_one (PySem.W.kitx_exc hcl T.ga T.gg T.oex.exC T.ca T.cn T.ct T.cm) I.kIn J hb (fun z => nomatch z) fun tk => ⟨.bl b, H, I.kept (t' := tk) fun _ _ z => z, rfl, q⟩
  refine PE.imp (pe_callB cr hg hm (by decide +kernel) (pa_cons (PE.up he) (pa_cons ho pa_nil h2) h1) (he := h1) (hpl := hpl)) fun σ H Q q => ⟨_, q, ?_⟩
  rintro x H' ⟨ex, z⟩
  subst ex
  exact ⟨rfl, z⟩
/-- e.f, e the exception that is handled -/
def bAtX (K : PySem.W.Frag) (a : Addr) (cls : Value) (d : Option Addr) (f : Str) (te : TE) : TE := fun σ H Q => te σ H fun x H1 => x = .ref a ∧ ∃ (D dd : Addr) (fs : List (Str × V)) (v : V), cls = .ref D ∧ ExK K D ∧ PySem.W.findIn K (.ref D) f = some none ∧ d = some dd ∧ H1 dd = some (.xd fs) ∧ fs.lookup f = some v ∧ Q v H1
theorem be_atX (hx : HotX X a cls d) (he : PE X e te) (hb : attributeBase e n X.env (eval e X.env) = eval e X.env := by rfl) : PE X (.Attribute e n pos) (bAtX X.K a cls d n te) := by
  constructor
  intro pins s σ H Q I h
  refine attr_of hb (thn (he.run pins s σ H _ I h) ?_)
  intro u s1 ⟨x, H1, I1, rx, ex, D, dd, fs, v, ec, T, hno, ed, hf, hl, q⟩
  subst ex
  obtain rfl : u = Value.ref a := rx
  subst ec
  subst ed
  obtain ⟨oe, od, J, hod⟩ := inst_at hx I1 (fun d2 z => by cases z; exact ⟨fs, hf⟩)
  obtain ⟨o, m, rfl, h3, h4⟩ := hod dd fs rfl hf
  obtain ⟨u2, hu, ru⟩ := RelO.some_of (v := v) (o := m n) (by rw [← hl]; exact h4 n)
  exact HandSPX.exc_get I1.kIn J T.ga T.gg T.oex.exC (PySem.W.findObj_own T.hd hno rfl (by rw [h3, hu])) (handed_of ru) ⟨v, H1, I1.tok _, ru, q⟩
end
theorem takesF {X : Cx} : L2N.Takes X (fun _ _ _ _ => False) := fun _ _ x => by
  obtain ⟨_, _, _, _, _, _, _, _, _, _, _, _, _, _, _, _, z⟩ := x
  exact z.elim
/-- try: .. except x as n: .. -/
def bTry (K : PySem.W.Frag) (c : Value) (i : Nat) (tb : WX → TS) (ts : Addr → Value → Option Addr → TS) (Wout : WX) : TS := fun D σ H => tb (wAs K c i ts Wout D) D σ H
section
variable {X : Cx} {x n : Str} {c : Value} {i : Nat} {body suite : List Stmt} {b₀ : Stmt} {np pos pos' : Pos} {tb : WX → TS} {ts : Addr → Value → Option Addr → TS} {Wout : WX}
theorem bs_try (hs : X.stack = X.env :: X.outer) (hf : X.env.frame = some X.env.locals) (hN : X.N.Nodup) (hi : X.N[i]? = some n) (hln : X.env.kindOf n = some .local) (hc : Names X x c) (tk : L2N.Takes X Wout)
    (hb : ∀ (W : WX) (pn : List (Addr × Obj)) (xe : Value → Shared → Prop), L2N.Takes (X.tr pn xe) W → PassesOwn (model X.prog X.w) X.A X.env xe → PSs (X.tr pn xe) body (tb W))
    (hsu : ∀ (a : Addr) (oe : Obj) (cls : Value) (d : Option Addr) (pn : List (Addr × Obj)), HotX (X.suite a ((a, oe) :: pn)) a cls d → PSs (X.suite a ((a, oe) :: pn)) (b₀ :: suite) (ts a cls d)) :
    PS X (.Try body [.ExceptHandler (some (.Name x np)) (some n) (b₀ :: suite) pos'] [] [] pos) (bTry X.K c i tb ts Wout) :=
  L2N.ps_try_as hs hf hN hi hln hc tk hb fun a oe cls d pn hz hv => hsu a oe cls d pn ⟨⟨oe, List.mem_cons_self, hz, hv⟩, rfl⟩
end
/-- where the classes of the program stand -/
structure Ad where
  K : PySem.W.Frag
  ShadeError : Addr
  WrongKind : Addr
  WrongSize : Addr
  OutOfRange : Addr
  BadText : Addr
  NotATable : Addr
  Spent : Addr
  TooFewPlaces : Addr
  WrongPaper : Addr
  UnknownName : Addr
  NameTaken : Addr
  NothingToUndo : Addr
  BookFull : Addr
theorem Ex.app {H H' : Hp} {a : Addr} {o : HO} (x : Ex H H') (h : H a = some o) : H' a = some o := x a o h
theorem ExB.app {l : Addr} {H H' : Hp} {a : Addr} {o : HO} (x : ExB l H H') (n : a ≠ l) (h : H a = some o) : H' a = some o := x a o n h
theorem ne_new {H : Hp} {a b : Addr} {o : HO} (h : H a = some o) (n : H b = none) : a ≠ b := ne_of_none h n
/-- the law's store of drawn numbers, at st -/
structure Sto where
  a : Addr
  sl : Addr
instance : Coe Sto Addr := ⟨Sto.a⟩
def Store (H : Hp) (st : Sto) : Prop := ∃ (ns : List Int) (i c m t : Int), H st.a = some (.lst [.ref st.sl, .int i, .int c, .int m, .int t]) ∧ H st.sl = some (.lst (ns.map .int)) ∧ 0 ≤ i ∧ 0 ≤ c
/-- a size that // and range bear -/
def Sz (n : Int) : Prop := n.natAbs.log2 < 9000
theorem Sz.of {n : Int} (k : Nat) (h : n.natAbs < 2 ^ k) (h0 : 0 < k) (h9 : k ≤ 9000) : Sz n := Nat.lt_of_lt_of_le (PySem.Flt.log2_lt_of h0 h) h9
theorem Sz.small {n : Int} (h : n.natAbs < 18446744073709551616) : Sz n := Sz.of 64 h (by decide) (by decide)
theorem mulL {i j : Int} (h1 : -18446744073709551616 < i) (h2 : i < 18446744073709551616) : CMulA i j := .inl (.inl ⟨by omega, by omega⟩)
theorem mulR {i j : Int} (h1 : -18446744073709551616 < j) (h2 : j < 18446744073709551616) : CMulA i j := .inl (.inr ⟨by omega, by omega⟩)
theorem divS {i j : Int} (h : j ≠ 0) (s : Sz j) : CDivX i j := ⟨h, s⟩
theorem atI_at {α : Type} {xs : List α} {i : Int} {v : α} (h0 : 0 ≤ i) (h : xs[i.toNat]? = some v) : atI xs i = some v := by
  have e : ((i.toNat : Nat) : Int) = i := by omega
  rw [← e]
  exact atI_nat h
theorem atI_of {α : Type} {xs : List α} {i : Int} (h0 : 0 ≤ i) (h1 : i < xs.length) : atI xs i = some (xs[i.toNat]'(by omega)) := atI_at h0 (List.getElem?_eq_getElem _)
theorem atI_ints {ns : List Int} {i : Int} (h0 : 0 ≤ i) (h1 : i < (ns.map V.int).length) : ∃ n, atI (ns.map V.int) i = some (.int n) := by
  refine ⟨ns[i.toNat]'(by simp at h1; omega), ?_⟩
  rw [atI_of h0 h1, List.getElem_map]
theorem fdiv_nn {a b : Int} (h : 0 ≤ a) (hb : 0 < b) : 0 ≤ a.fdiv b := by
  rw [Int.fdiv_eq_ediv_of_nonneg a (by omega)]
  exact Int.ediv_nonneg h (by omega)
theorem map_get {ns : List Int} {i : Nat} {x : V} (h : (ns.map V.int)[i]? = some x) : ∃ n, x = .int n ∧ ns[i]? = some n := by
  rw [List.getElem?_map] at h
  cases e : ns[i]? with
  | none => rw [e] at h; cases h
  | some n => rw [e] at h; exact ⟨n, (Option.some.inj h).symm, rfl⟩
theorem bits_sz {m : Int} (h : Sz m) : Builtin.Int.intBits m < 9001 := by
  have h : m.natAbs.log2 < 9000 := h
  unfold Builtin.Int.intBits
  split <;> omega
theorem toNat_inj {a b : Char} (h : a.toNat = b.toNat) : a = b := by
  have : a.val = b.val := UInt32.toNat_inj.mp h
  exact Char.ext this
theorem map_nat_inj : ∀ {a b : List Char}, a.map Char.toNat = b.map Char.toNat → a = b
  | [], [], _ => rfl
  | [], _ :: _, h => by simp at h
  | _ :: _, [], h => by simp at h
  | x :: a, y :: b, h => by
    rw [List.map_cons, List.map_cons] at h
    obtain ⟨h1, h2⟩ := List.cons.inj h
    rw [toNat_inj h1, map_nat_inj h2]
theorem ofs_inj (a b : String) : (Str.ofString a = Str.ofString b) = (a = b) := by
  apply propext
  constructor
  · intro h
    rw [PySem.Str.ofString_eq_toList, PySem.Str.ofString_eq_toList] at h
    have h1 : (a.toList.map Char.toNat) = (b.toList.map Char.toNat) := by
      have := congrArg (fun s : Str => s.cps.toList) h
      simpa using this
    exact String.ext (map_nat_inj h1)
  · intro h
    rw [h]
example : ¬ ((("WrongKind" : Str) = ("" : Str))) := by
  simp only [ofs_inj, String.reduceEq, reduceCtorEq, not_false_eq_true]
theorem mulZ {i j : Int} (h1 : Sz i) (h2 : Sz j) : CMulA i j := by
  have a := bits_sz h1
  have b := bits_sz h2
  refine .inr ?_
  unfold CMulX
  omega
theorem new_ne {H : Hp} {m p : Addr} (h : H m ≠ none) (n : H p = none) : p ≠ m := fun z => h (z ▸ n)
/-! ### data at any depth -/
inductive Dt where
  | non | bl (b : Bool) | int (i : Int) | str (x : Str) | lst (ds : List Dt) | tup (ds : List Dt) | dct
mutual
/-- v is the data d in the heap H, apart from what stands at m -/
inductive At (m : Addr) (H : Hp) : Dt → V → Prop where
  | non : At m H .non .non
  | bl (b : Bool) : At m H (.bl b) (.bl b)
  | int (i : Int) : At m H (.int i) (.int i)
  | str (x : Str) : At m H (.str x) (.str x)
  | dct {p : Addr} (n : p ≠ m) (hp : H p = some (.dK [])) : At m H .dct (.ref p)
  | lst {ds : List Dt} {xs : List V} {p : Addr} (n : p ≠ m) (hp : H p = some (.lst xs)) (l : AtL m H ds xs) : At m H (.lst ds) (.ref p)
  | tup {ds : List Dt} {xs : List V} {p : Addr} (n : p ≠ m) (hp : H p = some (.tup xs)) (l : AtL m H ds xs) : At m H (.tup ds) (.ref p)
inductive AtL (m : Addr) (H : Hp) : List Dt → List V → Prop where
  | nil : AtL m H [] []
  | cons {d : Dt} {x : V} {ds : List Dt} {xs : List V} (h : At m H d x) (l : AtL m H ds xs) : AtL m H (d :: ds) (x :: xs)
end
mutual
theorem At.monoB {m : Addr} {H H' : Hp} (e : ExB m H H') : ∀ {d : Dt} {v : V}, At m H d v → At m H' d v
  | _, _, .non => .non
  | _, _, .bl b => .bl b
  | _, _, .int i => .int i
  | _, _, .str x => .str x
  | _, _, .dct n hp => .dct n (e _ _ n hp)
  | _, _, .lst n hp l => .lst n (e _ _ n hp) (AtL.monoB e l)
  | _, _, .tup n hp l => .tup n (e _ _ n hp) (AtL.monoB e l)
theorem AtL.monoB {m : Addr} {H H' : Hp} (e : ExB m H H') : ∀ {ds : List Dt} {xs : List V}, AtL m H ds xs → AtL m H' ds xs
  | _, _, .nil => .nil
  | _, _, .cons h l => .cons (At.monoB e h) (AtL.monoB e l)
end
theorem At.mono {m : Addr} {H H' : Hp} {d : Dt} {v : V} (e : Ex H H') (h : At m H d v) : At m H' d v := h.monoB (e.but m)
theorem AtL.mono {m : Addr} {H H' : Hp} {ds : List Dt} {xs : List V} (e : Ex H H') (h : AtL m H ds xs) : AtL m H' ds xs := h.monoB (e.but m)
section
variable {m : Addr} {H H' : Hp} {v x : V} {d : Dt} {ds es : List Dt} {xs ys : List V} {p : Addr}
theorem at_tup (n : p ≠ m) (h : H p = some (.tup xs)) (l : AtL m H ds xs) : At m H (.tup ds) (.ref p) := .tup n h l
theorem at_lst (n : p ≠ m) (h : H p = some (.lst xs)) (l : AtL m H ds xs) : At m H (.lst ds) (.ref p) := .lst n h l
theorem at_non_inv (h : At m H .non v) : v = .non := by cases h; rfl
theorem at_bl_inv {b : Bool} (h : At m H (.bl b) v) : v = .bl b := by cases h; rfl
theorem at_int_inv {i : Int} (h : At m H (.int i) v) : v = .int i := by cases h; rfl
theorem at_str_inv {s : Str} (h : At m H (.str s) v) : v = .str s := by cases h; rfl
theorem at_dct_inv (h : At m H .dct v) : ∃ p, v = .ref p ∧ p ≠ m ∧ H p = some (.dK []) := by cases h with | dct n hp => exact ⟨_, rfl, n, hp⟩
theorem at_lst_inv (h : At m H (.lst ds) v) : ∃ p xs, v = .ref p ∧ p ≠ m ∧ H p = some (.lst xs) ∧ AtL m H ds xs := by cases h with | lst n hp l => exact ⟨_, _, rfl, n, hp, l⟩
theorem at_tup_inv (h : At m H (.tup ds) v) : ∃ p xs, v = .ref p ∧ p ≠ m ∧ H p = some (.tup xs) ∧ AtL m H ds xs := by cases h with | tup n hp l => exact ⟨_, _, rfl, n, hp, l⟩
theorem atl_nil_inv (h : AtL m H [] xs) : xs = [] := by cases h; rfl
theorem atl_cons_inv (h : AtL m H (d :: ds) xs) : ∃ x r, xs = x :: r ∧ At m H d x ∧ AtL m H ds r := by cases h with | cons h l => exact ⟨_, _, rfl, h, l⟩
theorem atl_nil : AtL m H [] [] := .nil
theorem atl_cons (h : At m H d x) (l : AtL m H ds xs) : AtL m H (d :: ds) (x :: xs) := .cons h l
theorem AtL.len : ∀ {ds : List Dt} {xs : List V}, AtL m H ds xs → xs.length = ds.length
  | [], _, h => by rw [atl_nil_inv h]; rfl
  | _ :: _, _, h => by
    obtain ⟨x, r, rfl, _, l⟩ := atl_cons_inv h
    rw [List.length_cons, List.length_cons, AtL.len l]
theorem AtL.get : ∀ {ds : List Dt} {xs : List V} {i : Nat} {x : V}, AtL m H ds xs → xs[i]? = some x → ∃ d, ds[i]? = some d ∧ At m H d x
  | [], _, i, _, h, e => by rw [atl_nil_inv h] at e; simp at e
  | d :: ds, _, 0, _, h, e => by
    obtain ⟨y, r, rfl, hy, _⟩ := atl_cons_inv h
    simp at e; subst e
    exact ⟨d, rfl, hy⟩
  | d :: ds, _, i + 1, _, h, e => by
    obtain ⟨y, r, rfl, _, l⟩ := atl_cons_inv h
    obtain ⟨d', e1, e2⟩ := AtL.get (i := i) l (by simpa using e)
    exact ⟨d', by simpa using e1, e2⟩
theorem AtL.at (l : AtL m H ds xs) {i : Nat} {d : Dt} (h : ds[i]? = some d) : ∃ x, xs[i]? = some x ∧ At m H d x := by
  have hl := l.len
  have hi : i < xs.length := by rw [hl]; exact (List.getElem?_eq_some_iff.mp h).1
  obtain ⟨d', e1, e2⟩ := l.get (List.getElem?_eq_getElem hi)
  rw [h] at e1
  cases e1
  exact ⟨_, List.getElem?_eq_getElem hi, e2⟩
/-- an index that lies in it -/
theorem AtL.ati (l : AtL m H ds xs) {i : Int} (h0 : 0 ≤ i) (h1 : i < ds.length) : ∃ x d, atI xs i = some x ∧ ds[i.toNat]? = some d ∧ At m H d x := by
  have e : ds[i.toNat]? = some (ds[i.toNat]'(by omega)) := List.getElem?_eq_getElem _
  obtain ⟨x, hx, a⟩ := l.at e
  exact ⟨x, _, atI_at h0 hx, e, a⟩
theorem AtL.append : ∀ {ds : List Dt} {xs : List V}, AtL m H ds xs → AtL m H es ys → AtL m H (ds ++ es) (xs ++ ys)
  | [], _, h, k => by rw [atl_nil_inv h]; exact k
  | _ :: _, _, h, k => by
    obtain ⟨y, r, rfl, hy, l⟩ := atl_cons_inv h
    exact atl_cons hy (AtL.append l k)
theorem AtL.rev : ∀ {ds : List Dt} {xs : List V}, AtL m H ds xs → AtL m H ds.reverse xs.reverse
  | [], _, h => by rw [atl_nil_inv h]; exact atl_nil
  | _ :: _, _, h => by
    obtain ⟨y, r, rfl, hy, l⟩ := atl_cons_inv h
    rw [List.reverse_cons, List.reverse_cons]
    exact (AtL.rev l).append (atl_cons hy atl_nil)
theorem atl_ints : ∀ {ns : List Int}, AtL m H (ns.map Dt.int) (ns.map V.int)
  | [] => atl_nil
  | _ :: _ => atl_cons (.int _) atl_ints
end
/-- a list's first item is no container -/
def Dt.hs : List Dt → Prop
  | .non :: _ => True
  | .bl _ :: _ => True
  | .int _ :: _ => True
  | .str _ :: _ => True
  | _ => False
/-! ### sizes of the ints within -/
mutual
def Dt.sm (k : Nat) : Dt → Prop
  | .int i => i.natAbs < 2 ^ k
  | .lst ds => Dt.sms k ds ∧ Dt.hs ds
  | .tup ds => Dt.sms k ds
  | _ => True
def Dt.sms (k : Nat) : List Dt → Prop
  | [] => True
  | d :: ds => d.sm k ∧ Dt.sms k ds
end
theorem sm_lt {a j k : Nat} (h : a < 2 ^ j) (l : j ≤ k) : a < 2 ^ k := Nat.lt_of_lt_of_le h (Nat.pow_le_pow_right (by decide) l)
mutual
theorem Dt.sm_mono {j k : Nat} (l : j ≤ k) : ∀ {d : Dt}, d.sm j → d.sm k
  | .non, _ => by rw [Dt.sm] <;> simp
  | .bl _, _ => by rw [Dt.sm] <;> simp
  | .int _, h => by rw [Dt.sm] at h ⊢; exact sm_lt h l
  | .str _, _ => by rw [Dt.sm] <;> simp
  | .dct, _ => by rw [Dt.sm] <;> simp
  | .lst _, h => by rw [Dt.sm] at h ⊢; exact ⟨Dt.sms_mono l h.1, h.2⟩
  | .tup _, h => by rw [Dt.sm] at h ⊢; exact Dt.sms_mono l h
theorem Dt.sms_mono {j k : Nat} (l : j ≤ k) : ∀ {ds : List Dt}, Dt.sms j ds → Dt.sms k ds
  | [], _ => by rw [Dt.sms]; trivial
  | _ :: _, h => by rw [Dt.sms] at h ⊢; exact ⟨Dt.sm_mono l h.1, Dt.sms_mono l h.2⟩
end
theorem sms_get {k : Nat} : ∀ {ds : List Dt} {i : Nat} {d : Dt}, Dt.sms k ds → ds[i]? = some d → d.sm k
  | [], i, d, _, e => by simp at e
  | x :: ds, 0, d, h, e => by simp at e; subst e; rw [Dt.sms] at h; exact h.1
  | x :: ds, i + 1, d, h, e => by rw [Dt.sms] at h; exact sms_get h.2 (by simpa using e)

/-! ### depth -/
def Dt.okN : Nat → Dt → Prop
  | 0, _ => False
  | n + 1, .tup ds => ds.length < 100000 ∧ ∀ d ∈ ds, Dt.okN n d
  | n + 1, .lst ds => ds.length < 100000 ∧ ∀ d ∈ ds, Dt.okN n d
  | _ + 1, _ => True
theorem okN_succ : ∀ {n : Nat} {d : Dt}, d.okN n → d.okN (n + 1)
  | 0, _, h => h.elim
  | n + 1, .tup ds, h => ⟨h.1, fun d hd => okN_succ (h.2 d hd)⟩
  | n + 1, .lst ds, h => ⟨h.1, fun d hd => okN_succ (h.2 d hd)⟩
  | n + 1, .non, _ => trivial
  | n + 1, .bl _, _ => trivial
  | n + 1, .int _, _ => trivial
  | n + 1, .str _, _ => trivial
  | n + 1, .dct, _ => trivial
/-- small, and of little depth -/
def Dt.fit (d : Dt) : Prop := d.sm 140 ∧ d.okN 4
/-! ### an expression that makes data, leaving all that is tracked -/
def Dv (m : Addr) (te : TE) (σ : Sg) (H : Hp) (d : Dt) : Prop := ∀ H1, Ex H H1 → ∀ Q : VK, (∀ v H2, Ex H1 H2 → At m H2 d v → Q v H2) → te σ H1 Q
def DvA (m : Addr) (ta : TA) (σ : Sg) (H : Hp) (ds : List Dt) : Prop := ∀ H1, Ex H H1 → ∀ Q : List V → Hp → Prop, (∀ vs H2, Ex H1 H2 → AtL m H2 ds vs → Q vs H2) → ta σ H1 Q
section
variable {m : Addr} {σ : Sg} {H : Hp} {te : TE} {ta : TA} {d : Dt} {ds : List Dt} {v : V}
theorem dx_c (h : ∀ H, At m H d v) : Dv m (tC v) σ H d := fun H1 _ Q k => k v H1 (Ex.refl _) (h H1)
theorem dx_int (i : Int) : Dv m (tC (.int i)) σ H (.int i) := dx_c fun _ => .int i
theorem dx_str (s : Str) : Dv m (tC (.str s)) σ H (.str s) := dx_c fun _ => .str s
theorem dx_bl (b : Bool) : Dv m (tC (.bl b)) σ H (.bl b) := dx_c fun _ => .bl b
theorem dx_non : Dv m (tC .non) σ H .non := dx_c fun _ => .non
theorem dx_neg (i : Int) : Dv m (tUn bNeg (tC (.int i))) σ H (.int (-i)) := fun H1 _ Q k => k _ H1 (Ex.refl _) (.int _)
theorem dx_var {i : Nat} (e : σ[i]? = some (some v)) (h : At m H d v) : Dv m (bVar i) σ H d := fun H1 x Q k => by
  unfold bVar
  rw [e]
  exact k v H1 (Ex.refl _) (h.mono x)
theorem dxa_nil : DvA m tNil σ H [] := fun H1 _ Q k => k [] H1 (Ex.refl _) atl_nil
theorem dxa_cons (h : Dv m te σ H d) (l : DvA m ta σ H ds) : DvA m (tCons te ta) σ H (d :: ds) := fun H1 x Q k =>
  h H1 x _ fun v H2 x2 a => l H2 (x.trans x2) _ fun vs H3 x3 al => k _ H3 (x2.trans x3) (atl_cons (a.mono x3) al)
theorem dx_tup (hm : H m ≠ none) (l : DvA m ta σ H ds) : Dv m (bTup ta) σ H (.tup ds) := fun H1 x Q k =>
  l H1 x _ fun vs H2 x2 al => Alloc.mk fun p H3 x3 n hp => k _ H3 (x2.trans x3) (at_tup (fun z => hm ((x.trans x2).fresh (z ▸ n))) hp (al.mono x3))
theorem dx_lst (hm : H m ≠ none) (l : DvA m ta σ H ds) : Dv m (bLst ta) σ H (.lst ds) := fun H1 x Q k =>
  l H1 x _ fun vs H2 x2 al => Alloc.mk fun p H3 x3 n hp => k _ H3 (x2.trans x3) (at_lst (fun z => hm ((x.trans x2).fresh (z ▸ n))) hp (al.mono x3))
theorem dx_dct (hm : H m ≠ none) : Dv m bDct0 σ H .dct := fun H1 x Q k =>
  Alloc.mk fun p H3 x3 n hp => k _ H3 x3 (.dct (fun z => hm (x.fresh (z ▸ n))) hp)
theorem Dv.run {Q : VK} (h : Dv m te σ H d) (k : ∀ v H2, Ex H H2 → At m H2 d v → Q v H2) : te σ H Q := h H (Ex.refl _) Q k
end
/-! ### list(reversed(a list)) -/
def Mt : Obj := { cls := .type "list", data := .seq #[] }
section
variable {pg : Program} {wd : World} {B : Around} {EE : Value → Shared → Prop} {t : Shared}
theorem init_lrev {Rf : Result → Shared → Prop} {j c S : Addr} {ar : Array Value} (nh : B.handled = none) (nS1 : S ≠ j) (nS2 : S ≠ c) (ncj : c ≠ j)
    (gi : t.heap.IsRevIter j c ((ar.size : Int) - 1)) (gl : t.heap.IsList c ar) (gS : t.heap.get? S = some Mt) (sz : ar.size ≤ sizeLine)
    (fin : ∀ h2 k2 out n2, (∀ b o, b ≠ S → b ≠ j → t.heap.get? b = some o → h2.get? b = some o) → h2.get? S = some { cls := .type "list", dict := none, data := .seq out n2, slots := #[] } → ItemsOf (fun i v => ar[ar.size - 1 - i]? = some v) out ar.size → Rf (.ok (.ret .none)) { t with heap := h2, toks := k2 }) :
    wpAny (model pg wd) B.in1 (Builtin.«list.__init__» ⟨[.ref S, .ref j], []⟩)
      (fun z t2 => match z with | .done f => Rf (.ok f) t2 | .again d => d.quiet = true ∧ codeAny (model pg wd) B d Rf t2) (fun e t2 => Rf (.error e) t2) t := by
  have off : ∀ {hh : Heap} (g : Obj → Obj) (b : Addr) (o : Obj), b ≠ S → hh.get? b = some o → (hh.update S g).get? b = some o := fun g b o nb e => (Heap.get?_update_other _ _ (Ne.symm nb)).trans e
  show wpAny _ _ (Builtin.List.listItems (.ref S) >>= fun was => Builtin.List.listUpdate (.ref S) (fun _ => #[]) >>= fun _ => letGo was.toList.reverse >>= fun _ => Builtin.List.listExtendWith (.ref S) (.ref j) .none) _ _ t
  refine wpAny_bind ?_
  unfold Builtin.List.listItems
  refine wpAny_bind (wpAny_seqItems gS rfl (wpAny_pure ?_))
  show wpAny _ _ (updateSeq S (fun _ => #[]) >>= fun _ => letGo (#[] : Array Value).toList.reverse >>= fun _ => (Builtin.List.listExtendWith (.ref S) (.ref j) .none)) _ _ t
  refine wpAny_bind (wpAny_updateSeq gS rfl ?_)
  have gS2 := Heap.get?_update_self (Obj.mapSeq (fun _ => (#[] : Array Value))) gS rfl
  refine wpAny_bind (wpAny_letGo ?_)
  have gi2 : (t.heap.update S (Obj.mapSeq (fun _ => (#[] : Array Value)))).IsRevIter j c ((ar.size : Int) - 1) := gi.at fun o e => off _ j o (Ne.symm nS1) e
  have gl2 : (t.heap.update S (Obj.mapSeq (fun _ => (#[] : Array Value)))).IsList c ar := gl.at fun o e => off _ c o (Ne.symm nS2) e
  have ty : ({ t with heap := t.heap.update S (Obj.mapSeq (fun _ => (#[] : Array Value))) } : Shared).TypeIs (.ref j) "list_reverseiterator" := Heap.IsRevIter.typeIs (s := { t with heap := t.heap.update S (Obj.mapSeq (fun _ => (#[] : Array Value))) }) gi2
  unfold Builtin.List.listExtendWith
  refine wpAny_bind (wpAny_typeOf ty ?_)
  have q1 : Builtin.List.listSameRef (.ref S) (.ref j) = false := by simp [Builtin.List.listSameRef, nS1]
  rw [if_neg (by rw [q1]; decide)]
  refine wpAny_bind (wpAny_pyIter_revIter (s := { t with heap := t.heap.update S (Obj.mapSeq (fun _ => (#[] : Array Value))) }) gi2 ?_)
  refine wpAny_bind (wpAny_holding ?_)
  unfold Builtin.List.listLengthHint
  refine wpAny_bind (wpAny_specialOf ty RT.nolen_lri ?_)
  show wpAny _ _ (specialOf (Value.ref j) (Str.ofString "__length_hint__") >>= _) _ _ _
  refine wpAny_bind (wpAny_specialOf ty RT.hint_lri ?_)
  generalize hid : ("list_reverseiterator.__length_hint__" : String) = id0
  wp_delta
  rw [show splitId id0 = some ("list_reverseiterator", "__length_hint__") from by subst hid; decide +kernel]
  subst hid
  refine wpAny_bind (wpAny_isInstance (b := true) ty (by rw [isSubtype_type]; kernel_rfl) ?_)
  refine wpAny_pure ?_
  rw [if_neg (by decide)]
  have e0 : ((ar.size : Nat) : Int) - 1 - ((0 : Nat) : Int) = (ar.size : Int) - 1 := by omega
  have nSf : S ∉ [j, c] := by simp only [List.mem_cons, List.not_mem_nil, or_false, not_or]; exact ⟨nS1, nS2⟩
  have W := (Walks.listRev (prog := pg) (w := wd) (A := B.in1) nh j c ncj ar).toS
  refine wpAny_pure ⟨plainId_quiet F.plain_extend_loop _, codeAny_extend_loopS W sz _ nSf _ ar.size 0 _ _ _ rfl (Nat.zero_le _) ⟨Nat.zero_le _, by rw [e0]; exact gi2, gl2⟩ gS2 (ItemsOf.nil _) fun t3 out n3 mv gS3 it3 => ?_⟩
  rw [Moved.eq_with mv]
  refine fin t3.heap t3.toks out n3 (fun b o nb nj e => mv.heap b o (fun hm => ?_) (off _ b o nb e)) gS3 it3
  rcases List.mem_cons.mp hm with z | hm
  · exact nb z
  · exact nj (List.mem_singleton.mp hm)
theorem call_lrev {QQ : Value → Shared → Prop} {j c : Addr} {ar : Array Value} (nh : B.handled = none) (ncj : c ≠ j)
    (gi : t.heap.IsRevIter j c ((ar.size : Int) - 1)) (gl : t.heap.IsList c ar) (sz : ar.size ≤ sizeLine)
    (fin : ∀ h2 k2 out n2, (∀ b o, b ≠ j → t.heap.get? b = some o → h2.get? b = some o) → h2.get? t.heap.objs.size = some { cls := .type "list", dict := none, data := .seq out n2, slots := #[] } → ItemsOf (fun i v => ar[ar.size - 1 - i]? = some v) out ar.size → QQ (.ref t.heap.objs.size) { t with heap := h2, toks := k2 }) :
    wpAny (model pg wd) B (call (.type "list") [.ref j]) QQ EE t := by
  obtain ⟨oj, hoj, _⟩ := id gi
  obtain ⟨oc, hoc, _⟩ := id gl
  refine callType_codes (Q₁ := fun ob t1 => ob = .ref t.heap.objs.size ∧ t1 = { t with heap := t.heap.push Mt }) F.called_list (F.typeCall_list_1 _) F.entry_list_init (code_list_new _ ⟨rfl, rfl⟩) fun ob t1 q1 => ?_
  obtain ⟨rfl, rfl⟩ := q1
  have gS : (t.heap.push Mt).get? t.heap.objs.size = some Mt := Heap.get?_push_size _ rfl
  refine ⟨⟨_, gS, rfl⟩, F.args_list_init_2 _ _, init_lrev (B := B.in1) nh (Nat.ne_of_gt (Heap.lt_size hoj)) (Nat.ne_of_gt (Heap.lt_size hoc)) ncj (gi.at fun o e => Heap.get?_push_of_some _ e) (gl.push _) gS sz fun h2 k2 out n2 kp g2 it2 => ?_⟩
  exact ⟨rfl, fin h2 k2 out n2 (fun b o nj e => kp b o (Nat.ne_of_lt (Heap.lt_size e)) nj (Heap.get?_push_of_some _ e)) g2 it2⟩
end
/-- list(reversed(x)), x a list: a new list -/
def bLRev (te : TE) : TE := fun σ H Q => te σ H fun x H1 => match x with
  | .ref p => Get H1 p fun o => match view o with
    | .lst xs => Alloc H1 (.lst xs.reverse) fun l H2 => Q (.ref l) H2
    | _ => False
  | _ => False
section
variable {X : Cx} {e : Expr} {te : TE} {p p2 pos pos2 : Pos}
theorem be_lrev (hc : X.calm = true) (hm : X.mg "list" = none) (hm2 : X.mg "reversed" = none) (he : PE X e te) (hg : Gl X "list" := by rfl) (hg2 : Gl X "reversed" := by rfl)
    (hs : starEach [e] X.env = (false, eval e X.env) :: starEach [] X.env := by rfl)
    (hs2 : starEach [.Call (.Name "reversed" p2) [e] [] pos2] X.env = (false, eval (.Call (.Name "reversed" p2) [e] [] pos2) X.env) :: starEach [] X.env := by rfl) :
    PE X (.Call (.Name "list" p) [.Call (.Name "reversed" p2) [e] [] pos2] [] pos) (bLRev te) := by
  refine ⟨fun pins s σ H Q I h => ?_⟩
  refine Call_ (ld_blt I hg hm boot_list (PyProof.Rows.callWith_type1 (args_cons (Call_ (ld_blt I hg2 hm2 PyProof.Rows.boot_reversed (PyProof.Rows.callWith_type1 (args_cons (thn (he.run pins s σ H _ I h) fun u s1 ⟨v, H1, I1, r1, q1⟩ => args_nil ?_) hs) hs rfl))) hs2) hs2 rfl))
  cases v <;> try exact False.elim q1
  rename_i a
  obtain rfl : u = Value.ref a := r1
  obtain ⟨o, ho, q⟩ := q1
  cases ev : view o <;> rw [ev] at q <;> try exact False.elim q
  rename_i xs
  have hq : SqL X.K H1 a xs := sq_view ho ev
  obtain ⟨its, rv, p', hz⟩ := I1.list hq
  refine call_reversed_list p'.isList (args_nil ?_)
  have hl := p'.isList
  obtain ⟨ol, hol, _⟩ := id hl
  have hne : a ≠ s1.heap.objs.size := Nat.ne_of_lt (Heap.lt_size hol)
  have hn : its.toArray.size ≤ sizeLine := by rw [List.size_toArray, ← rv.length]; exact hz
  refine call_lrev (t := { s1 with heap := s1.heap.push (revObj a ((its.toArray.size : Int) - 1)) }) (I1.ok.hd hc) hne ⟨_, Heap.get?_push_size _ rfl, rfl, rfl⟩ (hl.push _) hn fun h2 k2 out n2 kp g2 it2 => ?_
  have sz1 : (s1.heap.push (revObj a ((its.toArray.size : Int) - 1))).objs.size = s1.heap.objs.size + 1 := Heap.size_push _ _
  have kk : ∀ b o, s1.heap.get? b = some o → h2.get? b = some o := fun b o e => kp b o (Nat.ne_of_lt (Heap.lt_size e)) (Heap.get?_push_of_some _ e)
  have fr : H1 (s1.heap.push (revObj a ((its.toArray.size : Int) - 1))).objs.size = none := I1.hok.fresh (by rw [sz1]; omega)
  refine ⟨V.ref (s1.heap.push (revObj a ((its.toArray.size : Int) - 1))).objs.size, upd H1 (s1.heap.push (revObj a ((its.toArray.size : Int) - 1))).objs.size (.lst xs.reverse), I1.laid (t' := k2) kk (by rw [sz1]; omega) (show ObjOk X.prog X.w _ _ _ (.lst xs.reverse) from ⟨by rw [List.length_reverse]; exact hz, out.toList, n2, RT.vals_rev rv it2, ?_⟩), rfl, q.at _ fr⟩
  rw [Array.toArray_toList]
  exact g2
end
/-! ### a list that may stand in the written part -/
theorem sql_ex {K : PySem.W.Frag} {H H' : Hp} {a : Addr} {xs : List V} (h : SqL K H a xs) (x : Ex H H') : SqL K H' a xs := by
  rcases h with (h | ⟨o, h⟩) | h
  · exact .inl (.inl (x _ _ h))
  · exact .inl (.inr ⟨o, x _ _ h⟩)
  · exact .inr h
inductive LoopS (K : PySem.W.Frag) (a : Addr) (xs : List V) (g : TG) (tb : TS) (D : Ends) (σ : Sg) (H : Hp) : Prop where
  | mk (Pv : Nat → Sg → Hp → Prop) (h0 : Pv 0 σ H) (hl : ∀ i σ H, Pv i σ H → SqL K H a xs)
    (hs : ∀ i x σ H, xs[i]? = some x → Pv i σ H → g x σ H fun σ2 H2 => tb { D with nx := Pv (i + 1), ct := Pv (i + 1), bk := D.nx } σ2 H2) (hd : ∀ σ H, Pv xs.length σ H → D.nx σ H) : LoopS K a xs g tb D σ H
def bForS (K : PySem.W.Frag) (te : TE) (g : TG) (tb : TS) : TS := fun D σ H => te σ H fun x H1 => match x with
  | .ref a => ∃ xs, SqL K H1 a xs ∧ LoopS K a xs g tb D σ H1
  | _ => False
def bListS (K : PySem.W.Frag) (te : TE) : TE := fun σ H Q => te σ H fun x H' => match x with
  | .ref a => ∃ xs, SqL K H' a xs ∧ Alloc H' (.lst xs) fun l H2 => Q (.ref l) H2
  | _ => False
section
variable {X : Cx} {e tg : Expr} {te : TE} {pos p : Pos} {tb : TS} {g : TG} {body : List Stmt}
theorem bs_forS (hp : PassesOwn (model X.prog X.w) X.A X.env X.xe) (hc : X.calm = true) (he : PE X e te) (hg : PG X tg g) (hb : PSs X body tb)
    (hs : ∀ x, foldedSetIterable e X.env x = pure x := by intro _; rfl) : PS X (.For tg e body [] pos) (bForS X.K te g tb) :=
  PS.imp (ps_for hp hc (pi_any (PE.up he)) hg hb hs) fun D σ H q => ⟨_, q, fun x H1 z => by
    cases x <;> try exact False.elim z
    obtain ⟨xs, hq, Pv, h0, hl, hs, hd⟩ := z
    exact .inl ⟨_, hq, for_list Pv h0 (fun i σ H _ p => hl i σ H p) hs hd⟩⟩
theorem be_listS (hm : X.mg "list" = none) (ha : PE X e te) (hg : Gl X "list" := by rfl) (h1 : starEach [e] X.env = (false, eval e X.env) :: starEach [] X.env := by rfl) :
    PE X (.Call (.Name "list" p) [e] [] pos) (bListS X.K te) :=
  PE.imp (pe_callTy call_list_of hg hm (by decide +kernel) (pa_cons (PE.up ha) pa_nil h1) (he := h1) (hpl := rfl)) fun σ H Q q => ⟨_, q, fun x H' z => by
    cases x <;> try exact False.elim z
    obtain ⟨xs, hq, z⟩ := z
    exact ⟨_, _, rfl, .inl hq, fun l hl => z.at l hl⟩⟩
end
/-! ### isinstance of two classes -/
theorem Ty.kit2 {K : PySem.W.Frag} (a T U : Ty) : PySem.W.kitAny K (.type a.nm) [.type T.nm, .type U.nm] = some (Ty.is a T || Ty.is a U) := by
  refine kitAny_cons (Ty.kit a T) (fun h => ?_) (fun h => by rw [h]; rfl)
  rw [h]
  exact kitAny_cons (Ty.kit a U) (fun h => by rw [h]; rfl) (fun h => by rw [h]; rfl)
def rIsiT2 (T U : Ty) : List V → Hp → VK → Prop := fun xs H Q => match xs with
  | [x, .ref tp] => H tp = some (.tup [.ty T.nm, .ty U.nm]) ∧ match x with
    | .non => Q (.bl (Ty.is .non T || Ty.is .non U)) H
    | .bl _ => Q (.bl (Ty.is .bl T || Ty.is .bl U)) H
    | .int _ => Q (.bl (Ty.is .int T || Ty.is .int U)) H
    | .str _ => Q (.bl (Ty.is .str T || Ty.is .str U)) H
    | .ref p => Get H p fun o => match view o with
      | .lst _ => Q (.bl (Ty.is .lst T || Ty.is .lst U)) H
      | .tup _ => Q (.bl (Ty.is .tup T || Ty.is .tup U)) H
      | .dK _ => Q (.bl (Ty.is .dct T || Ty.is .dct U)) H
      | _ => False
    | _ => False
  | _ => False
section
variable {X : Cx}
theorem cr_isi2 (T U : Ty) : CallR X (.builtin "isinstance") (rIsiT2 T U) := CallR.by fun xs H Q q => by
  match xs, q with
  | [x, .ref tp], ⟨ht, q⟩ =>
    have pr : Paired ClsV [V.ty T.nm, V.ty U.nm] [.type T.nm, .type U.nm] := .cons (.ty _) (.cons (.ty _) .nil)
    refine ⟨_, call_isiT, ?_⟩
    cases x <;> first
      | exact False.elim q
      | exact ⟨_, _, _, _, _, _, rfl, ht, pr, .base .non, Ty.kit2 .non T U, q⟩
      | exact ⟨_, _, _, _, _, _, rfl, ht, pr, .base (.bl _), Ty.kit2 .bl T U, q⟩
      | exact ⟨_, _, _, _, _, _, rfl, ht, pr, .base (.int _), Ty.kit2 .int T U, q⟩
      | exact ⟨_, _, _, _, _, _, rfl, ht, pr, .base (.str _), Ty.kit2 .str T U, q⟩
      | (obtain ⟨o, ho, q⟩ := q
         cases e : view o <;> rw [e] at q <;> first
           | exact False.elim q
           | exact ⟨_, _, _, _, _, _, rfl, ht, pr, ty_of (t := .lst) ho (by rw [e]; rfl) (fun ob u z => .inl ⟨_, view_frz e z⟩), Ty.kit2 .lst T U, q⟩
           | exact ⟨_, _, _, _, _, _, rfl, ht, pr, ty_of (t := .tup) ho (by rw [e]; rfl) (fun ob u z => .inr (.inl ⟨_, view_frz e z⟩)), Ty.kit2 .tup T U, q⟩
           | exact ⟨_, _, _, _, _, _, rfl, ht, pr, ty_of (t := .dct) ho (by rw [e]; rfl) (fun ob u z => .inr (.inr ⟨_, view_frz e z⟩)), Ty.kit2 .dct T U, q⟩)
variable {a b c : Expr} {ta : TE} {p pos tpos : Pos} {ln : Nat}
theorem be_isi2 (T U : Ty) (hm : X.mg "isinstance" = none) (ha : PE X a ta) (hb : PE X b (tC (.ty T.nm))) (hc : PE X c (tC (.ty U.nm))) (hg : Gl X "isinstance" := by rfl)
    (h1 : starEach [a, .Tuple [b, c] ln tpos] X.env = (false, eval a X.env) :: starEach [.Tuple [b, c] ln tpos] X.env := by rfl) (h2 : starEach [.Tuple [b, c] ln tpos] X.env = (false, eval (.Tuple [b, c] ln tpos) X.env) :: starEach [] X.env := by rfl)
    (hpl : (backTo pos (starEach [.Tuple [b, c] ln tpos] X.env)).any (·.1) = false := by rfl)
    (h3 : starEach [b, c] X.env = (false, eval b X.env) :: starEach [c] X.env := by rfl) (h4 : starEach [c] X.env = (false, eval c X.env) :: starEach [] X.env := by rfl) :
    PE X (.Call (.Name "isinstance" p) [a, .Tuple [b, c] ln tpos] [] pos) (bIsi2 T U ta) :=
  PE.imp (pe_callB (cr_isi2 T U) hg hm (by decide +kernel) (pa_cons (PE.up ha) (pa_cons (be_tup (ba_cons hb (ba_cons hc ba_nil h4) h3) (show [b, c].length ≤ 1000 from (by decide : 2 ≤ 1000))) pa_nil h2) h1) (he := h1) (hpl := hpl)) fun σ H Q q => ⟨_, q, fun x H' z => by
    obtain ⟨k⟩ := z
    exact Alloc.mk fun tp H2 x2 n2 h2 => ⟨h2, k tp H2 x2 n2 h2⟩⟩
end

/-! ### list comprehensions: one clause, a name -/
def cmpPut (D : Addr) (y : V) (H : Hp) (Nx : Hp → Prop) : Prop := Get H D fun o => match o with
  | .lst acc => acc.length < sizeLine ∧ Put H D (.lst (acc ++ [y])) Nx
  | _ => False
def cmpTurn (D : Addr) (te : TE) (σ : Sg) (H : Hp) (Nx : Hp → Prop) : Prop := te σ H fun y H4 => cmpPut D y H4 Nx
def cmpIf (D : Addr) (tt : TT) (te : TE) (σ : Sg) (H : Hp) (Nx : Hp → Prop) : Prop := tt σ H fun b H3 => (b = true → cmpTurn D te σ H3 Nx) ∧ (b = false → Nx H3)
inductive CmpL (xs : List V) (a : Addr) (u : HO) (tn : V → Hp → (Hp → Prop) → Prop) (K : Hp → Prop) (H : Hp) : Prop where
  | mk (Pv : Nat → Hp → Prop) (h0 : Pv 0 H) (hl : ∀ i H, i ≤ xs.length → Pv i H → Rd H a u) (hs : ∀ i x H, xs[i]? = some x → Pv i H → tn x H (Pv (i + 1))) (hd : ∀ H, Pv xs.length H → K H) : CmpL xs a u tn K H
inductive CmpR (n : Nat) (tn : V → Hp → (Hp → Prop) → Prop) (K : Hp → Prop) (H : Hp) : Prop where
  | mk (Pv : Nat → Hp → Prop) (h0 : Pv 0 H) (hs : ∀ (i : Nat) H, i < n → Pv i H → tn (.int (0 + i)) H (Pv (i + 1))) (hd : ∀ H, Pv n H → K H) : CmpR n tn K H
def bCmpA (ta : TE) (i : Nat) (tn : Addr → Sg → Hp → (Hp → Prop) → Prop) : TE := fun σ H Q => ta σ H fun x H1 => match x with
  | .ref a => Get H1 a fun o => match view o with
    | .lst xs => Alloc H1 (.lst []) fun D H2 => CmpL xs a (.lst xs) (fun x H Nx => tn D (σ.set i (some x)) H Nx) (fun H3 => Q (.ref D) H3) H2
    | .tup xs => Alloc H1 (.lst []) fun D H2 => CmpL xs a (.tup xs) (fun x H Nx => tn D (σ.set i (some x)) H Nx) (fun H3 => Q (.ref D) H3) H2
    | _ => False
  | _ => False
def bCmpR (ta : TE) (i : Nat) (tn : Addr → Sg → Hp → (Hp → Prop) → Prop) : TE := fun σ H Q => ta σ H fun x H1 => match x with
  | .int n => (-(2 ^ 62) ≤ n ∧ n < 2 ^ 62) ∧ Alloc H1 (.lst []) fun D H2 => CmpR n.toNat (fun x H Nx => tn D (σ.set i (some x)) H Nx) (fun H3 => Q (.ref D) H3) H2
  | _ => False
theorem put_of {D : Addr} {y : V} {H : Hp} {Nx : Hp → Prop} (h : cmpPut D y H Nx) : ∃ acc, H D = some (.lst acc) ∧ acc.length < sizeLine ∧ Nx (upd H D (.lst (acc ++ [y]))) := by
  obtain ⟨o, ho, z⟩ := h
  cases o <;> try exact False.elim z
  exact ⟨_, ho, z.1, z.2.at⟩
theorem wipe_one {σ : Sg} {i : Nat} {x : V} : (wipe σ [i]).set i (some x) = σ.set i (some x) := by
  show (σ.set i none).set i (some x) = _
  rw [List.set_set]
theorem wipe_two {σ : Sg} {i : Nat} {x : V} : wipe ((wipe σ [i]).set i (some x)) [i] = wipe σ [i] := by
  show ((σ.set i none).set i (some x)).set i none = σ.set i none
  rw [List.set_set, List.set_set]
theorem turn_of {D : Addr} {te : TE} {σ : Sg} {H : Hp} {Nx : Hp → Prop} (h : cmpTurn D te σ H Nx) : upE te σ H fun y H4 => ∃ acc, H4 D = some (.lst acc) ∧ acc.length < sizeLine ∧ Nx (upd H4 D (.lst (acc ++ [y]))) := ⟨_, h, fun v H' z => put_of z⟩
theorem lc_go {D : Addr} {i : Nat} {te : TE} {σ : Sg} {x : V} {H : Hp} {Nx : Hp → Prop} (h : cmpTurn D te (σ.set i (some x)) H Nx) : gName i x (wipe σ [i]) H fun σ2 H2 => wipe σ2 [i] = wipe σ [i] ∧ tYes σ2 H2 fun b H3 =>
    if b = true then upE te σ2 H3 fun y H4 => ∃ acc, H4 D = some (.lst acc) ∧ acc.length < sizeLine ∧ Nx (upd H4 D (.lst (acc ++ [y]))) else Nx H3 := by
  refine ⟨wipe_two, ?_⟩
  show (if true = true then upE te ((wipe σ [i]).set i (some x)) H (fun y H4 => ∃ acc, H4 D = some (.lst acc) ∧ acc.length < sizeLine ∧ Nx (upd H4 D (.lst (acc ++ [y])))) else Nx H)
  rw [if_pos rfl, wipe_one]
  exact turn_of h
theorem lc_goIf {D : Addr} {i : Nat} {tt : TT} {te : TE} {σ : Sg} {x : V} {H : Hp} {Nx : Hp → Prop} (h : cmpIf D tt te (σ.set i (some x)) H Nx) : gName i x (wipe σ [i]) H fun σ2 H2 => wipe σ2 [i] = wipe σ [i] ∧ upT tt σ2 H2 fun b H3 =>
    if b = true then upE te σ2 H3 fun y H4 => ∃ acc, H4 D = some (.lst acc) ∧ acc.length < sizeLine ∧ Nx (upd H4 D (.lst (acc ++ [y]))) else Nx H3 := by
  refine ⟨wipe_two, ?_⟩
  rw [wipe_one]
  refine ⟨_, h, fun b H' z => ?_⟩
  cases b with
  | true => rw [if_pos rfl]; exact turn_of (z.1 rfl)
  | false => rw [if_neg Bool.false_ne_true]; exact z.2 rfl
theorem cv_A {K : PySem.W.Frag} {ta te : TE} {i : Nat} {σ : Sg} {H : Hp} {Q : VK} (q : bCmpA ta i (fun D => cmpTurn D te) σ H Q) : tLc (iAny K (upE ta)) (gName i) tYes (upE te) [i] σ H Q :=
  ⟨_, q, fun v H1 z => by
    cases v <;> try exact False.elim z
    obtain ⟨o, ho, z⟩ := z
    cases e : view o <;> rw [e] at z <;> first
      | exact False.elim z
      | exact .inl ⟨_, sq_view ho e, fun D hD => by
          obtain ⟨Pv, h0, hl, hs, hd⟩ := z.at D hD
          exact lc_list Pv h0 (fun i H l p => .inl (hl i H l p)) (fun i x H e p => lc_go (hs i x H e p)) hd⟩
      | exact .inr ⟨_, st_view ho e, fun D hD => by
          obtain ⟨Pv, h0, hl, hs, hd⟩ := z.at D hD
          exact lc_tup Pv h0 (fun i H l p => .inl (hl i H l p)) (fun i x H e p => lc_go (hs i x H e p)) hd⟩⟩
theorem cv_Ai {K : PySem.W.Frag} {ta te : TE} {tt : TT} {i : Nat} {σ : Sg} {H : Hp} {Q : VK} (q : bCmpA ta i (fun D => cmpIf D tt te) σ H Q) : tLc (iAny K (upE ta)) (gName i) (upT tt) (upE te) [i] σ H Q :=
  ⟨_, q, fun v H1 z => by
    cases v <;> try exact False.elim z
    obtain ⟨o, ho, z⟩ := z
    cases e : view o <;> rw [e] at z <;> first
      | exact False.elim z
      | exact .inl ⟨_, sq_view ho e, fun D hD => by
          obtain ⟨Pv, h0, hl, hs, hd⟩ := z.at D hD
          exact lc_list Pv h0 (fun i H l p => .inl (hl i H l p)) (fun i x H e p => lc_goIf (hs i x H e p)) hd⟩
      | exact .inr ⟨_, st_view ho e, fun D hD => by
          obtain ⟨Pv, h0, hl, hs, hd⟩ := z.at D hD
          exact lc_tup Pv h0 (fun i H l p => .inl (hl i H l p)) (fun i x H e p => lc_goIf (hs i x H e p)) hd⟩⟩
theorem cv_R {ta te : TE} {i : Nat} {σ : Sg} {H : Hp} {Q : VK} (q : bCmpR ta i (fun D => cmpTurn D te) σ H Q) : tLc (iRng1 (tCons (upE ta) tNil)) (gName i) tYes (upE te) [i] σ H Q :=
  ⟨_, q, fun v H1 z => by
    cases v <;> try exact False.elim z
    obtain ⟨⟨b1, b2⟩, z⟩ := z
    exact ⟨_, rfl, b1, b2, fun D hD => by
      obtain ⟨Pv, h0, hs, hd⟩ := z.at D hD
      exact lc_range Pv h0 (fun i H l p => lc_go (hs i H l p)) hd⟩⟩
theorem cv_Ri {ta te : TE} {tt : TT} {i : Nat} {σ : Sg} {H : Hp} {Q : VK} (q : bCmpR ta i (fun D => cmpIf D tt te) σ H Q) : tLc (iRng1 (tCons (upE ta) tNil)) (gName i) (upT tt) (upE te) [i] σ H Q :=
  ⟨_, q, fun v H1 z => by
    cases v <;> try exact False.elim z
    obtain ⟨⟨b1, b2⟩, z⟩ := z
    exact ⟨_, rfl, b1, b2, fun D hD => by
      obtain ⟨Pv, h0, hs, hd⟩ := z.at D hD
      exact lc_range Pv h0 (fun i H l p => lc_goIf (hs i H l p)) hd⟩⟩
section
variable {X : Cx} {elt iter c : Expr} {x y : Str} {i j : Nat} {xp yp pos spos p p2 : Pos} {scope : Scope} {ta te : TE} {tt : TT}
theorem be_cmpA (hc : X.calm = true) (hN : X.N.Nodup) (ok : BlkOk X.N X.env.scope scope [(x, i)]) (ha : PE X iter ta) (hg : ∀ (s : Shared) (H : Hp) (C : Addr) (cl : List (Str × Addr)) (fp : List Addr), PG (X.blk s H scope (compEnvC scope cl C X.env) fp) (.Name x xp) (gName i))  (he : ∀ (s : Shared) (H : Hp) (C : Addr) (cl : List (Str × Addr)) (fp : List Addr), PE (X.blk s H scope (compEnvC scope cl C X.env) fp) elt te) (hs : ∀ v, foldedSetIterable iter X.env v = pure v := by intro _; rfl) : PE X (.ListComp elt [⟨.Name x xp, iter, [], 0⟩] scope pos) (bCmpA ta i (fun D => cmpTurn D te)) :=
  PE.imp (pe_lc (own := [(x, i)]) (tt := tYes) hc hN (pi_any (PE.up ha)) ok hg (fun _ _ _ _ _ => pts_nil) (fun s H C cl fp => PE.up (he s H C cl fp)) hs) fun σ H Q q => cv_A q
theorem bs_cmpA (hc : X.calm = true) (hN : X.N.Nodup) (hy : X.N[j]? = some y) (hyl : X.env.scope.names.lookup y = some .local) (hsw : swapsWith (.ListComp elt [⟨.Name x xp, iter, [], 0⟩] scope pos) (some (.Name y yp)) spos.line X.env = pure true) (ok : BlkOk X.N X.env.scope scope [(x, i)]) (ha : PE X iter ta) (hg : ∀ (s : Shared) (H : Hp) (C : Addr) (cl : List (Str × Addr)) (fp : List Addr), PG (X.blk s H scope (compEnvC scope cl C X.env) fp) (.Name x xp) (gName i))  (he : ∀ (s : Shared) (H : Hp) (C : Addr) (cl : List (Str × Addr)) (fp : List Addr), PE (X.blk s H scope (compEnvC scope cl C X.env) fp) elt te) (hs : ∀ v, foldedSetIterable iter X.env v = pure v := by intro _; rfl) : PS X (.Assign [.Name y yp] (.ListComp elt [⟨.Name x xp, iter, [], 0⟩] scope pos) spos) (tAsg (bCmpA ta i (fun D => cmpTurn D te)) (gName j)) :=
  PS.imp (ps_setLc (own := [(x, i)]) (tt := tYes) hc hN hy hyl hsw (pi_any (PE.up ha)) ok hg (fun _ _ _ _ _ => pts_nil) (fun s H C cl fp => PE.up (he s H C cl fp)) hs) fun D σ H q => cv_A q
theorem be_cmpAi (hc : X.calm = true) (hN : X.N.Nodup) (ok : BlkOk X.N X.env.scope scope [(x, i)]) (ha : PE X iter ta) (hg : ∀ (s : Shared) (H : Hp) (C : Addr) (cl : List (Str × Addr)) (fp : List Addr), PG (X.blk s H scope (compEnvC scope cl C X.env) fp) (.Name x xp) (gName i)) (ht : ∀ (s : Shared) (H : Hp) (C : Addr) (cl : List (Str × Addr)) (fp : List Addr), PT (X.blk s H scope (compEnvC scope cl C X.env) fp) c tt) (he : ∀ (s : Shared) (H : Hp) (C : Addr) (cl : List (Str × Addr)) (fp : List Addr), PE (X.blk s H scope (compEnvC scope cl C X.env) fp) elt te) (hs : ∀ v, foldedSetIterable iter X.env v = pure v := by intro _; rfl) : PE X (.ListComp elt [⟨.Name x xp, iter, [c], 0⟩] scope pos) (bCmpA ta i (fun D => cmpIf D tt te)) :=
  PE.imp (pe_lc (own := [(x, i)]) (tt := upT tt) hc hN (pi_any (PE.up ha)) ok hg (fun s H C cl fp => pts_one (PT.up (ht s H C cl fp))) (fun s H C cl fp => PE.up (he s H C cl fp)) hs) fun σ H Q q => cv_Ai q
theorem bs_cmpAi (hc : X.calm = true) (hN : X.N.Nodup) (hy : X.N[j]? = some y) (hyl : X.env.scope.names.lookup y = some .local) (hsw : swapsWith (.ListComp elt [⟨.Name x xp, iter, [c], 0⟩] scope pos) (some (.Name y yp)) spos.line X.env = pure true) (ok : BlkOk X.N X.env.scope scope [(x, i)]) (ha : PE X iter ta) (hg : ∀ (s : Shared) (H : Hp) (C : Addr) (cl : List (Str × Addr)) (fp : List Addr), PG (X.blk s H scope (compEnvC scope cl C X.env) fp) (.Name x xp) (gName i)) (ht : ∀ (s : Shared) (H : Hp) (C : Addr) (cl : List (Str × Addr)) (fp : List Addr), PT (X.blk s H scope (compEnvC scope cl C X.env) fp) c tt) (he : ∀ (s : Shared) (H : Hp) (C : Addr) (cl : List (Str × Addr)) (fp : List Addr), PE (X.blk s H scope (compEnvC scope cl C X.env) fp) elt te) (hs : ∀ v, foldedSetIterable iter X.env v = pure v := by intro _; rfl) : PS X (.Assign [.Name y yp] (.ListComp elt [⟨.Name x xp, iter, [c], 0⟩] scope pos) spos) (tAsg (bCmpA ta i (fun D => cmpIf D tt te)) (gName j)) :=
  PS.imp (ps_setLc (own := [(x, i)]) (tt := upT tt) hc hN hy hyl hsw (pi_any (PE.up ha)) ok hg (fun s H C cl fp => pts_one (PT.up (ht s H C cl fp))) (fun s H C cl fp => PE.up (he s H C cl fp)) hs) fun D σ H q => cv_Ai q
theorem be_cmpR (hm : X.mg "range" = none) (hc : X.calm = true) (hN : X.N.Nodup) (ok : BlkOk X.N X.env.scope scope [(x, i)]) (ha : PE X iter ta) (hg : ∀ (s : Shared) (H : Hp) (C : Addr) (cl : List (Str × Addr)) (fp : List Addr), PG (X.blk s H scope (compEnvC scope cl C X.env) fp) (.Name x xp) (gName i))  (he : ∀ (s : Shared) (H : Hp) (C : Addr) (cl : List (Str × Addr)) (fp : List Addr), PE (X.blk s H scope (compEnvC scope cl C X.env) fp) elt te) (hG : Gl X "range" := by rfl) (h1 : starEach [iter] X.env = (false, eval iter X.env) :: starEach [] X.env := by rfl) (hs : ∀ v, foldedSetIterable (.Call (.Name "range" p) [iter] [] p2) X.env v = pure v := by intro _; rfl) : PE X (.ListComp elt [⟨.Name x xp, .Call (.Name "range" p) [iter] [] p2, [], 0⟩] scope pos) (bCmpR ta i (fun D => cmpTurn D te)) :=
  PE.imp (pe_lc (own := [(x, i)]) (tt := tYes) hc hN (pi_range1 hG hm (pa_cons (PE.up ha) pa_nil h1) h1) ok hg (fun _ _ _ _ _ => pts_nil) (fun s H C cl fp => PE.up (he s H C cl fp)) hs) fun σ H Q q => cv_R q
theorem bs_cmpR (hm : X.mg "range" = none) (hc : X.calm = true) (hN : X.N.Nodup) (hy : X.N[j]? = some y) (hyl : X.env.scope.names.lookup y = some .local) (hsw : swapsWith (.ListComp elt [⟨.Name x xp, .Call (.Name "range" p) [iter] [] p2, [], 0⟩] scope pos) (some (.Name y yp)) spos.line X.env = pure true) (ok : BlkOk X.N X.env.scope scope [(x, i)]) (ha : PE X iter ta) (hg : ∀ (s : Shared) (H : Hp) (C : Addr) (cl : List (Str × Addr)) (fp : List Addr), PG (X.blk s H scope (compEnvC scope cl C X.env) fp) (.Name x xp) (gName i))  (he : ∀ (s : Shared) (H : Hp) (C : Addr) (cl : List (Str × Addr)) (fp : List Addr), PE (X.blk s H scope (compEnvC scope cl C X.env) fp) elt te) (hG : Gl X "range" := by rfl) (h1 : starEach [iter] X.env = (false, eval iter X.env) :: starEach [] X.env := by rfl) (hs : ∀ v, foldedSetIterable (.Call (.Name "range" p) [iter] [] p2) X.env v = pure v := by intro _; rfl) : PS X (.Assign [.Name y yp] (.ListComp elt [⟨.Name x xp, .Call (.Name "range" p) [iter] [] p2, [], 0⟩] scope pos) spos) (tAsg (bCmpR ta i (fun D => cmpTurn D te)) (gName j)) :=
  PS.imp (ps_setLc (own := [(x, i)]) (tt := tYes) hc hN hy hyl hsw (pi_range1 hG hm (pa_cons (PE.up ha) pa_nil h1) h1) ok hg (fun _ _ _ _ _ => pts_nil) (fun s H C cl fp => PE.up (he s H C cl fp)) hs) fun D σ H q => cv_R q
theorem be_cmpRi (hm : X.mg "range" = none) (hc : X.calm = true) (hN : X.N.Nodup) (ok : BlkOk X.N X.env.scope scope [(x, i)]) (ha : PE X iter ta) (hg : ∀ (s : Shared) (H : Hp) (C : Addr) (cl : List (Str × Addr)) (fp : List Addr), PG (X.blk s H scope (compEnvC scope cl C X.env) fp) (.Name x xp) (gName i)) (ht : ∀ (s : Shared) (H : Hp) (C : Addr) (cl : List (Str × Addr)) (fp : List Addr), PT (X.blk s H scope (compEnvC scope cl C X.env) fp) c tt) (he : ∀ (s : Shared) (H : Hp) (C : Addr) (cl : List (Str × Addr)) (fp : List Addr), PE (X.blk s H scope (compEnvC scope cl C X.env) fp) elt te) (hG : Gl X "range" := by rfl) (h1 : starEach [iter] X.env = (false, eval iter X.env) :: starEach [] X.env := by rfl) (hs : ∀ v, foldedSetIterable (.Call (.Name "range" p) [iter] [] p2) X.env v = pure v := by intro _; rfl) : PE X (.ListComp elt [⟨.Name x xp, .Call (.Name "range" p) [iter] [] p2, [c], 0⟩] scope pos) (bCmpR ta i (fun D => cmpIf D tt te)) :=
  PE.imp (pe_lc (own := [(x, i)]) (tt := upT tt) hc hN (pi_range1 hG hm (pa_cons (PE.up ha) pa_nil h1) h1) ok hg (fun s H C cl fp => pts_one (PT.up (ht s H C cl fp))) (fun s H C cl fp => PE.up (he s H C cl fp)) hs) fun σ H Q q => cv_Ri q
theorem bs_cmpRi (hm : X.mg "range" = none) (hc : X.calm = true) (hN : X.N.Nodup) (hy : X.N[j]? = some y) (hyl : X.env.scope.names.lookup y = some .local) (hsw : swapsWith (.ListComp elt [⟨.Name x xp, .Call (.Name "range" p) [iter] [] p2, [c], 0⟩] scope pos) (some (.Name y yp)) spos.line X.env = pure true) (ok : BlkOk X.N X.env.scope scope [(x, i)]) (ha : PE X iter ta) (hg : ∀ (s : Shared) (H : Hp) (C : Addr) (cl : List (Str × Addr)) (fp : List Addr), PG (X.blk s H scope (compEnvC scope cl C X.env) fp) (.Name x xp) (gName i)) (ht : ∀ (s : Shared) (H : Hp) (C : Addr) (cl : List (Str × Addr)) (fp : List Addr), PT (X.blk s H scope (compEnvC scope cl C X.env) fp) c tt) (he : ∀ (s : Shared) (H : Hp) (C : Addr) (cl : List (Str × Addr)) (fp : List Addr), PE (X.blk s H scope (compEnvC scope cl C X.env) fp) elt te) (hG : Gl X "range" := by rfl) (h1 : starEach [iter] X.env = (false, eval iter X.env) :: starEach [] X.env := by rfl) (hs : ∀ v, foldedSetIterable (.Call (.Name "range" p) [iter] [] p2) X.env v = pure v := by intro _; rfl) : PS X (.Assign [.Name y yp] (.ListComp elt [⟨.Name x xp, .Call (.Name "range" p) [iter] [] p2, [c], 0⟩] scope pos) spos) (tAsg (bCmpR ta i (fun D => cmpIf D tt te)) (gName j)) :=
  PS.imp (ps_setLc (own := [(x, i)]) (tt := upT tt) hc hN hy hyl hsw (pi_range1 hG hm (pa_cons (PE.up ha) pa_nil h1) h1) ok hg (fun s H C cl fp => pts_one (PT.up (ht s H C cl fp))) (fun s H C cl fp => PE.up (he s H C cl fp)) hs) fun D σ H q => cv_Ri q
end
theorem shl1 {i w : Int} (hi : i.natAbs < 2 ^ 64) (h0 : 0 ≤ w) (h1 : w ≤ 1000000) : CShl i w := by
  refine ⟨h0, ?_⟩
  have : Builtin.Int.intBits i ≤ 64 := by
    unfold Builtin.Int.intBits
    split
    · omega
    · have := PySem.Flt.log2_lt_of (k := 64) (by decide) hi
      omega
  omega
/-- sum(x), x a list of ints -/
def bSum (te : TE) : TE := fun σ H Q => te σ H fun x H' => match x with
  | .ref p => Get H' p fun o => match view o with
    | .lst xs => ∃ ns : List Int, xs = ns.map V.int ∧ Q (.int ns.sum) H'
    | _ => False
  | _ => False
theorem be_sum {X : Cx} {a : Expr} {ta : TE} {p pos : Pos} (hm : X.mg "sum" = none) (hc : X.calm = true) (ha : PE X a ta) (hg : Gl X "sum" := by rfl) (h1 : starEach [a] X.env = (false, eval a X.env) :: starEach [] X.env := by rfl) :
    PE X (.Call (.Name "sum" p) [a] [] pos) (bSum ta) :=
  PE.imp (pe_callB (cr_sum hc) hg hm (by decide +kernel) (pa_cons (PE.up ha) pa_nil h1) (he := h1) (hpl := rfl)) fun σ H Q q => ⟨_, q, fun x H' z => by
    cases x <;> try exact False.elim z
    obtain ⟨o, ho, z⟩ := z
    cases e : view o <;> rw [e] at z <;> try exact False.elim z
    obtain ⟨ns, e2, z⟩ := z
    subst e2
    exact ⟨_, _, rfl, sq_view ho e, z⟩⟩
/-! ### while, two names at once, x += n -/
inductive LoopW (c : TT) (tb : TS) (D : Ends) (σ : Sg) (H : Hp) : Prop where
  | mk (Pv : Nat → Sg → Hp → Prop) (m : Nat) (h0 : Pv m σ H)
    (hs : ∀ m σ H, Pv m σ H → c σ H fun b H1 => (b = true → tb { D with nx := fun σ' H' => ∃ k, k < m ∧ Pv k σ' H', ct := fun σ' H' => ∃ k, k < m ∧ Pv k σ' H', bk := D.nx } σ H1) ∧ (b = false → D.nx σ H1)) : LoopW c tb D σ H
def bWhile (c : TT) (tb : TS) : TS := fun D σ H => LoopW c tb D σ H
def gTwo (i j : Nat) : TG := fun v σ H K => match v with
  | .ref p => Get H p fun o => match view o with
    | .tup xs => match xs with
      | [x, y] => K ((σ.set i (some x)).set j (some y)) H
      | _ => False
    | _ => False
  | _ => False
def bAugI (i : Nat) (f : Int → Int → Int) (te : TE) : TS := fun D σ H => match σ[i]? with
  | some (some (.int a)) => te σ H fun y H1 => match y with
    | .int b => D.nx (σ.set i (some (.int (f a b)))) H1
    | _ => False
  | _ => False
section
variable {X : Cx} {c e : Expr} {tc : TT} {tb : TS} {te : TE} {body : List Stmt} {pos pos' xp yp tpos : Pos} {i j : Nat} {x y : Str} {op : Operator} {f : Int → Int → Int} {ln : Nat}
theorem bs_while (hp : PassesOwn (model X.prog X.w) X.A X.env X.xe) (hc : PT X c tc) (hb : PSs X body tb) : PS X (.While c body [] pos) (bWhile tc tb) :=
  PS.imp (ps_while hp (PT.up hc) hb) fun D σ H q => by
    obtain ⟨Pv, m, h0, hs⟩ := q
    refine ⟨Pv, ⟨m, h0⟩, fun m σ H p => ⟨_, hs m σ H p, fun b H1 z => ?_⟩⟩
    cases b with
    | true =>
      rw [if_pos rfl]
      exact ⟨fun σ' H' => ∃ k, k < m ∧ Pv k σ' H', fun _ _ z => z, z.1 rfl⟩
    | false =>
      rw [if_neg Bool.false_ne_true]
      exact z.2 rfl
theorem pg_two (hc : X.calm = true) (h1 : PG X (.Name x xp) (gName i)) (h2 : PG X (.Name y yp) (gName j))
    (hs1 : (assignEach [.Name x xp, .Name y yp] X.env).map (·.2) = assign (.Name x xp) X.env :: (assignEach [.Name y yp] X.env).map (·.2) := by rfl) (hs2 : (assignEach [.Name y yp] X.env).map (·.2) = assign (.Name y yp) X.env :: (assignEach [] X.env).map (·.2) := by rfl)
    (hn : (assignEach [.Name x xp, .Name y yp] X.env).length = 2 := by rfl) (hst : (assignEach [.Name x xp, .Name y yp] X.env).findIdx? (·.1) = none := by rfl) : PG X (.Tuple [.Name x xp, .Name y yp] ln tpos) (gTwo i j) :=
  ⟨fun pins s σ H v u Q I r h => by
    cases v <;> try exact False.elim h
    obtain ⟨o, ho, z⟩ := h
    cases ev : view o <;> rw [ev] at z <;> try exact False.elim z
    rename_i xs
    match xs, z with
    | [a, b], z =>
      exact (pg_tup hc (pgs_cons h1 (pgs_cons h2 pgs_nil hs2) hs1) hn hst).run pins s σ H _ u Q I r ⟨_, _, rfl, st_view ho ev, rfl, a, _, rfl, b, _, rfl, rfl, z⟩⟩
theorem bs_aug (hN : X.N.Nodup) (hi : X.N[i]? = some x) (hx : Loc X.env.scope x) (he : PE X e te) (ho : PIp X op (ipI f)) (hf : X.fn x = true ∨ X.env.scope.names.lookup x = some .local := by first | exact .inl rfl | exact .inr rfl | assumption) :
    PS X (.AugAssign (.Name x pos') op e pos) (bAugI i f te) :=
  PS.imp (ps_aug (i := i) hN hi hx (PE.up he) ho hf) fun D σ H q => by
    unfold bAugI at q
    split at q
    · rename_i a ea
      refine ⟨_, ea, _, q, fun y H1 z => ?_⟩
      cases y <;> try exact False.elim z
      exact ⟨_, _, rfl, rfl, z⟩
    · exact False.elim q
end
/-! ### slices -/
def bNoPart : TO := fun _ H Q => Q none H
def bPart (t : TE) : TO := fun σ H Q => t σ H fun x H1 => match x with
  | .int i => Q (some i) H1
  | _ => False
def bSl (te : TE) (tl th : TO) : TE := fun σ H Q => te σ H fun x H1 => tl σ H1 fun l H2 => th σ H2 fun u H3 => match x with
  | .str z => z.length ≤ sizeLine ∧ Q (.str (cutS z l u)) H3
  | .ref p => Get H3 p fun o => match view o with
    | .lst xs => Alloc H3 (.lst (cutV xs l u)) fun q H4 => Q (.ref q) H4
    | _ => False
  | _ => False
def upO (t : TO) : TO := fun σ H Q => ∃ Q0 : Option Int → Hp → Prop, t σ H Q0 ∧ ∀ v H', Q0 v H' → Q v H'
section
variable {X : Cx} {e c : Expr} {lo hi : Option Expr} {te : TE} {tl th : TO} {pos p2 : Pos}
theorem PO.up {o : Option Expr} {t : TO} (h : PO X o t) : PO X o (upO t) := ⟨fun pins s σ H Q I ⟨Q0, q, k⟩ => thn (h.run pins s σ H Q0 I q) fun u s' ⟨v, H', I', r, q'⟩ => ⟨v, H', I', r, k _ _ q'⟩⟩
theorem bo_none : PO X none bNoPart := po_none
theorem bo_some (h : PE X c te) : PO X (some c) (bPart te) :=
  ⟨fun pins s σ H Q I q => (po_some (PE.up h)).run pins s σ H Q I ⟨_, q, fun x H1 z => by
    cases x <;> try exact False.elim z
    exact ⟨_, rfl, z⟩⟩⟩
theorem sl_any : SlR X (fun x l u H Q => (rSlS x l u H Q) ∨ rSlL X.K x l u H Q) := fun pins s σ H x v vl vu lo hi sl Q I rx hs pl pu h =>
  h.elim (fun h => sl_str pins s σ H x v vl vu lo hi sl Q I rx hs pl pu h) fun h => sl_list pins s σ H x v vl vu lo hi sl Q I rx hs pl pu h
theorem be_slice (he : PE X e te) (hl : PO X lo tl) (hu : PO X hi th) : PE X (.Subscript e (.Slice lo hi none p2) pos) (bSl te tl th) :=
  PE.imp (pe_slice sl_any (PE.up he) (PO.up hl) (PO.up hu)) fun σ H Q q => ⟨_, q, fun x H1 z => ⟨_, z, fun l H2 z => ⟨_, z, fun u H3 z => by
    cases x <;> try exact False.elim z
    · exact .inl ⟨_, rfl, z.1, z.2⟩
    · obtain ⟨o, ho, z⟩ := z
      cases ev : view o <;> rw [ev] at z <;> try exact False.elim z
      exact .inr ⟨_, _, rfl, sq_view ho ev, fun q hq => z.at q hq⟩⟩⟩⟩
end
/-! ### texts -/
def strsV : List V → Option (List Str)
  | [] => some []
  | .str s :: r => (strsV r).map (s :: ·)
  | _ => none
theorem strsV_map : ∀ {xs : List V} {ys : List Str}, strsV xs = some ys → xs = ys.map V.str
  | [], ys, h => by cases h; rfl
  | .str s :: r, ys, h => by
    unfold strsV at h
    cases e : strsV r with
    | none => rw [e] at h; cases h
    | some zs => rw [e] at h; cases h; rw [strsV_map e]; rfl
  | .non :: _, _, h => by cases h
  | .bl _ :: _, _, h => by cases h
  | .int _ :: _, _, h => by cases h
  | .ref _ :: _, _, h => by cases h
def bFind (ta tb : TE) : TE := fun σ H Q => ta σ H fun x H1 => match x with
  | .str a => tb σ H1 fun y H2 => match y with
    | .str b => Q (.int (Txt.find a b)) H2
    | _ => False
  | _ => False
def bJoin (ta tb : TE) : TE := fun σ H Q => ta σ H fun x H1 => match x with
  | .str a => tb σ H1 fun y H2 => match y with
    | .ref p => Get H2 p fun o => match view o with
      | .lst xs => ∃ ys, xs = ys.map V.str ∧ (ys.map (·.length)).sum + ys.length * a.length ≤ 16777216 ∧ Q (.str (Txt.join a ys)) H2
      | .tup xs => ∃ ys, xs = ys.map V.str ∧ (ys.map (·.length)).sum + ys.length * a.length ≤ 16777216 ∧ Q (.str (Txt.join a ys)) H2
      | _ => False
    | _ => False
  | _ => False
def bStr (te : TE) : TE := fun σ H Q => te σ H fun x H' => match x with
  | .int i => i.natAbs.log2 < 1920 ∧ Q (.str (toString i)) H'
  | _ => False
section
variable {X : Cx} {o e : Expr} {to te : TE} {p pos apos : Pos}
theorem be_join (ho : PE X o to) (he : PE X e te) (hs : starEach [e] X.env = [(false, eval e X.env)] := by rfl) (hbase : attributeBase o "join" X.env (eval o X.env) = eval o X.env := by rfl) (hline : (apos.endLine == pos.line) = true := by rfl) :
    PE X (.Call (.Attribute o "join" apos) [e] [] pos) (bJoin to te) :=
  PE.imp (pe_join (PE.up ho) (PE.up he) hs hbase hline) fun σ H Q q => ⟨_, q, fun x H1 z => by
    cases x <;> try exact False.elim z
    refine ⟨⟨_, rfl⟩, _, z, fun y H2 z => ?_⟩
    cases y <;> try exact False.elim z
    obtain ⟨o, ho, z⟩ := z
    cases ev : view o <;> rw [ev] at z <;> first
      | exact False.elim z
      | (obtain ⟨ys, e, h, z⟩ := z
         subst e
         first
           | exact ⟨_, _, ys, rfl, rfl, .inl (sq_view ho ev), h, z⟩
           | exact ⟨_, _, ys, rfl, rfl, .inr (st_view ho ev), h, z⟩)⟩
theorem be_find (ho : PE X o to) (he : PE X e te) (hs : starEach [e] X.env = [(false, eval e X.env)] := by rfl) (hbase : attributeBase o "find" X.env (eval o X.env) = eval o X.env := by rfl) (hline : (apos.endLine == pos.line) = true := by rfl) :
    PE X (.Call (.Attribute o "find" apos) [e] [] pos) (bFind to te) :=
  PE.imp (pe_m1 F.slot_str_find F.type_str_find mt_find (PE.up ho) (PE.up he) hs hbase hline) fun σ H Q q => ⟨_, q, fun x H1 z => by
    cases x <;> try exact False.elim z
    refine ⟨⟨_, rfl⟩, _, z, fun y H2 z => ?_⟩
    cases y <;> try exact False.elim z
    exact ⟨_, _, rfl, rfl, z⟩⟩
theorem be_str (hm : X.mg "str" = none) (ha : PE X e te) (hg : Gl X "str" := by rfl) (h1 : starEach [e] X.env = (false, eval e X.env) :: starEach [] X.env := by rfl) :
    PE X (.Call (.Name "str" p) [e] [] pos) (bStr te) :=
  PE.imp (pe_callTy call_str_int hg hm (by decide +kernel) (pa_cons (PE.up ha) pa_nil h1) (he := h1) (hpl := rfl)) fun σ H Q q => ⟨_, q, fun x H' z => by
    cases x <;> try exact False.elim z
    exact ⟨_, rfl, z.1, z.2⟩⟩
end

/-! ### for i, x in enumerate(a list); comprehensions over it -/
inductive LoopE (p : Addr) (xs : List V) (a b : Nat) (tb : TS) (D : Ends) (σ : Sg) (H : Hp) : Prop where
  | mk (Pv : Nat → Sg → Hp → Prop) (h0 : Pv 0 σ H) (hl : ∀ i σ H, i ≤ xs.length → Pv i σ H → Rd H p (.lst xs))
    (hs : ∀ (i : Nat) x σ H, xs[i]? = some x → Pv i σ H → Alloc H (.tup [.int (i : Nat), x]) fun _ H1 => tb { D with nx := Pv (i + 1), ct := Pv (i + 1), bk := D.nx } ((σ.set a (some (.int (i : Nat)))).set b (some x)) H1) (hd : ∀ σ H, Pv xs.length σ H → D.nx σ H) : LoopE p xs a b tb D σ H
def bForE (te : TE) (a b : Nat) (tb : TS) : TS := fun D σ H => te σ H fun x H1 => match x with
  | .ref p => Get H1 p fun o => match view o with
    | .lst xs => LoopE p xs a b tb D σ H1
    | _ => False
  | _ => False
inductive CmpE (xs : List V) (p : Addr) (tn : Nat → V → Hp → (Hp → Prop) → Prop) (K : Hp → Prop) (H : Hp) : Prop where
  | mk (Pv : Nat → Hp → Prop) (h0 : Pv 0 H) (hl : ∀ i H, i ≤ xs.length → Pv i H → Rd H p (.lst xs)) (hs : ∀ (i : Nat) x H, xs[i]? = some x → Pv i H → Alloc H (.tup [.int (i : Nat), x]) fun _ H1 => tn i x H1 (Pv (i + 1))) (hd : ∀ H, Pv xs.length H → K H) : CmpE xs p tn K H
def bCmpE (te : TE) (a b : Nat) (tn : Addr → Sg → Hp → (Hp → Prop) → Prop) : TE := fun σ H Q => te σ H fun x H1 => match x with
  | .ref p => Get H1 p fun o => match view o with
    | .lst xs => Alloc H1 (.lst []) fun D H2 => CmpE xs p (fun i x H Nx => tn D ((σ.set a (some (.int (i : Nat)))).set b (some x)) H Nx) (fun H3 => Q (.ref D) H3) H2
    | _ => False
  | _ => False
section
variable {X : Cx} {e elt : Expr} {te tl : TE} {tb : TS} {body : List Stmt} {pos p p2 xp yp tpos : Pos} {i j : Nat} {x y : Str} {ln : Nat} {scope : Scope}
theorem bs_forE (hm : X.mg "enumerate" = none) (hp : PassesOwn (model X.prog X.w) X.A X.env X.xe) (hc : X.calm = true) (he : PE X e te) (hg : PG X (.Tuple [.Name x xp, .Name y yp] ln tpos) (gTwo i j)) (hb : PSs X body tb) (hG : Gl X "enumerate" := by rfl)
    (h1 : starEach [e] X.env = (false, eval e X.env) :: starEach [] X.env := by rfl)
    (hs : ∀ v, foldedSetIterable (.Call (.Name "enumerate" p) [e] [] p2) X.env v = pure v := by intro _; rfl) : PS X (.For (.Tuple [.Name x xp, .Name y yp] ln tpos) (.Call (.Name "enumerate" p) [e] [] p2) body [] pos) (bForE te i j tb) :=
  PS.imp (ps_for hp hc (pi_enum hG hm (pa_cons (PE.up he) pa_nil h1) h1) hg hb hs) fun D σ H q => ⟨_, q, fun v H1 z => by
    cases v <;> try exact False.elim z
    obtain ⟨o, ho, z⟩ := z
    cases ev : view o <;> rw [ev] at z <;> try exact False.elim z
    obtain ⟨Pv, h0, hl, hs, hd⟩ := z
    refine ⟨_, _, rfl, sq_view ho ev, for_it walk_enum Pv h0 (fun i σ H l p => .inl (hl i σ H l p)) (fun i v σ H H' hi p y => ?_) hd⟩
    obtain ⟨T, w1, w2, rfl, hT, rfl, e1, e2⟩ := y
    cases e1
    exact Get.mk _ upd_same ((hs i w2 σ H e2 p).at T hT)⟩
theorem wipe_e {σ : Sg} {i j : Nat} {v w : V} (hij : i ≠ j) : ((wipe σ [i, j]).set i (some v)).set j (some w) = (σ.set i (some v)).set j (some w) := by
  show (((σ.set j none).set i none).set i (some v)).set j (some w) = _
  rw [List.set_set, List.set_comm _ _ (Ne.symm hij), List.set_set]
theorem wipe_e2 {σ : Sg} {i j : Nat} {v w : V} (hij : i ≠ j) : wipe (((wipe σ [i, j]).set i (some v)).set j (some w)) [i, j] = wipe σ [i, j] := by
  rw [wipe_e hij]
  show (((σ.set i (some v)).set j (some w)).set j none).set i none = (σ.set j none).set i none
  rw [List.set_set, List.set_comm _ _ hij, List.set_set]
theorem be_cmpE (hij : i ≠ j) (hm : X.mg "enumerate" = none) (hc : X.calm = true) (hN : X.N.Nodup) (ok : BlkOk X.N X.env.scope scope [(x, i), (y, j)]) (ha : PE X e te)
    (hg : ∀ (s : Shared) (H : Hp) (C : Addr) (cl : List (Str × Addr)) (fp : List Addr), PG (X.blk s H scope (compEnvC scope cl C X.env) fp) (.Tuple [.Name x xp, .Name y yp] ln tpos) (gTwo i j))
    (he : ∀ (s : Shared) (H : Hp) (C : Addr) (cl : List (Str × Addr)) (fp : List Addr), PE (X.blk s H scope (compEnvC scope cl C X.env) fp) elt tl) (hG : Gl X "enumerate" := by rfl)
    (h1 : starEach [e] X.env = (false, eval e X.env) :: starEach [] X.env := by rfl) (hs : ∀ v, foldedSetIterable (.Call (.Name "enumerate" p) [e] [] p2) X.env v = pure v := by intro _; rfl) :
    PE X (.ListComp elt [⟨.Tuple [.Name x xp, .Name y yp] ln tpos, .Call (.Name "enumerate" p) [e] [] p2, [], 0⟩] scope pos) (bCmpE te i j (fun D => cmpTurn D tl)) :=
  PE.imp (pe_lc (own := [(x, i), (y, j)]) (tt := tYes) hc hN (pi_enum hG hm (pa_cons (PE.up ha) pa_nil h1) h1) ok hg (fun _ _ _ _ _ => pts_nil) (fun s H C cl fp => PE.up (he s H C cl fp)) hs) fun σ H Q q => ⟨_, q, fun v H1 z => by
    cases v <;> try exact False.elim z
    obtain ⟨o, ho, z⟩ := z
    cases ev : view o <;> rw [ev] at z <;> try exact False.elim z
    refine ⟨_, _, rfl, sq_view ho ev, fun D hD => ?_⟩
    obtain ⟨Pv, h0, hl, hs, hd⟩ := z.at D hD
    refine lc_it walk_enum Pv h0 (fun i H l p => .inl (hl i H l p)) (fun k v H H' hi p y => ?_) hd
    obtain ⟨T, w1, w2, rfl, hT, rfl, e1, e2⟩ := y
    cases e1
    refine Get.mk _ upd_same ⟨wipe_e2 hij, ?_⟩
    have h := (hs k w2 H e2 p).at T hT
    show (if true = true then upE tl (((wipe σ [i, j]).set i (some (V.int (k : Nat)))).set j (some w2)) (upd H T (.tup [.int (k : Nat), w2])) (fun y H4 => ∃ acc, H4 D = some (.lst acc) ∧ acc.length < sizeLine ∧ Pv (k + 1) (upd H4 D (.lst (acc ++ [y])))) else Pv (k + 1) (upd H T (.tup [.int (k : Nat), w2])))
    rw [if_pos rfl, wipe_e hij]
    exact turn_of h⟩
end

/-! ### f-strings of texts and ints -/
def bFmt (te : TE) : TE := fun σ H Q => te σ H fun x H1 => match x with
  | .str y => y.length ≤ sizeLine ∧ Q (.str y) H1
  | .int i => i.natAbs.log2 < 1920 ∧ Q (.str (toString i)) H1
  | _ => False
def bJs : List TE → Str → Sg → Hp → (Str → Hp → Prop) → Prop
  | [], acc, _, H, Q => Q acc H
  | t :: ts, acc, σ, H, Q => t σ H fun x H1 => match x with
    | .str y => (acc ++ y).length ≤ sizeLine ∧ bJs ts (acc ++ y) σ H1 Q
    | _ => False
def bFs (ts : List TE) : TE := fun σ H Q => bJs ts Str.empty σ H fun out H1 => Q (.str out) H1
theorem js_up : ∀ {ts : List TE} {acc : Str} {σ : Sg} {H : Hp} {Q : Str → Hp → Prop}, bJs ts acc σ H Q → tJs (ts.map upE) acc σ H Q
  | [], _, _, _, _, h => h
  | t :: ts, acc, σ, H, Q, h => ⟨_, h, fun x H1 z => by
    cases x <;> try exact False.elim z
    exact ⟨_, rfl, z.1, js_up z.2⟩⟩
section
variable {X : Cx} {e v1 v2 : Expr} {es rest : List Expr} {te : TE} {ts : List TE} {pos : Pos}
theorem be_fmt (he : PE X e te) : PE X (.FormattedValue e (-1) none pos) (bFmt te) :=
  PE.imp (pe_fmt (PE.up he)) fun σ H Q q => ⟨_, q, fun x H1 z => by
    cases x <;> try exact False.elim z
    · exact .inr ⟨_, rfl, z.1, z.2⟩
    · exact .inl ⟨_, rfl, z.1, z.2⟩⟩
theorem bj_nil : PJ X [] (([] : List TE).map upE) := .nil
theorem bj_cons (h : PE X e te) (r : PJ X es (ts.map upE)) : PJ X (e :: es) ((te :: ts).map upE) := .cons (PE.up h) r
theorem be_fs (h : PJ X (v1 :: v2 :: rest) (ts.map upE)) : PE X (.JoinedStr (v1 :: v2 :: rest) pos) (bFs ts) :=
  PE.imp (pe_joined h) fun σ H Q q => js_up q
end
/-! ### str(i), {i} of any int below 10^4300: the digits' limit stands as it is at the start -/
theorem noDig_of {K : PySem.W.Frag} {h : Heap} (X : K.In h) (l : h.NoLimit) (e : PySem.W.nsIn K cStatics "sys.int_max_str_digits" = some none) : h.NoDigits := by
  obtain ⟨mc, hn, _⟩ := l
  exact ⟨mc, hn, PySem.W.ns_none_of X hn e⟩
def bStrW (te : TE) : TE := fun σ H Q => te σ H fun x H' => match x with
  | .int i => i.natAbs < 10 ^ 4300 ∧ Q (.str (toString i)) H'
  | _ => False
def bFmtW (te : TE) : TE := fun σ H Q => te σ H fun x H1 => match x with
  | .int i => i.natAbs < 10 ^ 4300 ∧ Q (.str (toString i)) H1
  | _ => False
section
variable {X : Cx} {e : Expr} {te : TE} {p pos : Pos}
theorem call_strW (hc : X.calm = true) (nd : PySem.W.nsIn X.K cStatics "sys.int_max_str_digits" = some none) : CallR X (.type "str") (fun xs H Q => ∃ i, xs = [.int i] ∧ i.natAbs < 10 ^ 4300 ∧ Q (.str (toString i)) H) := by
  intro pins s σ H xs us Q I r h
  obtain ⟨i, rfl, hz, q⟩ := h
  obtain ⟨u, rfl, t, rfl⟩ := vals1 r
  have nds : s.heap.NoDigits := (noDig_of I.ok.mod.kin I.ok.mod.nolimit nd).keeps fun b o z => (I.env0.bs b o z).1
  exact str_of_int_or (I.ok.hd hc) nds (fun _ => ⟨.str _, H, I.tok _, ⟨_, rfl⟩, q⟩) fun hge => absurd hz (Nat.not_lt.mpr hge)
theorem be_strW (hm : X.mg "str" = none) (hc : X.calm = true) (nd : PySem.W.nsIn X.K cStatics "sys.int_max_str_digits" = some none) (ha : PE X e te) (hg : Gl X "str" := by rfl) (h1 : starEach [e] X.env = (false, eval e X.env) :: starEach [] X.env := by rfl) :
    PE X (.Call (.Name "str" p) [e] [] pos) (bStrW te) :=
  PE.imp (pe_callTy (call_strW hc nd) hg hm (by decide +kernel) (pa_cons (PE.up ha) pa_nil h1) (he := h1) (hpl := rfl)) fun σ H Q q => ⟨_, q, fun x H' z => by
    cases x <;> try exact False.elim z
    exact ⟨_, rfl, z.1, z.2⟩⟩
theorem be_fmtW (hc : X.calm = true) (nd : PySem.W.nsIn X.K cStatics "sys.int_max_str_digits" = some none) (he : PE X e te) : PE X (.FormattedValue e (-1) none pos) (bFmtW te) := by
  refine ⟨fun pins s σ H Q I h => ?_⟩
  refine wpAny_FormattedValue_plain (thn (he.run pins s σ H _ I h) fun v s1 hv => ?_)
  obtain ⟨x, H1, I1, r1, q⟩ := hv
  cases x <;> try exact False.elim q
  obtain ⟨t, rfl⟩ := r1
  obtain ⟨hz, q⟩ := q
  have nds : s1.heap.NoDigits := (noDig_of I1.ok.mod.kin I1.ok.mod.nolimit nd).keeps fun b o z => (I1.env0.bs b o z).1
  exact formatField_int (I1.ok.hd hc) nds (fun _ => ⟨.str _, H1, (I1.tok _).tok _, ⟨_, rfl⟩, q⟩) fun hge => absurd hz (Nat.not_lt.mpr hge)
end
/-! ### len of a text, a list, a tuple or a dict -/
def bLenD (te : TE) : TE := fun σ H Q => te σ H fun x H' => match x with
  | .str y => y.length ≤ sizeLine ∧ Q (.int y.length) H'
  | .ref p => Get H' p fun o => match view o with
    | .lst xs => Q (.int xs.length) H'
    | .tup xs => Q (.int xs.length) H'
    | _ => match o with
      | .dK kvs => Q (.int kvs.length) H'
      | _ => False
  | _ => False
section
variable {X : Cx} {a : Expr} {te : TE} {p pos : Pos}
theorem be_lenD (hm : X.mg "len" = none) (ha : PE X a te) (hg : Gl X "len" := by rfl) (h1 : starEach [a] X.env = (false, eval a X.env) :: starEach [] X.env := by rfl) :
    PE X (.Call (.Name "len" p) [a] [] pos) (bLenD te) :=
  PE.imp (pe_callB (CallR.or call_len call_lenD) hg hm (by decide +kernel) (pa_cons (PE.up ha) pa_nil h1) (he := h1) (hpl := rfl)) fun σ H Q q => ⟨_, q, fun x H' z => by
    cases x <;> first
      | exact False.elim z
      | exact .inl ⟨_, _, rfl, ⟨z.1, rfl⟩, z.2⟩
      | (obtain ⟨o, ho, z⟩ := z
         cases e : view o <;> rw [e] at z <;> first
           | exact .inl ⟨_, _, rfl, .inl ⟨_, sq_view ho e, rfl⟩, z⟩
           | exact .inl ⟨_, _, rfl, .inr ⟨_, st_view ho e, rfl⟩, z⟩
           | (cases o <;> first
               | exact False.elim z
               | exact .inr ⟨_, _, rfl, ho, z⟩))⟩
end
local macro_rules | `(tactic| walk_at "ne") => `(tactic| first | assumption | exact Ne.symm (by assumption) | exact ne_new (by assumption) (by assumption) | exact Ne.symm (ne_new (by assumption) (by assumption)))
local macro_rules | `(tactic| walk_at "hg") => `(tactic| first | assumption | exact Ex.app (by assumption) (by walk_at "hg") | exact ExB.app (by assumption) (by walk_at "ne") (by walk_at "hg"))
local macro_rules | `(tactic| walk_at "side") => `(tactic| first | decide | omega | (unfold CPow; decide) | exact mulZ (by assumption) (by assumption) | exact mulL (by omega) (by omega) | exact mulR (by omega) (by omega) | exact divS (by omega) (Sz.small (by omega)) | exact divS (by omega) (by assumption) | assumption)
local macro_rules | `(tactic| walk_at "go") => `(tactic| first
  | (refine Get.mk _ (by walk_at "hg") ?_; walk_at "go")
  | (refine Alloc.mk ?_; intro _ _ _ _ _; walk_at "go")
  | (refine Put.mk ?_; intro _ _ _; walk_at "go")
  | (refine AtI.mk _ rfl ?_; walk_at "go")
  | (refine IxI.mk _ rfl ?_; walk_at "go")
  | (refine And.intro (by walk_at "side") ?_; walk_at "go")
  | (intro _; walk_at "go")
  | skip)
local macro_rules | `(tactic| walk_at "br") => `(tactic| (refine And.intro (fun hb => ?_) (fun hb => ?_) <;> first | exact absurd hb (by decide) | (cases hb; done) | (try simp only [decide_eq_true_eq, decide_eq_false_iff_not, Bool.not_true, Bool.not_false, Bool.true_eq_false, Bool.false_eq_true, Bool.not_eq_true', Bool.not_eq_false', reduceCtorEq, not_true_eq_false, not_false_eq_true, ofs_inj, String.reduceEq, Bool.not_eq_eq_eq_not, bne_iff_ne, ne_eq, decide_not] at hb)))
local macro_rules | `(tactic| walk_at "xb") => `(tactic| first | assumption | exact (Ex.refl _).but _ | exact Ex.but _ (by assumption) | (refine ExB.trans ?_ (by assumption); walk_at "xb") | (refine ExB.trans ?_ (Ex.but _ (by assumption)); walk_at "xb"))
local macro_rules | `(tactic| walk_at "xe") => `(tactic| first | assumption | exact Ex.refl _ | (refine Ex.trans ?_ (by assumption); walk_at "xe") | (refine Ex.over ?_ (by assumption) (by walk_at "hn"); walk_at "xe"))
local macro_rules | `(tactic| walk_at "hn") => `(tactic| first | assumption | (refine Ex.fresh (by assumption) ?_; walk_at "hn"))
local macro_rules | `(tactic| walk_at "g1") => `(tactic| first
  | refine Get.mk _ (by walk_at "hg") ?_
  | (refine Alloc.mk ?_; intro _ _ _ _ _)
  | (refine Put.mk ?_; intro _ _ _)
  | refine AtI.mk _ rfl ?_
  | refine IxI.mk _ rfl ?_
  | refine And.intro (by walk_at "side") ?_
  | intro _)
local macro_rules | `(tactic| walk_at "all") => `(tactic| (walk_at "go"; first | (walk_at "br" <;> walk_at "all") | skip))
local macro_rules | `(tactic| walk_at "nn") => `(tactic| exact new_ne (by assumption) (by walk_at "hn"))
def P_l_mixed (A : Ad) : Sp := fun vs H Q _ => ∃ c n : Int, vs = [.int c, .int n] ∧ ∀ r : Int, 0 ≤ r → r < 2147483399 → Q (.int r) H
def b_l_mixed (A : Ad) (W : WX) : TS := tSeq (tAsg (tOp bMod (bInt (tOp bAdd (tOp bAdd (tOp bMul (tOp bMod (bInt (bVar 0)) (tC (.int 2147483647))) (tC (.int 48271))) (tOp bMul (bVar 1) (tC (.int 69621)))) (tC (.int 8191)))) (tC (.int 2147483647))) (gName 2)) (tSeq (tAsg (tOp bMod (bInt (tOp bAdd (tOp bAdd (tOp bMul (bVar 2) (bVar 2)) (tOp bMul (bVar 1) (tC (.int 40692)))) (tC (.int 77)))) (tC (.int 2147483399))) (gName 3)) (tRet (tOp bMod (bInt (tOp bAdd (tOp bAdd (tOp bMul (tOp bFdv (bVar 3) (tC (.int 46337))) (tC (.int 7919))) (tOp bMul (tOp bMod (bInt (bVar 3)) (tC (.int 46337))) (tC (.int 46327)))) (tOp bMod (bInt (bVar 2)) (tC (.int 65521))))) (tC (.int 2147483399)))))
theorem r_l_mixed (A : Ad) : ∀ vs H Q E, P_l_mixed A vs H Q E → vs.length = 2 ∧ b_l_mixed A (wE E) (dE Q) (start ["cell", "nth", "low", "high"] vs) H := by
  rintro vs H Q E ⟨c, n, rfl, k⟩
  refine ⟨rfl, ?_⟩
  walk_at "go"
  apply k <;> omega
def P_l_wide (A : Ad) : Sp := fun vs H Q _ => ∃ c n m : Int, vs = [.int c, .int n, .int m] ∧ 0 < m ∧ Sz m ∧ ∀ r : Int, 0 ≤ r → r < m → Q (.int r) H
def b_l_wide (A : Ad) (W : WX) : TS := tSeq (tAsg (bCall (P_l_mixed A) W (tCons (bVar 0) (tCons (bVar 1) (tNil)))) (gName 3)) (tSeq (bForR (tOp bFdv (bBits (bVar 2)) (tC (.int 20))) (gName 4) (tAsg (tOp bAdd (tOp bMul (bVar 3) (tC (.int 2147483399))) (bCall (P_l_mixed A) W (tCons (bVar 0) (tCons (tOp bAdd (bVar 1) (tOp bMul (tC (.int 1000003)) (tOp bAdd (bVar 4) (tC (.int 1))))) (tNil))))) (gName 3))) (tRet (tOp bMod (bInt (bVar 3)) (bVar 2))))
theorem r_l_wide (A : Ad) : ∀ vs H Q E, P_l_wide A vs H Q E → vs.length = 3 ∧ b_l_wide A (wE E) (dE Q) (start ["cell", "nth", "many", "told", "k"] vs) H := by
  rintro vs H Q E ⟨c, n, m, rfl, m0, ms, k⟩
  refine ⟨rfl, ?_⟩
  refine ⟨c, n, rfl, fun t t0 t1 => ?_⟩
  have hb := bits_sz ms
  refine ⟨divS (by decide) (Sz.small (by decide)), fun q eq hq => ⟨?_, ?_⟩⟩
  · omega
  refine LoopR.mk (fun i σ H' => H' = H ∧ ∃ t v, σ = [some (.int c), some (.int n), some (.int m), some (.int t), v]) ⟨rfl, t, none, rfl⟩ ?_ ?_
  · rintro i σ H' hi ⟨rfl, t, v, rfl⟩
    walk_at "go"
    refine ⟨_, _, rfl, fun r r0 r1 => ?_⟩
    exact ⟨rfl, _, _, rfl⟩
  · rintro σ H' ⟨rfl, t, v, rfl⟩
    walk_at "go"
    apply k <;> omega
def P_l_store (A : Ad) : Sp := fun vs H Q _ => ∃ (a : Addr) (ns : List Int), vs = [.ref a] ∧ SqL A.K H a (ns.map .int) ∧ ∀ (st : Sto) H', Ex H H' → H st = none → Store H' st → Q (.ref st) H'
def b_l_store (A : Ad) (W : WX) : TS := tSeq (tAsg (tC (.int 900001)) (gName 1)) (tSeq (bForS A.K (bVar 0) (gName 2) (tAsg (tOp bMod (bInt (tOp bAdd (tOp bAdd (tOp bMul (bVar 1) (tC (.int 69621))) (tOp bMod (bInt (bVar 2)) (tC (.int 2147483629)))) (tC (.int 11)))) (tC (.int 2147483629))) (gName 1))) (tRet (bLst (tCons (bListS A.K (bVar 0)) (tCons (tC (.int 0)) (tCons (tC (.int 0)) (tCons (bVar 1) (tCons (tC (.int 0)) (tNil)))))))))
theorem r_l_store (A : Ad) : ∀ vs H Q E, P_l_store A vs H Q E → vs.length = 1 ∧ b_l_store A (wE E) (dE Q) (start ["script", "mixture", "cell"] vs) H := by
  rintro vs H Q E ⟨a, ns, rfl, hq, k⟩
  refine ⟨rfl, ?_⟩
  refine ⟨_, hq, ?_⟩
  refine LoopS.mk (fun i σ H' => H' = H ∧ ∃ t v, σ = [some (.ref a), some (.int t), v] ∧ 0 ≤ t) ⟨rfl, _, none, rfl, by decide⟩ ?_ ?_ ?_
  · rintro i σ H' ⟨rfl, _⟩
    exact hq
  · rintro i x σ H' hx ⟨rfl, t, v, rfl, t0⟩
    obtain ⟨n, rfl, _⟩ := map_get hx
    walk_at "go"
    exact ⟨rfl, _, _, rfl, by omega⟩
  · rintro σ H' ⟨rfl, t, v, rfl, t0⟩
    refine ⟨_, hq, ?_⟩
    refine Alloc.mk fun p H1 x1 n1 h1 => ?_
    refine Alloc.mk fun p2 H2 x2 n2 h2 => ?_
    exact k ⟨p2, p⟩ H2 (x1.trans x2) (x1.fresh n2) ⟨ns, 0, 0, t, 0, h2, x2 _ _ h1, by decide, by decide⟩
def P_l_take (A : Ad) : Sp := fun vs H Q _ => ∃ (st : Sto) (m : Int), vs = [.ref st, .int m] ∧ Store H st ∧ Sz m ∧
  ∀ (r : Int) H', ExB st H H' → Store H' st → 0 ≤ r → (r < m ∨ r = 0) → Q (.int r) H'
def b_l_take (A : Ad) (W : WX) : TS := tSeq (bIf (bTst (tOp (bLt) (bVar 1) (tC (.int 2)))) (tRet (tC (.int 0))) (tNext)) (tSeq (tAsg (tOp bAdd (tOp bIx (bVar 0) (tC (.int 4))) (tC (.int 1))) (gSub (bVar 0) (tC (.int 4)) bSetL)) (tSeq (bIf (bAnd (bTst (tOp (bEq A.K) (tOp bIx (bVar 0) (tC (.int 2))) (tC (.int 0)))) (bTst (tOp (bLt) (tOp bIx (bVar 0) (tC (.int 1))) (bLen (tOp bIx (bVar 0) (tC (.int 0))))))) (tSeq (tAsg (bInt (tOp bIx (tOp bIx (bVar 0) (tC (.int 0))) (tOp bIx (bVar 0) (tC (.int 1))))) (gName 2)) (tSeq (tAsg (tOp bAdd (tOp bIx (bVar 0) (tC (.int 1))) (tC (.int 1))) (gSub (bVar 0) (tC (.int 1)) bSetL)) (tSeq (bIf (bTst (tOp (bLt) (bVar 2) (tOp bPow (tC (.int 10)) (tC (.int 18))))) (tRet (bCall (P_l_wide A) W (tCons (bVar 2) (tCons (tOp bIx (bVar 0) (tC (.int 4))) (tCons (bVar 1) (tNil)))))) (tNext)) (tAsg (bVar 2) (gSub (bVar 0) (tC (.int 2)) bSetL))))) (tNext)) (tSeq (bIf (bTst (tOp (bGt) (tOp bIx (bVar 0) (tC (.int 2))) (tC (.int 0)))) (tSeq (tAsg (tOp bMod (bInt (tOp bIx (bVar 0) (tC (.int 2)))) (bVar 1)) (gName 3)) (tSeq (tAsg (tOp bFdv (bInt (tOp bIx (bVar 0) (tC (.int 2)))) (bVar 1)) (gSub (bVar 0) (tC (.int 2)) bSetL)) (tRet (bVar 3)))) (tNext)) (tRet (bCall (P_l_wide A) W (tCons (tOp bIx (bVar 0) (tC (.int 3))) (tCons (tOp bIx (bVar 0) (tC (.int 4))) (tCons (bVar 1) (tNil)))))))))
theorem r_l_take (A : Ad) : ∀ vs H Q E, P_l_take A vs H Q E → vs.length = 2 ∧ b_l_take A (wE E) (dE Q) (start ["store", "many", "cell", "told"] vs) H := by
  rintro vs H Q E ⟨⟨st, sl⟩, m, rfl, ⟨ns, i, c, x, t, hs, hl, i0, c0⟩, ms, k⟩
  dsimp only at hs hl k ⊢
  refine ⟨rfl, ?_⟩
  have nsl : sl ≠ st := ne_of hl hs (by intro z; cases ns <;> cases z)
  have fin : ∀ (r : Int) H', ExB st H H' → H' sl = some (.lst (ns.map V.int)) → (∃ i c x t, H' st = some (.lst [.ref sl, .int i, .int c, .int x, .int t]) ∧ 0 ≤ i ∧ 0 ≤ c) → 0 ≤ r → (r < m ∨ r = 0) → Q (.int r) H' := by
    rintro r H' xb h1 ⟨i, c, x, t, h2, i0, c0⟩ r0 r1
    exact k r H' xb ⟨ns, i, c, x, t, h2, h1, i0, c0⟩ r0 r1
  walk_at "go"
  walk_at "br"
  · exact k 0 H (Ex.refl H |>.but st) ⟨ns, i, c, x, t, hs, hl, i0, c0⟩ (by decide) (.inr rfl)
  walk_at "go"
  have tail : ∀ (H1 : Hp) (o : Option V) (i1 c1 t1 : Int), ExB st H H1 → H1 sl = some (.lst (ns.map V.int)) → H1 st = some (.lst [.ref sl, .int i1, .int c1, .int x, .int t1]) → 0 ≤ i1 → 0 ≤ c1 →
      tSeq (bIf (bTst (tOp bGt (tOp bIx (bVar 0) (tC (.int 2))) (tC (.int 0)))) (tSeq (tAsg (tOp bMod (bInt (tOp bIx (bVar 0) (tC (.int 2)))) (bVar 1)) (gName 3)) (tSeq (tAsg (tOp bFdv (bInt (tOp bIx (bVar 0) (tC (.int 2)))) (bVar 1)) (gSub (bVar 0) (tC (.int 2)) bSetL)) (tRet (bVar 3)))) (tNext)) (tRet (bCall (P_l_wide A) (wE E) (tCons (tOp bIx (bVar 0) (tC (.int 3))) (tCons (tOp bIx (bVar 0) (tC (.int 4))) (tCons (bVar 1) (tNil))))))
        (dE Q) [some (.ref st), some (.int m), o, none] H1 := by
    intro H1 o i1 c1 t1 xb h1 h2 i1p c1p
    walk_at "go"
    walk_at "br"
    · refine Get.mk _ h2 (AtI.mk _ rfl ⟨by omega, fun r er hr => Get.mk _ h2 (AtI.mk _ rfl ⟨divS (by omega) ms, fun q eq hq => Get.mk _ h2 (IxI.mk _ rfl (Put.mk fun H2 x2 h3 => ?_))⟩)⟩)
      exact fin _ _ (by walk_at "xb") (by walk_at "hg") ⟨_, _, _, _, h3, i1p, by rw [eq]; exact fdiv_nn c1p (by omega)⟩ (by omega) (by omega)
    · walk_at "go"
      exact ⟨_, _, _, rfl, by omega, ms, fun r r0 r1 => fin _ _ (by walk_at "xb") (by walk_at "hg") ⟨_, _, _, _, h2, i1p, c1p⟩ r0 (.inl r1)⟩
  walk_at "br"
  · walk_at "go"
    walk_at "br"
    · rename_i H1 x1 h1 _ hb
      have hi : i < ((ns.map V.int).length : Int) := hb
      obtain ⟨n, hn⟩ := atI_ints i0 hi
      walk_at "go"
      refine AtI.mk _ hn ?_
      walk_at "go"
      walk_at "br"
      · walk_at "go"
        exact ⟨_, _, _, rfl, by omega, ms, fun r r0 r1 => fin _ _ (by walk_at "xb") (by walk_at "hg") ⟨_, _, _, _, by walk_at "hg", by omega, c0⟩ r0 (.inl r1)⟩
      · have e18 : (10 : Int) ^ Int.toNat 18 = 1000000000000000000 := by decide
        iterate 3 walk_at "g1"
        exact tail _ _ _ _ _ (by walk_at "xb") (by walk_at "hg") (by walk_at "hg") (by omega) (by omega)
    · exact tail _ _ _ _ _ (by walk_at "xb") (by walk_at "hg") (by walk_at "hg") i0 c0
  · walk_at "br"
    exact tail _ _ _ _ _ (by walk_at "xb") (by walk_at "hg") (by walk_at "hg") i0 c0
def P_l_near (A : Ad) : Sp := fun vs H Q _ => ∃ (st : Sto) (lo hi : Int), vs = [.ref st, .int lo, .int hi] ∧ Store H st ∧ lo ≤ hi ∧ Sz (hi - lo + 1) ∧
  ∀ (r : Int) H', ExB st H H' → Store H' st → lo ≤ r → r ≤ hi → Q (.int r) H'
def b_l_near (A : Ad) (W : WX) : TS := tSeq (tAsg (bCall (P_l_take A) W (tCons (bVar 0) (tCons (tC (.int 12)) (tNil)))) (gName 3)) (tSeq (bIf (bTst (tOp (bLt) (bVar 3) (tC (.int 4)))) (tRet (tOp bIx (bLst (tCons (bVar 1) (tCons (bVar 2) (tCons (bMin (tOp bAdd (bVar 1) (tC (.int 1))) (bVar 2)) (tCons (bMax (tOp bSub (bVar 2) (tC (.int 1))) (bVar 1)) (tNil)))))) (bVar 3))) (tNext)) (tRet (tOp bAdd (bVar 1) (bCall (P_l_take A) W (tCons (bVar 0) (tCons (tOp bAdd (tOp bSub (bVar 2) (bVar 1)) (tC (.int 1))) (tNil)))))))
theorem Store.mono {H H' : Hp} {st : Sto} (h : Store H st) (e : Ex H H') : Store H' st := by
  obtain ⟨ns, i, c, m, t, h1, h2, h3⟩ := h
  exact ⟨ns, i, c, m, t, e _ _ h1, e _ _ h2, h3⟩
theorem r_l_near (A : Ad) : ∀ vs H Q E, P_l_near A vs H Q E → vs.length = 3 ∧ b_l_near A (wE E) (dE Q) (start ["store", "low", "high", "kind"] vs) H := by
  rintro vs H Q E ⟨st, lo, hi, rfl, hS, hl, hz, k⟩
  refine ⟨rfl, ?_⟩
  refine ⟨st, 12, rfl, hS, Sz.small (by decide), fun kind H1 x1 s1 k0 k1 => ?_⟩
  walk_at "go"
  walk_at "br"
  · walk_at "go"
    rename_i hk p H2 x2 n2 h2
    obtain rfl | rfl | rfl | rfl : kind = 0 ∨ kind = 1 ∨ kind = 2 ∨ kind = 3 := by omega
    all_goals
      walk_at "go"
      exact k _ _ (x1.trans (x2.but st)) (s1.mono x2) (by omega) (by omega)
  · walk_at "go"
    refine ⟨st, _, rfl, s1, hz, fun r H2 x2 s2 r0 r1 => ?_⟩
    walk_at "go"
    exact k _ _ (x1.trans x2) s2 (by omega) (by omega)

def isI : Dt → Bool
  | .int _ => true
  | _ => false
def P_l_is_integer (A : Ad) : Sp := fun vs H Q _ => ∃ (m : Addr) (d : Dt) (v : V), vs = [v] ∧ At m H d v ∧ Q (.bl (isI d)) H
def b_l_is_integer (A : Ad) (W : WX) : TS := tRet (bAndV (bIsi .int (bVar 0)) (bNotV (bIsi .bl (bVar 0))))
theorem r_l_is_integer (A : Ad) : ∀ vs H Q E, P_l_is_integer A vs H Q E → vs.length = 1 ∧ b_l_is_integer A (wE E) (dE Q) (start ["given"] vs) H := by
  rintro vs H Q E ⟨m, d, v, rfl, h, k⟩
  refine ⟨rfl, ?_⟩
  cases h <;> walk_at "go" <;> walk_at "br" <;> first | exact k | (walk_at "go"; exact k)

def pairI : Dt → Option (Int × Int)
  | .tup [.int a, .int b] => some (a, b)
  | _ => none
def P_l_is_pair (A : Ad) : Sp := fun vs H Q _ => ∃ (m : Addr) (d : Dt) (v : V), vs = [v] ∧ At m H d v ∧ Q (.bl (pairI d).isSome) H
def b_l_is_pair (A : Ad) (W : WX) : TS := tSeq (bIf (bOr (tNot (bTru (bIsi .tup (bVar 0)))) (bTst (tOp (bNe A.K) (bLen (bVar 0)) (tC (.int 2))))) (tRet (tC (.bl false))) (tNext)) (tRet (bAndV (bCall (P_l_is_integer A) W (tCons (tOp bIx (bVar 0) (tC (.int 0))) (tNil))) (bCall (P_l_is_integer A) W (tCons (tOp bIx (bVar 0) (tC (.int 1))) (tNil)))))
theorem pairI_two (a b : Dt) : (pairI (.tup [a, b])).isSome = (isI a && isI b) := by cases a <;> cases b <;> rfl
theorem pairI_no {ds : List Dt} (h : ds.length ≠ 2) : pairI (.tup ds) = none := by
  match ds, h with
  | [], _ => rfl
  | [a], _ => cases a <;> rfl
  | a :: b :: c :: r, _ => cases a <;> cases b <;> rfl
theorem r_l_is_pair (A : Ad) : ∀ vs H Q E, P_l_is_pair A vs H Q E → vs.length = 1 ∧ b_l_is_pair A (wE E) (dE Q) (start ["given"] vs) H := by
  rintro vs H Q E ⟨m, d, v, rfl, h, k⟩
  refine ⟨rfl, ?_⟩
  cases h with
  | @tup ds xs p n hp l =>
    walk_at "go"
    walk_at "br"
    have hl := l.len
    walk_at "go"
    walk_at "br"
    · rename_i hb
      rw [pairI_no (by omega)] at k
      exact k
    · rename_i hb
      match l, hl with
      | .cons h1 (.cons h2 .nil), _ =>
        rw [pairI_two] at k
        walk_at "go"
        refine ⟨m, _, _, rfl, h1, ?_⟩
        walk_at "br"
        · rename_i e
          walk_at "go"
          refine ⟨m, _, _, rfl, h2, ?_⟩
          rw [e, Bool.true_and] at k
          exact k
        · rename_i e
          rw [e, Bool.false_and] at k
          exact k
      | .nil, _ => simp at hb
      | .cons h1 .nil, _ => simp at hb
      | .cons h1 (.cons h2 (.cons h3 l)), _ => simp at hb; omega
  | _ => walk_at "all" <;> exact k

def P_l_ten (A : Ad) : Sp := fun vs H Q _ => ∃ n : Int, vs = [.int n] ∧ 0 ≤ n ∧ n < 4611686018427387904 ∧ (∀ t : Int, t = 10 ^ n.toNat → Q (.int t) H)
def b_l_ten (A : Ad) (W : WX) : TS := tSeq (tAsg (tC (.int 1)) (gName 1)) (tSeq (bForR (bVar 0) (gName 2) (tAsg (tOp bMul (bVar 1) (tC (.int 10))) (gName 1))) (tRet (bVar 1)))
theorem r_l_ten (A : Ad) : ∀ vs H Q E, P_l_ten A vs H Q E → vs.length = 1 ∧ b_l_ten A (wE E) (dE Q) (start ["digits", "told", "k"] vs) H := by
  rintro vs H Q E ⟨n, rfl, n0, n1, k⟩
  refine ⟨rfl, ?_⟩
  refine ⟨⟨by omega, by omega⟩, ?_⟩
  refine LoopR.mk (fun i σ H' => H' = H ∧ ∃ v, σ = [some (.int n), some (.int (10 ^ i)), v]) ⟨rfl, none, rfl⟩ ?_ ?_
  · rintro i σ H' hi ⟨rfl, v, rfl⟩
    walk_at "go"
    exact ⟨rfl, _, rfl⟩
  · rintro σ H' ⟨rfl, v, rfl⟩
    exact k _ rfl

/-- 10 ^ d in bits -/
theorem ten_lt (d : Nat) : (10 : Int) ^ d < 2 ^ (4 * d + 1) := by
  have h : (10 : Nat) ^ d ≤ 16 ^ d := Nat.pow_le_pow_left (by decide) d
  have h2 : (16 : Nat) ^ d = 2 ^ (4 * d) := by rw [Nat.pow_mul]
  have h3 : (2 : Nat) ^ (4 * d) < 2 ^ (4 * d + 1) := Nat.pow_lt_pow_right (by decide) (by omega)
  have h4 : (10 : Nat) ^ d < 2 ^ (4 * d + 1) := by omega
  exact_mod_cast h4
theorem ten_pos (d : Nat) : 0 < (10 : Int) ^ d := Int.pow_pos (by decide)
theorem pow2c (k : Nat) : (2 : Int) ^ k = ((2 ^ k : Nat) : Int) := by simp
theorem pow2s (k : Nat) : (2 : Nat) ^ (k + 1) = 2 * 2 ^ k := by rw [Nat.pow_succ, Nat.mul_comm]
theorem sz_two {t : Int} {k : Nat} (h0 : 0 < t) (h : t < 2 ^ k) (hk : k ≤ 8990) : Sz (t - 1 - (0 - (t - 1)) + 1) := by
  rw [pow2c] at h
  refine Sz.of (k + 1) ?_ (by omega) (by omega)
  rw [pow2s]
  omega
theorem abs_lt {r t : Int} {k : Nat} (h : t < 2 ^ k) (h1 : 0 - (t - 1) ≤ r) (h2 : r ≤ t - 1) : r.natAbs < 2 ^ k := by
  rw [pow2c] at h
  omega
theorem sm_of {r : Int} {k : Nat} (h : r.natAbs < 128) (hk : 7 ≤ k) : r.natAbs < 2 ^ k := Nat.lt_of_lt_of_le h (Nat.pow_le_pow_right (by decide) hk : 2 ^ 7 ≤ 2 ^ k)
theorem ten_lt2 {d : Nat} {k : Nat} (h : 4 * d + 1 ≤ k) : (10 : Int) ^ d < 2 ^ k := by
  have h1 := ten_lt d
  have h2 : (2 : Nat) ^ (4 * d + 1) ≤ 2 ^ k := Nat.pow_le_pow_right (by decide) h
  rw [pow2c] at h1 ⊢
  omega
def P_l_integer (A : Ad) : Sp := fun vs H Q _ => ∃ (st : Sto) (n : Int), vs = [.ref st, .int n] ∧ Store H st ∧ 0 ≤ n ∧ n ≤ 60 ∧
  ∀ (r : Int) H', ExB st H H' → Store H' st → r.natAbs < 2 ^ 256 → Q (.int r) H'
def b_l_integer (A : Ad) (W : WX) : TS := tSeq (tAsg (bCall (P_l_take A) W (tCons (bVar 0) (tCons (tC (.int 12)) (tNil)))) (gName 2)) (tSeq (bIf (bTst (tOp (bLt) (bVar 2) (tC (.int 4)))) (tRet (tOp bIx (bLst (tCons (tC (.int 0)) (tCons (tC (.int 1)) (tCons (tUn bNeg (tC (.int 1))) (tCons (tC (.int 2)) (tNil)))))) (bVar 2))) (tNext)) (tSeq (bIf (bTst (tOp (bLt) (bVar 2) (tC (.int 8)))) (tRet (tOp bSub (bCall (P_l_take A) W (tCons (bVar 0) (tCons (tC (.int 41)) (tNil)))) (tC (.int 20)))) (tNext)) (tSeq (tAsg (tOp bSub (bCall (P_l_ten A) W (tCons (bMin (bVar 1) (tC (.int 9))) (tNil))) (tC (.int 1))) (gName 3)) (tSeq (bIf (bTst (tOp (bEq A.K) (bVar 2) (tC (.int 10)))) (tAsg (tOp bSub (bCall (P_l_ten A) W (tCons (bMin (bVar 1) (tC (.int 24))) (tNil))) (tC (.int 1))) (gName 3)) (tNext)) (tSeq (bIf (bTst (tOp (bEq A.K) (bVar 2) (tC (.int 11)))) (tAsg (tOp bSub (bCall (P_l_ten A) W (tCons (bVar 1) (tNil))) (tC (.int 1))) (gName 3)) (tNext)) (tRet (bCall (P_l_near A) W (tCons (bVar 0) (tCons (tOp bSub (tC (.int 0)) (bVar 3)) (tCons (bVar 3) (tNil)))))))))))
theorem r_l_integer (A : Ad) : ∀ vs H Q E, P_l_integer A vs H Q E → vs.length = 2 ∧ b_l_integer A (wE E) (dE Q) (start ["store", "digits", "kind", "high"] vs) H := by
  rintro vs H Q E ⟨st, n, rfl, hS, n0, n1, k⟩
  refine ⟨rfl, ?_⟩
  refine ⟨st, 12, rfl, hS, Sz.small (by decide), fun kind H1 x1 s1 k0 k1 => ?_⟩
  have fin : ∀ (e : Nat) (t : Int) (H2 : Hp), e ≤ 60 → t = 10 ^ e → Ex H1 H2 →
      tRet (bCall (P_l_near A) (wE E) (tCons (bVar 0) (tCons (tOp bSub (tC (.int 0)) (bVar 3)) (tCons (bVar 3) (tNil))))) (dE Q) [some (.ref st), some (.int n), some (.int kind), some (.int (t - 1))] H2 := by
    rintro e t H2 he rfl x2
    have hp := ten_pos e
    have hb : (10 : Int) ^ e < 2 ^ 256 := ten_lt2 (by omega)
    refine ⟨st, _, _, rfl, s1.mono x2, by omega, sz_two hp hb (by decide), fun r H3 x3 s3 r0 r1 => ?_⟩
    exact k _ _ (x1.trans ((x2.but st).trans x3)) s3 (abs_lt hb r0 r1)
  walk_at "go"
  walk_at "br"
  · walk_at "go"
    obtain rfl | rfl | rfl | rfl : kind = 0 ∨ kind = 1 ∨ kind = 2 ∨ kind = 3 := by omega
    all_goals
      walk_at "go"
      exact k _ _ (by walk_at "xb") (s1.mono (by walk_at "xe")) (sm_of (by decide) (by decide))
  walk_at "go"
  walk_at "br"
  · walk_at "go"
    refine ⟨st, 41, rfl, s1, Sz.small (by decide), fun r H2 x2 s2 r0 r1 => ?_⟩
    exact k _ _ (x1.trans x2) s2 (sm_of (by omega) (by decide))
  walk_at "go"
  refine ⟨_, rfl, by omega, by omega, fun t ht => ?_⟩
  walk_at "go"
  walk_at "br"
  · walk_at "go"
    refine ⟨_, rfl, by omega, by omega, fun t ht => ?_⟩
    walk_at "go"
    walk_at "br"
    · omega
    · exact fin _ t H1 (by omega) ht (Ex.refl _)
  · walk_at "go"
    walk_at "br"
    · walk_at "go"
      refine ⟨_, rfl, by omega, by omega, fun t ht => ?_⟩
      exact fin _ t H1 (by omega) ht (Ex.refl _)
    · exact fin _ t H1 (by omega) ht (Ex.refl _)
theorem abs_le {a : Int} {j k : Nat} (h : a.natAbs < 2 ^ j) (l : j ≤ k) : a.natAbs < 2 ^ k := sm_lt h l
theorem mul_lt2 {a b : Int} {j k n : Nat} (h1 : a.natAbs < 2 ^ j) (h2 : b.natAbs < 2 ^ k) (hn : j + k ≤ n) : (a * b).natAbs < 2 ^ n := sm_lt (wide_lt h1 h2) hn
theorem lt10 {a : Int} {k : Nat} (h : a.natAbs < 1024) (hk : 10 ≤ k) : a.natAbs < 2 ^ k := Nat.lt_of_lt_of_le h (Nat.pow_le_pow_right (by decide) hk : 2 ^ 10 ≤ 2 ^ k)
theorem add1_lt {a : Int} {k : Nat} (h : a.natAbs < 2 ^ k) : (a + 1).natAbs < 2 ^ (k + 1) := by
  rw [pow2s]; omega
/-- a fraction, in not necessarily lowest terms -/
def P_l_fraction (A : Ad) : Sp := fun vs H Q _ => ∃ (st : Sto) (n : Int), vs = [.ref st, .int n] ∧ Store H st ∧ 4 ≤ n ∧ n ≤ 60 ∧
  ∀ (a b : Int) (v : V) H', ExB st H H' → Store H' st → At st H' (.tup [.int a, .int b]) v → 1 ≤ b → a.natAbs < 2 ^ 270 → b.natAbs < 2 ^ 270 → Q v H'
def b_l_fraction (A : Ad) (W : WX) : TS := tSeq (tAsg (bCall (P_l_integer A) W (tCons (bVar 0) (tCons (tOp bSub (bVar 1) (tC (.int 4))) (tNil)))) (gName 2)) (tSeq (tAsg (bAbs (bCall (P_l_integer A) W (tCons (bVar 0) (tCons (tOp bSub (bVar 1) (tC (.int 4))) (tNil))))) (gName 3)) (tSeq (tAsg (tOp bAdd (bVar 3) (bInt (tOp (bEq A.K) (bVar 3) (tC (.int 0))))) (gName 3)) (tSeq (bIf (bTst (tOp (bEq A.K) (bCall (P_l_take A) W (tCons (bVar 0) (tCons (tC (.int 6)) (tNil)))) (tC (.int 0)))) (tAsg (tOp bMul (bVar 3) (tOp bSub (bCall (P_l_take A) W (tCons (bVar 0) (tCons (tC (.int 7)) (tNil)))) (tC (.int 3)))) (gName 2)) (tNext)) (tSeq (tAsg (tOp bIx (bLst (tCons (tC (.int 1)) (tCons (tC (.int 1)) (tCons (tC (.int 2)) (tCons (tC (.int 999)) (tNil)))))) (bCall (P_l_take A) W (tCons (bVar 0) (tCons (tC (.int 4)) (tNil))))) (gName 4)) (tRet (bTup (tCons (tOp bMul (bVar 2) (bVar 4)) (tCons (tOp bMul (bVar 3) (bVar 4)) (tNil)))))))))
theorem Store.ne {H : Hp} {st : Sto} {p : Addr} (h : Store H st) (n : H p = none) : p ≠ st := by
  obtain ⟨ns, i, c, m, t, h1, _⟩ := h
  exact Ne.symm (ne_of_none h1 n)
theorem Store.some {H : Hp} {st : Sto} (h : Store H st) : H st ≠ none := by
  obtain ⟨ns, i, c, m, t, h1, _⟩ := h
  rw [h1]; intro z; cases z
theorem r_l_fraction (A : Ad) : ∀ vs H Q E, P_l_fraction A vs H Q E → vs.length = 2 ∧ b_l_fraction A (wE E) (dE Q) (start ["store", "digits", "top", "low", "many"] vs) H := by
  rintro vs H Q E ⟨st, n, rfl, hS, n0, n1, k⟩
  refine ⟨rfl, ?_⟩
  refine ⟨st, _, rfl, hS, by omega, by omega, fun top H1 x1 s1 b1 => ?_⟩
  walk_at "go"
  refine ⟨st, _, rfl, s1, by omega, by omega, fun low0 H2 x2 s2 b2 => ?_⟩
  walk_at "go"
  have hlow : 1 ≤ (low0.natAbs : Int) + (if decide ((low0.natAbs : Int) = 0) = true then 1 else 0) ∧ ((low0.natAbs : Int) + (if decide ((low0.natAbs : Int) = 0) = true then 1 else 0)).natAbs < 2 ^ 257 := by
    constructor
    · split <;> rename_i h <;> simp at h <;> omega
    · rw [pow2s 256]
      split <;> rename_i h <;> simp at h <;> omega
  have fin : ∀ (t low : Int) (H3 : Hp), t.natAbs < 2 ^ 260 → 1 ≤ low → low.natAbs < 2 ^ 257 → ExB st H H3 → Store H3 st →
      tSeq (tAsg (tOp bIx (bLst (tCons (tC (.int 1)) (tCons (tC (.int 1)) (tCons (tC (.int 2)) (tCons (tC (.int 999)) (tNil)))))) (bCall (P_l_take A) (wE E) (tCons (bVar 0) (tCons (tC (.int 4)) (tNil))))) (gName 4)) (tRet (bTup (tCons (tOp bMul (bVar 2) (bVar 4)) (tCons (tOp bMul (bVar 3) (bVar 4)) (tNil)))))
        (dE Q) [some (.ref st), some (.int n), some (.int t), some (.int low), none] H3 := by
    intro t low H3 ht l0 l1 x3 s3
    walk_at "go"
    rename_i p H4 x4 n4 h4
    refine ⟨st, 4, rfl, s3.mono x4, Sz.small (by decide), fun kind H5 x5 s5 k0 k1 => ?_⟩
    have hp : p ≠ st := s3.ne n4
    have pick : ∀ w : Int, 1 ≤ w → w < 1000 → tRet (bTup (tCons (tOp bMul (bVar 2) (bVar 4)) (tCons (tOp bMul (bVar 3) (bVar 4)) (tNil)))) (dE Q) [some (.ref st), some (.int n), some (.int t), some (.int low), some (.int w)] H5 := by
      intro w w0 w1
      refine ⟨mulR (by omega) (by omega), mulR (by omega) (by omega), ?_⟩
      refine Alloc.mk fun q H6 x6 n6 h6 => ?_
      refine k (t * w) (low * w) _ _ (x3.trans (ExB.trans (x4.but st) (x5.trans (x6.but st)))) (s5.mono x6) (.tup (s5.ne n6) h6 (.cons (.int _) (.cons (.int _) .nil))) ?_ (mul_lt2 ht (lt10 (k := 10) (by omega) (by decide)) (by decide)) (mul_lt2 l1 (lt10 (k := 10) (by omega) (by decide)) (by decide))
      have : low * 1 ≤ low * w := Int.mul_le_mul_of_nonneg_left w0 (by omega)
      omega
    walk_at "go"
    obtain rfl | rfl | rfl | rfl : kind = 0 ∨ kind = 1 ∨ kind = 2 ∨ kind = 3 := by omega
    · exact AtI.mk _ rfl (pick 1 (by decide) (by decide))
    · exact AtI.mk _ rfl (pick 1 (by decide) (by decide))
    · exact AtI.mk _ rfl (pick 2 (by decide) (by decide))
    · exact AtI.mk _ rfl (pick 999 (by decide) (by decide))
  refine ⟨st, 6, rfl, s2, Sz.small (by decide), fun r H3 x3 s3 r0 r1 => ?_⟩
  walk_at "br"
  · walk_at "go"
    refine ⟨st, 7, rfl, s3, Sz.small (by decide), fun r2 H4 x4 s4 r20 r21 => ?_⟩
    refine ⟨mulR (by omega) (by omega), ?_⟩
    exact fin _ _ H4 (mul_lt2 (k := 3) hlow.2 (by show _ < 8; omega) (by decide)) hlow.1 hlow.2 (x1.trans (x2.trans (x3.trans x4))) s4
  · exact fin top _ H3 (abs_le b1 (by decide)) hlow.1 hlow.2 (x1.trans (x2.trans x3)) s3
inductive Fk where
  | wk | ws | oor
  deriving DecidableEq
def Fk.nm : Fk → String
  | .wk => "WrongKind" | .ws => "WrongSize" | .oor => "OutOfRange"
def fs : Option Fk → String
  | none => ""
  | some k => k.nm
theorem fs_none (f : Option Fk) : (fs f = "") = (f = none) := by
  cases f with
  | none => simp [fs]
  | some k => cases k <;> simp [fs, Fk.nm]
def optV : Option Int → V
  | none => .non
  | some i => .int i
def numF (d : Dt) (lo hi : Option Int) : Option Fk := match d with
  | .int i => if ((lo.elim false fun l => decide (i < l)) || (hi.elim false fun h => decide (h < i))) = true then some .oor else none
  | _ => some .wk
theorem numF_oor {i : Int} {lo hi : Option Int} (h : (∃ l, lo = some l ∧ i < l) ∨ (∃ h, hi = some h ∧ h < i)) : numF (.int i) lo hi = some .oor := by
  unfold numF
  rcases h with ⟨l, rfl, h⟩ | ⟨l, rfl, h⟩ <;> simp [h]
theorem numF_ok {i : Int} {lo hi : Option Int} (h1 : ∀ l, lo = some l → l ≤ i) (h2 : ∀ h, hi = some h → i ≤ h) : numF (.int i) lo hi = none := by
  unfold numF
  cases lo <;> cases hi <;> simp at h1 h2 ⊢ <;> omega
def P_l_number_fault (A : Ad) : Sp := fun vs H Q _ => ∃ (m : Addr) (d : Dt) (v : V) (lo hi : Option Int), vs = [v, optV lo, optV hi] ∧ At m H d v ∧ Q (.str (Str.ofString (fs (numF d lo hi)))) H
def b_l_number_fault (A : Ad) (W : WX) : TS := tSeq (bIf (bOr (tNot (bTru (bIsi .int (bVar 0)))) (bTru (bIsi .bl (bVar 0)))) (tRet (tC (.str "WrongKind"))) (tNext)) (tSeq (bIf (bOr (bAnd (bTst (tOp (bNotN) (bVar 1) (tC .non))) (bTst (tOp (bLt) (bVar 0) (bVar 1)))) (bAnd (bTst (tOp (bNotN) (bVar 2) (tC .non))) (bTst (tOp (bGt) (bVar 0) (bVar 2))))) (tRet (tC (.str "OutOfRange"))) (tNext)) (tRet (tC (.str ""))))
theorem r_l_number_fault (A : Ad) : ∀ vs H Q E, P_l_number_fault A vs H Q E → vs.length = 3 ∧ b_l_number_fault A (wE E) (dE Q) (start ["given", "low", "high"] vs) H := by
  rintro vs H Q E ⟨m, d, v, lo, hi, rfl, h, k⟩
  refine ⟨rfl, ?_⟩
  cases h with
  | int i =>
    cases lo <;> cases hi <;> walk_at "all"
    all_goals first
      | (rw [numF_oor (by first | exact .inl ⟨_, rfl, by omega⟩ | exact .inr ⟨_, rfl, by omega⟩)] at k; exact k)
      | (rw [numF_ok (by intro l e; cases e; try omega) (by intro l e; cases e; try omega)] at k; exact k)
  | _ => walk_at "all" <;> exact k

def fracF (d : Dt) : Option Fk := match d with
  | .tup [a, b] => match numF a none none with
    | some _ => some .wk
    | none => numF b (some 1) none
  | .tup _ => some .ws
  | _ => some .wk
theorem fracF_ws {ds : List Dt} (h : ds.length ≠ 2) : fracF (.tup ds) = some .ws := by
  match ds, h with
  | [], _ => rfl
  | [a], _ => rfl
  | a :: b :: c :: r, _ => rfl
def P_l_fraction_fault (A : Ad) : Sp := fun vs H Q _ => ∃ (m : Addr) (d : Dt) (v : V), vs = [v] ∧ At m H d v ∧ Q (.str (Str.ofString (fs (fracF d)))) H
def b_l_fraction_fault (A : Ad) (W : WX) : TS := tSeq (bIf (tNot (bTru (bIsi .tup (bVar 0)))) (tRet (tC (.str "WrongKind"))) (tNext)) (tSeq (bIf (bTst (tOp (bNe A.K) (bLen (bVar 0)) (tC (.int 2)))) (tRet (tC (.str "WrongSize"))) (tNext)) (tSeq (bIf (bTst (tOp (bNe A.K) (bCall (P_l_number_fault A) W (tCons (tOp bIx (bVar 0) (tC (.int 0))) (tCons (tC .non) (tCons (tC .non) (tNil))))) (tC (.str "")))) (tRet (tC (.str "WrongKind"))) (tNext)) (tRet (bCall (P_l_number_fault A) W (tCons (tOp bIx (bVar 0) (tC (.int 1))) (tCons (tC (.int 1)) (tCons (tC .non) (tNil))))))))
theorem two_of {m : Addr} {H : Hp} {ds : List Dt} {xs : List V} (l : AtL m H ds xs) (h : xs.length = 2) : ∃ a b x y, ds = [a, b] ∧ xs = [x, y] ∧ At m H a x ∧ At m H b y := by
  match l, h with
  | .cons h1 (.cons h2 .nil), _ => exact ⟨_, _, _, _, rfl, rfl, h1, h2⟩
  | .nil, h => simp at h
  | .cons h1 .nil, h => simp at h
  | .cons h1 (.cons h2 (.cons h3 l)), h => simp at h
theorem r_l_fraction_fault (A : Ad) : ∀ vs H Q E, P_l_fraction_fault A vs H Q E → vs.length = 1 ∧ b_l_fraction_fault A (wE E) (dE Q) (start ["given"] vs) H := by
  rintro vs H Q E ⟨m, d, v, rfl, h, k⟩
  refine ⟨rfl, ?_⟩
  cases h with
  | @tup ds xs p n hp l =>
    walk_at "go"
    walk_at "br"
    have hl := l.len
    walk_at "go"
    walk_at "br"
    · rename_i hb
      rw [fracF_ws (by omega)] at k
      exact k
    · rename_i hb
      obtain ⟨a, b, x, y, rfl, rfl, h1, h2⟩ := two_of l (by omega)
      walk_at "go"
      refine ⟨m, a, x, none, none, rfl, h1, ?_⟩
      walk_at "br"
      · rename_i hb
        have e : fracF (.tup [a, b]) = some .wk := by
          cases e : numF a none none with
          | none => rw [e] at hb; exact absurd rfl hb
          | some f => simp only [fracF, e]
        rw [e] at k
        exact k
      · rename_i hb
        rw [fs_none] at hb
        have e : fracF (.tup [a, b]) = numF b (some 1) none := by
          unfold fracF
          simp only [hb]
        rw [e] at k
        walk_at "go"
        exact ⟨m, b, y, some 1, none, rfl, h2, k⟩
  | _ => walk_at "all" <;> exact k

/-- the first one that has a fault -/
def firstF : List (String × Option Fk) → Option (Fk × String)
  | [] => none
  | (n, some k) :: _ => some (k, n)
  | (_, none) :: r => firstF r
def dueD : Option (Fk × String) → Dt
  | none => .non
  | some (k, n) => .tup [.str (Str.ofString k.nm), .str (Str.ofString n)]
def rowD (l : List (String × Option Fk)) : Dt := .lst (l.map fun p => .tup [.str (Str.ofString p.1), .str (Str.ofString (fs p.2))])
def P_l_first_fault (A : Ad) : Sp := fun vs H Q _ => ∃ (m : Addr) (l : List (String × Option Fk)) (v : V), vs = [v] ∧ H m ≠ none ∧ At m H (rowD l) v ∧ ∀ v' H', Ex H H' → At m H' (dueD (firstF l)) v' → Q v' H'
def b_l_first_fault (A : Ad) (W : WX) : TS := tSeq (bForA (bVar 0) (gName 1) (bIf (bTst (tOp (bNe A.K) (tOp bIx (bVar 1) (tC (.int 1))) (tC (.str "")))) (tRet (bTup (tCons (tOp bIx (bVar 1) (tC (.int 1))) (tCons (tOp bIx (bVar 1) (tC (.int 0))) (tNil))))) (tNext))) (tRet (tC .non))
theorem firstF_skip : ∀ {l : List (String × Option Fk)} {i : Nat}, (∀ j p, j < i → l[j]? = some p → p.2 = none) → ∀ {p}, l[i]? = some p → p.2 = none → (∀ j p, j < i + 1 → l[j]? = some p → p.2 = none) := by
  intro l i h p hp e j q hj hq
  by_cases z : j = i
  · subst z; rw [hp] at hq; cases hq; exact e
  · exact h j q (by omega) hq
theorem firstF_at : ∀ {l : List (String × Option Fk)} {i : Nat} {n : String} {k : Fk}, (∀ j p, j < i → l[j]? = some p → p.2 = none) → l[i]? = some (n, some k) → firstF l = some (k, n)
  | [], i, _, _, _, h => by simp at h
  | p :: l, 0, n, k, _, h => by simp at h; subst h; rfl
  | (a, f) :: l, i + 1, n, k, hn, h => by
    have e : f = none := hn 0 (a, f) (by omega) rfl
    subst e
    exact firstF_at (l := l) (i := i) (fun j p hj hp => hn (j + 1) p (by omega) (by simpa using hp)) (by simpa using h)
theorem firstF_none : ∀ {l : List (String × Option Fk)}, (∀ j p, j < l.length → l[j]? = some p → p.2 = none) → firstF l = none
  | [], _ => rfl
  | (a, f) :: l, h => by
    have e : f = none := h 0 (a, f) (by simp) rfl
    subst e
    exact firstF_none (l := l) (fun j p hj hp => h (j + 1) p (by simp; omega) (by simpa using hp))
theorem r_l_first_fault (A : Ad) : ∀ vs H Q E, P_l_first_fault A vs H Q E → vs.length = 1 ∧ b_l_first_fault A (wE E) (dE Q) (start ["pair_row", "item"] vs) H := by
  rintro vs H Q E ⟨m, l, v, rfl, hm, h, k⟩
  refine ⟨rfl, ?_⟩
  obtain ⟨p, xs, rfl, n, hp, al⟩ := at_lst_inv h
  have hl := al.len
  rw [List.length_map] at hl
  refine Get.mk _ hp ?_
  refine LoopL.mk (fun i σ H' => H' = H ∧ (∃ o, σ = [some (.ref p), o]) ∧ (∀ j q, j < i → l[j]? = some q → q.2 = none)) ⟨rfl, ⟨none, rfl⟩, fun j q z => absurd z (Nat.not_lt_zero _)⟩ ?_ ?_ ?_
  · rintro i σ H' _ ⟨rfl, _⟩
    exact .inl hp
  · rintro i x σ H' hx ⟨rfl, ⟨o, rfl⟩, hno⟩
    obtain ⟨d, hd, hat⟩ := al.get hx
    rw [List.getElem?_map] at hd
    cases e : l[i]? with
    | none => rw [e] at hd; cases hd
    | some q =>
      obtain ⟨nm, f⟩ := q
      rw [e] at hd
      cases hd
      obtain ⟨t, ys, rfl, nt, ht, tl⟩ := at_tup_inv hat
      cases tl with
      | cons a1 tl => cases tl with
        | cons a2 tl =>
          cases tl
          cases a1
          cases a2
          walk_at "go"
          walk_at "br"
          · rename_i hb
            cases f with
            | none => exact absurd rfl hb
            | some fk =>
              have e2 := firstF_at hno e
              rw [e2] at k
              walk_at "go"
              exact k _ _ (by walk_at "xe") (.tup (by walk_at "nn") (by walk_at "hg") (.cons (.str _) (.cons (.str _) .nil)))
          · rename_i hb
            rw [fs_none] at hb
            exact ⟨rfl, ⟨_, rfl⟩, firstF_skip hno e hb⟩
  · rintro σ H' ⟨rfl, ⟨o, rfl⟩, hno⟩
    rw [firstF_none (fun j q hj => hno j q (by omega))] at k
    exact k _ _ (Ex.refl _) .non
/-! ### picking one out of a list of data -/
theorem nxt {D : Ends} {σ : Sg} {H : Hp} (h : D.nx σ H) : tNext D σ H := h
theorem ret_pick {m : Addr} {tl ti : TE} {σ : Sg} {H : Hp} {D : Ends} {ds : List Dt} (h : Dv m tl σ H (.lst ds)) (k : ∀ v H1, Ex H H1 → At m H1 (.lst ds) v → ti σ H1 fun i H2 => bIx v i H2 D.rt) : tRet (tOp bIx tl ti) D σ H :=
  h.run k
theorem asg_dv {m : Addr} {tl : TE} {g : TG} {t : TS} {D : Ends} {σ : Sg} {H : Hp} {d : Dt} (h : Dv m tl σ H d) (k : ∀ v H1, Ex H H1 → At m H1 d v → g v σ H1 fun σ2 H2 => t D σ2 H2) : tSeq (tAsg tl g) t D σ H :=
  h.run k
theorem At.pick {m : Addr} {H : Hp} {ds : List Dt} {v : V} {i : Int} {Q : VK} (a : At m H (.lst ds) v) (h0 : 0 ≤ i) (h1 : i < ds.length) (k : ∀ x d, ds[i.toNat]? = some d → At m H d x → Q x H) : bIx v (.int i) H Q := by
  obtain ⟨p, xs, rfl, n, hp, l⟩ := at_lst_inv a
  obtain ⟨x, d, e, hd, ha⟩ := l.ati h0 h1
  exact Get.mk _ hp (AtI.mk _ e (k x d hd ha))
theorem dx_pow {m : Addr} {σ : Sg} {H : Hp} {i j : Int} (h : CPow i j) (h0 : 0 ≤ j) : Dv m (tOp bPow (tC (.int i)) (tC (.int j))) σ H (.int (i ^ j.toNat)) := fun H1 _ Q k => ⟨h, k _ H1 (Ex.refl _) (.int _)⟩
theorem dx_vi {m : Addr} {σ : Sg} {H : Hp} {n : Nat} {i : Int} (e : σ[n]? = some (some (.int i))) : Dv m (bVar n) σ H (.int i) := dx_var e (.int i)
theorem dx_add {m : Addr} {σ : Sg} {H : Hp} {ta tb : TE} {i j : Int} (h1 : Dv m ta σ H (.int i)) (h2 : Dv m tb σ H (.int j)) : Dv m (tOp bAdd ta tb) σ H (.int (i + j)) := fun H1 x Q k =>
  h1 H1 x _ fun v H2 x2 a => h2 H2 (x.trans x2) _ fun w H3 x3 b => by
    cases a; cases b
    exact k _ H3 (x2.trans x3) (.int _)
theorem dx_sub {m : Addr} {σ : Sg} {H : Hp} {ta tb : TE} {i j : Int} (h1 : Dv m ta σ H (.int i)) (h2 : Dv m tb σ H (.int j)) : Dv m (tOp bSub ta tb) σ H (.int (i - j)) := fun H1 x Q k =>
  h1 H1 x _ fun v H2 x2 a => h2 H2 (x.trans x2) _ fun w H3 x3 b => by
    cases a; cases b
    exact k _ H3 (x2.trans x3) (.int _)
theorem dx_lsts {m : Addr} {σ : Sg} {H : Hp} {ta tb : TE} {ds es : List Dt} (hm : H m ≠ none) (h1 : Dv m ta σ H (.lst ds)) (h2 : Dv m tb σ H (.lst es)) (hl : ds.length + es.length ≤ 1000) : Dv m (tOp bAdd ta tb) σ H (.lst (ds ++ es)) := fun H1 x Q k =>
  h1 H1 x _ fun v H2 x2 a => h2 H2 (x.trans x2) _ fun w H3 x3 b => by
    obtain ⟨p, xs, rfl, n, hp, l⟩ := at_lst_inv (a.mono x3)
    obtain ⟨q, ys, rfl, n2, hq, l2⟩ := at_lst_inv b
    refine Get.mk _ hp (Get.mk _ hq ⟨?_, Alloc.mk fun r H4 x4 n4 h4 => ?_⟩)
    · rw [l.len, l2.len]
      exact Nat.le_trans hl (by decide)
    · exact k _ H4 (x2.trans (x3.trans x4)) (at_lst (fun z => hm (((x.trans x2).trans x3).fresh (z ▸ n4))) h4 ((l.append l2).mono x4))
local macro_rules | `(tactic| walk_at "dv") => `(tactic| repeat first
  | exact dx_int _ | exact dx_str _ | exact dx_bl _ | exact dx_non | exact dx_neg _ | exact dx_vi rfl
  | exact dxa_nil | refine dxa_cons ?_ ?_ | refine dx_tup (by assumption) ?_ | refine dx_lst (by assumption) ?_ | exact dx_dct (by assumption) | exact dx_pow (by unfold CPow; decide) (by decide) | refine dx_add ?_ ?_ | refine dx_sub ?_ ?_)

def P_l_odd_number (A : Ad) : Sp := fun vs H Q _ => ∃ (st : Sto) (lo hi : Option Int), vs = [.ref st, optV lo, optV hi] ∧ Store H st ∧ (∀ l, lo = some l → l.natAbs < 2 ^ 64) ∧ (∀ l, hi = some l → l.natAbs < 2 ^ 64) ∧
  ∀ (d : Dt) (v : V) H', ExB st H H' → Store H' st → At st H' d v → d.fit → Q v H'
def b_l_odd_number (A : Ad) (W : WX) : TS := tSeq (tAsg (tC (.int 0)) (gName 3)) (tSeq (bIf (bTst (tOp (bNotN) (bVar 1) (tC .non))) (tAsg (bVar 1) (gName 3)) (tNext)) (tSeq (tAsg (bVar 3) (gName 4)) (tSeq (bIf (bTst (tOp (bNotN) (bVar 2) (tC .non))) (tAsg (bVar 2) (gName 4)) (tNext)) (tSeq (tAsg (bCall (P_l_take A) W (tCons (bVar 0) (tCons (tC (.int 14)) (tNil)))) (gName 5)) (tSeq (bIf (bTst (tOp (bLt) (bVar 5) (tC (.int 8)))) (tRet (tOp bIx (bLst (tCons (tC .non) (tCons (tC (.bl true)) (tCons (tC (.bl false)) (tCons (tC (.str "")) (tCons (tC (.str "1")) (tCons (bLst (tCons (tC (.int 0)) (tNil))) (tCons (bTup (tCons (tC (.int 1)) (tNil))) (tCons (bDct0) (tNil)))))))))) (bVar 5))) (tNext)) (tRet (tOp bIx (bLst (tCons (tOp bSub (bVar 3) (tC (.int 1))) (tCons (tOp bAdd (bVar 4) (tC (.int 1))) (tCons (tOp bSub (bVar 3) (tOp bPow (tC (.int 10)) (tC (.int 40)))) (tCons (tOp bAdd (bVar 4) (tOp bPow (tC (.int 10)) (tC (.int 40)))) (tCons (bVar 3) (tCons (bVar 4) (tNil)))))))) (tOp bSub (bVar 5) (tC (.int 8))))))))))
theorem tail_odd (A : Ad) {Q : VK} {E : XK} {H : Hp} {st : Sto} {v1 v2 : V} {L M : Int} (hS : Store H st) (hL : L.natAbs < 2 ^ 64) (hM : M.natAbs < 2 ^ 64)
    (k : ∀ (d : Dt) (v : V) H', ExB st H H' → Store H' st → At st H' d v → d.fit → Q v H') :
    (tSeq (tAsg (bCall (P_l_take A) (wE E) (tCons (bVar 0) (tCons (tC (.int 14)) (tNil)))) (gName 5)) (tSeq (bIf (bTst (tOp (bLt) (bVar 5) (tC (.int 8)))) (tRet (tOp bIx (bLst (tCons (tC .non) (tCons (tC (.bl true)) (tCons (tC (.bl false)) (tCons (tC (.str "")) (tCons (tC (.str "1")) (tCons (bLst (tCons (tC (.int 0)) (tNil))) (tCons (bTup (tCons (tC (.int 1)) (tNil))) (tCons (bDct0) (tNil)))))))))) (bVar 5))) (tNext)) (tRet (tOp bIx (bLst (tCons (tOp bSub (bVar 3) (tC (.int 1))) (tCons (tOp bAdd (bVar 4) (tC (.int 1))) (tCons (tOp bSub (bVar 3) (tOp bPow (tC (.int 10)) (tC (.int 40)))) (tCons (tOp bAdd (bVar 4) (tOp bPow (tC (.int 10)) (tC (.int 40)))) (tCons (bVar 3) (tCons (bVar 4) (tNil)))))))) (tOp bSub (bVar 5) (tC (.int 8))))))) (dE Q) [some (.ref st), some v1, some v2, some (.int L), some (.int M), none] H := by
  refine ⟨st, 14, rfl, hS, Sz.small (by decide), fun r H1 x1 s1 r0 r1 => ?_⟩
  have hm := s1.some
  walk_at "br"
  · refine ret_pick (m := st) (ds := [.non, .bl true, .bl false, .str "", .str "1", .lst [.int 0], .tup [.int 1], .dct]) (by walk_at "dv") fun v H2 x2 a => ?_
    refine a.pick r0 (by show r < 8; omega) fun x d hd ha => ?_
    exact k d x H2 (x1.trans (x2.but st)) (s1.mono x2) ha ⟨sms_get (k := 140) (by simp [Dt.sms, Dt.sm, Dt.hs]) hd, (by simp [Dt.okN] : ∀ d ∈ _, Dt.okN 4 d) d (List.mem_of_getElem? hd)⟩
  · refine nxt ?_
    dsimp only
    refine ret_pick (m := st) (ds := [.int (L - 1), .int (M + 1), .int (L - 10 ^ 40), .int (M + 10 ^ 40), .int L, .int M]) (by walk_at "dv") fun v H2 x2 a => ?_
    refine a.pick (i := r - 8) (by omega) (by show r - 8 < 6; omega) fun x d hd ha => ?_
    exact k d x H2 (x1.trans (x2.but st)) (s1.mono x2) ha ⟨sms_get (k := 140) (by simp only [Dt.sms, Dt.sm, and_true]; refine ⟨?_, ?_, ?_, ?_, ?_, ?_⟩ <;> omega) hd, (by simp [Dt.okN] : ∀ d ∈ _, Dt.okN 4 d) d (List.mem_of_getElem? hd)⟩
theorem r_l_odd_number (A : Ad) : ∀ vs H Q E, P_l_odd_number A vs H Q E → vs.length = 3 ∧ b_l_odd_number A (wE E) (dE Q) (start ["store", "low", "high", "least", "most", "kind"] vs) H := by
  rintro vs H Q E ⟨st, lo, hi, rfl, hS, h1, h2, k⟩
  refine ⟨rfl, ?_⟩
  cases lo <;> cases hi <;> walk_at "go" <;> walk_at "br" <;> walk_at "go" <;> walk_at "br"
  · exact tail_odd (E := E) A hS (by decide) (by decide) k
  · exact tail_odd (E := E) A hS (by decide) (h2 _ rfl) k
  · exact tail_odd (E := E) A hS (h1 _ rfl) (h1 _ rfl) k
  · exact tail_odd (E := E) A hS (h1 _ rfl) (h2 _ rfl) k

def P_l_odd_fraction (A : Ad) : Sp := fun vs H Q _ => ∃ (st : Sto), vs = [.ref st] ∧ Store H st ∧
  ∀ (d : Dt) (v : V) H', ExB st H H' → Store H' st → At st H' d v → d.fit → Q v H'
def b_l_odd_fraction (A : Ad) (W : WX) : TS := tSeq (tAsg (bLst (tCons (tC .non) (tCons (tC (.int 1)) (tCons (tC (.str "1/2")) (tCons (bLst (tCons (tC (.int 1)) (tCons (tC (.int 2)) (tNil)))) (tCons (bTup (tNil)) (tCons (bTup (tCons (tC (.int 1)) (tNil))) (tCons (bTup (tCons (tC (.int 1)) (tCons (tC (.int 2)) (tCons (tC (.int 3)) (tNil))))) (tCons (bTup (tCons (tC (.bl true)) (tCons (tC (.int 2)) (tNil)))) (tCons (bTup (tCons (tC (.int 1)) (tCons (tC (.bl true)) (tNil)))) (tCons (bTup (tCons (tC (.str "1")) (tCons (tC (.int 2)) (tNil)))) (tCons (bTup (tCons (tC (.int 1)) (tCons (tC .non) (tNil)))) (tCons (bTup (tCons (tC .non) (tCons (tC (.int 0)) (tNil)))) (tNil)))))))))))))) (gName 1)) (tSeq (tAsg (tOp bAdd (bVar 1) (bLst (tCons (bTup (tCons (tC (.int 1)) (tCons (tC (.int 0)) (tNil)))) (tCons (bTup (tCons (tC (.int 1)) (tCons (tUn bNeg (tC (.int 2))) (tNil)))) (tCons (bTup (tCons (tC (.int 0)) (tCons (tC (.int 0)) (tNil)))) (tCons (bTup (tCons (tUn bNeg (tC (.int 1))) (tCons (tUn bNeg (tC (.int 1))) (tNil)))) (tCons (bTup (tCons (tOp bPow (tC (.int 10)) (tC (.int 40))) (tCons (tC (.int 0)) (tNil)))) (tCons (bTup (tCons (tC (.int 0)) (tCons (tC (.int 1)) (tNil)))) (tCons (bTup (tCons (tUn bNeg (tC (.int 6))) (tCons (tC (.int 4)) (tNil)))) (tNil)))))))))) (gName 1)) (tSeq (tAsg (tOp bAdd (bVar 1) (bLst (tCons (bTup (tCons (tC (.str "1")) (tNil))) (tCons (bTup (tCons (tC .non) (tCons (tC (.int 2)) (tCons (tC (.int 3)) (tNil))))) (tCons (bTup (tCons (tC (.int 1)) (tCons (tC (.bl true)) (tCons (tC (.int 2)) (tNil))))) (tCons (bTup (tCons (tC (.int 1)) (tCons (tC (.int 0)) (tCons (tC (.int 3)) (tNil))))) (tCons (bTup (tCons (tC .non) (tNil))) (tCons (bTup (tCons (tC (.int 1)) (tCons (tC (.int 2)) (tCons (tC (.str "3")) (tNil))))) (tCons (bDct0) (tNil)))))))))) (gName 1)) (tRet (tOp bIx (bVar 1) (bCall (P_l_take A) W (tCons (bVar 0) (tCons (bLen (bVar 1)) (tNil))))))))
theorem r_l_odd_fraction (A : Ad) : ∀ vs H Q E, P_l_odd_fraction A vs H Q E → vs.length = 1 ∧ b_l_odd_fraction A (wE E) (dE Q) (start ["store", "menu"] vs) H := by
  rintro vs H Q E ⟨st, rfl, hS, k⟩
  refine ⟨rfl, ?_⟩
  have hm := hS.some
  refine asg_dv (m := st) (d := .lst [.non, .int 1, .str "1/2", .lst [.int 1, .int 2], .tup [], .tup [.int 1], .tup [.int 1, .int 2, .int 3], .tup [.bl true, .int 2], .tup [.int 1, .bl true], .tup [.str "1", .int 2], .tup [.int 1, .non], .tup [.non, .int 0]]) (by walk_at "dv") fun v1 H1 x1 a1 => ?_
  have hm := (hS.mono x1).some
  refine asg_dv (m := st) (d := .lst ([.non, .int 1, .str "1/2", .lst [.int 1, .int 2], .tup [], .tup [.int 1], .tup [.int 1, .int 2, .int 3], .tup [.bl true, .int 2], .tup [.int 1, .bl true], .tup [.str "1", .int 2], .tup [.int 1, .non], .tup [.non, .int 0]] ++ [.tup [.int 1, .int 0], .tup [.int 1, .int (-2)], .tup [.int 0, .int 0], .tup [.int (-1), .int (-1)], .tup [.int (10 ^ 40), .int 0], .tup [.int 0, .int 1], .tup [.int (-6), .int 4]]))
    (dx_lsts hm (dx_var rfl a1) (by walk_at "dv") (by decide)) fun v2 H2 x2 a2 => ?_
  have hm := (hS.mono (x1.trans x2)).some
  refine asg_dv (m := st) (d := .lst (([.non, .int 1, .str "1/2", .lst [.int 1, .int 2], .tup [], .tup [.int 1], .tup [.int 1, .int 2, .int 3], .tup [.bl true, .int 2], .tup [.int 1, .bl true], .tup [.str "1", .int 2], .tup [.int 1, .non], .tup [.non, .int 0]] ++ [.tup [.int 1, .int 0], .tup [.int 1, .int (-2)], .tup [.int 0, .int 0], .tup [.int (-1), .int (-1)], .tup [.int (10 ^ 40), .int 0], .tup [.int 0, .int 1], .tup [.int (-6), .int 4]])
    ++ [.tup [.str "1"], .tup [.non, .int 2, .int 3], .tup [.int 1, .bl true, .int 2], .tup [.int 1, .int 0, .int 3], .tup [.non], .tup [.int 1, .int 2, .str "3"], .dct]))
    (dx_lsts hm (dx_var rfl a2) (by walk_at "dv") (by decide)) fun v3 H3 x3 a3 => ?_
  obtain ⟨p, xs, rfl, n, hp, l⟩ := at_lst_inv a3
  have hl := l.len
  refine Get.mk _ hp ?_
  refine ⟨st, _, rfl, hS.mono (x1.trans (x2.trans x3)), Sz.small (by rw [hl]; decide), fun r H4 x4 s4 r0 r1 => ?_⟩
  have a4 := a3.monoB x4
  have r2 : r < 26 := by
    rw [hl] at r1
    simp only [List.length_append, List.length_cons, List.length_nil] at r1
    omega
  refine a4.pick r0 (by simpa using r2) fun x d hd ha => ?_
  exact k d x H4 (((x1.trans (x2.trans x3)).but st).trans x4) s4 ha ⟨sms_get (k := 140) (by simp [Dt.sms, Dt.sm, Dt.hs]) hd, (by simp [Dt.okN] : ∀ d ∈ _, Dt.okN 4 d) d (List.mem_of_getElem? hd)⟩

def P_l_beside (A : Ad) : Sp := fun vs H Q _ => ∃ (st : Sto) (d : Dt) (v : V), vs = [.ref st, v] ∧ Store H st ∧ At st H d v ∧ d.sm 270 ∧
  ∀ (d : Dt) (v : V) H', ExB st H H' → Store H' st → At st H' d v → d.sm 270 → Q v H'
def b_l_beside (A : Ad) (W : WX) : TS := tSeq (bIf (bTst (tOp (bEq A.K) (bCall (P_l_take A) W (tCons (bVar 0) (tCons (tC (.int 2)) (tNil)))) (tC (.int 0)))) (tRet (bVar 1)) (tNext)) (tRet (bCall (P_l_odd_fraction A) W (tCons (bVar 0) (tNil))))
theorem r_l_beside (A : Ad) : ∀ vs H Q E, P_l_beside A vs H Q E → vs.length = 2 ∧ b_l_beside A (wE E) (dE Q) (start ["store", "item"] vs) H := by
  rintro vs H Q E ⟨st, d, v, rfl, hS, ha, hd, k⟩
  refine ⟨rfl, ?_⟩
  walk_at "go"
  refine ⟨st, 2, rfl, hS, Sz.small (by decide), fun r H1 x1 s1 r0 r1 => ?_⟩
  walk_at "br"
  · exact k d v H1 x1 s1 (ha.monoB x1) hd
  · walk_at "go"
    refine ⟨st, rfl, s1, fun d2 v2 H2 x2 s2 a2 h2 => ?_⟩
    exact k d2 v2 H2 (x1.trans x2) s2 a2 (Dt.sm_mono (by decide) h2.1)

def P_l_base (A : Ad) : Sp := fun vs H Q _ => ∃ (st : Sto) (n : Int), vs = [.ref st, .int n] ∧ Store H st ∧ 0 ≤ n ∧ n ≤ 64 ∧
  ∀ (a b : Int) (v : V) H', ExB st H H' → Store H' st → At st H' (.tup [.int a, .int b]) v → 1 ≤ b → a.natAbs < 2 ^ 68 → b.natAbs < 2 ^ 68 → Q v H'
def b_l_base (A : Ad) (W : WX) : TS := tSeq (tAsg (tOp bSub (bCall (P_l_ten A) W (tCons (bMin (tC (.int 20)) (tOp bFdv (tC (.int 90)) (bMax (tC (.int 1)) (bVar 1)))) (tNil))) (tC (.int 1))) (gName 2)) (tSeq (tAsg (bCall (P_l_near A) W (tCons (bVar 0) (tCons (tC (.int 1)) (tCons (bVar 2) (tNil))))) (gName 3)) (tSeq (bIf (bTst (tOp (bEq A.K) (bCall (P_l_take A) W (tCons (bVar 0) (tCons (tC (.int 4)) (tNil)))) (tC (.int 0)))) (tRet (bTup (tCons (tC (.int 0)) (tCons (bVar 3) (tNil))))) (tNext)) (tRet (bTup (tCons (bCall (P_l_near A) W (tCons (bVar 0) (tCons (tOp bSub (tC (.int 0)) (bVar 2)) (tCons (bVar 2) (tNil))))) (tCons (bVar 3) (tNil)))))))
theorem r_l_base (A : Ad) : ∀ vs H Q E, P_l_base A vs H Q E → vs.length = 2 ∧ b_l_base A (wE E) (dE Q) (start ["store", "many", "high", "low"] vs) H := by
  rintro vs H Q E ⟨st, n, rfl, hS, n0, n1, k⟩
  refine ⟨rfl, ?_⟩
  walk_at "go"
  rename_i q e1 e2
  subst e1
  clear e2
  have hx : (max 1 n : Int) ≠ 0 := by omega
  have hx1 : (1 : Int) ≤ max 1 n := by omega
  have q0 : (1 : Int) ≤ Int.fdiv 90 (max 1 n) := by
    rw [Int.fdiv_eq_ediv_of_nonneg 90 (by omega)]
    exact Int.le_ediv_of_mul_le (by omega) (by omega)
  have q1 : (1 : Int) ≤ min 20 (Int.fdiv 90 (max 1 n)) := by omega
  generalize hg : min 20 (Int.fdiv 90 (max 1 n)) = g at q1
  have g2 : g ≤ 20 := by omega
  refine ⟨g, by rw [hg], by omega, by omega, fun t ht => ?_⟩
  have t0 : 10 ≤ t := by
    obtain ⟨z, hz⟩ : ∃ z, g.toNat = z + 1 := ⟨g.toNat - 1, by omega⟩
    rw [ht, hz, Int.pow_succ]
    have := ten_pos z
    omega
  have t1 : t ≤ 10 ^ 20 := by
    rw [ht]
    exact_mod_cast Nat.pow_le_pow_right (n := 10) (by decide) (by omega : g.toNat ≤ 20)
  walk_at "go"
  refine ⟨st, _, _, rfl, hS, by omega, Sz.of 70 (by omega) (by decide) (by decide), fun b H1 x1 s1 b0 b1 => ?_⟩
  walk_at "go"
  refine ⟨st, 4, rfl, s1, Sz.small (by decide), fun r H2 x2 s2 r0 r1 => ?_⟩
  walk_at "br"
  · walk_at "go"
    exact k 0 b _ _ (x1.trans (x2.trans (ExB.trans ((by assumption : Ex _ _).but st) (Ex.refl _ |>.but st)))) (s2.mono (by assumption)) (.tup (s2.ne (by assumption)) (by walk_at "hg") (.cons (.int _) (.cons (.int _) .nil))) b0 (by decide) (by omega)
  · walk_at "go"
    refine ⟨st, _, _, rfl, s2, by omega, Sz.of 70 (by omega) (by decide) (by decide), fun a H3 x3 s3 a0 a1 => ?_⟩
    walk_at "go"
    exact k a b _ _ (x1.trans (x2.trans (x3.trans ((by assumption : Ex _ _).but st)))) (s3.mono (by assumption)) (.tup (s3.ne (by assumption)) (by walk_at "hg") (.cons (.int _) (.cons (.int _) .nil))) b0 (by omega) (by omega)
/-! ### what the program's checks do -/
def Ad.fk (A : Ad) : Fk → Addr
  | .wk => A.WrongKind | .ws => A.WrongSize | .oor => A.OutOfRange
/-- the error of the class k is raised, naming n -/
def Raises (A : Ad) (H : Hp) (E : XK) (k : Fk) (n : Str) : Prop := ∀ dd H', Ex H H' → H' dd = some (.xd [("argument", .str n)]) → E (.ref (A.fk k)) (some dd) H'
theorem Raises.mono {A : Ad} {H H1 : Hp} {E : XK} {k : Fk} {n : Str} (h : Raises A H E k n) (x : Ex H H1) : Raises A H1 E k n := fun dd H' x' hd => h dd H' (x.trans x') hd
/-- the check of a value with the fault f -/
def Chk (A : Ad) (H : Hp) (Q : VK) (E : XK) (f : Option Fk) (n : Str) : Prop := (f = none → Q .non H) ∧ ∀ k, f = some k → Raises A H E k n
theorem raise_of {A : Ad} {H : Hp} {E : XK} {k : Fk} {n : Str} (h : Raises A H E k n) : NewX H "argument" (.str n) fun d H' => E (.ref (A.fk k)) (some d) H' := NewX.mk fun d H' x _ hd => h d H' x hd
def P_check_integer (A : Ad) : Sp := fun vs H Q E => ∃ (m : Addr) (d : Dt) (v : V) (n : Str), vs = [v, .str n] ∧ At m H d v ∧ Chk A H Q E (numF d none none) n
theorem num_wk {d : Dt} {k : Fk} {lo hi : Option Int} (h : numF d none none = some k) : k = .wk ∧ numF d lo hi = some .wk := by
  cases d <;> simp [numF] at h ⊢ <;> exact h.symm
def P_is_integer (A : Ad) : Sp := fun vs H Q _ => ∃ (m : Addr) (d : Dt) (v : V), vs = [v] ∧ At m H d v ∧ (numF d none none = none → Q (.bl true) H) ∧ (∀ k, numF d none none = some k → Q (.bl false) H)
def b_is_integer (A : Ad) (W : WX) : TS := tRet (bAndV (bIsi .int (bVar 0)) (bNotV (bIsi .bl (bVar 0))))
theorem r_is_integer (A : Ad) : ∀ vs H Q E, P_is_integer A vs H Q E → vs.length = 1 ∧ b_is_integer A (wE E) (dE Q) (start ["value"] vs) H := by
  rintro vs H Q E ⟨m, d, v, rfl, h, k1, k2⟩
  refine ⟨rfl, ?_⟩
  cases h with
  | int i => walk_at "all"; exact k1 rfl
  | _ => walk_at "all" <;> exact k2 .wk rfl
def b_check_integer (A : Ad) (W : WX) : TS := bIf (tNot (bTru (bCall (P_is_integer A) W (tCons (bVar 0) (tNil))))) (bRaise A.WrongKind "argument" W (bVar 1)) (tNext)
theorem r_check_integer (A : Ad) : ∀ vs H Q E, P_check_integer A vs H Q E → vs.length = 2 ∧ b_check_integer A (wE E) (dE Q) (start ["value", "argument"] vs) H := by
  rintro vs H Q E ⟨m, d, v, n, rfl, h, k1, k2⟩
  refine ⟨rfl, ?_⟩
  refine ⟨m, d, v, rfl, h, fun e => ?_, fun k e => ?_⟩
  · walk_at "all"; exact k1 e
  · walk_at "all"; rw [(num_wk (lo := none) (hi := none) e).1] at e; exact raise_of (k := .wk) (k2 .wk e)

def P_check_range (A : Ad) : Sp := fun vs H Q E => ∃ (m : Addr) (d : Dt) (v : V) (lo hi : Int) (n : Str), vs = [v, .int lo, .int hi, .str n] ∧ At m H d v ∧ Chk A H Q E (numF d (some lo) (some hi)) n
def b_check_range (A : Ad) (W : WX) : TS := tSeq (tDrop (bCall (P_check_integer A) W (tCons (bVar 0) (tCons (bVar 3) (tNil))))) (bIf (bOr (bTst (tOp (bLt) (bVar 0) (bVar 1))) (bTst (tOp (bGt) (bVar 0) (bVar 2)))) (bRaise A.OutOfRange "argument" W (bVar 3)) (tNext))
theorem r_check_range (A : Ad) : ∀ vs H Q E, P_check_range A vs H Q E → vs.length = 4 ∧ b_check_range A (wE E) (dE Q) (start ["value", "least", "greatest", "argument"] vs) H := by
  rintro vs H Q E ⟨m, d, v, lo, hi, n, rfl, h, k1, k2⟩
  refine ⟨rfl, ?_⟩
  refine ⟨m, d, v, n, rfl, h, fun e => ?_, fun k e => ?_⟩
  · cases h with
    | int i =>
      walk_at "all"
      · exact raise_of (k := .oor) (k2 .oor (numF_oor (.inl ⟨_, rfl, by assumption⟩)))
      · exact raise_of (k := .oor) (k2 .oor (numF_oor (.inr ⟨_, rfl, by assumption⟩)))
      · exact k1 (numF_ok (by intro l e; cases e; omega) (by intro l e; cases e; omega))
    | _ => cases e
  · cases h with
    | int i => simp [numF] at e
    | _ => cases e; exact k2 .wk rfl

def P_check_fraction (A : Ad) : Sp := fun vs H Q E => ∃ (m : Addr) (d : Dt) (v : V) (n : Str), vs = [v, .str n] ∧ At m H d v ∧ Chk A H Q E (fracF d) n
def b_check_fraction (A : Ad) (W : WX) : TS := tSeq (bIf (tNot (bTru (bIsi .tup (bVar 0)))) (bRaise A.WrongKind "argument" W (bVar 1)) (tNext)) (tSeq (bIf (bTst (tOp (bNe A.K) (bLen (bVar 0)) (tC (.int 2)))) (bRaise A.WrongSize "argument" W (bVar 1)) (tNext)) (tSeq (bForA (bVar 0) (gName 2) (tDrop (bCall (P_check_integer A) W (tCons (bVar 2) (tCons (bVar 1) (tNil)))))) (bIf (bTst (tOp (bLt) (tOp bIx (bVar 0) (tC (.int 1))) (tC (.int 1)))) (bRaise A.OutOfRange "argument" W (bVar 1)) (tNext))))
theorem frac_wk1 {a b : Dt} {k : Fk} (h : numF a none none = some k) : fracF (.tup [a, b]) = some .wk := by simp only [fracF, h]
theorem frac_2 {a b : Dt} (h : numF a none none = none) : fracF (.tup [a, b]) = numF b (some 1) none := by simp only [fracF, h]
theorem num_int {d : Dt} {lo hi : Option Int} (h : numF d lo hi = none) : ∃ i, d = .int i := by
  cases d <;> simp [numF] at h ⊢
theorem frac_some {d : Dt} (h : fracF d = none) : ∃ a b : Int, d = .tup [.int a, .int b] ∧ 1 ≤ b := by
  cases d with
  | tup ds =>
    by_cases e : ds.length = 2
    · match ds, e with
      | [x, y], _ =>
        cases ex : numF x none none with
        | some k => rw [frac_wk1 ex] at h; cases h
        | none =>
          rw [frac_2 ex] at h
          obtain ⟨i, rfl⟩ := num_int ex
          obtain ⟨j, rfl⟩ := num_int h
          refine ⟨i, j, rfl, ?_⟩
          simp [numF] at h
          omega
    · rw [fracF_ws e] at h; cases h
  | _ => simp [fracF] at h
theorem r_check_fraction (A : Ad) : ∀ vs H Q E, P_check_fraction A vs H Q E → vs.length = 2 ∧ b_check_fraction A (wE E) (dE Q) (start ["fraction", "argument", "item"] vs) H := by
  rintro vs H Q E ⟨m, d, v, n, rfl, h, k1, k2⟩
  refine ⟨rfl, ?_⟩
  cases h with
  | @tup ds xs p nm hp l =>
    have hl := l.len
    walk_at "go"
    walk_at "br"
    walk_at "go"
    walk_at "br"
    · exact raise_of (k := .ws) (k2 .ws (fracF_ws (by omega)))
    · rename_i hb
      obtain ⟨a, b, x, y, rfl, rfl, h1, h2⟩ := two_of l (by omega)
      walk_at "go"
      refine LoopT.mk (fun i σ H' => H' = H ∧ (∃ o, σ = [some (.ref p), some (.str n), o]) ∧ (0 < i → numF a none none = none) ∧ (1 < i → numF b none none = none)) ⟨rfl, ⟨none, rfl⟩, fun z => absurd z (by decide), fun z => absurd z (by decide)⟩ ?_ ?_ ?_
      · rintro i σ H' _ ⟨rfl, _⟩
        exact .inl hp
      · rintro i z σ H' hx ⟨rfl, ⟨o, rfl⟩, q1, q2⟩
        walk_at "go"
        match i, hx with
        | 0, hx =>
          cases hx
          refine ⟨m, a, _, n, rfl, h1, fun e => ?_, fun k e => ?_⟩
          · exact ⟨rfl, ⟨_, rfl⟩, fun _ => e, fun z => absurd z (by decide)⟩
          · rw [(num_wk (lo := none) (hi := none) e).1]
            exact k2 .wk (frac_wk1 e)
        | 1, hx =>
          cases hx
          refine ⟨m, b, _, n, rfl, h2, fun e => ?_, fun k e => ?_⟩
          · exact ⟨rfl, ⟨_, rfl⟩, fun _ => q1 (by decide), fun z => e⟩
          · rw [(num_wk (lo := none) (hi := none) e).1]
            exact k2 .wk (by rw [frac_2 (q1 (by decide))]; exact (num_wk e).2)
        | i + 2, hx => simp at hx
      · rintro σ H' ⟨rfl, ⟨o, rfl⟩, q1, q2⟩
        have r1 := q1 (by simp)
        obtain ⟨j, rfl⟩ := num_int (q2 (by simp))
        cases h2
        walk_at "go"
        walk_at "br"
        · exact raise_of (k := .oor) (k2 .oor (by rw [frac_2 r1]; exact numF_oor (.inl ⟨1, rfl, by assumption⟩)))
        · exact k1 (by rw [frac_2 r1]; exact numF_ok (by intro l e; cases e; omega) (by intro l e; cases e))
  | _ => walk_at "all" <;> exact raise_of (k := .wk) (k2 .wk rfl)
def P_check_pair (A : Ad) : Sp := fun vs H Q E => ∃ (m : Addr) (d1 d2 : Dt) (v1 v2 : V), vs = [v1, v2] ∧ At m H d1 v1 ∧ At m H d2 v2 ∧
  (fracF d1 = none → fracF d2 = none → Q .non H) ∧ (∀ k, fracF d1 = some k → Raises A H E k "first") ∧ (fracF d1 = none → ∀ k, fracF d2 = some k → Raises A H E k "second")
def b_check_pair (A : Ad) (W : WX) : TS := tSeq (tDrop (bCall (P_check_fraction A) W (tCons (bVar 0) (tCons (tC (.str "first")) (tNil))))) (tDrop (bCall (P_check_fraction A) W (tCons (bVar 1) (tCons (tC (.str "second")) (tNil)))))
theorem r_check_pair (A : Ad) : ∀ vs H Q E, P_check_pair A vs H Q E → vs.length = 2 ∧ b_check_pair A (wE E) (dE Q) (start ["first", "second"] vs) H := by
  rintro vs H Q E ⟨m, d1, d2, v1, v2, rfl, h1, h2, k0, k1, k2⟩
  refine ⟨rfl, ?_⟩
  refine ⟨m, d1, v1, "first", rfl, h1, fun e1 => ?_, fun k e => k1 k e⟩
  exact ⟨m, d2, v2, "second", rfl, h2, fun e2 => k0 e1 e2, fun k e => k2 e1 k e⟩
/-- p/q is t/b in lowest terms -/
def IsR (t b p q : Int) : Prop := p * b = t * q ∧ 1 ≤ q ∧ Nat.gcd p.natAbs q.natAbs = 1 ∧ p.natAbs ≤ t.natAbs ∧ q.natAbs ≤ b.natAbs
def P_ratio (A : Ad) : Sp := fun vs H Q E => ∃ (m : Addr) (t b : Int), vs = [.int t, .int b] ∧ H m ≠ none ∧ b ≠ 0 ∧ t.natAbs < 2 ^ 8980 ∧ b.natAbs < 2 ^ 8980 ∧
  ∀ (p q : Int) (v : V) H', Ex H H' → At m H' (.tup [.int p, .int q]) v → IsR t b p q → Q v H'
def b_ratio (A : Ad) (W : WX) : TS := tSeq (tDrop (bCall (P_check_integer A) W (tCons (bVar 0) (tCons (tC (.str "top")) (tNil))))) (tSeq (tDrop (bCall (P_check_integer A) W (tCons (bVar 1) (tCons (tC (.str "bottom")) (tNil))))) (tSeq (bIf (bTst (tOp (bEq A.K) (bVar 1) (tC (.int 0)))) (bRaise A.OutOfRange "argument" W (tC (.str "bottom"))) (tNext)) (tSeq (tAsg (bGcd (bVar 0) (bVar 1)) (gName 2)) (tSeq (bIf (bTst (tOp (bLt) (bVar 1) (tC (.int 0)))) (tAsg (tUn bNeg (bVar 2)) (gName 2)) (tNext)) (tRet (bTup (tCons (tOp bFdv (bVar 0) (bVar 2)) (tCons (tOp bFdv (bVar 1) (bVar 2)) (tNil)))))))))
theorem ratio_is {t b g : Int} (hb : b ≠ 0) (hg : g = if b < 0 then -((Nat.gcd t.natAbs b.natAbs : Nat) : Int) else ((Nat.gcd t.natAbs b.natAbs : Nat) : Int)) : g ≠ 0 ∧ g.natAbs ≤ b.natAbs ∧ IsR t b (t.fdiv g) (b.fdiv g) := by
  have hbn : 0 < b.natAbs := Int.natAbs_pos.mpr hb
  have hgp : 0 < Nat.gcd t.natAbs b.natAbs := Nat.gcd_pos_of_pos_right _ hbn
  have ga : g.natAbs = Nat.gcd t.natAbs b.natAbs := by rw [hg]; split <;> omega
  have g0 : g ≠ 0 := by omega
  have dt : g ∣ t := Int.natAbs_dvd_natAbs.mp (by rw [ga]; exact Nat.gcd_dvd_left _ _)
  have db : g ∣ b := Int.natAbs_dvd_natAbs.mp (by rw [ga]; exact Nat.gcd_dvd_right _ _)
  obtain ⟨p, hp⟩ := dt
  obtain ⟨q, hq⟩ := db
  have e1 : t.fdiv g = p := by rw [hp]; exact Int.mul_fdiv_cancel_left p g0
  have e2 : b.fdiv g = q := by rw [hq]; exact Int.mul_fdiv_cancel_left q g0
  refine ⟨g0, by rw [ga]; exact Nat.le_of_dvd hbn (Nat.gcd_dvd_right _ _), ?_⟩
  rw [e1, e2]
  have at' : t.natAbs = g.natAbs * p.natAbs := by rw [hp, Int.natAbs_mul]
  have ab' : b.natAbs = g.natAbs * q.natAbs := by rw [hq, Int.natAbs_mul]
  have gp : 1 ≤ g.natAbs := by omega
  refine ⟨by rw [hp, hq]; ac_rfl, ?_, ?_, ?_, ?_⟩
  · by_cases hs : b < 0
    · have : g < 0 := by rw [hg, if_pos hs]; omega
      by_cases hq0 : 1 ≤ q
      · exact hq0
      exfalso
      have := Int.mul_nonneg_of_nonpos_of_nonpos (a := g) (b := q) (by omega) (by omega)
      omega
    · have : 0 < g := by rw [hg, if_neg hs]; omega
      by_cases hq0 : 1 ≤ q
      · exact hq0
      exfalso
      have := Int.mul_nonpos_of_nonneg_of_nonpos (a := g) (b := q) (by omega) (by omega)
      omega
  · have := Nat.gcd_mul_left g.natAbs p.natAbs q.natAbs
    rw [← at', ← ab', ← ga] at this
    have h1 : g.natAbs * 1 = g.natAbs * Nat.gcd p.natAbs q.natAbs := by omega
    exact (Nat.eq_of_mul_eq_mul_left gp h1).symm
  · rw [at']; exact Nat.le_mul_of_pos_left _ gp
  · rw [ab']; exact Nat.le_mul_of_pos_left _ gp
theorem r_ratio (A : Ad) : ∀ vs H Q E, P_ratio A vs H Q E → vs.length = 2 ∧ b_ratio A (wE E) (dE Q) (start ["top", "bottom", "divisor"] vs) H := by
  rintro vs H Q E ⟨m, t, b, rfl, hm, hb, s1, s2, k⟩
  refine ⟨rfl, ?_⟩
  refine ⟨m, .int t, _, "top", rfl, .int t, fun _ => ?_, fun k e => by cases e⟩
  refine ⟨m, .int b, _, "bottom", rfl, .int b, fun _ => ?_, fun k e => by cases e⟩
  walk_at "br"
  · contradiction
  walk_at "go"
  walk_at "br"
  · rename_i hb1 hb2
    obtain ⟨g0, gs, R⟩ := ratio_is hb (g := -((Nat.gcd t.natAbs b.natAbs : Nat) : Int)) (by rw [if_pos hb2])
    refine ⟨⟨g0, Sz.of 8980 (by omega) (by decide) (by decide)⟩, fun q1 e1 _ => ?_⟩
    refine ⟨⟨g0, Sz.of 8980 (by omega) (by decide) (by decide)⟩, fun q2 e2 _ => ?_⟩
    subst e1; subst e2
    refine Alloc.mk fun p H' x1 n1 h1 => ?_
    exact k _ _ _ H' x1 (.tup (new_ne hm n1) h1 (.cons (.int _) (.cons (.int _) .nil))) R
  · rename_i hb1 hb2
    obtain ⟨g0, gs, R⟩ := ratio_is hb (g := ((Nat.gcd t.natAbs b.natAbs : Nat) : Int)) (by rw [if_neg hb2])
    refine ⟨⟨g0, Sz.of 8980 (by omega) (by decide) (by decide)⟩, fun q1 e1 _ => ?_⟩
    refine ⟨⟨g0, Sz.of 8980 (by omega) (by decide) (by decide)⟩, fun q2 e2 _ => ?_⟩
    subst e1; subst e2
    refine Alloc.mk fun p H' x1 n1 h1 => ?_
    exact k _ _ _ H' x1 (.tup (new_ne hm n1) h1 (.cons (.int _) (.cons (.int _) .nil))) R
/-! ### what is due -/
def secF (w : Nat) (d : Dt) : Option Fk := match fracF d with
  | some k => some k
  | none => match d with
    | .tup [.int a, _] => if w = 3 ∧ a = 0 then some .oor else none
    | _ => none
def dueP (w : Nat) (d1 d2 : Dt) : Option (Fk × String) := if w = 4 then firstF [("base", fracF d1), ("exponent", numF d2 (some 0) (some 64))] else firstF [("first", fracF d1), ("second", secF w d2)]
def crossI (w : Nat) (a b c d : Int) : Int × Int := match w with
  | 0 => (a * d + c * b, b * d)
  | 1 => (a * d - c * b, b * d)
  | 2 => (a * c, b * d)
  | _ => (a * d, b * c)
def crossP (w : Nat) (d1 d2 : Dt) : Int × Int := match d1, d2 with
  | .tup [.int a, .int b], .tup [.int c, .int d] => crossI w a b c d
  | .tup [.int a, .int b], .int e => (a ^ e.toNat, b ^ e.toNat)
  | _, _ => (0, 1)
/-- the powers that are asked for are small enough -/
def Pw (d1 d2 : Dt) : Prop := ∀ a b e : Int, d1 = .tup [.int a, .int b] → d2 = .int e → 1 ≤ b → 0 ≤ e → e ≤ 64 → ∃ k : Nat, a.natAbs < 2 ^ k ∧ b.natAbs < 2 ^ k ∧ k * e.toNat ≤ 4480
def P_op (A : Ad) (w : Nat) : Sp := fun vs H Q E => ∃ (m : Addr) (d1 d2 : Dt) (v1 v2 : V), vs = [v1, v2] ∧ H m ≠ none ∧ At m H d1 v1 ∧ At m H d2 v2 ∧ d1.sm 4480 ∧ d2.sm 4480 ∧ (w = 4 → Pw d1 d2) ∧
  (∀ k n, dueP w d1 d2 = some (k, n) → Raises A H E k (Str.ofString n)) ∧ (dueP w d1 d2 = none → ∀ (p q : Int) (v : V) H', Ex H H' → At m H' (.tup [.int p, .int q]) v → IsR (crossP w d1 d2).1 (crossP w d1 d2).2 p q → Q v H')
theorem due_1 {w : Nat} {d1 d2 : Dt} {k : Fk} (hw : w ≠ 4) (h : fracF d1 = some k) : dueP w d1 d2 = some (k, "first") := by
  unfold dueP; rw [if_neg hw, h]; rfl
theorem due_2 {w : Nat} {d1 d2 : Dt} {k : Fk} (hw : w ≠ 4) (h : fracF d1 = none) (h2 : secF w d2 = some k) : dueP w d1 d2 = some (k, "second") := by
  unfold dueP; rw [if_neg hw, h, h2]; rfl
theorem due_0 {w : Nat} {d1 d2 : Dt} (hw : w ≠ 4) (h : fracF d1 = none) (h2 : secF w d2 = none) : dueP w d1 d2 = none := by
  unfold dueP; rw [if_neg hw, h, h2]; rfl
theorem sec_some {w : Nat} {d : Dt} {k : Fk} (h : fracF d = some k) : secF w d = some k := by unfold secF; rw [h]
theorem frac_none {a b : Int} (h : 1 ≤ b) : fracF (.tup [.int a, .int b]) = none := by
  rw [frac_2 rfl]
  exact numF_ok (by intro l e; cases e; omega) (by intro l e; cases e)
theorem sec_i {w : Nat} {a b : Int} (h : 1 ≤ b) : secF w (.tup [.int a, .int b]) = if w = 3 ∧ a = 0 then some .oor else none := by
  unfold secF; rw [frac_none h]
theorem pow4 {d1 d2 : Dt} {k : Fk} (h : fracF d1 = some k) : dueP 4 d1 d2 = some (k, "base") := by
  unfold dueP; rw [if_pos rfl, h]; rfl
theorem pow4b {d1 d2 : Dt} {k : Fk} (h : fracF d1 = none) (h2 : numF d2 (some 0) (some 64) = some k) : dueP 4 d1 d2 = some (k, "exponent") := by
  unfold dueP; rw [if_pos rfl, h, h2]; rfl
theorem pow4c {d1 d2 : Dt} (h : fracF d1 = none) (h2 : numF d2 (some 0) (some 64) = none) : dueP 4 d1 d2 = none := by
  unfold dueP; rw [if_pos rfl, h, h2]; rfl
theorem sm_pair {k : Nat} {a b : Int} (h : (Dt.tup [.int a, .int b]).sm k) : a.natAbs < 2 ^ k ∧ b.natAbs < 2 ^ k := by
  simp only [Dt.sm, Dt.sms, and_true] at h
  exact h
theorem sz4 {a : Int} (h : a.natAbs < 2 ^ 4480) : Sz a := Sz.of 4480 h (by decide) (by decide)
theorem mul4 {a b : Int} (h1 : a.natAbs < 2 ^ 4480) (h2 : b.natAbs < 2 ^ 4480) : (a * b).natAbs < 2 ^ 8960 := mul_lt2 h1 h2 (by decide)
theorem le8 {n : Nat} (h : n < 2 ^ 8960) : n < 2 ^ 8980 := sm_lt h (by decide)
theorem add8 {a b : Int} (h1 : a.natAbs < 2 ^ 8960) (h2 : b.natAbs < 2 ^ 8960) : (a + b).natAbs < 2 ^ 8980 := by
  have : (a + b).natAbs ≤ a.natAbs + b.natAbs := Int.natAbs_add_le a b
  have e : (2 : Nat) ^ 8961 = 2 * 2 ^ 8960 := pow2s 8960
  refine sm_lt (j := 8961) ?_ (by decide)
  omega
theorem sub8 {a b : Int} (h1 : a.natAbs < 2 ^ 8960) (h2 : b.natAbs < 2 ^ 8960) : (a - b).natAbs < 2 ^ 8980 := by
  have : a - b = a + -b := rfl
  rw [this]
  exact add8 h1 (by rwa [Int.natAbs_neg])
theorem pos_mul {b d : Int} (h1 : 1 ≤ b) (h2 : 1 ≤ d) : b * d ≠ 0 := by
  have := Int.mul_pos (a := b) (b := d) (by omega) (by omega)
  omega
theorem pow_lt {a : Int} {k e : Nat} (h : a.natAbs < 2 ^ k) (l : k * e ≤ 4480) : (a ^ e).natAbs < 2 ^ 4481 := by
  rw [Int.natAbs_pow]
  have h1 : a.natAbs ^ e ≤ (2 ^ k) ^ e := Nat.pow_le_pow_left (Nat.le_of_lt h) e
  rw [← Nat.pow_mul] at h1
  have h2 : (2 : Nat) ^ (k * e) ≤ 2 ^ 4480 := Nat.pow_le_pow_right (by decide) l
  have e : (2 : Nat) ^ 4481 = 2 * 2 ^ 4480 := pow2s 4480
  have : 0 < (2 : Nat) ^ 4480 := Nat.pow_pos (by decide)
  omega
theorem pow_sz {a : Int} {k e : Nat} (h : a.natAbs < 2 ^ k) (l : k * e ≤ 4480) : Sz (a ^ e) := Sz.of 4481 (pow_lt h l) (by decide) (by decide)
def P_ratio_sum (A : Ad) : Sp := P_op A 0
def P_ratio_difference (A : Ad) : Sp := P_op A 1
def P_ratio_product (A : Ad) : Sp := P_op A 2
def P_ratio_quotient (A : Ad) : Sp := P_op A 3
def P_ratio_power (A : Ad) : Sp := P_op A 4
def b_ratio_sum (A : Ad) (W : WX) : TS := tSeq (tDrop (bCall (P_check_pair A) W (tCons (bVar 0) (tCons (bVar 1) (tNil))))) (tRet (bCall (P_ratio A) W (tCons (tOp bAdd (tOp bMul (tOp bIx (bVar 0) (tC (.int 0))) (tOp bIx (bVar 1) (tC (.int 1)))) (tOp bMul (tOp bIx (bVar 1) (tC (.int 0))) (tOp bIx (bVar 0) (tC (.int 1))))) (tCons (tOp bMul (tOp bIx (bVar 0) (tC (.int 1))) (tOp bIx (bVar 1) (tC (.int 1)))) (tNil)))))
def b_ratio_difference (A : Ad) (W : WX) : TS := tSeq (tDrop (bCall (P_check_pair A) W (tCons (bVar 0) (tCons (bVar 1) (tNil))))) (tRet (bCall (P_ratio A) W (tCons (tOp bSub (tOp bMul (tOp bIx (bVar 0) (tC (.int 0))) (tOp bIx (bVar 1) (tC (.int 1)))) (tOp bMul (tOp bIx (bVar 1) (tC (.int 0))) (tOp bIx (bVar 0) (tC (.int 1))))) (tCons (tOp bMul (tOp bIx (bVar 0) (tC (.int 1))) (tOp bIx (bVar 1) (tC (.int 1)))) (tNil)))))
def b_ratio_product (A : Ad) (W : WX) : TS := tSeq (tDrop (bCall (P_check_pair A) W (tCons (bVar 0) (tCons (bVar 1) (tNil))))) (tRet (bCall (P_ratio A) W (tCons (tOp bMul (tOp bIx (bVar 0) (tC (.int 0))) (tOp bIx (bVar 1) (tC (.int 0)))) (tCons (tOp bMul (tOp bIx (bVar 0) (tC (.int 1))) (tOp bIx (bVar 1) (tC (.int 1)))) (tNil)))))
def b_ratio_quotient (A : Ad) (W : WX) : TS := tSeq (tDrop (bCall (P_check_pair A) W (tCons (bVar 0) (tCons (bVar 1) (tNil))))) (tSeq (bIf (bTst (tOp (bEq A.K) (tOp bIx (bVar 1) (tC (.int 0))) (tC (.int 0)))) (bRaise A.OutOfRange "argument" W (tC (.str "second"))) (tNext)) (tRet (bCall (P_ratio A) W (tCons (tOp bMul (tOp bIx (bVar 0) (tC (.int 0))) (tOp bIx (bVar 1) (tC (.int 1)))) (tCons (tOp bMul (tOp bIx (bVar 0) (tC (.int 1))) (tOp bIx (bVar 1) (tC (.int 0)))) (tNil))))))
def b_ratio_power (A : Ad) (W : WX) : TS := tSeq (tDrop (bCall (P_check_fraction A) W (tCons (bVar 0) (tCons (tC (.str "base")) (tNil))))) (tSeq (tDrop (bCall (P_check_range A) W (tCons (bVar 1) (tCons (tC (.int 0)) (tCons (tC (.int 64)) (tCons (tC (.str "exponent")) (tNil))))))) (tSeq (tAsg (tC (.int 1)) (gName 2)) (tSeq (tAsg (tC (.int 1)) (gName 3)) (tSeq (bForR (bVar 1) (gName 4) (tSeq (tAsg (tOp bMul (bVar 2) (tOp bIx (bVar 0) (tC (.int 0)))) (gName 2)) (tAsg (tOp bMul (bVar 3) (tOp bIx (bVar 0) (tC (.int 1)))) (gName 3)))) (tRet (bCall (P_ratio A) W (tCons (bVar 2) (tCons (bVar 3) (tNil)))))))))
theorem r_ratio_sum (A : Ad) : ∀ vs H Q E, P_ratio_sum A vs H Q E → vs.length = 2 ∧ b_ratio_sum A (wE E) (dE Q) (start ["first", "second"] vs) H := by
  rintro vs H Q E ⟨m, d1, d2, v1, v2, rfl, hm, h1, h2, z1, z2, _, kr, kq⟩
  refine ⟨rfl, ?_⟩
  refine ⟨m, d1, d2, v1, v2, rfl, h1, h2, fun e1 e2 => ?_, fun k e => kr k _ (due_1 (by decide) e), fun e1 k e => kr k _ (due_2 (by decide) e1 (sec_some e))⟩
  obtain ⟨a, b, rfl, hb⟩ := frac_some e1
  obtain ⟨c, d, rfl, hd⟩ := frac_some e2
  obtain ⟨t1, xs1, rfl, n1, g1, l1⟩ := at_tup_inv h1
  obtain ⟨x1, r1, rfl, y1, l1⟩ := atl_cons_inv l1
  obtain ⟨x2, r2, rfl, y2, l1⟩ := atl_cons_inv l1
  obtain rfl := atl_nil_inv l1
  obtain rfl := at_int_inv y1
  obtain rfl := at_int_inv y2
  obtain ⟨t2, xs2, rfl, n2, g2, l2⟩ := at_tup_inv h2
  obtain ⟨x3, r3, rfl, y3, l2⟩ := atl_cons_inv l2
  obtain ⟨x4, r4, rfl, y4, l2⟩ := atl_cons_inv l2
  obtain rfl := atl_nil_inv l2
  obtain rfl := at_int_inv y3
  obtain rfl := at_int_inv y4
  obtain ⟨za, zb⟩ := sm_pair z1
  obtain ⟨zc, zd⟩ := sm_pair z2
  have sa := sz4 za
  have sb := sz4 zb
  have sc := sz4 zc
  have sd := sz4 zd
  walk_at "go"
  refine ⟨m, _, _, rfl, hm, pos_mul hb hd, add8 (mul4 za zd) (mul4 zc zb), le8 (mul4 zb zd), fun p q v H' x a R => ?_⟩
  exact kq (due_0 (by decide) e1 (by rw [sec_i hd, if_neg (by simp)])) p q v H' x a R
theorem r_ratio_difference (A : Ad) : ∀ vs H Q E, P_ratio_difference A vs H Q E → vs.length = 2 ∧ b_ratio_difference A (wE E) (dE Q) (start ["first", "second"] vs) H := by
  rintro vs H Q E ⟨m, d1, d2, v1, v2, rfl, hm, h1, h2, z1, z2, _, kr, kq⟩
  refine ⟨rfl, ?_⟩
  refine ⟨m, d1, d2, v1, v2, rfl, h1, h2, fun e1 e2 => ?_, fun k e => kr k _ (due_1 (by decide) e), fun e1 k e => kr k _ (due_2 (by decide) e1 (sec_some e))⟩
  obtain ⟨a, b, rfl, hb⟩ := frac_some e1
  obtain ⟨c, d, rfl, hd⟩ := frac_some e2
  obtain ⟨t1, xs1, rfl, n1, g1, l1⟩ := at_tup_inv h1
  obtain ⟨x1, r1, rfl, y1, l1⟩ := atl_cons_inv l1
  obtain ⟨x2, r2, rfl, y2, l1⟩ := atl_cons_inv l1
  obtain rfl := atl_nil_inv l1
  obtain rfl := at_int_inv y1
  obtain rfl := at_int_inv y2
  obtain ⟨t2, xs2, rfl, n2, g2, l2⟩ := at_tup_inv h2
  obtain ⟨x3, r3, rfl, y3, l2⟩ := atl_cons_inv l2
  obtain ⟨x4, r4, rfl, y4, l2⟩ := atl_cons_inv l2
  obtain rfl := atl_nil_inv l2
  obtain rfl := at_int_inv y3
  obtain rfl := at_int_inv y4
  obtain ⟨za, zb⟩ := sm_pair z1
  obtain ⟨zc, zd⟩ := sm_pair z2
  have sa := sz4 za
  have sb := sz4 zb
  have sc := sz4 zc
  have sd := sz4 zd
  walk_at "go"
  refine ⟨m, _, _, rfl, hm, pos_mul hb hd, sub8 (mul4 za zd) (mul4 zc zb), le8 (mul4 zb zd), fun p q v H' x a R => ?_⟩
  exact kq (due_0 (by decide) e1 (by rw [sec_i hd, if_neg (by simp)])) p q v H' x a R
theorem r_ratio_product (A : Ad) : ∀ vs H Q E, P_ratio_product A vs H Q E → vs.length = 2 ∧ b_ratio_product A (wE E) (dE Q) (start ["first", "second"] vs) H := by
  rintro vs H Q E ⟨m, d1, d2, v1, v2, rfl, hm, h1, h2, z1, z2, _, kr, kq⟩
  refine ⟨rfl, ?_⟩
  refine ⟨m, d1, d2, v1, v2, rfl, h1, h2, fun e1 e2 => ?_, fun k e => kr k _ (due_1 (by decide) e), fun e1 k e => kr k _ (due_2 (by decide) e1 (sec_some e))⟩
  obtain ⟨a, b, rfl, hb⟩ := frac_some e1
  obtain ⟨c, d, rfl, hd⟩ := frac_some e2
  obtain ⟨t1, xs1, rfl, n1, g1, l1⟩ := at_tup_inv h1
  obtain ⟨x1, r1, rfl, y1, l1⟩ := atl_cons_inv l1
  obtain ⟨x2, r2, rfl, y2, l1⟩ := atl_cons_inv l1
  obtain rfl := atl_nil_inv l1
  obtain rfl := at_int_inv y1
  obtain rfl := at_int_inv y2
  obtain ⟨t2, xs2, rfl, n2, g2, l2⟩ := at_tup_inv h2
  obtain ⟨x3, r3, rfl, y3, l2⟩ := atl_cons_inv l2
  obtain ⟨x4, r4, rfl, y4, l2⟩ := atl_cons_inv l2
  obtain rfl := atl_nil_inv l2
  obtain rfl := at_int_inv y3
  obtain rfl := at_int_inv y4
  obtain ⟨za, zb⟩ := sm_pair z1
  obtain ⟨zc, zd⟩ := sm_pair z2
  have sa := sz4 za
  have sb := sz4 zb
  have sc := sz4 zc
  have sd := sz4 zd
  walk_at "go"
  refine ⟨m, _, _, rfl, hm, pos_mul hb hd, le8 (mul4 za zc), le8 (mul4 zb zd), fun p q v H' x a R => ?_⟩
  exact kq (due_0 (by decide) e1 (by rw [sec_i hd, if_neg (by simp)])) p q v H' x a R
theorem r_ratio_quotient (A : Ad) : ∀ vs H Q E, P_ratio_quotient A vs H Q E → vs.length = 2 ∧ b_ratio_quotient A (wE E) (dE Q) (start ["first", "second"] vs) H := by
  rintro vs H Q E ⟨m, d1, d2, v1, v2, rfl, hm, h1, h2, z1, z2, _, kr, kq⟩
  refine ⟨rfl, ?_⟩
  refine ⟨m, d1, d2, v1, v2, rfl, h1, h2, fun e1 e2 => ?_, fun k e => kr k _ (due_1 (by decide) e), fun e1 k e => kr k _ (due_2 (by decide) e1 (sec_some e))⟩
  obtain ⟨a, b, rfl, hb⟩ := frac_some e1
  obtain ⟨c, d, rfl, hd⟩ := frac_some e2
  obtain ⟨t1, xs1, rfl, n1, g1, l1⟩ := at_tup_inv h1
  obtain ⟨x1, r1, rfl, y1, l1⟩ := atl_cons_inv l1
  obtain ⟨x2, r2, rfl, y2, l1⟩ := atl_cons_inv l1
  obtain rfl := atl_nil_inv l1
  obtain rfl := at_int_inv y1
  obtain rfl := at_int_inv y2
  obtain ⟨t2, xs2, rfl, n2, g2, l2⟩ := at_tup_inv h2
  obtain ⟨x3, r3, rfl, y3, l2⟩ := atl_cons_inv l2
  obtain ⟨x4, r4, rfl, y4, l2⟩ := atl_cons_inv l2
  obtain rfl := atl_nil_inv l2
  obtain rfl := at_int_inv y3
  obtain rfl := at_int_inv y4
  obtain ⟨za, zb⟩ := sm_pair z1
  obtain ⟨zc, zd⟩ := sm_pair z2
  have sa := sz4 za
  have sb := sz4 zb
  have sc := sz4 zc
  have sd := sz4 zd
  walk_at "go"
  walk_at "br"
  · rename_i hc
    refine raise_of (k := .oor) (kr _ _ (due_2 (by decide) e1 (by rw [sec_i hd, if_pos ⟨rfl, hc⟩])))
  walk_at "go"
  have hc : c ≠ 0 := by assumption
  refine ⟨m, _, _, rfl, hm, ?_, le8 (mul4 za zd), le8 (mul4 zb zc), fun p q v H' x a R => ?_⟩
  · exact Int.mul_ne_zero (by omega) hc
  · exact kq (due_0 (by decide) e1 (by rw [sec_i hd, if_neg (by omega)])) p q v H' x a R
theorem r_ratio_power (A : Ad) : ∀ vs H Q E, P_ratio_power A vs H Q E → vs.length = 2 ∧ b_ratio_power A (wE E) (dE Q) (start ["base", "exponent", "top", "bottom", "_"] vs) H := by
  rintro vs H Q E ⟨m, d1, d2, v1, v2, rfl, hm, h1, h2, z1, z2, pw, kr, kq⟩
  refine ⟨rfl, ?_⟩
  refine ⟨m, d1, v1, "base", rfl, h1, fun e1 => ?_, fun k e => kr k _ (pow4 e)⟩
  refine ⟨m, d2, v2, 0, 64, "exponent", rfl, h2, fun e2 => ?_, fun k e => kr k _ (pow4b e1 e)⟩
  obtain ⟨a, b, rfl, hb⟩ := frac_some e1
  obtain ⟨e, rfl⟩ := num_int e2
  obtain ⟨he0, he1⟩ : 0 ≤ e ∧ e ≤ 64 := by
    simp [numF] at e2
    omega
  obtain ⟨k, ka, kb, ke⟩ := pw rfl a b e rfl rfl hb he0 he1
  cases h2
  obtain ⟨t1, xs1, rfl, n1, g1, l1⟩ := at_tup_inv h1
  obtain ⟨x1, r1, rfl, y1, l1⟩ := atl_cons_inv l1
  obtain ⟨x2, r2, rfl, y2, l1⟩ := atl_cons_inv l1
  obtain rfl := atl_nil_inv l1
  obtain rfl := at_int_inv y1
  obtain rfl := at_int_inv y2
  obtain ⟨za, zb⟩ := sm_pair z1
  have sa := sz4 za
  have sb := sz4 zb
  refine ⟨⟨by omega, by omega⟩, ?_⟩
  refine LoopR.mk (fun i σ H' => H' = H ∧ ∃ o, σ = [some (.ref t1), some (.int e), some (.int (a ^ i)), some (.int (b ^ i)), o]) ⟨rfl, none, by rw [Int.pow_zero, Int.pow_zero]; rfl⟩ ?_ ?_
  · rintro i σ H' hi ⟨rfl, o, rfl⟩
    have pa := pow_sz ka (Nat.le_trans (Nat.mul_le_mul_left k (by omega : i ≤ e.toNat)) ke)
    have pb := pow_sz kb (Nat.le_trans (Nat.mul_le_mul_left k (by omega : i ≤ e.toNat)) ke)
    walk_at "go"
    exact ⟨rfl, _, by rw [Int.pow_succ, Int.pow_succ]; rfl⟩
  · rintro σ H' ⟨rfl, o, rfl⟩
    have pa := pow_lt ka ke
    have pb := pow_lt kb ke
    refine ⟨m, _, _, rfl, hm, ?_, sm_lt pa (by decide), sm_lt pb (by decide), fun p q v H' x a R => ?_⟩
    · exact Int.pow_ne_zero (by omega)
    · exact kq (pow4c e1 e2) p q v H' x a R
/-- what the written part says of the three classes that these defs raise -/
structure CF (A : Ad) : Prop where
  ex : ∀ k : Fk, ExK A.K (A.fk k)
  no : ∀ k : Fk, PySem.W.findIn A.K (.ref (A.fk k)) "argument" = some none
  i0 : ∀ k : Fk, PySem.W.kitOne A.K (.ref (A.fk k)) (.ref A.WrongKind) = some (decide (k = .wk))
  i1 : ∀ k : Fk, PySem.W.kitOne A.K (.ref (A.fk k)) (.ref A.WrongSize) = some (decide (k = .ws))
  i2 : ∀ k : Fk, PySem.W.kitOne A.K (.ref (A.fk k)) (.ref A.OutOfRange) = some (decide (k = .oor))
  i3 : ∀ k : Fk, PySem.W.kitOne A.K (.ref (A.fk k)) (.ref A.BadText) = some false
  i4 : ∀ k : Fk, PySem.W.kitOne A.K (.ref (A.fk k)) (.ref A.NotATable) = some false
  i5 : ∀ k : Fk, PySem.W.kitOne A.K (.ref (A.fk k)) (.ref A.Spent) = some false
  i6 : ∀ k : Fk, PySem.W.kitOne A.K (.ref (A.fk k)) (.ref A.TooFewPlaces) = some false
  i7 : ∀ k : Fk, PySem.W.kitOne A.K (.ref (A.fk k)) (.ref A.WrongPaper) = some false
  i8 : ∀ k : Fk, PySem.W.kitOne A.K (.ref (A.fk k)) (.ref A.UnknownName) = some false
  i9 : ∀ k : Fk, PySem.W.kitOne A.K (.ref (A.fk k)) (.ref A.NameTaken) = some false
  i10 : ∀ k : Fk, PySem.W.kitOne A.K (.ref (A.fk k)) (.ref A.NothingToUndo) = some false
  i11 : ∀ k : Fk, PySem.W.kitOne A.K (.ref (A.fk k)) (.ref A.BookFull) = some false
  sh : ∀ k : Fk, PySem.W.exmOne A.K (.ref (A.fk k)) (.ref A.ShadeError) = some true
  i12 : ∀ k : Fk, PySem.W.kitOne A.K (.ref (A.fk k)) (.type "ValueError") = some true
def P_l_kinds (A : Ad) (a : Addr) (cls : Value) (d : Option Addr) : Sp := fun vs H Q _ => ∃ (k : Fk) (dd : Addr) (n : Str), vs = [.ref a] ∧ cls = .ref (A.fk k) ∧ d = some dd ∧ H dd = some (.xd [("argument", .str n)]) ∧ CF A ∧
  ∀ p H', Ex H H' → H p = none → H' p = some (.lst [.str (Str.ofString k.nm)]) → Q (.ref p) H'
def b_l_kinds (A : Ad) (a : Addr) (cls : Value) (d : Option Addr) : TS := tSeq (tAsg (bLst (tNil)) (gName 1)) (tSeq (bIf (bTru (bIsX (d := d) A.K a cls (.ref A.WrongKind) (bVar 0))) (tDrop (bApp (bVar 1) (tC (.str "WrongKind")))) (tNext)) (tSeq (bIf (bTru (bIsX (d := d) A.K a cls (.ref A.WrongSize) (bVar 0))) (tDrop (bApp (bVar 1) (tC (.str "WrongSize")))) (tNext)) (tSeq (bIf (bTru (bIsX (d := d) A.K a cls (.ref A.OutOfRange) (bVar 0))) (tDrop (bApp (bVar 1) (tC (.str "OutOfRange")))) (tNext)) (tSeq (bIf (bTru (bIsX (d := d) A.K a cls (.ref A.BadText) (bVar 0))) (tDrop (bApp (bVar 1) (tC (.str "BadText")))) (tNext)) (tSeq (bIf (bTru (bIsX (d := d) A.K a cls (.ref A.NotATable) (bVar 0))) (tDrop (bApp (bVar 1) (tC (.str "NotATable")))) (tNext)) (tSeq (bIf (bTru (bIsX (d := d) A.K a cls (.ref A.Spent) (bVar 0))) (tDrop (bApp (bVar 1) (tC (.str "Spent")))) (tNext)) (tSeq (bIf (bTru (bIsX (d := d) A.K a cls (.ref A.TooFewPlaces) (bVar 0))) (tDrop (bApp (bVar 1) (tC (.str "TooFewPlaces")))) (tNext)) (tSeq (bIf (bTru (bIsX (d := d) A.K a cls (.ref A.WrongPaper) (bVar 0))) (tDrop (bApp (bVar 1) (tC (.str "WrongPaper")))) (tNext)) (tSeq (bIf (bTru (bIsX (d := d) A.K a cls (.ref A.UnknownName) (bVar 0))) (tDrop (bApp (bVar 1) (tC (.str "UnknownName")))) (tNext)) (tSeq (bIf (bTru (bIsX (d := d) A.K a cls (.ref A.NameTaken) (bVar 0))) (tDrop (bApp (bVar 1) (tC (.str "NameTaken")))) (tNext)) (tSeq (bIf (bTru (bIsX (d := d) A.K a cls (.ref A.NothingToUndo) (bVar 0))) (tDrop (bApp (bVar 1) (tC (.str "NothingToUndo")))) (tNext)) (tSeq (bIf (bTru (bIsX (d := d) A.K a cls (.ref A.BookFull) (bVar 0))) (tDrop (bApp (bVar 1) (tC (.str "BookFull")))) (tNext)) (tRet (bVar 1))))))))))))))
theorem xd_some {dd : Addr} {H : Hp} {fs : List (Str × V)} (h : H dd = some (.xd fs)) : ∀ d', some dd = some d' → ∃ fs, H d' = some (.xd fs) := by
  intro d' e
  cases e
  exact ⟨_, h⟩
local macro_rules | `(tactic| walk_at "kx") => `(tactic| refine ⟨rfl, ⟨_, rfl, CF.ex (by assumption) _⟩, xd_some (by walk_at "hg"), _, (by first
  | exact CF.i0 (by assumption) _ | exact CF.i1 (by assumption) _ | exact CF.i2 (by assumption) _ | exact CF.i3 (by assumption) _ | exact CF.i4 (by assumption) _ | exact CF.i5 (by assumption) _ | exact CF.i6 (by assumption) _
  | exact CF.i7 (by assumption) _ | exact CF.i8 (by assumption) _ | exact CF.i9 (by assumption) _ | exact CF.i10 (by assumption) _ | exact CF.i11 (by assumption) _ | exact CF.i12 (by assumption) _), ?_⟩)
local macro_rules | `(tactic| walk_at "kxs") => `(tactic| (walk_at "go"; first | (walk_at "kx"; walk_at "br"; walk_at "kxs") | (walk_at "br"; walk_at "kxs") | skip))
theorem r_l_kinds (A : Ad) : ∀ a cls d vs H Q E, P_l_kinds A a cls d vs H Q E → vs.length = 1 ∧ b_l_kinds A a cls d (dE Q) (start ["caught", "found"] vs) H := by
  rintro a cls d vs H Q E ⟨k, dd, n, rfl, rfl, rfl, h, F, kq⟩
  refine ⟨rfl, ?_⟩
  cases k <;> walk_at "kxs" <;> exact kq _ _ (by walk_at "xe") (by assumption) (by assumption)

def P_l_refusal (A : Ad) (a : Addr) (cls : Value) (d : Option Addr) : Sp := fun vs H Q _ => ∃ (k : Fk) (dd : Addr) (n : Str) (m : Addr), vs = [.ref a] ∧ cls = .ref (A.fk k) ∧ d = some dd ∧ H dd = some (.xd [("argument", .str n)]) ∧ H m ≠ none ∧ CF A ∧
  ∀ v H', Ex H H' → At m H' (.tup [.str (Str.ofString k.nm), .str n]) v → Q v H'
def b_l_refusal (A : Ad) (a : Addr) (cls : Value) (d : Option Addr) : TS := tSeq (tAsg (bCall ((P_l_kinds A) a cls d) (fun _ _ _ _ => False) (tCons (bVar 0) (tNil))) (gName 1)) (tSeq (bIf (bOr (bTst (tOp (bNe A.K) (bLen (bVar 1)) (tC (.int 1)))) (tNot (bTru (bIsX (d := d) A.K a cls (.type "ValueError") (bVar 0))))) (tRet (bTup (tCons (tC (.str "wrong classes")) (tCons (bVar 1) (tNil))))) (tNext)) (tSeq (bIf (bTst (tOp (bIn false) (tOp bIx (bVar 1) (tC (.int 0))) (bLst (tCons (tC (.str "WrongKind")) (tCons (tC (.str "WrongSize")) (tCons (tC (.str "OutOfRange")) (tNil))))))) (tRet (bTup (tCons (tOp bIx (bVar 1) (tC (.int 0))) (tCons (bAtX A.K a cls d "argument" (bVar 0)) (tNil))))) (tNext)) (tSeq (bIf (bTst (tOp (bEq A.K) (tOp bIx (bVar 1) (tC (.int 0))) (tC (.str "BadText")))) (tRet (bTup (tCons (tOp bIx (bVar 1) (tC (.int 0))) (tCons (bAtX A.K a cls d "position" (bVar 0)) (tNil))))) (tNext)) (tSeq (bIf (bTst (tOp (bEq A.K) (tOp bIx (bVar 1) (tC (.int 0))) (tC (.str "Spent")))) (tRet (bTup (tCons (tOp bIx (bVar 1) (tC (.int 0))) (tCons (bAtX A.K a cls d "allowed" (bVar 0)) (tNil))))) (tNext)) (tSeq (bIf (bTst (tOp (bEq A.K) (tOp bIx (bVar 1) (tC (.int 0))) (tC (.str "TooFewPlaces")))) (tNever) (tNext)) (tSeq (bIf (bTst (tOp (bEq A.K) (tOp bIx (bVar 1) (tC (.int 0))) (tC (.str "WrongPaper")))) (tRet (bTup (tCons (tOp bIx (bVar 1) (tC (.int 0))) (tCons (bAtX A.K a cls d "paper_of" (bVar 0)) (tNil))))) (tNext)) (tSeq (bIf (bTst (tOp (bEq A.K) (tOp bIx (bVar 1) (tC (.int 0))) (tC (.str "UnknownName")))) (tRet (bTup (tCons (tOp bIx (bVar 1) (tC (.int 0))) (tCons (bAtX A.K a cls d "missing" (bVar 0)) (tNil))))) (tNext)) (tSeq (bIf (bTst (tOp (bEq A.K) (tOp bIx (bVar 1) (tC (.int 0))) (tC (.str "NameTaken")))) (tRet (bTup (tCons (tOp bIx (bVar 1) (tC (.int 0))) (tCons (bAtX A.K a cls d "taken" (bVar 0)) (tNil))))) (tNext)) (tRet (bTup (tCons (tOp bIx (bVar 1) (tC (.int 0))) (tCons (tC .non) (tNil)))))))))))))
theorem r_l_refusal (A : Ad) : ∀ a cls d vs H Q E, P_l_refusal A a cls d vs H Q E → vs.length = 1 ∧ b_l_refusal A a cls d (dE Q) (start ["caught", "found"] vs) H := by
  rintro a cls d vs H Q E ⟨k, dd, n, m, rfl, rfl, rfl, h, hm, F, kq⟩
  refine ⟨rfl, ?_⟩
  refine ⟨k, dd, n, rfl, rfl, rfl, h, F, fun p H1 x1 n1 hp => ?_⟩
  have h1 := x1 _ _ h
  have hm1 : H1 m ≠ none := fun z => hm (x1.fresh z)
  have np := new_ne hm n1
  have ret : ∀ H2, Ex H1 H2 → bAtX A.K a (.ref (A.fk k)) (some dd) "argument" (bVar 0) [some (.ref a), some (.ref p)] H2 (fun y H3 => Alloc H3 (.tup [.str (Str.ofString k.nm), y]) fun q H4 => Q (.ref q) H4) := by
    intro H2 x2
    refine ⟨rfl, _, dd, _, _, rfl, F.ex k, F.no k, rfl, x2 _ _ h1, (by simp [List.lookup] : List.lookup _ _ = some (V.str n)), ?_⟩
    refine Alloc.mk fun q H4 x4 n4 h4 => ?_
    exact kq _ _ (x1.trans (x2.trans x4)) (.tup (fun z => hm1 (x2.fresh (z ▸ n4))) h4 (.cons (.str _) (.cons (.str _) .nil)))
  cases k <;> walk_at "kxs"
  all_goals first
    | exact ret _ (by walk_at "xe")
    | skip
theorem at_pair_inv {m : Addr} {H : Hp} {d1 d2 : Dt} {v : V} (h : At m H (.tup [d1, d2]) v) : ∃ p x y, v = .ref p ∧ p ≠ m ∧ H p = some (.tup [x, y]) ∧ At m H d1 x ∧ At m H d2 y := by
  obtain ⟨p, xs, rfl, n, hp, l⟩ := at_tup_inv h
  obtain ⟨x, r, rfl, h1, l⟩ := atl_cons_inv l
  obtain ⟨y, r, rfl, h2, l⟩ := atl_cons_inv l
  obtain rfl := atl_nil_inv l
  exact ⟨p, x, y, rfl, n, hp, h1, h2⟩
def P_l_ask (A : Ad) : Sp := fun vs H Q E => ∃ (m : Addr) (w : Nat) (d1 d2 : Dt) (v : V), (vs = [.int w, v] ∨ vs = [.int (w + 20), v]) ∧ w ≤ 4 ∧ H m ≠ none ∧ At m H (.tup [d1, d2]) v ∧ d1.sm 4480 ∧ d2.sm 4480 ∧ (w = 4 → Pw d1 d2) ∧
  (∀ k n, dueP w d1 d2 = some (k, n) → Raises A H E k (Str.ofString n)) ∧ (dueP w d1 d2 = none → ∀ (p q : Int) (v : V) H', Ex H H' → At m H' (.tup [.int p, .int q]) v → IsR (crossP w d1 d2).1 (crossP w d1 d2).2 p q → Q v H')
def b_l_ask (A : Ad) (W : WX) : TS := tSeq (bIf (bTst (tOp (bEq A.K) (bVar 0) (tC (.int 0)))) (tRet (bCall (P_ratio_sum A) W (tCons (tOp bIx (bVar 1) (tC (.int 0))) (tCons (tOp bIx (bVar 1) (tC (.int 1))) (tNil))))) (tNext)) (tSeq (bIf (bTst (tOp (bEq A.K) (bVar 0) (tC (.int 1)))) (tRet (bCall (P_ratio_difference A) W (tCons (tOp bIx (bVar 1) (tC (.int 0))) (tCons (tOp bIx (bVar 1) (tC (.int 1))) (tNil))))) (tNext)) (tSeq (bIf (bTst (tOp (bEq A.K) (bVar 0) (tC (.int 2)))) (tRet (bCall (P_ratio_product A) W (tCons (tOp bIx (bVar 1) (tC (.int 0))) (tCons (tOp bIx (bVar 1) (tC (.int 1))) (tNil))))) (tNext)) (tSeq (bIf (bTst (tOp (bEq A.K) (bVar 0) (tC (.int 3)))) (tRet (bCall (P_ratio_quotient A) W (tCons (tOp bIx (bVar 1) (tC (.int 0))) (tCons (tOp bIx (bVar 1) (tC (.int 1))) (tNil))))) (tNext)) (tSeq (bIf (bTst (tOp (bEq A.K) (bVar 0) (tC (.int 4)))) (tRet (bCall (P_ratio_power A) W (tCons (tOp bIx (bVar 1) (tC (.int 0))) (tCons (tOp bIx (bVar 1) (tC (.int 1))) (tNil))))) (tNext)) (tSeq (bIf (bTst (tOp (bEq A.K) (bVar 0) (tC (.int 20)))) (tRet (bCallK [0, 1] (P_ratio_sum A) W (tCons (tOp bIx (bVar 1) (tC (.int 0))) (tCons (tOp bIx (bVar 1) (tC (.int 1))) (tNil))))) (tNext)) (tSeq (bIf (bTst (tOp (bEq A.K) (bVar 0) (tC (.int 21)))) (tRet (bCallK [1, 0] (P_ratio_difference A) W (tCons (tOp bIx (bVar 1) (tC (.int 1))) (tCons (tOp bIx (bVar 1) (tC (.int 0))) (tNil))))) (tNext)) (tSeq (bIf (bTst (tOp (bEq A.K) (bVar 0) (tC (.int 22)))) (tRet (bCallK [1, 0] (P_ratio_product A) W (tCons (tOp bIx (bVar 1) (tC (.int 1))) (tCons (tOp bIx (bVar 1) (tC (.int 0))) (tNil))))) (tNext)) (tSeq (bIf (bTst (tOp (bEq A.K) (bVar 0) (tC (.int 23)))) (tRet (bCallK [1, 0] (P_ratio_quotient A) W (tCons (tOp bIx (bVar 1) (tC (.int 1))) (tCons (tOp bIx (bVar 1) (tC (.int 0))) (tNil))))) (tNext)) (tRet (bCallK [0, 1] (P_ratio_power A) W (tCons (tOp bIx (bVar 1) (tC (.int 0))) (tCons (tOp bIx (bVar 1) (tC (.int 1))) (tNil)))))))))))))
theorem r_l_ask (A : Ad) : ∀ vs H Q E, P_l_ask A vs H Q E → vs.length = 2 ∧ b_l_ask A (wE E) (dE Q) (start ["which", "given"] vs) H := by
  rintro vs H Q E ⟨m, w, d1, d2, v, hv, hw, hm, ha, z1, z2, pw, kr, kq⟩
  obtain ⟨t, x, y, rfl, nt, ht, h1, h2⟩ := at_pair_inv ha
  obtain rfl | rfl | rfl | rfl | rfl : w = 0 ∨ w = 1 ∨ w = 2 ∨ w = 3 ∨ w = 4 := by omega
  all_goals
    rcases hv with rfl | rfl
    all_goals
      refine ⟨rfl, ?_⟩
      walk_at "all"
      exact ⟨m, d1, d2, x, y, rfl, hm, h1, h2, z1, z2, pw, kr, kq⟩
def P_l_told (A : Ad) : Sp := fun vs H Q _ => ∃ (m : Addr) (w : Nat) (d1 d2 : Dt) (v : V), (vs = [.int w, v] ∨ vs = [.int (w + 20), v]) ∧ w ≤ 4 ∧ H m ≠ none ∧ At m H (.tup [d1, d2]) v ∧ d1.sm 4480 ∧ d2.sm 4480 ∧ (w = 4 → Pw d1 d2) ∧ CF A ∧
  (∀ k n, dueP w d1 d2 = some (k, n) → ∀ v H', Ex H H' → At m H' (.tup [.str "refused", .tup [.str (Str.ofString k.nm), .str (Str.ofString n)]]) v → Q v H') ∧
  (dueP w d1 d2 = none → ∀ (p q : Int) (v : V) H', Ex H H' → At m H' (.tup [.str "answer", .tup [.int p, .int q]]) v → IsR (crossP w d1 d2).1 (crossP w d1 d2).2 p q → Q v H')
def b_l_told (A : Ad) (W : WX) : TS := bTry A.K (.ref A.ShadeError) 2 (fun W' => tRet (bTup (tCons (tC (.str "answer")) (tCons (bCall (P_l_ask A) W' (tCons (bVar 0) (tCons (bVar 1) (tNil)))) (tNil))))) (fun a cls d => tRet (bTup (tCons (tC (.str "refused")) (tCons (bCall ((P_l_refusal A) a cls d) (fun _ _ _ _ => False) (tCons (bVar 2) (tNil))) (tNil))))) W
theorem r_l_told (A : Ad) : ∀ vs H Q E, P_l_told A vs H Q E → vs.length = 2 ∧ b_l_told A (wE E) (dE Q) (start ["which", "given", "caught"] vs) H := by
  rintro vs H Q E ⟨m, w, d1, d2, v, hv, hw, hm, ha, z1, z2, pw, F, kr, kq⟩
  have body : ∀ i : Int, (i = w ∨ i = w + 20) → b_l_told A (wE E) (dE Q) [some (.int i), some v, none] H := by
    intro i hi
    refine ⟨m, w, d1, d2, v, hi.imp (by rintro rfl; rfl) (by rintro rfl; rfl), hw, hm, ha, z1, z2, pw, fun k n e => ?_, fun e p q v2 H' x a R => ?_⟩
    · intro dd H' x hd
      refine ⟨true, F.sh k, fun _ a' ha' => ?_, fun z => by cases z⟩
      refine ⟨k, dd, _, m, rfl, rfl, rfl, hd, fun z => hm (x.fresh z), F, fun v2 H2 x2 a2 => ?_⟩
      refine Alloc.mk fun p H3 x3 n3 h3 => ?_
      exact kr k n e _ _ (x.trans (x2.trans x3)) (.tup (fun z => hm ((x.trans x2).fresh (z ▸ n3))) h3 (.cons (.str _) (.cons (a2.mono x3) .nil)))
    · refine Alloc.mk fun t H3 x3 n3 h3 => ?_
      exact kq e p q _ _ (x.trans x3) (.tup (fun z => hm (x.fresh (z ▸ n3))) h3 (.cons (.str _) (.cons (a.mono x3) .nil))) R
  rcases hv with rfl | rfl
  · exact ⟨rfl, body _ (.inl rfl)⟩
  · exact ⟨rfl, body _ (.inr rfl)⟩
theorem bits_lt (y : Int) : y.natAbs < 2 ^ Builtin.Int.intBits y := by
  unfold Builtin.Int.intBits
  split
  · rename_i h; simp at h; subst h; decide
  · exact Nat.lt_log2_self
theorem half_prod {a b : Nat} (hb : 0 < b) (h : b < a) {c M : Nat} (hc : a * b * c < M) : b * (a % b) * (2 * c) < M := by
  have h2 : 2 * (a % b) ≤ a := by
    have e := Nat.div_add_mod a b
    have l := Nat.mod_lt a hb
    have d : 1 ≤ a / b := Nat.div_pos (Nat.le_of_lt h) hb
    have : b * 1 ≤ b * (a / b) := Nat.mul_le_mul_left b d
    omega
  refine Nat.lt_of_le_of_lt ?_ hc
  have e1 : b * (a % b) * (2 * c) = (2 * (a % b)) * (b * c) := by ac_rfl
  have e2 : a * b * c = a * (b * c) := by ac_rfl
  rw [e1, e2]
  exact Nat.mul_le_mul_right _ h2
def P_l_common (A : Ad) : Sp := fun vs H Q _ => ∃ (x y : Int), vs = [.int x, .int y] ∧ x.natAbs < 2 ^ 8990 ∧ y.natAbs < 2 ^ 8990 ∧ ∀ H', Ex H H' → Q (.int ((Nat.gcd x.natAbs y.natAbs : Nat) : Int)) H'
def b_l_common (A : Ad) (W : WX) : TS := tSeq (tAsg (bLst (tCons (bAbs (bVar 0)) (tCons (bAbs (bVar 1)) (tNil)))) (gName 2)) (tSeq (bForR (tOp bAdd (tOp bMul (tC (.int 2)) (bBits (tOp bIx (bVar 2) (tC (.int 1))))) (tC (.int 3))) (gName 3) (tSeq (bIf (bTst (tOp (bEq A.K) (tOp bIx (bVar 2) (tC (.int 1))) (tC (.int 0)))) (tBreak) (tNext)) (tAsg (bLst (tCons (tOp bIx (bVar 2) (tC (.int 1))) (tCons (tOp bMod (bInt (tOp bIx (bVar 2) (tC (.int 0)))) (tOp bIx (bVar 2) (tC (.int 1)))) (tNil)))) (gName 2)))) (tRet (tOp bIx (bVar 2) (tC (.int 0)))))
theorem r_l_common (A : Ad) : ∀ vs H Q E, P_l_common A vs H Q E → vs.length = 2 ∧ b_l_common A (wE E) (dE Q) (start ["one", "two", "held", "k"] vs) H := by
  rintro vs H Q E ⟨x, y, rfl, hx, hy, k⟩
  refine ⟨rfl, ?_⟩
  walk_at "go"
  rename_i p0 H0 x0 n0 h0
  have sy : Sz ((y.natAbs : Nat) : Int) := Sz.of 8990 (by simpa using hy) (by decide) (by decide)
  have hn := bits_sz sy
  have hbl := bits_lt ((y.natAbs : Nat) : Int)
  generalize hN : Builtin.Int.intBits ((y.natAbs : Nat) : Int) = n at hn hbl
  rw [Int.natAbs_natCast] at hbl
  refine ⟨⟨by omega, by omega⟩, ?_⟩
  refine LoopR.mk (fun i σ H' => Ex H H' ∧ ∃ (p : Addr) (a b : Nat) (o : Option V), σ = [some (.int x), some (.int y), some (.ref p), o] ∧ H' p = some (.lst [.int a, .int b]) ∧ Nat.gcd a b = Nat.gcd x.natAbs y.natAbs ∧ a < 2 ^ 8990 ∧ b < 2 ^ 8990 ∧ (i = 0 → b = y.natAbs) ∧ (1 ≤ i → b < a ∧ a * b * 2 ^ (i - 1) < 2 ^ (2 * n)))
    ⟨x0, p0, _, _, _, rfl, h0, rfl, hx, hy, fun _ => rfl, fun z => absurd z (by decide)⟩ ?_ ?_
  · rintro i σ H' hi ⟨x1, p, a, b, o, rfl, hp, hg, ha, hb, i0, i1⟩
    walk_at "go"
    walk_at "br"
    · rename_i hz
      obtain rfl : b = 0 := by omega
      rw [← hg, Nat.gcd_zero_right] at k
      walk_at "go"
      exact k _ x1
    · rename_i hz
      have bp : 0 < b := by omega
      have sb : Sz (b : Int) := Sz.of 8990 (by simpa using hb) (by decide) (by decide)
      walk_at "go"
      rename_i r er hr q H2 x2 n2 h2
      have er2 : r = ((a % b : Nat) : Int) := by
        rw [er, Int.fmod_eq_emod_of_nonneg _ (by omega)]
        rfl
      subst er2
      have ml := Nat.mod_lt a bp
      refine ⟨x1.trans x2, q, b, a % b, _, rfl, h2, by rw [← hg, Nat.gcd_comm a b, Nat.gcd_rec b a, Nat.gcd_comm], hb, by omega, fun z => absurd z (by omega), fun _ => ⟨ml, ?_⟩⟩
      by_cases e : i = 0
      · subst e
        rw [i0 rfl] at ml bp ⊢
        have h1 : y.natAbs * (a % y.natAbs) < 2 ^ n * 2 ^ n := Nat.mul_lt_mul_of_lt_of_le hbl (by omega) (Nat.pow_pos (by decide))
        rw [← Nat.pow_add] at h1
        simpa [Nat.two_mul] using h1
      · obtain ⟨j, rfl⟩ : ∃ j, i = j + 1 := ⟨i - 1, by omega⟩
        obtain ⟨l, h⟩ := i1 (by omega)
        have := half_prod bp l h
        rw [Nat.add_sub_cancel] at this ⊢
        rw [pow2s]
        exact this
  · rintro σ H' ⟨x1, p, a, b, o, rfl, hp, hg, ha, hb, i0, i1⟩
    have en : (2 * ((n : Nat) : Int) + 3).toNat = 2 * n + 3 := by omega
    obtain ⟨l, h⟩ := i1 (by omega)
    have hb0 : b = 0 := by
      rw [en] at h
      have e2 : 2 * n + 3 - 1 = 2 * n + 2 := rfl
      rw [e2, Nat.pow_add] at h
      apply Classical.byContradiction
      intro hb0
      have : 1 ≤ a * b := Nat.mul_pos (by omega) (by omega)
      have h3 : 1 * (2 ^ (2 * n) * 2 ^ 2) ≤ a * b * (2 ^ (2 * n) * 2 ^ 2) := Nat.mul_le_mul_right _ this
      omega
    subst hb0
    rw [← hg, Nat.gcd_zero_right] at k
    walk_at "go"
    exact k _ x1
def P_l_is_ratio_of (A : Ad) : Sp := fun vs H Q _ => ∃ (m : Addr) (p q t b : Int) (v : V), vs = [v, .int t, .int b] ∧ H m ≠ none ∧ At m H (.tup [.int p, .int q]) v ∧ IsR t b p q ∧ t.natAbs < 2 ^ 8980 ∧ b.natAbs < 2 ^ 8980 ∧ ∀ H', Ex H H' → Q (.bl true) H'
def b_l_is_ratio_of (A : Ad) (W : WX) : TS := tSeq (bIf (bOr (tNot (bTru (bCall (P_l_is_pair A) W (tCons (bVar 0) (tNil))))) (bTst (tOp (bLt) (tOp bIx (bVar 0) (tC (.int 1))) (tC (.int 1))))) (tRet (tC (.bl false))) (tNext)) (tRet (bAndV (tOp (bEq A.K) (tOp bMul (tOp bIx (bVar 0) (tC (.int 0))) (bVar 2)) (tOp bMul (bVar 1) (tOp bIx (bVar 0) (tC (.int 1))))) (tOp (bEq A.K) (bCall (P_l_common A) W (tCons (tOp bIx (bVar 0) (tC (.int 0))) (tCons (tOp bIx (bVar 0) (tC (.int 1))) (tNil)))) (tC (.int 1)))))
theorem r_l_is_ratio_of (A : Ad) : ∀ vs H Q E, P_l_is_ratio_of A vs H Q E → vs.length = 3 ∧ b_l_is_ratio_of A (wE E) (dE Q) (start ["told", "one", "two"] vs) H := by
  rintro vs H Q E ⟨m, p, q, t, b, v, rfl, hm, ha, ⟨e1, q1, g1, lp, lq⟩, st, sb, k⟩
  refine ⟨rfl, ?_⟩
  obtain ⟨tt, x, y, rfl, nt, ht, h1, h2⟩ := at_pair_inv ha
  obtain rfl := at_int_inv h1
  obtain rfl := at_int_inv h2
  refine ⟨m, _, _, rfl, ha, ?_⟩
  have Zt : Sz t := Sz.of 8980 st (by decide) (by decide)
  have Zb : Sz b := Sz.of 8980 sb (by decide) (by decide)
  have Zp : Sz p := Sz.of 8980 (by omega) (by decide) (by decide)
  have Zq : Sz q := Sz.of 8980 (by omega) (by decide) (by decide)
  walk_at "br"
  walk_at "go"
  walk_at "br"
  · omega
  walk_at "go"
  walk_at "br"
  walk_at "go"
  refine ⟨p, q, rfl, sm_lt (j := 8980) (by omega) (by decide), sm_lt (j := 8980) (by omega) (by decide), fun H' x => ?_⟩
  rw [g1]
  exact k H' x
  · contradiction
def P_l_sameN (A : Ad) (n : Nat) : Sp := fun vs H Q _ => ∃ (m : Addr) (d : Dt) (v1 v2 : V), vs = [v1, v2] ∧ At m H d v1 ∧ At m H d v2 ∧ d.okN n ∧ Q (.bl true) H
def P_l_same (A : Ad) : Sp := P_l_sameN A 5
def b_l_sameN (A : Ad) (n : Nat) (W : WX) : TS := tSeq (bIf (bTst (tOp (bIsN) (bVar 1) (tC .non))) (tRet (tOp (bIsN) (bVar 0) (tC .non))) (tNext)) (tSeq (bIf (bTru (bIsi .bl (bVar 1))) (tRet (bAndV (bIsi .bl (bVar 0)) (tOp (bEq A.K) (bVar 0) (bVar 1)))) (tNext)) (tSeq (bIf (bTru (bIsi .int (bVar 1))) (tRet (bAndV (bIsi .int (bVar 0)) (bAndV (bNotV (bIsi .bl (bVar 0))) (tOp (bEq A.K) (bVar 0) (bVar 1))))) (tNext)) (tSeq (bIf (bTru (bIsi .str (bVar 1))) (tRet (bAndV (bIsi .str (bVar 0)) (tOp (bEq A.K) (bVar 0) (bVar 1)))) (tNext)) (tSeq (bIf (bAnd (bTru (bIsi .lst (bVar 1))) (tNot (bTru (bIsi .lst (bVar 0))))) (tRet (tC (.bl false))) (tNext)) (tSeq (bIf (bAnd (bTru (bIsi .tup (bVar 1))) (tNot (bTru (bIsi .tup (bVar 0))))) (tRet (tC (.bl false))) (tNext)) (tSeq (bIf (bTst (tOp (bNe A.K) (bLenD (bVar 0)) (bLenD (bVar 1)))) (tRet (tC (.bl false))) (tNext)) (tSeq (bForR (bLenD (bVar 1)) (gName 2) (bIf (tNot (bTru (bCall (P_l_sameN A n) W (tCons (tOp bIx (bVar 0) (bVar 2)) (tCons (tOp bIx (bVar 1) (bVar 2)) (tNil)))))) (tRet (tC (.bl false))) (tNext))) (tRet (tC (.bl true))))))))))
theorem same_looplst {A : Ad} {n : Nat} {H : Hp} {Q : VK} {E : XK} {m p q : Addr} {ds : List Dt} {xs ys : List V} (hp : H p = some (.lst xs)) (hq : H q = some (.lst ys))
    (l1 : AtL m H ds xs) (l2 : AtL m H ds ys) (ok : ∀ d ∈ ds, d.okN n) (k : Q (.bl true) H) (D : Ends) (hD : D.nx = tRet (tC (.bl true)) (dE Q)) (o : Option V) :
    LoopR 0 (ys.length : Int).toNat (gName 2) (bIf (tNot (bTru (bCall (P_l_sameN A n) (wE E) (tCons (tOp bIx (bVar 0) (bVar 2)) (tCons (tOp bIx (bVar 1) (bVar 2)) (tNil)))))) (tRet (tC (.bl false))) (tNext)) D [some (.ref p), some (.ref q), o] H := by
  refine LoopR.mk (fun i σ H' => H' = H ∧ ∃ o, σ = [some (.ref p), some (.ref q), o]) ⟨rfl, o, rfl⟩ ?_ ?_
  · rintro i σ H' hi ⟨rfl, o, rfl⟩
    have hl := l2.len
    have hi2 : i < ys.length := by simpa using hi
    have e : ds[i]? = some (ds[i]'(by omega)) := List.getElem?_eq_getElem _
    obtain ⟨x, hx, ax⟩ := l1.at e
    obtain ⟨y, hy, ay⟩ := l2.at e
    have ei : (0 : Int) + (i : Int) = ((i : Nat) : Int) := by omega
    rw [ei]
    refine Get.mk _ hp (AtI.mk _ (atI_nat hx) ?_)
    refine Get.mk _ hq (AtI.mk _ (atI_nat hy) ?_)
    refine ⟨m, _, x, y, rfl, ax, ay, ok _ (List.getElem_mem _), ?_⟩
    walk_at "br"
    exact ⟨rfl, _, rfl⟩
  · rintro σ H' ⟨rfl, o, rfl⟩
    rw [hD]
    exact k
theorem same_looptup {A : Ad} {n : Nat} {H : Hp} {Q : VK} {E : XK} {m p q : Addr} {ds : List Dt} {xs ys : List V} (hp : H p = some (.tup xs)) (hq : H q = some (.tup ys))
    (l1 : AtL m H ds xs) (l2 : AtL m H ds ys) (ok : ∀ d ∈ ds, d.okN n) (k : Q (.bl true) H) (D : Ends) (hD : D.nx = tRet (tC (.bl true)) (dE Q)) (o : Option V) :
    LoopR 0 (ys.length : Int).toNat (gName 2) (bIf (tNot (bTru (bCall (P_l_sameN A n) (wE E) (tCons (tOp bIx (bVar 0) (bVar 2)) (tCons (tOp bIx (bVar 1) (bVar 2)) (tNil)))))) (tRet (tC (.bl false))) (tNext)) D [some (.ref p), some (.ref q), o] H := by
  refine LoopR.mk (fun i σ H' => H' = H ∧ ∃ o, σ = [some (.ref p), some (.ref q), o]) ⟨rfl, o, rfl⟩ ?_ ?_
  · rintro i σ H' hi ⟨rfl, o, rfl⟩
    have hl := l2.len
    have hi2 : i < ys.length := by simpa using hi
    have e : ds[i]? = some (ds[i]'(by omega)) := List.getElem?_eq_getElem _
    obtain ⟨x, hx, ax⟩ := l1.at e
    obtain ⟨y, hy, ay⟩ := l2.at e
    have ei : (0 : Int) + (i : Int) = ((i : Nat) : Int) := by omega
    rw [ei]
    refine Get.mk _ hp (AtI.mk _ (atI_nat hx) ?_)
    refine Get.mk _ hq (AtI.mk _ (atI_nat hy) ?_)
    refine ⟨m, _, x, y, rfl, ax, ay, ok _ (List.getElem_mem _), ?_⟩
    walk_at "br"
    exact ⟨rfl, _, rfl⟩
  · rintro σ H' ⟨rfl, o, rfl⟩
    rw [hD]
    exact k
theorem r_l_sameN (A : Ad) (n : Nat) : ∀ vs H Q E, P_l_sameN A (n + 1) vs H Q E → vs.length = 2 ∧ b_l_sameN A n (wE E) (dE Q) (start ["told", "due", "k"] vs) H := by
  rintro vs H Q E ⟨m, d, v1, v2, rfl, h1, h2, ok, k⟩
  refine ⟨rfl, ?_⟩
  have k' : ∀ (p : Prop) [Decidable p], p → Q (.bl (decide p)) H := fun p _ h => by rw [decide_eq_true h]; exact k
  cases h1 with
  | non => cases h2; walk_at "all"; exact k
  | bl b => cases h2; walk_at "all"; exact k' _ rfl
  | int i => cases h2; walk_at "all"; exact k' _ rfl
  | str i => cases h2; walk_at "all"; exact k' _ rfl
  | @dct p n1 hp =>
    obtain ⟨q, rfl, n2, hq⟩ := at_dct_inv h2
    walk_at "all"
    refine LoopR.mk (fun i σ H' => H' = H) rfl (fun i σ H' hi => absurd hi (Nat.not_lt_zero _)) ?_
    rintro σ H' rfl
    exact k
  | @lst ds xs p n1 hp l1 =>
    obtain ⟨q, ys, rfl, n2, hq, l2⟩ := at_lst_inv h2
    have e1 := l1.len
    have e2 := l2.len
    walk_at "all"
    · omega
    have ol : ds.length < 100000 := ok.1
    refine And.intro ⟨?_, ?_⟩ (same_looplst hp hq l1 l2 ok.2 k _ (by rfl) _)
    · omega
    · show (ys.length : Int) < 2 ^ 62
      omega
  | @tup ds xs p n1 hp l1 =>
    obtain ⟨q, ys, rfl, n2, hq, l2⟩ := at_tup_inv h2
    have e1 := l1.len
    have e2 := l2.len
    walk_at "all"
    · omega
    have ol : ds.length < 100000 := ok.1
    refine And.intro ⟨?_, ?_⟩ (same_looptup hp hq l1 l2 ok.2 k _ (by rfl) _)
    · omega
    · show (ys.length : Int) < 2 ^ 62
      omega
theorem fs_oor : fs (some .oor) = "OutOfRange" := rfl
theorem sec_no {w : Nat} {d : Dt} (h : fracF d = none) (hz : ¬ (w = 3 ∧ ∃ b, d = .tup [.int 0, .int b])) : secF w d = none := by
  obtain ⟨a, b, rfl, hb⟩ := frac_some h
  rw [sec_i hb, if_neg]
  rintro ⟨hw, rfl⟩
  exact hz ⟨hw, _, rfl⟩
theorem at_row {m : Addr} {H : Hp} {p t1 t2 : Addr} {n1 n2 : String} {f1 f2 : Option Fk} (hp : H p = some (.lst [.ref t1, .ref t2])) (np : p ≠ m) (h1 : H t1 = some (.tup [.str (Str.ofString n1), .str (Str.ofString (fs f1))])) (m1 : t1 ≠ m)
    (h2 : H t2 = some (.tup [.str (Str.ofString n2), .str (Str.ofString (fs f2))])) (m2 : t2 ≠ m) : At m H (rowD [(n1, f1), (n2, f2)]) (.ref p) :=
  .lst np hp (.cons (.tup m1 h1 (.cons (.str _) (.cons (.str _) .nil))) (.cons (.tup m2 h2 (.cons (.str _) (.cons (.str _) .nil))) .nil))
def P_l_due (A : Ad) : Sp := fun vs H Q _ => ∃ (m : Addr) (w : Nat) (d1 d2 : Dt) (v : V), vs = [.int w, v] ∧ w ≤ 4 ∧ H m ≠ none ∧ At m H (.tup [d1, d2]) v ∧ ∀ v' H', Ex H H' → At m H' (dueD (dueP w d1 d2)) v' → Q v' H'
def b_l_due (A : Ad) (W : WX) : TS := tSeq (bIf (bTst (tOp (bEq A.K) (bVar 0) (tC (.int 4)))) (tSeq (tAsg (bCall (P_l_number_fault A) W (tCons (tOp bIx (bVar 1) (tC (.int 1))) (tCons (tC (.int 0)) (tCons (tC (.int 64)) (tNil))))) (gName 2)) (tRet (bCall (P_l_first_fault A) W (tCons (bLst (tCons (bTup (tCons (tC (.str "base")) (tCons (bCall (P_l_fraction_fault A) W (tCons (tOp bIx (bVar 1) (tC (.int 0))) (tNil))) (tNil)))) (tCons (bTup (tCons (tC (.str "exponent")) (tCons (bVar 2) (tNil)))) (tNil)))) (tNil))))) (tNext)) (tSeq (tAsg (bCall (P_l_fraction_fault A) W (tCons (tOp bIx (bVar 1) (tC (.int 1))) (tNil))) (gName 2)) (tSeq (bIf (bAnd (bTst (tOp (bEq A.K) (bVar 0) (tC (.int 3)))) (bAnd (bTst (tOp (bEq A.K) (bVar 2) (tC (.str "")))) (bTst (tOp (bEq A.K) (tOp bIx (tOp bIx (bVar 1) (tC (.int 1))) (tC (.int 0))) (tC (.int 0)))))) (tAsg (tC (.str "OutOfRange")) (gName 2)) (tNext)) (tRet (bCall (P_l_first_fault A) W (tCons (bLst (tCons (bTup (tCons (tC (.str "first")) (tCons (bCall (P_l_fraction_fault A) W (tCons (tOp bIx (bVar 1) (tC (.int 0))) (tNil))) (tNil)))) (tCons (bTup (tCons (tC (.str "second")) (tCons (bVar 2) (tNil)))) (tNil)))) (tNil))))))
theorem r_l_due (A : Ad) : ∀ vs H Q E, P_l_due A vs H Q E → vs.length = 2 ∧ b_l_due A (wE E) (dE Q) (start ["which", "given", "fault"] vs) H := by
  rintro vs H Q E ⟨m, w, d1, d2, v, rfl, hw, hm, ha, k⟩
  refine ⟨rfl, ?_⟩
  obtain ⟨t, x, y, rfl, nt, ht, h1, h2⟩ := at_pair_inv ha
  by_cases e4 : w = 4
  · subst e4
    walk_at "all"
    refine ⟨m, d2, y, some 0, some 64, rfl, h2, ?_⟩
    walk_at "go"
    refine ⟨m, d1, x, rfl, h1, ?_⟩
    walk_at "go"
    rename_i t1 H1 x1 n1 g1 t2 H2 x2 n2 g2 p H3 x3 n3 g3
    refine ⟨m, [("base", fracF d1), ("exponent", numF d2 (some 0) (some 64))], .ref p, rfl, fun z => hm ((x1.trans (x2.trans x3)).fresh z), at_row g3 (fun z => hm ((x1.trans x2).fresh (z ▸ n3))) (x3 _ _ (x2 _ _ g1)) (new_ne hm n1) (x3 _ _ g2) (fun z => hm (x1.fresh (z ▸ n2))), fun v' H' x' a' => ?_⟩
    exact k v' H' ((x1.trans (x2.trans x3)).trans x') a'
  · have fin : ∀ (f : Option Fk), f = secF w d2 → (tRet (bCall (P_l_first_fault A) (wE E) (tCons (bLst (tCons (bTup (tCons (tC (.str "first")) (tCons (bCall (P_l_fraction_fault A) (wE E) (tCons (tOp bIx (bVar 1) (tC (.int 0))) (tNil))) (tNil)))) (tCons (bTup (tCons (tC (.str "second")) (tCons (bVar 2) (tNil)))) (tNil)))) (tNil)))) (dE Q) [some (.int w), some (.ref t), some (.str (Str.ofString (fs f)))] H := by
      rintro f rfl
      walk_at "go"
      refine ⟨m, d1, x, rfl, h1, ?_⟩
      walk_at "go"
      rename_i t1 H1 x1 n1 g1 t2 H2 x2 n2 g2 p H3 x3 n3 g3
      refine ⟨m, [("first", fracF d1), ("second", secF w d2)], .ref p, rfl, fun z => hm ((x1.trans (x2.trans x3)).fresh z), at_row g3 (fun z => hm ((x1.trans x2).fresh (z ▸ n3))) (x3 _ _ (x2 _ _ g1)) (new_ne hm n1) (x3 _ _ g2) (fun z => hm (x1.fresh (z ▸ n2))), fun v' H' x' a' => ?_⟩
      refine k v' H' ((x1.trans (x2.trans x3)).trans x') ?_
      unfold dueP
      rw [if_neg e4]
      exact a'
    walk_at "br"
    · omega
    walk_at "go"
    refine ⟨m, d2, y, rfl, h2, ?_⟩
    walk_at "br"
    · walk_at "br"
      · rename_i hb1 hb2 hb3
        rw [fs_none] at hb3
        obtain ⟨a, b, rfl, hb⟩ := frac_some hb3
        obtain ⟨t2, x2, y2, rfl, nt2, ht2, i1, i2⟩ := at_pair_inv h2
        obtain rfl := at_int_inv i1
        walk_at "go"
        walk_at "br"
        · refine fin (some .oor) ?_
          rw [sec_i hb, if_pos ⟨by omega, by assumption⟩]
        · refine fin _ ?_
          rw [hb3, sec_i hb, if_neg (by intro z; have := z.2; contradiction)]
      · rename_i hb1 hb2 hb3
        rw [fs_none] at hb3
        walk_at "br"
        refine fin _ ?_
        cases e : fracF d2 with
        | none => exact absurd e hb3
        | some f => exact (sec_some e).symm
    · walk_at "br"
      refine fin _ ?_
      cases e : fracF d2 with
      | none => exact (sec_no e (by rintro ⟨z, _⟩; omega)).symm
      | some f => exact (sec_some e).symm
theorem due_inv {w : Nat} {d1 d2 : Dt} (hw : w ≠ 4) (h : dueP w d1 d2 = none) : fracF d1 = none ∧ secF w d2 = none ∧ fracF d2 = none := by
  cases e1 : fracF d1 with
  | some k => rw [due_1 hw e1] at h; cases h
  | none =>
    cases e2 : secF w d2 with
    | some k => rw [due_2 hw e1 e2] at h; cases h
    | none =>
      refine ⟨rfl, rfl, ?_⟩
      cases e3 : fracF d2 with
      | some k => rw [sec_some e3] at e2; cases e2
      | none => rfl
theorem due_inv4 {d1 d2 : Dt} (h : dueP 4 d1 d2 = none) : fracF d1 = none ∧ numF d2 (some 0) (some 64) = none := by
  cases e1 : fracF d1 with
  | some k => rw [pow4 e1] at h; cases h
  | none =>
    cases e2 : numF d2 (some 0) (some 64) with
    | some k => rw [pow4b e1 e2] at h; cases h
    | none => exact ⟨rfl, rfl⟩
theorem num_064 {e : Int} (h : numF (.int e) (some 0) (some 64) = none) : 0 ≤ e ∧ e ≤ 64 := by
  simp [numF] at h
  omega
def P_l_cross (A : Ad) : Sp := fun vs H Q _ => ∃ (m : Addr) (w : Nat) (d1 d2 : Dt) (v : V), vs = [.int w, v] ∧ w ≤ 4 ∧ H m ≠ none ∧ At m H (.tup [d1, d2]) v ∧ d1.sm 4480 ∧ d2.sm 4480 ∧ (w = 4 → Pw d1 d2) ∧ dueP w d1 d2 = none ∧
  ∀ v' H', Ex H H' → At m H' (.tup [.int (crossP w d1 d2).1, .int (crossP w d1 d2).2]) v' → Q v' H'
def b_l_cross (A : Ad) (W : WX) : TS := tSeq (tAsg (tOp bIx (bVar 1) (tC (.int 0))) (gName 2)) (tSeq (tAsg (tOp bIx (bVar 1) (tC (.int 1))) (gName 3)) (tSeq (bIf (bTst (tOp (bEq A.K) (bVar 0) (tC (.int 0)))) (tRet (bTup (tCons (tOp bAdd (tOp bMul (tOp bIx (bVar 2) (tC (.int 0))) (tOp bIx (bVar 3) (tC (.int 1)))) (tOp bMul (tOp bIx (bVar 3) (tC (.int 0))) (tOp bIx (bVar 2) (tC (.int 1))))) (tCons (tOp bMul (tOp bIx (bVar 2) (tC (.int 1))) (tOp bIx (bVar 3) (tC (.int 1)))) (tNil))))) (tNext)) (tSeq (bIf (bTst (tOp (bEq A.K) (bVar 0) (tC (.int 1)))) (tRet (bTup (tCons (tOp bSub (tOp bMul (tOp bIx (bVar 2) (tC (.int 0))) (tOp bIx (bVar 3) (tC (.int 1)))) (tOp bMul (tOp bIx (bVar 3) (tC (.int 0))) (tOp bIx (bVar 2) (tC (.int 1))))) (tCons (tOp bMul (tOp bIx (bVar 2) (tC (.int 1))) (tOp bIx (bVar 3) (tC (.int 1)))) (tNil))))) (tNext)) (tSeq (bIf (bTst (tOp (bEq A.K) (bVar 0) (tC (.int 2)))) (tRet (bTup (tCons (tOp bMul (tOp bIx (bVar 2) (tC (.int 0))) (tOp bIx (bVar 3) (tC (.int 0)))) (tCons (tOp bMul (tOp bIx (bVar 2) (tC (.int 1))) (tOp bIx (bVar 3) (tC (.int 1)))) (tNil))))) (tNext)) (tSeq (bIf (bTst (tOp (bEq A.K) (bVar 0) (tC (.int 3)))) (tRet (bTup (tCons (tOp bMul (tOp bIx (bVar 2) (tC (.int 0))) (tOp bIx (bVar 3) (tC (.int 1)))) (tCons (tOp bMul (tOp bIx (bVar 2) (tC (.int 1))) (tOp bIx (bVar 3) (tC (.int 0)))) (tNil))))) (tNext)) (tSeq (tAsg (tC (.int 1)) (gName 4)) (tSeq (tAsg (tC (.int 1)) (gName 5)) (tSeq (bForR (bVar 3) (gName 6) (tSeq (tAsg (tOp bMul (bVar 4) (tOp bIx (bVar 2) (tC (.int 0)))) (gName 4)) (tAsg (tOp bMul (bVar 5) (tOp bIx (bVar 2) (tC (.int 1)))) (gName 5)))) (tRet (bTup (tCons (bVar 4) (tCons (bVar 5) (tNil)))))))))))))
theorem r_l_cross (A : Ad) : ∀ vs H Q E, P_l_cross A vs H Q E → vs.length = 2 ∧ b_l_cross A (wE E) (dE Q) (start ["which", "given", "one", "two", "high", "low", "k"] vs) H := by
  rintro vs H Q E ⟨m, w, d1, d2, v, rfl, hw, hm, ha, z1, z2, pw, hd, k⟩
  refine ⟨rfl, ?_⟩
  obtain ⟨t, x, y, rfl, nt, ht, h1, h2⟩ := at_pair_inv ha
  by_cases e4 : w = 4
  · subst e4
    obtain ⟨f1, f2⟩ := due_inv4 hd
    obtain ⟨a, b, rfl, hb⟩ := frac_some f1
    obtain ⟨e, rfl⟩ := num_int f2
    obtain ⟨he0, he1⟩ := num_064 f2
    obtain ⟨k2, ka, kb, ke⟩ := pw rfl a b e rfl rfl hb he0 he1
    obtain rfl := at_int_inv h2
    obtain ⟨t1, x1, y1, rfl, nt1, ht1, i1, i2⟩ := at_pair_inv h1
    obtain rfl := at_int_inv i1
    obtain rfl := at_int_inv i2
    obtain ⟨za, zb⟩ := sm_pair z1
    have sa := sz4 za
    have sb := sz4 zb
    walk_at "all"
    refine LoopR.mk (fun i σ H' => H' = H ∧ ∃ o, σ = [some (.int 4), some (.ref t), some (.ref t1), some (.int e), some (.int (a ^ i)), some (.int (b ^ i)), o]) ⟨rfl, none, by rw [Int.pow_zero, Int.pow_zero]; rfl⟩ ?_ ?_
    · rintro i σ H' hi ⟨rfl, o, rfl⟩
      have pa := pow_sz ka (Nat.le_trans (Nat.mul_le_mul_left k2 (by omega : i ≤ e.toNat)) ke)
      have pb := pow_sz kb (Nat.le_trans (Nat.mul_le_mul_left k2 (by omega : i ≤ e.toNat)) ke)
      walk_at "go"
      exact ⟨rfl, _, by rw [Int.pow_succ, Int.pow_succ]; rfl⟩
    · rintro σ H' ⟨rfl, o, rfl⟩
      walk_at "go"
      rename_i p H1 x1 n1 g1
      exact k _ _ x1 (.tup (new_ne hm n1) g1 (.cons (.int _) (.cons (.int _) .nil)))
  · obtain ⟨f1, _, f2⟩ := due_inv e4 hd
    obtain ⟨a, b, rfl, hb⟩ := frac_some f1
    obtain ⟨c, d, rfl, hb2⟩ := frac_some f2
    obtain ⟨t1, x1, y1, rfl, nt1, ht1, i1, i2⟩ := at_pair_inv h1
    obtain rfl := at_int_inv i1
    obtain rfl := at_int_inv i2
    obtain ⟨t2, x2, y2, rfl, nt2, ht2, j1, j2⟩ := at_pair_inv h2
    obtain rfl := at_int_inv j1
    obtain rfl := at_int_inv j2
    obtain ⟨za, zb⟩ := sm_pair z1
    obtain ⟨zc, zd⟩ := sm_pair z2
    have sa := sz4 za
    have sb := sz4 zb
    have sc := sz4 zc
    have sd := sz4 zd
    obtain rfl | rfl | rfl | rfl : w = 0 ∨ w = 1 ∨ w = 2 ∨ w = 3 := by omega
    all_goals
      walk_at "all"
      rename_i p H1 x1 n1 g1
      exact k _ _ x1 (.tup (new_ne hm n1) g1 (.cons (.int _) (.cons (.int _) .nil)))
theorem cross_sz {w : Nat} {d1 d2 : Dt} (hw : w ≤ 4) (z1 : d1.sm 4480) (z2 : d2.sm 4480) (pw : w = 4 → Pw d1 d2) (hd : dueP w d1 d2 = none) : (crossP w d1 d2).1.natAbs < 2 ^ 8980 ∧ (crossP w d1 d2).2.natAbs < 2 ^ 8980 := by
  by_cases e4 : w = 4
  · subst e4
    obtain ⟨f1, f2⟩ := due_inv4 hd
    obtain ⟨a, b, rfl, hb⟩ := frac_some f1
    obtain ⟨e, rfl⟩ := num_int f2
    obtain ⟨he0, he1⟩ := num_064 f2
    obtain ⟨k2, ka, kb, ke⟩ := pw rfl a b e rfl rfl hb he0 he1
    exact ⟨sm_lt (pow_lt ka ke) (by decide), sm_lt (pow_lt kb ke) (by decide)⟩
  · obtain ⟨f1, _, f2⟩ := due_inv e4 hd
    obtain ⟨a, b, rfl, hb⟩ := frac_some f1
    obtain ⟨c, d, rfl, hb2⟩ := frac_some f2
    obtain ⟨za, zb⟩ := sm_pair z1
    obtain ⟨zc, zd⟩ := sm_pair z2
    obtain rfl | rfl | rfl | rfl : w = 0 ∨ w = 1 ∨ w = 2 ∨ w = 3 := by omega
    · exact ⟨add8 (mul4 za zd) (mul4 zc zb), le8 (mul4 zb zd)⟩
    · exact ⟨sub8 (mul4 za zd) (mul4 zc zb), le8 (mul4 zb zd)⟩
    · exact ⟨le8 (mul4 za zc), le8 (mul4 zb zd)⟩
    · exact ⟨le8 (mul4 za zd), le8 (mul4 zb zc)⟩
def P_l_holds (A : Ad) : Sp := fun vs H Q _ => ∃ (m : Addr) (w : Nat) (d1 d2 : Dt) (v : V), vs = [.int w, v] ∧ w ≤ 4 ∧ H m ≠ none ∧ At m H (.tup [d1, d2]) v ∧ d1.sm 4480 ∧ d2.sm 4480 ∧ (w = 4 → Pw d1 d2) ∧ CF A ∧ ∀ H', Ex H H' → Q (.bl true) H'
def b_l_holds (A : Ad) (W : WX) : TS := tSeq (tAsg (bCall (P_l_due A) W (tCons (bVar 0) (tCons (bVar 1) (tNil)))) (gName 2)) (tSeq (bForA (bLst (tCons (bVar 0) (tCons (tOp bAdd (bVar 0) (tC (.int 20))) (tNil)))) (gName 3) (tSeq (tAsg (bCall (P_l_told A) W (tCons (bVar 3) (tCons (bVar 1) (tNil)))) (gName 4)) (bIf (bTst (tOp (bNotN) (bVar 2) (tC .non))) (bIf (tNot (bTru (bCall (P_l_same A) W (tCons (bVar 4) (tCons (bTup (tCons (tC (.str "refused")) (tCons (bVar 2) (tNil)))) (tNil)))))) (tRet (tC (.bl false))) (tNext)) (tSeq (tAsg (bCall (P_l_cross A) W (tCons (bVar 0) (tCons (bVar 1) (tNil)))) (gName 5)) (bIf (bOr (bTst (tOp (bNe A.K) (tOp bIx (bVar 4) (tC (.int 0))) (tC (.str "answer")))) (tNot (bTru (bCall (P_l_is_ratio_of A) W (tCons (tOp bIx (bVar 4) (tC (.int 1))) (tCons (tOp bIx (bVar 5) (tC (.int 0))) (tCons (tOp bIx (bVar 5) (tC (.int 1))) (tNil)))))))) (tRet (tC (.bl false))) (tNext)))))) (tRet (tC (.bl true))))
theorem ok_ref {x y : Str} : (Dt.tup [.str "refused", .tup [.str x, .str y]]).okN 5 := by
  refine ⟨by simp, ?_⟩
  intro d hd
  simp at hd
  rcases hd with rfl | rfl
  · trivial
  · refine ⟨by simp, ?_⟩
    intro d hd
    simp at hd
    rcases hd with rfl | rfl <;> trivial
theorem r_l_holds (A : Ad) : ∀ vs H Q E, P_l_holds A vs H Q E → vs.length = 2 ∧ b_l_holds A (wE E) (dE Q) (start ["which", "given", "due", "way", "told", "pair"] vs) H := by
  rintro vs H Q E ⟨m, w, d1, d2, v, rfl, hw, hm, ha, z1, z2, pw, F, k⟩
  refine ⟨rfl, ?_⟩
  refine ⟨m, w, d1, d2, v, rfl, hw, hm, ha, fun due H1 x1 a1 => ?_⟩
  walk_at "go"
  rename_i p H2 x2 n2 g2
  refine LoopL.mk (fun i σ H' => Ex H2 H' ∧ ∃ o1 o2 o3, σ = [some (.int w), some v, some due, o1, o2, o3]) ⟨Ex.refl _, _, _, _, rfl⟩ ?_ ?_ ?_
  · rintro i σ H' _ ⟨x, _⟩
    exact .inl (x _ _ g2)
  · rintro i z σ H' hx ⟨x3, o1, o2, o3, rfl⟩
    have x13 := x2.trans x3
    have xH := x1.trans x13
    have hm3 : H' m ≠ none := fun z => hm (xH.fresh z)
    have hz : [z, v] = [V.int w, v] ∨ [z, v] = [V.int (w + 20), v] := by
      match i, hx with
      | 0, hx => cases hx; exact .inl rfl
      | 1, hx => cases hx; exact .inr rfl
      | i + 2, hx => simp at hx
    walk_at "go"
    refine ⟨m, w, d1, d2, v, hz, hw, hm3, ha.mono xH, z1, z2, pw, F, fun k2 n e told H4 x4 a4 => ?_, fun e p2 q2 told H4 x4 a4 R => ?_⟩
    · rw [e] at a1
      have a1' := (a1.mono x13).mono x4
      obtain ⟨pd, xs, rfl, _⟩ := at_tup_inv a1'
      walk_at "go"
      walk_at "br"
      walk_at "go"
      rename_i p5 H5 x5 n5 g5
      refine ⟨m, _, _, _, rfl, a4.mono x5, .tup (fun z => hm3 (x4.fresh (z ▸ n5))) g5 (.cons (.str _) (.cons (a1'.mono x5) .nil)), ok_ref, ?_⟩
      walk_at "br"
      exact ⟨x3.trans (x4.trans x5), _, _, _, rfl⟩
    · rw [e] at a1
      obtain rfl := at_non_inv a1
      obtain ⟨s1, s2⟩ := cross_sz hw z1 z2 pw e
      walk_at "go"
      walk_at "br"
      walk_at "go"
      refine ⟨m, w, d1, d2, v, rfl, hw, fun z => hm3 (x4.fresh z), ha.mono (xH.trans x4), z1, z2, pw, e, fun pr H5 x5 a5 => ?_⟩
      obtain ⟨t4, y1, y2, rfl, nt4, ht4, i1, i2⟩ := at_pair_inv (a4.mono x5)
      obtain rfl := at_str_inv i1
      obtain ⟨t5, w1, w2, rfl, nt5, ht5, j1, j2⟩ := at_pair_inv a5
      obtain rfl := at_int_inv j1
      obtain rfl := at_int_inv j2
      walk_at "go"
      walk_at "br"
      walk_at "go"
      refine ⟨m, p2, q2, _, _, y2, rfl, fun z => hm3 (x4.fresh (x5.fresh z)), i2, R, s1, s2, fun H6 x6 => ?_⟩
      walk_at "br"
      exact ⟨x3.trans (x4.trans (x5.trans x6)), _, _, _, rfl⟩
  · rintro σ H' ⟨x3, o1, o2, o3, rfl⟩
    exact k H' (x1.trans (x2.trans x3))
/-- a question of the law: which one, and the two that are given -/
structure It where
  w : Nat
  a : Dt
  b : Dt
def It.d (i : It) : Dt := .tup [.int i.w, .tup [i.a, i.b]]
def It.ok (i : It) : Prop := i.w ≤ 4 ∧ i.a.sm 4480 ∧ i.b.sm 4480 ∧ (i.w = 4 → Pw i.a i.b)
theorem sm_two {k : Nat} {a b : Int} (h1 : a.natAbs < 2 ^ k) (h2 : b.natAbs < 2 ^ k) : (Dt.tup [.int a, .int b]).sm k := by
  simp only [Dt.sm, Dt.sms, and_true]
  exact ⟨h1, h2⟩
def P_l_great (A : Ad) : Sp := fun vs H Q _ => ∃ (st : Sto) (c d : Int) (v : V), vs = [.ref st, v] ∧ Store H st ∧ At st H (.tup [.int c, .int d]) v ∧ 1 ≤ d ∧ c.natAbs < 2 ^ 270 ∧ d.natAbs < 2 ^ 270 ∧ CF A ∧ ∀ H', ExB st H H' → Store H' st → Q (.bl true) H'
def b_l_great (A : Ad) (W : WX) : TS := tSeq (tAsg (bCall (P_l_ten A) W (tCons (tOp bAdd (tC (.int 100)) (bCall (P_l_take A) W (tCons (bVar 0) (tCons (tC (.int 870)) (tNil))))) (tNil))) (gName 2)) (tSeq (tAsg (tOp bMul (tOp bAdd (bVar 2) (bCall (P_l_take A) W (tCons (bVar 0) (tCons (bVar 2) (tNil))))) (tOp bIx (bLst (tCons (tC (.int 1)) (tCons (tUn bNeg (tC (.int 1))) (tNil)))) (bCall (P_l_take A) W (tCons (bVar 0) (tCons (tC (.int 2)) (tNil)))))) (gName 3)) (tSeq (tAsg (tOp bAdd (tC (.int 1)) (bCall (P_l_take A) W (tCons (bVar 0) (tCons (tC (.int 999)) (tNil))))) (gName 4)) (tSeq (tAsg (bTup (tCons (bVar 3) (tCons (bVar 4) (tNil)))) (gName 5)) (tSeq (tAsg (bTup (tCons (bVar 4) (tCons (bAbs (bVar 3)) (tNil)))) (gName 6)) (tSeq (tAsg (bTup (tCons (tOp bAdd (tOp bPow (tC (.int 10)) (tC (.int 19))) (bCall (P_l_take A) W (tCons (bVar 0) (tCons (tOp bPow (tC (.int 10)) (tC (.int 19))) (tNil))))) (tCons (tOp bAdd (tC (.int 1)) (bCall (P_l_take A) W (tCons (bVar 0) (tCons (tC (.int 9)) (tNil))))) (tNil)))) (gName 7)) (tSeq (tAsg (bLst (tCons (bTup (tCons (tC (.int 0)) (tCons (bTup (tCons (bVar 5) (tCons (bVar 1) (tNil)))) (tNil)))) (tCons (bTup (tCons (tC (.int 1)) (tCons (bTup (tCons (bVar 1) (tCons (bVar 5) (tNil)))) (tNil)))) (tCons (bTup (tCons (tC (.int 2)) (tCons (bTup (tCons (bVar 5) (tCons (bVar 1) (tNil)))) (tNil)))) (tCons (bTup (tCons (tC (.int 2)) (tCons (bTup (tCons (bVar 1) (tCons (bVar 6) (tNil)))) (tNil)))) (tCons (bTup (tCons (tC (.int 3)) (tCons (bTup (tCons (bVar 6) (tCons (bVar 1) (tNil)))) (tNil)))) (tNil))))))) (gName 8)) (tSeq (tAsg (tOp bSub (tC (.int 64)) (bCall (P_l_take A) W (tCons (bVar 0) (tCons (tC (.int 12)) (tNil))))) (gName 2)) (tSeq (bForA (tOp bAdd (bVar 8) (bLst (tCons (bTup (tCons (tC (.int 3)) (tCons (bTup (tCons (bVar 1) (tCons (bVar 5) (tNil)))) (tNil)))) (tCons (bTup (tCons (tC (.int 4)) (tCons (bTup (tCons (bVar 7) (tCons (bVar 2) (tNil)))) (tNil)))) (tNil))))) (gName 9) (bIf (tNot (bTru (bCall (P_l_holds A) W (tCons (tOp bIx (bVar 9) (tC (.int 0))) (tCons (tOp bIx (bVar 9) (tC (.int 1))) (tNil)))))) (tRet (tC (.bl false))) (tNext))) (tSeq (tAsg (bCall (P_ratio_power A) W (tCons (bVar 7) (tCons (bVar 2) (tNil)))) (gName 10)) (tRet (bAndV (bCall (P_l_holds A) W (tCons (tC (.int 0)) (tCons (bTup (tCons (bVar 10) (tCons (bVar 1) (tNil)))) (tNil)))) (bAndV (bCall (P_l_holds A) W (tCons (tC (.int 1)) (tCons (bTup (tCons (bVar 1) (tCons (bVar 10) (tNil)))) (tNil)))) (bCall (P_l_holds A) W (tCons (tC (.int 2)) (tCons (bTup (tCons (bVar 10) (tCons (bVar 1) (tNil)))) (tNil))))))))))))))))
theorem pick2 {r : Int} (h0 : 0 ≤ r) (h1 : r < 2 ∨ r = 0) : ∃ s : Int, (s = 1 ∨ s = -1) ∧ atI [V.int 1, V.int (-1)] r = some (.int s) := by
  obtain rfl | rfl : r = 0 ∨ r = 1 := by omega
  · exact ⟨1, .inl rfl, rfl⟩
  · exact ⟨-1, .inr rfl, rfl⟩
theorem pow_ltk {a : Int} {k e n : Nat} (h : a.natAbs < 2 ^ k) (l : k * e ≤ n) : (a ^ e).natAbs < 2 ^ (n + 1) := by
  rw [Int.natAbs_pow]
  have h1 : a.natAbs ^ e ≤ (2 ^ k) ^ e := Nat.pow_le_pow_left (Nat.le_of_lt h) e
  rw [← Nat.pow_mul] at h1
  have h2 : (2 : Nat) ^ (k * e) ≤ 2 ^ n := Nat.pow_le_pow_right (by decide) l
  have e : (2 : Nat) ^ (n + 1) = 2 * 2 ^ n := pow2s n
  have : 0 < (2 : Nat) ^ n := Nat.pow_pos (by decide)
  omega
theorem ok_q {w : Nat} {a b c d : Int} (hw : w < 4) (h1 : a.natAbs < 2 ^ 4480) (h2 : b.natAbs < 2 ^ 4480) (h3 : c.natAbs < 2 ^ 4480) (h4 : d.natAbs < 2 ^ 4480) : (It.mk w (.tup [.int a, .int b]) (.tup [.int c, .int d])).ok :=
  ⟨Nat.le_of_lt hw, sm_two h1 h2, sm_two h3 h4, fun z => absurd z (Nat.ne_of_lt hw)⟩
theorem gn {i : Nat} {v : V} {σ : Sg} {H : Hp} {K : Sg → Hp → Prop} (h : K (σ.set i (some v)) H) : gName i v σ H K := h
theorem sub_i {i j : Int} {H : Hp} {Q : VK} (h : Q (.int (i - j)) H) : bSub (.int i) (.int j) H Q := h
theorem for_dv {m : Addr} {te : TE} {g : TG} {tb t : TS} {D : Ends} {σ : Sg} {H : Hp} {ds : List Dt} (h : Dv m te σ H (.lst ds)) (k : ∀ p xs H1, Ex H H1 → H1 p = some (.lst xs) → p ≠ m → AtL m H1 ds xs → LoopL p xs g tb { D with nx := t D } σ H1) : tSeq (bForA te g tb) t D σ H :=
  h.run fun v H1 x a => by
    obtain ⟨p, xs, rfl, n, hp, l⟩ := at_lst_inv a
    exact Get.mk _ hp (k p xs H1 x hp n l)
local macro_rules | `(tactic| walk_at "dv") => `(tactic| repeat first
  | exact dx_int _ | exact dx_str _ | exact dx_bl _ | exact dx_non | exact dx_neg _ | exact dx_vi rfl | exact dx_var rfl (by assumption)
  | exact dxa_nil | refine dxa_cons ?_ ?_ | refine dx_tup (by assumption) ?_ | refine dx_lst (by assumption) ?_ | exact dx_dct (by assumption) | exact dx_pow (by unfold CPow; decide) (by decide) | refine dx_add ?_ ?_ | refine dx_sub ?_ ?_)
theorem r_l_great (A : Ad) : ∀ vs H Q E, P_l_great A vs H Q E → vs.length = 2 ∧ b_l_great A (wE E) (dE Q) (start ["store", "two", "many", "top", "low", "above", "under", "base", "asked", "item", "total"] vs) H := by
  rintro vs H Q E ⟨st, c, d, v, rfl, hS, a2, hd, sc, sd, F, k⟩
  refine ⟨rfl, ?_⟩
  walk_at "go"
  refine ⟨st, 870, rfl, hS, Sz.small (by decide), fun r1 H1 x1 s1 r10 r11 => ?_⟩
  replace a2 := a2.monoB x1
  walk_at "go"
  refine ⟨_, rfl, by omega, by omega, fun T hT => ?_⟩
  obtain ⟨n, hn, n0, n1⟩ : ∃ n : Nat, (100 + r1).toNat = n ∧ 100 ≤ n ∧ n ≤ 969 := ⟨_, rfl, by omega, by omega⟩
  rw [hn] at hT
  have T0 := ten_pos n
  have T1 : (10 : Int) ^ n < 2 ^ 3877 := ten_lt2 (by omega)
  rw [← hT] at T0 T1
  clear hT
  walk_at "go"
  refine ⟨st, T, rfl, s1, Sz.of 3877 (by omega) (by decide) (by decide), fun u H2 x2 s2 u0 u1 => ?_⟩
  replace a2 := a2.monoB x2
  walk_at "go"
  rename_i p3 H3 x3 n3 g3
  replace a2 := a2.mono x3
  have s3 := s2.mono x3
  refine ⟨st, 2, rfl, s3, Sz.small (by decide), fun r4 H4 x4 s4 r40 r41 => ?_⟩
  replace a2 := a2.monoB x4
  refine Get.mk _ (x4 _ _ (s2.ne n3) g3) ?_
  obtain ⟨s, hs, es⟩ := pick2 r40 r41
  refine AtI.mk _ es ?_
  refine ⟨mulR (by omega) (by omega), ?_⟩
  have tz : ((T + u) * s).natAbs < 2 ^ 3878 := by
    rw [pow2s 3877]
    rcases hs with rfl | rfl <;> omega
  have t0 : (T + u) * s ≠ 0 := by rcases hs with rfl | rfl <;> omega
  generalize (T + u) * s = top at tz t0
  walk_at "go"
  refine ⟨st, 999, rfl, s4, Sz.small (by decide), fun r5 H5 x5 s5 r50 r51 => ?_⟩
  replace a2 := a2.monoB x5
  have X5 : ExB st H H5 := x1.trans (x2.trans ((x3.but st).trans (x4.trans x5)))
  clear x1 x2 x3 x4 x5 g3 n3 s1 s2 s3 s4 hS
  walk_at "go"
  rename_i p6 H6 x6 n6 g6 p7 H7 x7 n7 g7
  have s7 := (s5.mono x6).mono x7
  have A6 : At st H7 (.tup [.int top, .int (1 + r5)]) (.ref p6) := .tup (s5.ne n6) (x7 _ _ g6) (.cons (.int _) (.cons (.int _) .nil))
  have A7 : At st H7 (.tup [.int (1 + r5), .int top.natAbs]) (.ref p7) := .tup ((s5.mono x6).ne n7) g7 (.cons (.int _) (.cons (.int _) .nil))
  replace a2 := a2.mono (x6.trans x7)
  have X7 := X5.trans ((x6.trans x7).but st)
  clear x6 x7 g6 g7 n6 n7 s5 X5
  have e19 : (10 : Int) ^ (Int.toNat 19) = 10000000000000000000 := by decide
  walk_at "go"
  refine ⟨st, _, rfl, s7, Sz.small (by rw [e19]; decide), fun r8 H8 x8 s8 r80 r81 => ?_⟩
  rw [e19] at r81
  replace a2 := a2.monoB x8
  replace A6 := A6.monoB x8
  replace A7 := A7.monoB x8
  walk_at "go"
  refine ⟨st, 9, rfl, s8, Sz.small (by decide), fun r9 H9 x9 s9 r90 r91 => ?_⟩
  replace a2 := a2.monoB x9
  replace A6 := A6.monoB x9
  replace A7 := A7.monoB x9
  refine Alloc.mk fun p10 H10 x10 n10 g10 => ?_
  have A8 : At st H10 (.tup [.int (10 ^ Int.toNat 19 + r8), .int (1 + r9)]) (.ref p10) := .tup (s9.ne n10) g10 (.cons (.int _) (.cons (.int _) .nil))
  replace a2 := a2.mono x10
  replace A6 := A6.mono x10
  replace A7 := A7.mono x10
  have s10 := s9.mono x10
  have X10 := X7.trans (x8.trans (x9.trans (x10.but st)))
  clear x8 x9 x10 X7 s7 s8 s9 g10 n10
  have hm := s10.some
  refine gn ?_
  try dsimp only
  refine asg_dv (m := st) (d := .lst ([⟨0, .tup [.int top, .int (1 + r5)], .tup [.int c, .int d]⟩, ⟨1, .tup [.int c, .int d], .tup [.int top, .int (1 + r5)]⟩, ⟨2, .tup [.int top, .int (1 + r5)], .tup [.int c, .int d]⟩,
    ⟨2, .tup [.int c, .int d], .tup [.int (1 + r5), .int top.natAbs]⟩, ⟨3, .tup [.int (1 + r5), .int top.natAbs], .tup [.int c, .int d]⟩].map It.d)) (by walk_at "dv") fun asked H11 x11 a11 => ?_
  replace a2 := a2.mono x11
  replace A6 := A6.mono x11
  replace A7 := A7.mono x11
  replace A8 := A8.mono x11
  have s11 := s10.mono x11
  refine gn ?_
  try dsimp only
  refine ⟨st, 12, rfl, s11, Sz.small (by decide), fun r12 H12 x12 s12 r120 r121 => ?_⟩
  replace a2 := a2.monoB x12
  replace A6 := A6.monoB x12
  replace A7 := A7.monoB x12
  replace A8 := A8.monoB x12
  replace a11 := a11.monoB x12
  have X12 := X10.trans ((x11.but st).trans x12)
  clear x11 x12 X10 s10 s11 hm
  have hm := s12.some
  refine sub_i ?_
  refine gn ?_
  try dsimp only
  refine for_dv (m := st) (dx_lsts hm (dx_var rfl a11) (es := [It.mk 3 (.tup [.int c, .int d]) (.tup [.int top, .int (1 + r5)]), It.mk 4 (.tup [.int (10 ^ Int.toNat 19 + r8), .int (1 + r9)]) (.int (64 - r12))].map It.d) (by walk_at "dv") (by simp)) fun p xs H13 x13 g13 n13 l13 => ?_
  rw [← List.map_append] at l13
  have zt : top.natAbs < 2 ^ 4480 := sm_lt tz (by decide)
  have zl : (1 + r5).natAbs < 2 ^ 4480 := sm_lt (j := 10) (by omega) (by decide)
  have zc : c.natAbs < 2 ^ 4480 := sm_lt sc (by decide)
  have zd : d.natAbs < 2 ^ 4480 := sm_lt sd (by decide)
  have zn : ((top.natAbs : Nat) : Int).natAbs < 2 ^ 4480 := by simpa using zt
  have b65 : (10 ^ Int.toNat 19 + r8).natAbs < 2 ^ 65 := by rw [e19]; omega
  have b4 : (1 + r9).natAbs < 2 ^ 65 := by omega
  have pw : Pw (.tup [.int (10 ^ Int.toNat 19 + r8), .int (1 + r9)]) (.int (64 - r12)) := by
    intro a b e e1 e2 hb h0 h1
    cases e1; cases e2
    refine ⟨65, b65, b4, by omega⟩
  have ok4 : (It.mk 4 (.tup [.int (10 ^ Int.toNat 19 + r8), .int (1 + r9)]) (.int (64 - r12))).ok := by
    refine ⟨Nat.le_refl _, sm_two (sm_lt b65 (by decide)) (sm_lt b4 (by decide)), ?_, fun _ => pw⟩
    simp only [Dt.sm]
    exact sm_lt (j := 10) (by omega) (by decide)
  have hok : ∀ it ∈ [⟨0, .tup [.int top, .int (1 + r5)], .tup [.int c, .int d]⟩, ⟨1, .tup [.int c, .int d], .tup [.int top, .int (1 + r5)]⟩, ⟨2, .tup [.int top, .int (1 + r5)], .tup [.int c, .int d]⟩,
    ⟨2, .tup [.int c, .int d], .tup [.int (1 + r5), .int top.natAbs]⟩, ⟨3, .tup [.int (1 + r5), .int top.natAbs], .tup [.int c, .int d]⟩] ++ [It.mk 3 (.tup [.int c, .int d]) (.tup [.int top, .int (1 + r5)]), It.mk 4 (.tup [.int (10 ^ Int.toNat 19 + r8), .int (1 + r9)]) (.int (64 - r12))], it.ok := by
    intro it h
    simp only [List.cons_append, List.nil_append, List.mem_cons, List.not_mem_nil, or_false] at h
    rcases h with rfl | rfl | rfl | rfl | rfl | rfl | rfl
    · exact ok_q (by decide) zt zl zc zd
    · exact ok_q (by decide) zc zd zt zl
    · exact ok_q (by decide) zt zl zc zd
    · exact ok_q (by decide) zc zd zl zn
    · exact ok_q (by decide) zl zn zc zd
    · exact ok_q (by decide) zc zd zt zl
    · exact ok4
  clear tz t0 sc sd
  refine LoopL.mk (fun i σ H' => Ex H13 H' ∧ ∃ o, σ = [some (.ref st), some v, some (.int (64 - r12)), some (.int top), some (.int (1 + r5)), some (.ref p6), some (.ref p7), some (.ref p10), some asked, o, none]) ⟨Ex.refl _, none, rfl⟩ ?_ ?_ ?_
  · rintro i σ H' _ ⟨x, _⟩
    exact .inl (x _ _ g13)
  · rintro i z σ H' hx ⟨x14, o, rfl⟩
    obtain ⟨dd, hdd, hat⟩ := l13.get hx
    rw [List.getElem?_map] at hdd
    generalize hL : [It.mk 0 (.tup [.int top, .int (1 + r5)]) (.tup [.int c, .int d]), ⟨1, .tup [.int c, .int d], .tup [.int top, .int (1 + r5)]⟩, ⟨2, .tup [.int top, .int (1 + r5)], .tup [.int c, .int d]⟩,
    ⟨2, .tup [.int c, .int d], .tup [.int (1 + r5), .int top.natAbs]⟩, ⟨3, .tup [.int (1 + r5), .int top.natAbs], .tup [.int c, .int d]⟩] ++ [It.mk 3 (.tup [.int c, .int d]) (.tup [.int top, .int (1 + r5)]), It.mk 4 (.tup [.int (10 ^ Int.toNat 19 + r8), .int (1 + r9)]) (.int (64 - r12))] = L at hdd hok
    cases e : L[i]? with
    | none => rw [e] at hdd; cases hdd
    | some it =>
      rw [e] at hdd
      cases hdd
      obtain ⟨k1, k2, k3, k4⟩ := hok it (List.mem_of_getElem? e)
      obtain ⟨q, y1, y2, rfl, nq, hq, i1, i2⟩ := at_pair_inv (hat.mono x14)
      obtain rfl := at_int_inv i1
      walk_at "go"
      refine ⟨st, it.w, it.a, it.b, y2, rfl, k1, fun z => (s12.mono (x13.trans x14)).some z, i2, k2, k3, k4, F, fun H15 x15 => ?_⟩
      walk_at "br"
      exact ⟨x14.trans x15, _, rfl⟩
  · rintro σ H14 ⟨x14, o, rfl⟩
    have x2 := x13.trans x14
    have s14 := s12.mono x2
    replace a2 := a2.mono x2
    replace A8 := A8.mono x2
    have X14 := X12.trans (x2.but st)
    have hdue : dueP 4 (.tup [.int (10 ^ Int.toNat 19 + r8), .int (1 + r9)]) (.int (64 - r12)) = none := pow4c (frac_none (by omega)) (numF_ok (by intro l e; cases e; omega) (by intro l e; cases e; omega))
    refine ⟨st, _, _, _, _, rfl, s14.some, A8, .int _, ok4.2.1, ok4.2.2.1, fun _ => pw, (fun k n e => by rw [hdue] at e; cases e), fun _ p q tv H15 x15 a15 R => ?_⟩
    obtain ⟨_, _, _, lp, lq⟩ := R
    have zp : p.natAbs < 2 ^ 4480 := Nat.lt_of_le_of_lt lp (sm_lt (pow_ltk b65 (e := (64 - r12).toNat) (n := 4160) (by omega)) (by decide))
    have zq : q.natAbs < 2 ^ 4480 := Nat.lt_of_le_of_lt lq (sm_lt (pow_ltk b4 (e := (64 - r12).toNat) (n := 4160) (by omega)) (by decide))
    replace a2 := a2.mono x15
    have s15 := s14.mono x15
    walk_at "go"
    rename_i p16 H16 x16 n16 g16
    obtain ⟨k1, k2, k3, k4⟩ := ok_q (w := 0) (by decide) zp zq zc zd
    refine ⟨st, 0, _, _, _, rfl, k1, (s15.mono x16).some, .tup (s15.ne n16) g16 (.cons (a15.mono x16) (.cons (a2.mono x16) .nil)), k2, k3, k4, F, fun H17 x17 => ?_⟩
    walk_at "br"
    walk_at "go"
    rename_i p18 H18 x18 n18 g18
    have s17 := (s15.mono x16).mono x17
    have x57 := x16.trans x17
    refine ⟨st, 1, _, _, _, rfl, by decide, (s17.mono x18).some, .tup (s17.ne n18) g18 (.cons ((a2.mono x57).mono x18) (.cons ((a15.mono x57).mono x18) .nil)), k3, k2, (fun z => by cases z), F, fun H19 x19 => ?_⟩
    walk_at "br"
    walk_at "go"
    rename_i p20 H20 x20 n20 g20
    have s19 := (s17.mono x18).mono x19
    have x59 := (x57.trans x18).trans x19
    refine ⟨st, 2, _, _, _, rfl, by decide, (s19.mono x20).some, .tup (s19.ne n20) g20 (.cons ((a15.mono x59).mono x20) (.cons ((a2.mono x59).mono x20) .nil)), k2, k3, (fun z => by cases z), F, fun H21 x21 => ?_⟩
    exact k H21 (X14.trans ((((x15.trans x59).trans x20).trans x21).but st)) ((s19.mono x20).mono x21)
mutual
theorem At.other {m l : Addr} {k : Nat} {H : Hp} {ys : List V} (hl : H l = some (.lst ys)) (hy : ∀ y, ys.head? = some y → ∃ p, y = .ref p) : ∀ {d : Dt} {v : V}, At m H d v → d.sm k → At l H d v
  | _, _, .non, _ => .non
  | _, _, .bl b, _ => .bl b
  | _, _, .int i, _ => .int i
  | _, _, .str x, _ => .str x
  | _, _, .dct (p := p) n hp, _ => .dct (by rintro rfl; rw [hl] at hp; cases hp) hp
  | _, _, .lst (ds := ds) (xs := xs) (p := p) n hp a, h => by
    rw [Dt.sm] at h
    refine .lst ?_ hp (AtL.other hl hy a h.1)
    rintro rfl
    rw [hl] at hp
    cases hp
    cases a with
    | nil => exact h.2
    | cons h1 _ =>
      obtain ⟨q, e⟩ := hy _ rfl
      cases h1 <;> first | exact h.2 | (cases e; done)
  | _, _, .tup (ds := ds) (xs := xs) (p := p) n hp a, h => by
    rw [Dt.sm] at h
    exact .tup (by rintro rfl; rw [hl] at hp; cases hp) hp (AtL.other hl hy a h)
theorem AtL.other {m l : Addr} {k : Nat} {H : Hp} {ys : List V} (hl : H l = some (.lst ys)) (hy : ∀ y, ys.head? = some y → ∃ p, y = .ref p) : ∀ {ds : List Dt} {xs : List V}, AtL m H ds xs → Dt.sms k ds → AtL l H ds xs
  | _, _, .nil, _ => .nil
  | _, _, .cons h1 a, h => by
    rw [Dt.sms] at h
    exact .cons (At.other hl hy h1 h.1) (AtL.other hl hy a h.2)
end
theorem It.sm {i : It} (h : i.ok) : i.d.sm 4480 := by
  obtain ⟨h1, h2, h3, _⟩ := h
  unfold It.d
  simp only [Dt.sm, Dt.sms, and_true]
  refine ⟨?_, h2, h3⟩
  rw [Int.natAbs_natCast]
  exact Nat.lt_of_le_of_lt h1 (Nat.lt_of_lt_of_le (by decide) (Nat.pow_le_pow_right (n := 2) (by decide) (by decide : 3 ≤ 4480)))
theorem its_sm : ∀ {l : List It}, (∀ i ∈ l, i.ok) → Dt.sms 4480 (l.map It.d)
  | [], _ => by rw [List.map_nil, Dt.sms]; trivial
  | i :: l, h => by
    rw [List.map_cons, Dt.sms]
    exact ⟨It.sm (h i List.mem_cons_self), its_sm fun j hj => h j (List.mem_cons_of_mem _ hj)⟩
/-- the list of the questions asked so far, at pa -/
def As (H : Hp) (st : Sto) (pa : Addr) (n : Nat) : Prop := ∃ (l : List It) (xs : List V), H pa = some (.lst xs) ∧ AtL st H (l.map It.d) xs ∧ (∀ i ∈ l, i.ok) ∧ l.length = n ∧ pa ≠ st.a ∧ pa ≠ st.sl
theorem As.monoB {H H' : Hp} {st : Sto} {pa : Addr} {n : Nat} (h : As H st pa n) (x : ExB st H H') : As H' st pa n := by
  obtain ⟨l, xs, h1, h2, h3, h4, h5, h6⟩ := h
  exact ⟨l, xs, x _ _ h5 h1, h2.monoB x, h3, h4, h5, h6⟩
theorem As.mono {H H' : Hp} {st : Sto} {pa : Addr} {n : Nat} (h : As H st pa n) (x : Ex H H') : As H' st pa n := h.monoB (x.but _)
/-- all small data stay -/
def Kp (st : Sto) (H H' : Hp) : Prop := ∀ (d : Dt) (v : V), d.sm 4480 → At st H d v → At st H' d v
theorem head_ref {m : Addr} {H : Hp} {l : List It} {xs : List V} (a : AtL m H (l.map It.d) xs) : ∀ y, xs.head? = some y → ∃ p, y = .ref p := by
  intro y hy
  cases l with
  | nil => rw [atl_nil_inv a] at hy; cases hy
  | cons i l =>
    obtain ⟨x, r, rfl, h1, _⟩ := atl_cons_inv a
    cases hy
    obtain ⟨p, _, rfl, _⟩ := at_tup_inv h1
    exact ⟨p, rfl⟩
theorem As.push {H H2 : Hp} {st : Sto} {pa : Addr} {n : Nat} {i : It} {v : V} {l : List It} {xs : List V} (hS : Store H st) (hp : H pa = some (.lst xs)) (a : AtL st H (l.map It.d) xs) (ok : ∀ i ∈ l, i.ok) (hn : l.length = n) (n1 : pa ≠ st.a) (n2 : pa ≠ st.sl)
    (av : At st H i.d v) (hi : i.ok) (x : ExB pa H H2) (h2 : H2 pa = some (.lst (xs ++ [v]))) : As H2 st pa (n + 1) ∧ Store H2 st ∧ Kp st H H2 := by
  have hS2 : Store H2 st := by
    obtain ⟨ns, i, c, m, t, g1, g2, g3⟩ := hS
    exact ⟨ns, i, c, m, t, x _ _ (Ne.symm n1) g1, x _ _ (Ne.symm n2) g2, g3⟩
  have hk : Kp st H H2 := by
    intro d w hd hw
    have b1 : At pa H d w := hw.other hp (head_ref a) hd
    have b2 : At pa H2 d w := b1.monoB x
    obtain ⟨ns, i, c, m, t, g1, _⟩ := hS2
    exact b2.other g1 (fun y hy => by cases hy; exact ⟨_, rfl⟩) hd
  refine ⟨⟨l ++ [i], xs ++ [v], h2, ?_, ?_, by simp [hn], n1, n2⟩, hS2, hk⟩
  · have b1 : AtL pa H (l.map It.d) xs := a.other hp (head_ref a) (its_sm ok)
    have b2 : AtL pa H2 (l.map It.d) xs := b1.monoB x
    obtain ⟨ns, i', c, m, t, g1, _⟩ := hS2
    have b3 : AtL st H2 (l.map It.d) xs := b2.other g1 (fun y hy => by cases hy; exact ⟨_, rfl⟩) (its_sm ok)
    rw [List.map_append]
    exact b3.append (.cons (hk _ _ (It.sm hi) av) .nil)
  · intro j hj
    rcases List.mem_append.mp hj with hj | hj
    · exact ok j hj
    · rw [List.mem_singleton.mp hj]; exact hi
theorem app_seq {st : Sto} {pa : Addr} {n : Nat} {te : TE} {t : TS} {D : Ends} {σ : Sg} {H : Hp} {i : It} (e2 : σ[2]? = some (some (.ref pa))) (hA : As H st pa n) (hS : Store H st) (hn : n < 1000) (hd : Dv st te σ H i.d) (hi : i.ok)
    (k : ∀ H', As H' st pa (n + 1) → Store H' st → Kp st H H' → t D σ H') : tSeq (tDrop (bApp (bVar 2) te)) t D σ H := by
  obtain ⟨l, xs, hp, a, ok, hl, n1, n2⟩ := hA
  unfold tSeq tDrop bApp bVar
  rw [e2]
  refine Get.mk _ hp (hd.run fun v H2 x2 av => ?_)
  refine Get.mk _ (x2 _ _ hp) ⟨?_, Put.mk fun H3 x3 h3 => ?_⟩
  · rw [a.len, List.length_map, hl]
    exact Nat.lt_of_lt_of_le hn (by decide)
  · obtain ⟨r1, r2, r3⟩ := As.push (hS.mono x2) (x2 _ _ hp) (a.mono x2) ok hl n1 n2 av hi x3 h3
    exact k H3 r1 r2 fun d w hd hw => r3 d w hd (hw.mono x2)
theorem dx_ix {m : Addr} {σ : Sg} {H : Hp} {te : TE} {ds : List Dt} {j : Nat} {d : Dt} (h : Dv m te σ H (.tup ds)) (e : ds[j]? = some d) : Dv m (tOp bIx te (tC (.int (j : Nat)))) σ H d := fun H1 x Q k =>
  h H1 x _ fun v H2 x2 a => by
    obtain ⟨p, xs, rfl, n, hp, l⟩ := at_tup_inv a
    obtain ⟨y, hy, ay⟩ := l.at e
    exact Get.mk _ hp (AtI.mk _ (atI_nat hy) (k y H2 x2 ay))
theorem add_i {i j : Int} {H : Hp} {Q : VK} (h : Q (.int (i + j)) H) : bAdd (.int i) (.int j) H Q := h
theorem app_one {st : Sto} {pa : Addr} {n : Nat} {te : TE} {D : Ends} {σ : Sg} {H : Hp} {i : It} (e2 : σ[2]? = some (some (.ref pa))) (hA : As H st pa n) (hS : Store H st) (hn : n < 1000) (hd : Dv st te σ H i.d) (hi : i.ok)
    (k : ∀ H', As H' st pa (n + 1) → Store H' st → Kp st H H' → D.nx σ H') : tDrop (bApp (bVar 2) te) D σ H :=
  app_seq (t := tNext) e2 hA hS hn hd hi k
theorem dx_mul {m : Addr} {σ : Sg} {H : Hp} {ta tb : TE} {i j : Int} (h1 : Dv m ta σ H (.int i)) (h2 : Dv m tb σ H (.int j)) (hc : CMulA i j) : Dv m (tOp bMul ta tb) σ H (.int (i * j)) := fun H1 x Q k =>
  h1 H1 x _ fun v H2 x2 a => h2 H2 (x.trans x2) _ fun w H3 x3 b => by
    cases a; cases b
    exact ⟨hc, k _ H3 (x2.trans x3) (.int _)⟩
/-- a fraction of the law's, at v -/
structure Fr (st : Sto) (H : Hp) (a b : Int) (v : V) : Prop where
  at_ : At st H (.tup [.int a, .int b]) v
  pos : 1 ≤ b
  ha : a.natAbs < 2 ^ 270
  hb : b.natAbs < 2 ^ 270
theorem Fr.z1 {st : Sto} {H : Hp} {a b : Int} {v : V} (h : Fr st H a b v) : a.natAbs < 2 ^ 4480 := sm_lt h.ha (by decide)
theorem Fr.z2 {st : Sto} {H : Hp} {a b : Int} {v : V} (h : Fr st H a b v) : b.natAbs < 2 ^ 4480 := sm_lt h.hb (by decide)
theorem Fr.sm {st : Sto} {H : Hp} {a b : Int} {v : V} (h : Fr st H a b v) : (Dt.tup [.int a, .int b]).sm 4480 := sm_two h.z1 h.z2
theorem Fr.kp {st : Sto} {H H' : Hp} {a b : Int} {v : V} (h : Fr st H a b v) (x : Kp st H H') : Fr st H' a b v := ⟨x _ _ h.sm h.at_, h.pos, h.ha, h.hb⟩
theorem Fr.monoB {st : Sto} {H H' : Hp} {a b : Int} {v : V} (h : Fr st H a b v) (x : ExB st H H') : Fr st H' a b v := ⟨h.at_.monoB x, h.pos, h.ha, h.hb⟩
theorem Fr.mono {st : Sto} {H H' : Hp} {a b : Int} {v : V} (h : Fr st H a b v) (x : Ex H H') : Fr st H' a b v := ⟨h.at_.mono x, h.pos, h.ha, h.hb⟩
theorem ok_w {w : Nat} {d1 d2 : Dt} (hw : w < 4) (h1 : d1.sm 4480) (h2 : d2.sm 4480) : (It.mk w d1 d2).ok := ⟨Nat.le_of_lt hw, h1, h2, fun z => absurd z (Nat.ne_of_lt hw)⟩
def P_law (A : Ad) : Sp := fun vs H Q _ => ∃ (a : Addr) (ns : List Int), vs = [.ref a] ∧ SqL A.K H a (ns.map .int) ∧ CF A ∧ ∀ H', Q (.bl true) H'
def b_law (A : Ad) (W : WX) : TS := tSeq (tAsg (bCall (P_l_store A) W (tCons (bVar 0) (tNil))) (gName 1)) (tSeq (tAsg (bLst (tNil)) (gName 2)) (tSeq (bForR (tC (.int 2)) (gName 3) (tSeq (tAsg (bCall (P_l_fraction A) W (tCons (bVar 1) (tCons (tC (.int 24)) (tNil)))) (gName 4)) (tSeq (tAsg (bCall (P_l_fraction A) W (tCons (bVar 1) (tCons (tC (.int 24)) (tNil)))) (gName 5)) (tSeq (tAsg (tOp bAdd (tC (.int 1)) (bCall (P_l_take A) W (tCons (bVar 1) (tCons (tC (.int 999)) (tNil))))) (gName 6)) (tSeq (tAsg (bTup (tCons (tOp bMul (tOp bIx (bVar 5) (tC (.int 0))) (bVar 6)) (tCons (tOp bMul (tOp bIx (bVar 5) (tC (.int 1))) (bVar 6)) (tNil)))) (gName 7)) (tSeq (bForR (tC (.int 4)) (gName 8) (tSeq (tDrop (bApp (bVar 2) (bTup (tCons (bVar 8) (tCons (bTup (tCons (bVar 4) (tCons (bVar 5) (tNil)))) (tNil)))))) (tDrop (bApp (bVar 2) (bTup (tCons (bVar 8) (tCons (bTup (tCons (bVar 4) (tCons (bVar 7) (tNil)))) (tNil)))))))) (tSeq (tDrop (bApp (bVar 2) (bTup (tCons (tC (.int 0)) (tCons (bTup (tCons (bVar 4) (tCons (bTup (tCons (tOp bSub (tC (.int 0)) (tOp bIx (bVar 4) (tC (.int 0)))) (tCons (tOp bIx (bVar 4) (tC (.int 1))) (tNil)))) (tNil)))) (tNil)))))) (tSeq (tDrop (bApp (bVar 2) (bTup (tCons (tC (.int 3)) (tCons (bTup (tCons (bVar 5) (tCons (bVar 4) (tNil)))) (tNil)))))) (tSeq (tAsg (bCall (P_l_near A) W (tCons (bVar 1) (tCons (tC (.int 0)) (tCons (tC (.int 64)) (tNil))))) (gName 9)) (tSeq (tAsg (bCall (P_l_base A) W (tCons (bVar 1) (tCons (bVar 9) (tNil)))) (gName 10)) (tSeq (tDrop (bApp (bVar 2) (bTup (tCons (tC (.int 4)) (tCons (bTup (tCons (bVar 10) (tCons (bVar 9) (tNil)))) (tNil)))))) (tSeq (tAsg (bCall (P_l_beside A) W (tCons (bVar 1) (tCons (bVar 4) (tNil)))) (gName 11)) (tSeq (tDrop (bApp (bVar 2) (bTup (tCons (bCall (P_l_take A) W (tCons (bVar 1) (tCons (tC (.int 4)) (tNil)))) (tCons (bTup (tCons (bVar 11) (tCons (bCall (P_l_beside A) W (tCons (bVar 1) (tCons (bVar 5) (tNil)))) (tNil)))) (tNil)))))) (tSeq (bIf (bTst (tOp (bEq A.K) (bCall (P_l_take A) W (tCons (bVar 1) (tCons (tC (.int 2)) (tNil)))) (tC (.int 0)))) (tAsg (bCall (P_l_odd_number A) W (tCons (bVar 1) (tCons (tC (.int 0)) (tCons (tC (.int 64)) (tNil))))) (gName 9)) (tNext)) (tSeq (bIf (bTst (tOp (bEq A.K) (bCall (P_l_take A) W (tCons (bVar 1) (tCons (tC (.int 2)) (tNil)))) (tC (.int 0)))) (tAsg (bCall (P_l_odd_fraction A) W (tCons (bVar 1) (tNil))) (gName 10)) (tNext)) (tSeq (bIf (bAnd (bTst (tOp (bEq A.K) (bCall (P_l_fraction_fault A) W (tCons (bVar 10) (tNil))) (tC (.str "")))) (bTst (tOp (bEq A.K) (bCall (P_l_number_fault A) W (tCons (bVar 9) (tCons (tC (.int 0)) (tCons (tC (.int 64)) (tNil))))) (tC (.str ""))))) (tAsg (bMin (bVar 9) (tC (.int 2))) (gName 9)) (tNext)) (tDrop (bApp (bVar 2) (bTup (tCons (tC (.int 4)) (tCons (bTup (tCons (bVar 10) (tCons (bVar 9) (tNil)))) (tNil)))))))))))))))))))))) (tSeq (bForA (tOp bAdd (bVar 2) (bLRev (bList (bVar 2)))) (gName 12) (bIf (tNot (bTru (bCall (P_l_holds A) W (tCons (tOp bIx (bVar 12) (tC (.int 0))) (tCons (tOp bIx (bVar 12) (tC (.int 1))) (tNil)))))) (tRet (tC (.bl false))) (tNext))) (tSeq (tAsg (bCall (P_ratio_sum A) W (tCons (bVar 4) (tCons (bVar 5) (tNil)))) (gName 13)) (tSeq (bIf (bOr (tNot (bTru (bCall (P_l_holds A) W (tCons (tC (.int 1)) (tCons (bTup (tCons (bVar 13) (tCons (bVar 5) (tNil)))) (tNil)))))) (tNot (bTru (bCall (P_l_holds A) W (tCons (tC (.int 0)) (tCons (bTup (tCons (bVar 4) (tCons (bVar 13) (tNil)))) (tNil))))))) (tRet (tC (.bl false))) (tNext)) (tSeq (tAsg (bCall (P_ratio_product A) W (tCons (bVar 4) (tCons (bVar 5) (tNil)))) (gName 13)) (tSeq (bIf (bOr (tNot (bTru (bCall (P_l_holds A) W (tCons (tC (.int 3)) (tCons (bTup (tCons (bVar 13) (tCons (bVar 5) (tNil)))) (tNil)))))) (tNot (bTru (bCall (P_l_holds A) W (tCons (tC (.int 3)) (tCons (bTup (tCons (bVar 5) (tCons (bVar 13) (tNil)))) (tNil))))))) (tRet (tC (.bl false))) (tNext)) (tRet (bOrV (tOp (bGt) (bCall (P_l_take A) W (tCons (bVar 1) (tCons (tC (.int 3)) (tNil)))) (tC (.int 0))) (bCall (P_l_great A) W (tCons (bVar 1) (tCons (bVar 5) (tNil)))))))))))))
local macro_rules | `(tactic| walk_at "dv") => `(tactic| repeat first
  | exact dx_int _ | exact dx_str _ | exact dx_bl _ | exact dx_non | exact dx_neg _ | exact dx_vi rfl | exact dx_var rfl (by assumption) | exact dx_var rfl (Fr.at_ (by assumption))
  | exact dx_ix (j := 0) (dx_var rfl (Fr.at_ (by assumption))) rfl | exact dx_ix (j := 1) (dx_var rfl (Fr.at_ (by assumption))) rfl | exact dxa_nil | refine dxa_cons ?_ ?_ | refine dx_tup (by assumption) ?_ | refine dx_lst (by assumption) ?_ | exact dx_dct (by assumption) | exact dx_pow (by unfold CPow; decide) (by decide) | refine dx_add ?_ ?_ | refine dx_sub ?_ ?_)
theorem Kp.of {st : Sto} {H H' : Hp} (x : ExB st H H') : Kp st H H' := fun _ _ _ h => h.monoB x
theorem Kp.trans {st : Sto} {H H1 H' : Hp} (x : Kp st H H1) (y : Kp st H1 H') : Kp st H H' := fun d v hd h => y d v hd (x d v hd h)
theorem num_no {d : Dt} {lo hi : Option Int} {k : Fk} (h : numF d lo hi = some k) : numF d lo hi ≠ none := by rw [h]; intro z; cases z
theorem pw_no {d1 d2 : Dt} (h : ¬ (fracF d1 = none ∧ numF d2 (some 0) (some 64) = none)) : Pw d1 d2 := by
  rintro a b e rfl rfl hb h0 h1
  exact absurd ⟨frac_none hb, numF_ok (by intro l e; cases e; omega) (by intro l e; cases e; omega)⟩ h
theorem law_fin {A : Ad} {E : XK} {st : Sto} {pa : Addr} {n : Nat} {D : Ends} {H : Hp} {o0 o3 o4 o5 o6 o7 o8 o11 : Option V} {v9 v10 : V} {d9 d10 : Dt} (hA : As H st pa n) (hS : Store H st) (hn : n < 1000) (A9 : At st H d9 v9) (A10 : At st H d10 v10) (m9 : d9.sm 140) (m10 : d10.sm 140)
    (K : ∀ H' v9', As H' st pa (n + 1) → Store H' st → Kp st H H' → D.nx [o0, some (.ref st), some (.ref pa), o3, o4, o5, o6, o7, o8, some v9', some v10, o11, none, none] H') :
    (tSeq (bIf (bAnd (bTst (tOp (bEq A.K) (bCall (P_l_fraction_fault A) (wE E) (tCons (bVar 10) (tNil))) (tC (.str "")))) (bTst (tOp (bEq A.K) (bCall (P_l_number_fault A) (wE E) (tCons (bVar 9) (tCons (tC (.int 0)) (tCons (tC (.int 64)) (tNil))))) (tC (.str ""))))) (tAsg (bMin (bVar 9) (tC (.int 2))) (gName 9)) (tNext)) (tDrop (bApp (bVar 2) (bTup (tCons (tC (.int 4)) (tCons (bTup (tCons (bVar 10) (tCons (bVar 9) (tNil)))) (tNil)))))))
      D [o0, some (.ref st), some (.ref pa), o3, o4, o5, o6, o7, o8, some v9, some v10, o11, none, none] H := by
  have hm := hS.some
  have other : ¬ (fracF d10 = none ∧ numF d9 (some 0) (some 64) = none) → tDrop (bApp (bVar 2) (bTup (tCons (tC (.int 4)) (tCons (bTup (tCons (bVar 10) (tCons (bVar 9) (tNil)))) (tNil))))) D [o0, some (.ref st), some (.ref pa), o3, o4, o5, o6, o7, o8, some v9, some v10, o11, none, none] H := by
    intro h
    exact app_one (i := ⟨4, d10, d9⟩) rfl hA hS hn (by unfold It.d; walk_at "dv") ⟨Nat.le_refl _, Dt.sm_mono (by decide) m10, Dt.sm_mono (by decide) m9, fun _ => pw_no h⟩ fun H' a b c => K H' v9 a b c
  refine ⟨st, d10, v10, rfl, A10, ?_⟩
  walk_at "br"
  · rename_i hb1
    rw [fs_none] at hb1
    refine ⟨st, d9, v9, some 0, some 64, rfl, A9, ?_⟩
    walk_at "br"
    · rename_i hb2
      rw [fs_none] at hb2
      obtain ⟨e, rfl⟩ := num_int hb2
      obtain ⟨e0, e1⟩ := num_064 hb2
      cases A9
      refine app_one (i := ⟨4, d10, .int (min e 2)⟩) rfl hA hS hn (by unfold It.d; walk_at "dv") ⟨Nat.le_refl _, Dt.sm_mono (by decide) m10, ?_, fun _ => ?_⟩ fun H' a b c => K H' _ a b c
      · simp only [Dt.sm]
        exact sm_lt (j := 10) (by omega) (by decide)
      · rintro a b e' rfl h2 hb _ _
        cases h2
        obtain ⟨z1, z2⟩ := sm_pair m10
        exact ⟨140, z1, z2, by omega⟩
    · rename_i hb2
      rw [fs_none] at hb2
      exact other fun z => hb2 z.2
  · rename_i hb1
    rw [fs_none] at hb1
    walk_at "br"
    exact other fun z => hb1 z.1
theorem law_mid {A : Ad} {E : XK} {st : Sto} {pa : Addr} {n : Nat} {D : Ends} {H : Hp} {o0 o3 o4 o5 o6 o7 o8 o11 : Option V} {v9 v10 : V} {d9 d10 : Dt} (hA : As H st pa n) (hS : Store H st) (hn : n < 1000) (A9 : At st H d9 v9) (A10 : At st H d10 v10) (m9 : d9.sm 140) (m10 : d10.sm 140)
    (K : ∀ H' v9' v10', As H' st pa (n + 1) → Store H' st → Kp st H H' → D.nx [o0, some (.ref st), some (.ref pa), o3, o4, o5, o6, o7, o8, some v9', some v10', o11, none, none] H') :
    (tSeq (bIf (bTst (tOp (bEq A.K) (bCall (P_l_take A) (wE E) (tCons (bVar 1) (tCons (tC (.int 2)) (tNil)))) (tC (.int 0)))) (tAsg (bCall (P_l_odd_fraction A) (wE E) (tCons (bVar 1) (tNil))) (gName 10)) (tNext)) (tSeq (bIf (bAnd (bTst (tOp (bEq A.K) (bCall (P_l_fraction_fault A) (wE E) (tCons (bVar 10) (tNil))) (tC (.str "")))) (bTst (tOp (bEq A.K) (bCall (P_l_number_fault A) (wE E) (tCons (bVar 9) (tCons (tC (.int 0)) (tCons (tC (.int 64)) (tNil))))) (tC (.str ""))))) (tAsg (bMin (bVar 9) (tC (.int 2))) (gName 9)) (tNext)) (tDrop (bApp (bVar 2) (bTup (tCons (tC (.int 4)) (tCons (bTup (tCons (bVar 10) (tCons (bVar 9) (tNil)))) (tNil))))))))
      D [o0, some (.ref st), some (.ref pa), o3, o4, o5, o6, o7, o8, some v9, some v10, o11, none, none] H := by
  refine ⟨st, 2, rfl, hS, Sz.small (by decide), fun r H1 x1 s1 r0 r1 => ?_⟩
  walk_at "br"
  · refine ⟨st, rfl, s1, fun dF vF H2 x2 s2 aF mF => ?_⟩
    exact law_fin ((hA.monoB x1).monoB x2) s2 hn ((A9.monoB x1).monoB x2) aF m9 mF.1 fun H' v a b c => K H' v _ a b ((Kp.of (x1.trans x2)).trans c)
  · exact law_fin (hA.monoB x1) s1 hn (A9.monoB x1) (A10.monoB x1) m9 m10 fun H' v a b c => K H' v _ a b ((Kp.of x1).trans c)
theorem law_top {A : Ad} {E : XK} {st : Sto} {pa : Addr} {n : Nat} {D : Ends} {H : Hp} {o0 o3 o4 o5 o6 o7 o8 o11 : Option V} {v9 v10 : V} {d9 d10 : Dt} (hA : As H st pa n) (hS : Store H st) (hn : n < 1000) (A9 : At st H d9 v9) (A10 : At st H d10 v10) (m9 : d9.sm 140) (m10 : d10.sm 140)
    (K : ∀ H' v9' v10', As H' st pa (n + 1) → Store H' st → Kp st H H' → D.nx [o0, some (.ref st), some (.ref pa), o3, o4, o5, o6, o7, o8, some v9', some v10', o11, none, none] H') :
    (tSeq (bIf (bTst (tOp (bEq A.K) (bCall (P_l_take A) (wE E) (tCons (bVar 1) (tCons (tC (.int 2)) (tNil)))) (tC (.int 0)))) (tAsg (bCall (P_l_odd_number A) (wE E) (tCons (bVar 1) (tCons (tC (.int 0)) (tCons (tC (.int 64)) (tNil))))) (gName 9)) (tNext)) (tSeq (bIf (bTst (tOp (bEq A.K) (bCall (P_l_take A) (wE E) (tCons (bVar 1) (tCons (tC (.int 2)) (tNil)))) (tC (.int 0)))) (tAsg (bCall (P_l_odd_fraction A) (wE E) (tCons (bVar 1) (tNil))) (gName 10)) (tNext)) (tSeq (bIf (bAnd (bTst (tOp (bEq A.K) (bCall (P_l_fraction_fault A) (wE E) (tCons (bVar 10) (tNil))) (tC (.str "")))) (bTst (tOp (bEq A.K) (bCall (P_l_number_fault A) (wE E) (tCons (bVar 9) (tCons (tC (.int 0)) (tCons (tC (.int 64)) (tNil))))) (tC (.str ""))))) (tAsg (bMin (bVar 9) (tC (.int 2))) (gName 9)) (tNext)) (tDrop (bApp (bVar 2) (bTup (tCons (tC (.int 4)) (tCons (bTup (tCons (bVar 10) (tCons (bVar 9) (tNil)))) (tNil)))))))))
      D [o0, some (.ref st), some (.ref pa), o3, o4, o5, o6, o7, o8, some v9, some v10, o11, none, none] H := by
  refine ⟨st, 2, rfl, hS, Sz.small (by decide), fun r H1 x1 s1 r0 r1 => ?_⟩
  walk_at "br"
  · refine ⟨st, some 0, some 64, rfl, s1, (by intro l e; cases e; decide), (by intro l e; cases e; decide), fun dF vF H2 x2 s2 aF mF => ?_⟩
    exact law_mid ((hA.monoB x1).monoB x2) s2 hn aF ((A10.monoB x1).monoB x2) mF.1 m10 fun H' v w a b c => K H' v w a b ((Kp.of (x1.trans x2)).trans c)
  · exact law_mid (hA.monoB x1) s1 hn (A9.monoB x1) (A10.monoB x1) m9 m10 fun H' v w a b c => K H' v w a b ((Kp.of x1).trans c)
theorem dx_list {m : Addr} {σ : Sg} {H : Hp} {te : TE} {ds : List Dt} (hm : H m ≠ none) (h : Dv m te σ H (.lst ds)) : Dv m (bList te) σ H (.lst ds) := fun H1 x Q k =>
  h H1 x _ fun v H2 x2 a => by
    obtain ⟨p, xs, rfl, n, hp, l⟩ := at_lst_inv a
    exact Get.mk _ hp (Alloc.mk fun q H3 x3 n3 h3 => k _ H3 (x2.trans x3) (at_lst (fun z => hm ((x.trans x2).fresh (z ▸ n3))) h3 (l.mono x3)))
theorem dx_lrev {m : Addr} {σ : Sg} {H : Hp} {te : TE} {ds : List Dt} (hm : H m ≠ none) (h : Dv m te σ H (.lst ds)) : Dv m (bLRev te) σ H (.lst ds.reverse) := fun H1 x Q k =>
  h H1 x _ fun v H2 x2 a => by
    obtain ⟨p, xs, rfl, n, hp, l⟩ := at_lst_inv a
    exact Get.mk _ hp (Alloc.mk fun q H3 x3 n3 h3 => k _ H3 (x2.trans x3) (at_lst (fun z => hm ((x.trans x2).fresh (z ▸ n3))) h3 (l.rev.mono x3)))
theorem addk {a b : Int} {k : Nat} (h1 : a.natAbs < 2 ^ k) (h2 : b.natAbs < 2 ^ k) : (a + b).natAbs < 2 ^ (k + 1) := by
  have := Int.natAbs_add_le a b
  rw [pow2s]
  omega
theorem nxt2 {D : Ends} {t : TS} {σ : Sg} {H : Hp} (h : t D σ H) : t D σ H := h
theorem r_law (A : Ad) : ∀ vs H Q E, P_law A vs H Q E → vs.length = 1 ∧ b_law A (wE E) (dE Q) (start ["script", "store", "asked", "k", "one", "two", "many", "above", "which", "raised", "small", "bent", "item", "total"] vs) H := by
  rintro vs H Q E ⟨a, ns, rfl, hq, F, k⟩
  refine ⟨rfl, ?_⟩
  refine ⟨a, ns, rfl, hq, fun st H1 x1 n1 s1 => ?_⟩
  walk_at "go"
  rename_i pa H2 x2 n2 h2
  have s2 := s1.mono x2
  have npa : pa ≠ st.a := s1.ne n2
  have npl : pa ≠ st.sl := by
    obtain ⟨ns', i, c, m, t, g1, g2, _⟩ := s1
    exact Ne.symm (ne_of_none g2 n2)
  have A0 : As H2 st pa 0 := ⟨[], [], h2, .nil, by simp, rfl, npa, npl⟩
  refine LoopR.mk (fun i σ H' => ∃ o3 o4 o5 o6 o7 o8 o9 o10 o11, σ = [some (.ref a), some (.ref st), some (.ref pa), o3, o4, o5, o6, o7, o8, o9, o10, o11, none, none] ∧ As H' st pa (13 * i) ∧ Store H' st ∧
    (1 ≤ i → ∃ v1 v2 a1 b1 a2 b2, o4 = some v1 ∧ o5 = some v2 ∧ Fr st H' a1 b1 v1 ∧ Fr st H' a2 b2 v2)) ⟨_, _, _, _, _, _, _, _, _, rfl, A0, s2, fun z => absurd z (by decide)⟩ ?_ ?_
  · rintro i σ H3 hi ⟨o3, o4, o5, o6, o7, o8, o9, o10, o11, rfl, A3, s3, _⟩
    have hi : i < 2 := hi
    clear A0 s2 h2 x2 n2 s1 n1 x1 hq k npa npl
    refine gn ?_
    try dsimp only
    refine ⟨st, 24, rfl, s3, by decide, by decide, fun a1 b1 v1 H4 x4 s4 A1 q1 z1 y1 => ?_⟩
    replace A3 := A3.monoB x4
    have F1 : Fr st H4 a1 b1 v1 := ⟨A1, q1, z1, y1⟩
    refine gn ?_
    try dsimp only
    refine ⟨st, 24, rfl, s4, by decide, by decide, fun a2 b2 v2 H5 x5 s5 A2 q2 z2 y2 => ?_⟩
    replace A3 := A3.monoB x5
    replace F1 := F1.monoB x5
    have F2 : Fr st H5 a2 b2 v2 := ⟨A2, q2, z2, y2⟩
    clear A1 A2 s3 s4 x4 x5
    refine gn ?_
    try dsimp only
    refine ⟨st, 999, rfl, s5, Sz.small (by decide), fun r6 H6 x6 s6 r60 r61 => ?_⟩
    replace A3 := A3.monoB x6
    replace F1 := F1.monoB x6
    replace F2 := F2.monoB x6
    clear x6 s5
    refine add_i ?_
    refine gn ?_
    try dsimp only
    have hm := s6.some
    refine asg_dv (m := st) (d := .tup [.int (a2 * (1 + r6)), .int (b2 * (1 + r6))]) (dx_tup hm (dxa_cons (dx_mul (dx_ix (j := 0) (dx_var rfl F2.at_) rfl) (dx_vi rfl) (mulR (by omega) (by omega))) (dxa_cons (dx_mul (dx_ix (j := 1) (dx_var rfl F2.at_) rfl) (dx_vi rfl) (mulR (by omega) (by omega))) dxa_nil))) fun v7 H7 x7 A7 => ?_
    replace A3 := A3.mono x7
    replace F1 := F1.mono x7
    replace F2 := F2.mono x7
    have s7 := s6.mono x7
    have m7 : (Dt.tup [.int (a2 * (1 + r6)), .int (b2 * (1 + r6))]).sm 4480 := sm_two (mul_lt2 F2.ha (lt10 (k := 10) (by omega) (by decide)) (by decide)) (mul_lt2 F2.hb (lt10 (k := 10) (by omega) (by decide)) (by decide))
    clear x7 s6 hm
    refine gn ?_
    try dsimp only
    refine ⟨⟨by decide, by decide⟩, ?_⟩
    refine LoopR.mk (fun j σ H' => ∃ o8, σ = [some (.ref a), some (.ref st), some (.ref pa), some (.int (0 + i)), some v1, some v2, some (.int (1 + r6)), some v7, o8, o9, o10, o11, none, none] ∧ As H' st pa (13 * i + 2 * j) ∧ Store H' st ∧ Fr st H' a1 b1 v1 ∧ Fr st H' a2 b2 v2 ∧ At st H' (.tup [.int (a2 * (1 + r6)), .int (b2 * (1 + r6))]) v7) ⟨_, rfl, A3, s7, F1, F2, A7⟩ ?_ ?_
    · rintro j σ H8 hj ⟨o8, rfl, A8, s8, F1, F2, A7⟩
      have hj : j < 4 := hj
      have ej : (0 : Int) + (j : Int) = ((j : Nat) : Int) := Int.zero_add _
      rw [ej]
      refine gn ?_
      try dsimp only
      have hm := s8.some
      refine app_seq (i := ⟨j, .tup [.int a1, .int b1], .tup [.int a2, .int b2]⟩) rfl A8 s8 (by omega) (by unfold It.d; walk_at "dv") (ok_w hj F1.sm F2.sm) fun H9 A9 s9 k9 => ?_
      replace F1 := F1.kp k9
      replace F2 := F2.kp k9
      replace A7 := k9 _ _ m7 A7
      have hm := s9.some
      refine app_one (i := ⟨j, .tup [.int a1, .int b1], .tup [.int (a2 * (1 + r6)), .int (b2 * (1 + r6))]⟩) rfl A9 s9 (by omega) (by unfold It.d; walk_at "dv") (ok_w hj F1.sm m7) fun H10 A10 s10 k10 => ?_
      exact ⟨_, rfl, A10, s10, F1.kp k10, F2.kp k10, k10 _ _ m7 A7⟩
    rintro σ H8 ⟨o8, rfl, A8, s8, F1, F2, A7⟩
    clear A7 m7 A3 s7
    have hm := s8.some
    try dsimp only
    refine nxt2 ?_
    try dsimp only
    refine app_seq (i := ⟨0, .tup [.int a1, .int b1], .tup [.int (0 - a1), .int b1]⟩) rfl A8 s8 (by show 13 * i + 2 * 4 < 1000; omega) (by unfold It.d; walk_at "dv") (ok_w (by decide) F1.sm (sm_two (by have := F1.z1; omega) F1.z2)) fun H9 A9 s9 k9 => ?_
    replace F1 := F1.kp k9
    replace F2 := F2.kp k9
    clear k9 A8 s8
    have hm := s9.some
    refine app_seq (i := ⟨3, .tup [.int a2, .int b2], .tup [.int a1, .int b1]⟩) rfl A9 s9 (by show 13 * i + 2 * 4 + 1 < 1000; omega) (by unfold It.d; walk_at "dv") (ok_w (by decide) F2.sm F1.sm) fun H10 A10 s10 k10 => ?_
    replace F1 := F1.kp k10
    replace F2 := F2.kp k10
    clear k10 A9 s9 hm
    refine ⟨st, 0, 64, rfl, s10, by decide, Sz.small (by decide), fun e H11 x11 s11 e0 e1 => ?_⟩
    replace A10 := A10.monoB x11
    replace F1 := F1.monoB x11
    replace F2 := F2.monoB x11
    refine gn ?_
    try dsimp only
    refine ⟨st, e, rfl, s11, e0, e1, fun c1 c2 w H12 x12 s12 B1 d1 y3 y4 => ?_⟩
    replace A10 := A10.monoB x12
    replace F1 := F1.monoB x12
    replace F2 := F2.monoB x12
    clear x11 x12 s10 s11
    refine gn ?_
    try dsimp only
    have hm := s12.some
    have mw : (Dt.tup [.int c1, .int c2]).sm 4480 := sm_two (sm_lt y3 (by decide)) (sm_lt y4 (by decide))
    have me : (Dt.int e).sm 4480 := by
      simp only [Dt.sm]
      exact sm_lt (j := 10) (by omega) (by decide)
    refine app_seq (i := ⟨4, .tup [.int c1, .int c2], .int e⟩) rfl A10 s12 (by show 13 * i + 2 * 4 + 1 + 1 < 1000; omega) (by unfold It.d; walk_at "dv") ⟨Nat.le_refl _, mw, me, fun _ => by
      intro a' b' e' h1 h2 _ _ _
      cases h1; cases h2
      exact ⟨68, y3, y4, by omega⟩⟩ fun H13 A13 s13 k13 => ?_
    replace F1 := F1.kp k13
    replace F2 := F2.kp k13
    have B1 := k13 _ _ mw B1
    clear k13 hm s12 A10
    refine ⟨st, _, v1, rfl, s13, F1.at_, sm_two F1.ha F1.hb, fun dB vB H14 x14 s14 BB mB => ?_⟩
    replace A13 := A13.monoB x14
    replace F1 := F1.monoB x14
    replace F2 := F2.monoB x14
    replace B1 := B1.monoB x14
    clear x14 s13
    refine gn ?_
    try dsimp only
    obtain ⟨l, xs, hp, al, ok, hl, n1, n2⟩ := A13
    refine Get.mk _ hp ?_
    refine ⟨st, 4, rfl, s14, Sz.small (by decide), fun r H15 x15 s15 r0 r1 => ?_⟩
    have BB := BB.monoB x15
    refine ⟨st, _, v2, rfl, s15, (F2.monoB x15).at_, sm_two F2.ha F2.hb, fun dC vC H16 x16 s16 BC mC => ?_⟩
    have BB := BB.monoB x16
    refine Alloc.mk fun p1 H17 x17 n17 h17 => ?_
    refine Alloc.mk fun p2 H18 x18 n18 h18 => ?_
    have x418 : ExB st H14 H18 := x15.trans (x16.trans ((x17.trans x18).but st))
    have s18 := (s16.mono x17).mono x18
    have hp2 := x418 _ _ n1 hp
    refine Get.mk _ hp2 ⟨?_, Put.mk fun H19 x19 h19 => ?_⟩
    · rw [al.len, List.length_map, hl]
      exact Nat.lt_of_lt_of_le (by omega : 13 * i + 2 * 4 + 1 + 1 + 1 < 1000) (by decide)
    have er : ((r.toNat : Nat) : Int) = r := by omega
    have iw : r.toNat < 4 := by omega
    have ai : At st H18 (It.mk r.toNat dB dC).d (.ref p2) := by
      unfold It.d
      refine .tup ((s16.mono x17).ne n18) h18 (.cons ?_ (.cons (.tup (s16.ne n17) (x18 _ _ h17) (.cons ((BB.mono x17).mono x18) (.cons ((BC.mono x17).mono x18) .nil))) .nil))
      rw [er]
      exact .int r
    obtain ⟨A19, s19, k19⟩ := As.push s18 hp2 (al.monoB x418) ok hl n1 n2 ai (ok_w iw (Dt.sm_mono (by decide) mB) (Dt.sm_mono (by decide) mC)) x19 h19
    replace F1 := (F1.monoB x418).kp k19
    replace F2 := (F2.monoB x418).kp k19
    have B1 := k19 _ _ mw (B1.monoB x418)
    refine law_top (o0 := some (.ref a)) (o3 := some (.int (0 + i))) (o4 := some v1) (o5 := some v2) (o6 := some (.int (1 + r6))) (o7 := some v7) (o8 := o8) (o11 := some vB) A19 s19 (by omega) (.int e) B1 ?_ (sm_two (sm_lt y3 (by decide)) (sm_lt y4 (by decide))) fun H' v9 v10 a1' a2' a3' => ?_
    · simp only [Dt.sm]
      exact sm_lt (j := 10) (by omega) (by decide)
    · refine ⟨_, _, _, _, _, _, _, _, _, rfl, ?_, a2', fun _ => ⟨v1, v2, a1, b1, a2, b2, rfl, rfl, F1.kp a3', F2.kp a3'⟩⟩
      have en : 13 * (i + 1) = 13 * i + 2 * 4 + 1 + 1 + 1 + 1 + 1 := by omega
      rw [en]
      exact a1'
  · rintro σ H3 ⟨o3, o4, o5, o6, o7, o8, o9, o10, o11, rfl, A3, s3, hf⟩
    obtain ⟨v1, v2, a1, b1, a2, b2, rfl, rfl, F1, F2⟩ := hf (by decide)
    obtain ⟨l, xs, hp, al, ok, hl, m1, m2⟩ := A3
    have hl : l.length = 26 := hl
    have hm := s3.some
    have apa : At st H3 (.lst (l.map It.d)) (.ref pa) := .lst m1 hp al
    try dsimp only
    refine nxt2 ?_
    try dsimp only
    refine for_dv (m := st) (dx_lsts hm (dx_var rfl apa) (dx_lrev hm (dx_list hm (dx_var rfl apa))) (by simp [hl])) fun p ys H4 x4 g4 n4 l4 => ?_
    rw [← List.map_reverse, ← List.map_append] at l4
    have hok : ∀ it ∈ l ++ l.reverse, it.ok := by
      intro it h
      rcases List.mem_append.mp h with h | h
      · exact ok it h
      · exact ok it (List.mem_reverse.mp h)
    generalize l ++ l.reverse = L at l4 hok
    have s4 := s3.mono x4
    replace F1 := F1.mono x4
    replace F2 := F2.mono x4
    clear apa x4 hl al ok hp s3 hf hm
    refine LoopL.mk (fun i σ H' => Ex H4 H' ∧ ∃ o12, σ = [some (.ref a), some (.ref st), some (.ref pa), o3, some v1, some v2, o6, o7, o8, o9, o10, o11, o12, none]) ⟨Ex.refl _, none, rfl⟩ ?_ ?_ ?_
    · rintro i σ H' _ ⟨x, _⟩
      exact .inl (x _ _ g4)
    · rintro i z σ H' hx ⟨x14, o, rfl⟩
      obtain ⟨dd, hdd, hat⟩ := l4.get hx
      rw [List.getElem?_map] at hdd
      cases e : L[i]? with
      | none => rw [e] at hdd; cases hdd
      | some it =>
        rw [e] at hdd
        cases hdd
        obtain ⟨k1, k2, k3, k4⟩ := hok it (List.mem_of_getElem? e)
        obtain ⟨q, y1, y2, rfl, nq, hq, i1, i2⟩ := at_pair_inv (hat.mono x14)
        obtain rfl := at_int_inv i1
        walk_at "go"
        refine ⟨st, it.w, it.a, it.b, y2, rfl, k1, fun z => s4.some (x14.fresh z), i2, k2, k3, k4, F, fun H15 x15 => ?_⟩
        walk_at "br"
        exact ⟨x14.trans x15, _, rfl⟩
    rintro σ H5 ⟨x5, o12, rfl⟩
    have s5 := s4.mono x5
    replace F1 := F1.mono x5
    replace F2 := F2.mono x5
    clear s4 x5 g4 l4 hok
    have du0 : ∀ w, w < 3 → dueP w (.tup [.int a1, .int b1]) (.tup [.int a2, .int b2]) = none := fun w hw => due_0 (by omega) (frac_none F1.pos) (by rw [sec_i F2.pos, if_neg (by omega)])
    refine ⟨st, _, _, v1, v2, rfl, s5.some, F1.at_, F2.at_, F1.sm, F2.sm, (fun z => by cases z), (fun k n e => by rw [du0 0 (by decide)] at e; cases e), fun _ p q tv H6 x6 a6 R => ?_⟩
    obtain ⟨_, _, _, lp, lq⟩ := R
    have zp : p.natAbs < 2 ^ 4480 := Nat.lt_of_le_of_lt lp (sm_lt (addk (mul_lt2 (n := 540) F1.ha F2.hb (by decide)) (mul_lt2 (n := 540) F2.ha F1.hb (by decide))) (by decide))
    have zq : q.natAbs < 2 ^ 4480 := Nat.lt_of_le_of_lt lq (sm_lt (mul_lt2 (n := 540) F1.hb F2.hb (by decide)) (by decide))
    have s6 := s5.mono x6
    replace F1 := F1.mono x6
    replace F2 := F2.mono x6
    clear lp lq s5 x6
    walk_at "go"
    rename_i p7 H7 x7 n7 g7
    obtain ⟨k1, k2, k3, k4⟩ := ok_q (w := 1) (by decide) zp zq F2.z1 F2.z2
    refine ⟨st, 1, _, _, _, rfl, k1, (s6.mono x7).some, .tup (s6.ne n7) g7 (.cons (a6.mono x7) (.cons (F2.at_.mono x7) .nil)), k2, k3, k4, F, fun H8 x8 => ?_⟩
    walk_at "br"
    walk_at "go"
    rename_i p9 H9 x9 n9 g9
    have x78 := x7.trans x8
    have s8 := s6.mono x78
    obtain ⟨k1, k2, k3, k4⟩ := ok_q (w := 0) (by decide) F1.z1 F1.z2 zp zq
    refine ⟨st, 0, _, _, _, rfl, k1, (s8.mono x9).some, .tup (s8.ne n9) g9 (.cons ((F1.at_.mono x78).mono x9) (.cons ((a6.mono x78).mono x9) .nil)), k2, k3, k4, F, fun H10 x10 => ?_⟩
    walk_at "br"
    have x70 := (x78.trans x9).trans x10
    have s10 := s6.mono x70
    replace F1 := F1.mono x70
    replace F2 := F2.mono x70
    clear x7 x8 x9 x10 x78 x70 s6 s8 a6 g7 g9 zp zq k1 k2 k3 k4
    refine ⟨st, _, _, v1, v2, rfl, s10.some, F1.at_, F2.at_, F1.sm, F2.sm, (fun z => by cases z), (fun k n e => by rw [du0 2 (by decide)] at e; cases e), fun _ p' q' tv' H6 x6 a6 R => ?_⟩
    obtain ⟨_, _, _, lp, lq⟩ := R
    have zp : p'.natAbs < 2 ^ 4480 := Nat.lt_of_le_of_lt lp (sm_lt (mul_lt2 (n := 540) F1.ha F2.ha (by decide)) (by decide))
    have zq : q'.natAbs < 2 ^ 4480 := Nat.lt_of_le_of_lt lq (sm_lt (mul_lt2 (n := 540) F1.hb F2.hb (by decide)) (by decide))
    have s6 := s10.mono x6
    replace F1 := F1.mono x6
    replace F2 := F2.mono x6
    clear lp lq s10 x6
    walk_at "go"
    rename_i p7 H7 x7 n7 g7
    obtain ⟨k1, k2, k3, k4⟩ := ok_q (w := 3) (by decide) zp zq F2.z1 F2.z2
    refine ⟨st, 3, _, _, _, rfl, k1, (s6.mono x7).some, .tup (s6.ne n7) g7 (.cons (a6.mono x7) (.cons (F2.at_.mono x7) .nil)), k2, k3, k4, F, fun H8 x8 => ?_⟩
    walk_at "br"
    walk_at "go"
    rename_i p9 H9 x9 n9 g9
    have x78 := x7.trans x8
    have s8 := s6.mono x78
    obtain ⟨k1, k2, k3, k4⟩ := ok_q (w := 3) (by decide) F2.z1 F2.z2 zp zq
    refine ⟨st, 3, _, _, _, rfl, k1, (s8.mono x9).some, .tup (s8.ne n9) g9 (.cons ((F2.at_.mono x78).mono x9) (.cons ((a6.mono x78).mono x9) .nil)), k2, k3, k4, F, fun H10 x10 => ?_⟩
    walk_at "br"
    have x70 := (x78.trans x9).trans x10
    have s10 := s6.mono x70
    replace F2 := F2.mono x70
    refine ⟨st, 3, rfl, s10, Sz.small (by decide), fun r H11 x11 s11 r0 r1 => ?_⟩
    walk_at "br"
    · exact k _
    · exact ⟨st, a2, b2, v2, rfl, s11, F2.at_.monoB x11, F2.pos, F2.ha, F2.hb, F, fun H' _ _ => k H'⟩
local macro_rules | `(tactic| walk_at "side") => `(tactic| exact shl1 (by first | decide | omega) (by first | assumption | omega) (by omega))
/-! ### the program's checks of words, places, rows -/
theorem Chk.call {A : Ad} {H : Hp} {Q : VK} {E : XK} {f g : Option Fk} {n : Str} (h : Chk A H Q E f n) (e : g = f) : Chk A H Q E g n := e ▸ h
def P_check_word (A : Ad) : Sp := fun vs H Q E => ∃ (m : Addr) (d : Dt) (v : V) (w : Int) (n : Str), vs = [.int w, v, .str n] ∧ 0 ≤ w ∧ w ≤ 64 ∧ At m H d v ∧ Chk A H Q E (numF d (some 0) (some (2 ^ w.toNat - 1))) n
def b_check_word (A : Ad) (W : WX) : TS := tDrop (bCall (P_check_range A) W (tCons (bVar 1) (tCons (tC (.int 0)) (tCons (tOp bSub (tOp bShl (tC (.int 1)) (bVar 0)) (tC (.int 1))) (tCons (bVar 2) (tNil))))))
theorem r_check_word (A : Ad) : ∀ vs H Q E, P_check_word A vs H Q E → vs.length = 3 ∧ b_check_word A (wE E) (dE Q) (start ["width", "word", "argument"] vs) H := by
  rintro vs H Q E ⟨m, d, v, w, n, rfl, w0, w1, h, k⟩
  refine ⟨rfl, ?_⟩
  walk_at "go"
  exact ⟨m, d, v, 0, _, n, rfl, h, by rw [Int.one_mul]; exact k⟩
def P_check_place (A : Ad) : Sp := fun vs H Q E => ∃ (m : Addr) (d : Dt) (v : V) (w : Int) (n : Str), vs = [.int w, v, .str n] ∧ At m H d v ∧ Chk A H Q E (numF d (some 0) (some (w - 1))) n
def b_check_place (A : Ad) (W : WX) : TS := tDrop (bCall (P_check_range A) W (tCons (bVar 1) (tCons (tC (.int 0)) (tCons (tOp bSub (bVar 0) (tC (.int 1))) (tCons (bVar 2) (tNil))))))
theorem r_check_place (A : Ad) : ∀ vs H Q E, P_check_place A vs H Q E → vs.length = 3 ∧ b_check_place A (wE E) (dE Q) (start ["width", "place", "argument"] vs) H := by
  rintro vs H Q E ⟨m, d, v, w, n, rfl, h, k⟩
  refine ⟨rfl, ?_⟩
  exact ⟨m, d, v, 0, _, n, rfl, h, k⟩
def P_check_bit (A : Ad) : Sp := fun vs H Q E => ∃ (m : Addr) (d : Dt) (v : V) (n : Str), vs = [v, .str n] ∧ At m H d v ∧ Chk A H Q E (numF d (some 0) (some 1)) n
def b_check_bit (A : Ad) (W : WX) : TS := tDrop (bCall (P_check_range A) W (tCons (bVar 0) (tCons (tC (.int 0)) (tCons (tC (.int 1)) (tCons (bVar 1) (tNil))))))
theorem r_check_bit (A : Ad) : ∀ vs H Q E, P_check_bit A vs H Q E → vs.length = 2 ∧ b_check_bit A (wE E) (dE Q) (start ["bit", "argument"] vs) H := by
  rintro vs H Q E ⟨m, d, v, n, rfl, h, k⟩
  refine ⟨rfl, ?_⟩
  exact ⟨m, d, v, 0, _, n, rfl, h, k⟩
def P_check_width (A : Ad) : Sp := fun vs H Q E => ∃ (m : Addr) (d : Dt) (v : V), vs = [v] ∧ At m H d v ∧ Chk A H Q E (numF d (some 0) (some 6)) "width"
def b_check_width (A : Ad) (W : WX) : TS := tDrop (bCall (P_check_range A) W (tCons (bVar 0) (tCons (tC (.int 0)) (tCons (tC (.int 6)) (tCons (tC (.str "width")) (tNil))))))
theorem r_check_width (A : Ad) : ∀ vs H Q E, P_check_width A vs H Q E → vs.length = 1 ∧ b_check_width A (wE E) (dE Q) (start ["width"] vs) H := by
  rintro vs H Q E ⟨m, d, v, rfl, h, k⟩
  refine ⟨rfl, ?_⟩
  exact ⟨m, d, v, 0, _, _, rfl, h, k⟩
def rowF (d : Dt) (lo hi : Int) : Option Fk := match d with
  | .lst ds => if (ds.length : Int) < lo ∨ (ds.length : Int) > hi then some .ws else none
  | .tup ds => if (ds.length : Int) < lo ∨ (ds.length : Int) > hi then some .ws else none
  | _ => some .wk
/-- .. where the check itself may lay objects -/
def ChkX (A : Ad) (H : Hp) (Q : VK) (E : XK) (f : Option Fk) (n : Str) : Prop := (f = none → ∀ H', Ex H H' → Q .non H') ∧ ∀ k, f = some k → Raises A H E k n
def P_check_row (A : Ad) : Sp := fun vs H Q E => ∃ (m : Addr) (d : Dt) (v : V) (lo hi : Int) (n : Str), vs = [v, .int lo, .int hi, .str n] ∧ At m H d v ∧ ChkX A H Q E (rowF d lo hi) n
def b_check_row (A : Ad) (W : WX) : TS := tSeq (bIf (tNot (bTru (bIsi2 .lst .tup (bVar 0)))) (bRaise A.WrongKind "argument" W (bVar 3)) (tNext)) (bIf (bOr (bTst (tOp (bLt) (bLen (bVar 0)) (bVar 1))) (bTst (tOp (bGt) (bLen (bVar 0)) (bVar 2)))) (bRaise A.WrongSize "argument" W (bVar 3)) (tNext))
theorem r_check_row (A : Ad) : ∀ vs H Q E, P_check_row A vs H Q E → vs.length = 4 ∧ b_check_row A (wE E) (dE Q) (start ["row", "least", "greatest", "argument"] vs) H := by
  rintro vs H Q E ⟨m, d, v, lo, hi, n, rfl, h, k1, k2⟩
  refine ⟨rfl, ?_⟩
  cases h with
  | @lst ds xs p nm hp l =>
    have hl := l.len
    walk_at "all"
    · exact raise_of (k := .ws) ((k2 .ws (if_pos (.inl (by omega)))).mono (by walk_at "xe"))
    · exact raise_of (k := .ws) ((k2 .ws (if_pos (.inr (by omega)))).mono (by walk_at "xe"))
    · exact k1 (if_neg (by omega)) _ (by walk_at "xe")
  | @tup ds xs p nm hp l =>
    have hl := l.len
    walk_at "all"
    · exact raise_of (k := .ws) ((k2 .ws (if_pos (.inl (by omega)))).mono (by walk_at "xe"))
    · exact raise_of (k := .ws) ((k2 .ws (if_pos (.inr (by omega)))).mono (by walk_at "xe"))
    · exact k1 (if_neg (by omega)) _ (by walk_at "xe")
  | _ => walk_at "all" <;> exact raise_of (k := .wk) ((k2 .wk rfl).mono (by walk_at "xe"))
/-- the items of a row -/
def Dt.items : Dt → List Dt
  | .lst ds => ds
  | .tup ds => ds
  | _ => []
def firstN : List (Option Fk) → Option Fk
  | [] => none
  | some k :: _ => some k
  | none :: r => firstN r
theorem firstN_none : ∀ {l : List (Option Fk)}, firstN l = none → ∀ f ∈ l, f = none
  | [], _, _, h => by cases h
  | some k :: r, h, _, _ => by cases h
  | none :: r, h, f, hf => by
    rcases List.mem_cons.mp hf with rfl | hf
    · rfl
    · exact firstN_none (l := r) h f hf
theorem firstN_at : ∀ {l : List (Option Fk)} {i : Nat} {k : Fk}, (∀ j f, j < i → l[j]? = some f → f = none) → l[i]? = some (some k) → firstN l = some k
  | [], i, _, _, h => by simp at h
  | f :: l, 0, k, _, h => by simp at h; subst h; rfl
  | f :: l, i + 1, k, hn, h => by
    have e : f = none := hn 0 f (by omega) rfl
    subst e
    exact firstN_at (l := l) (i := i) (fun j p hj hp => hn (j + 1) p (by omega) (by simpa using hp)) (by simpa using h)
theorem firstN_all : ∀ {l : List (Option Fk)}, (∀ (j : Nat) (f : Option Fk), l[j]? = some f → f = none) → firstN l = none
  | [], _ => rfl
  | f :: l, h => by
    have e : f = none := h 0 f rfl
    subst e
    exact firstN_all (l := l) (fun j p hp => h (j + 1) p (by simpa using hp))
def bitF (d : Dt) : Option Fk := numF d (some 0) (some 1)
def bitsF (d : Dt) (lo hi : Int) : Option Fk := match rowF d lo hi with
  | some k => some k
  | none => firstN (d.items.map bitF)
theorem bitsF_row {d : Dt} {lo hi : Int} {k : Fk} (h : rowF d lo hi = some k) : bitsF d lo hi = some k := by unfold bitsF; rw [h]
theorem bitsF_in {d : Dt} {lo hi : Int} (h : rowF d lo hi = none) : bitsF d lo hi = firstN (d.items.map bitF) := by unfold bitsF; rw [h]
theorem row_some {d : Dt} {lo hi : Int} (h : rowF d lo hi = none) : (∃ ds, d = .lst ds ∧ lo ≤ ds.length ∧ (ds.length : Int) ≤ hi) ∨ ∃ ds, d = .tup ds ∧ lo ≤ ds.length ∧ (ds.length : Int) ≤ hi := by
  cases d with
  | lst ds =>
    refine .inl ⟨ds, rfl, ?_⟩
    have h2 : (if (ds.length : Int) < lo ∨ (ds.length : Int) > hi then some Fk.ws else none) = none := h
    by_cases c : (ds.length : Int) < lo ∨ (ds.length : Int) > hi
    · rw [if_pos c] at h2; cases h2
    · omega
  | tup ds =>
    refine .inr ⟨ds, rfl, ?_⟩
    have h2 : (if (ds.length : Int) < lo ∨ (ds.length : Int) > hi then some Fk.ws else none) = none := h
    by_cases c : (ds.length : Int) < lo ∨ (ds.length : Int) > hi
    · rw [if_pos c] at h2; cases h2
    · omega
  | _ => cases h
def P_check_bits (A : Ad) : Sp := fun vs H Q E => ∃ (m : Addr) (d : Dt) (v : V) (lo hi : Int) (n : Str), vs = [v, .int lo, .int hi, .str n] ∧ At m H d v ∧ ChkX A H Q E (bitsF d lo hi) n
def b_check_bits (A : Ad) (W : WX) : TS := tSeq (tDrop (bCall (P_check_row A) W (tCons (bVar 0) (tCons (bVar 1) (tCons (bVar 2) (tCons (bVar 3) (tNil))))))) (bForA (bVar 0) (gName 4) (tDrop (bCall (P_check_bit A) W (tCons (bVar 4) (tCons (bVar 3) (tNil))))))
theorem r_check_bits (A : Ad) : ∀ vs H Q E, P_check_bits A vs H Q E → vs.length = 4 ∧ b_check_bits A (wE E) (dE Q) (start ["bits", "least", "greatest", "argument", "bit"] vs) H := by
  rintro vs H Q E ⟨m, d, v, lo, hi, n, rfl, h, k1, k2⟩
  refine ⟨rfl, ?_⟩
  refine ⟨m, d, v, lo, hi, n, rfl, h, fun e0 H' x => ?_, fun k e => k2 k (bitsF_row e)⟩
  · rcases row_some e0 with ⟨ds, rfl, _⟩ | ⟨ds, rfl, _⟩
    · obtain ⟨p, xs, rfl, nm, hp, l⟩ := at_lst_inv h
      have hp' := x _ _ hp
      have l' := l.mono x
      refine Get.mk _ hp' ?_
      refine ⟨fun i σ H2 => H2 = H' ∧ (∃ o, σ = [some (.ref p), some (.int lo), some (.int hi), some (.str n), o]) ∧ (∀ j f, j < i → (ds.map bitF)[j]? = some f → f = none), ⟨rfl, ⟨none, rfl⟩, fun j f z => absurd z (Nat.not_lt_zero _)⟩, ?_, ?_, ?_⟩
      · rintro i σ H2 _ ⟨rfl, _⟩
        exact .inl hp'
      · rintro i z σ H2 hx ⟨rfl, ⟨o, rfl⟩, hno⟩
        obtain ⟨d, hd, ha⟩ := l'.get hx
        have hf : (ds.map bitF)[i]? = some (bitF d) := by rw [List.getElem?_map, hd]; rfl
        walk_at "go"
        refine ⟨m, d, _, n, rfl, ha, fun e => ?_, fun k e => ?_⟩
        · refine ⟨rfl, ⟨_, rfl⟩, fun j f hj hjf => ?_⟩
          by_cases hji : j = i
          · subst hji; rw [hf] at hjf; cases hjf; exact e
          · exact hno j f (by omega) hjf
        · have e : bitF d = some k := e
          exact (k2 k (by rw [bitsF_in e0]; exact firstN_at (l := ds.map bitF) hno (by rw [hf, e]))).mono x
      · rintro σ H2 ⟨rfl, _, hno⟩
        refine k1 ?_ _ x
        rw [bitsF_in e0]
        exact firstN_all (l := ds.map bitF) fun j f hj => hno j f (by
          have h1 := (List.getElem?_eq_some_iff.mp hj).1
          have h2 := l'.len
          rw [List.length_map] at h1
          omega) hj
    · obtain ⟨p, xs, rfl, nm, hp, l⟩ := at_tup_inv h
      have hp' := x _ _ hp
      have l' := l.mono x
      refine Get.mk _ hp' ?_
      refine ⟨fun i σ H2 => H2 = H' ∧ (∃ o, σ = [some (.ref p), some (.int lo), some (.int hi), some (.str n), o]) ∧ (∀ j f, j < i → (ds.map bitF)[j]? = some f → f = none), ⟨rfl, ⟨none, rfl⟩, fun j f z => absurd z (Nat.not_lt_zero _)⟩, ?_, ?_, ?_⟩
      · rintro i σ H2 _ ⟨rfl, _⟩
        exact .inl hp'
      · rintro i z σ H2 hx ⟨rfl, ⟨o, rfl⟩, hno⟩
        obtain ⟨d, hd, ha⟩ := l'.get hx
        have hf : (ds.map bitF)[i]? = some (bitF d) := by rw [List.getElem?_map, hd]; rfl
        walk_at "go"
        refine ⟨m, d, _, n, rfl, ha, fun e => ?_, fun k e => ?_⟩
        · refine ⟨rfl, ⟨_, rfl⟩, fun j f hj hjf => ?_⟩
          by_cases hji : j = i
          · subst hji; rw [hf] at hjf; cases hjf; exact e
          · exact hno j f (by omega) hjf
        · have e : bitF d = some k := e
          exact (k2 k (by rw [bitsF_in e0]; exact firstN_at (l := ds.map bitF) hno (by rw [hf, e]))).mono x
      · rintro σ H2 ⟨rfl, _, hno⟩
        refine k1 ?_ _ x
        rw [bitsF_in e0]
        exact firstN_all (l := ds.map bitF) fun j f hj => hno j f (by
          have h1 := (List.getElem?_eq_some_iff.mp hj).1
          have h2 := l'.len
          rw [List.length_map] at h1
          omega) hj
def bitV (x : Int) (i : Nat) : Int := x / 2 ^ i % 2
theorem band1 (x : Int) (i : Nat) : Builtin.bitAnd (x / 2 ^ i) 1 = bitV x i := by
  have h := Bits.bit_at (x := x) i
  rwa [Int.fdiv_eq_ediv_of_nonneg x (Int.pow_nonneg (by decide))] at h
theorem and_i {i j : Int} {H : Hp} {Q : VK} (h : Q (.int (Builtin.bitAnd i j)) H) : bBand (.int i) (.int j) H Q := h
def bitsL (w : Nat) (x : Int) : List Int := (List.range w).map (bitV x)
def wordDue (nm : String) (d1 d2 : Dt) : Option (Fk × String) := match numF d1 (some 0) (some 6) with
  | some k => some (k, "width")
  | none => match d1 with
    | .int w => match numF d2 (some 0) (some (2 ^ w.toNat - 1)) with
      | some k => some (k, nm)
      | none => none
    | _ => none
theorem wordDue_1 {nm : String} {d1 d2 : Dt} {k : Fk} (h : numF d1 (some 0) (some 6) = some k) : wordDue nm d1 d2 = some (k, "width") := by unfold wordDue; rw [h]
theorem wordDue_2 {nm : String} {w : Int} {d2 : Dt} {k : Fk} (h : numF (.int w) (some 0) (some 6) = none) (h2 : numF d2 (some 0) (some (2 ^ w.toNat - 1)) = some k) : wordDue nm (.int w) d2 = some (k, nm) := by
  unfold wordDue; rw [h]; dsimp only; rw [h2]
theorem wordDue_0 {nm : String} {w : Int} {d2 : Dt} (h : numF (.int w) (some 0) (some 6) = none) (h2 : numF d2 (some 0) (some (2 ^ w.toNat - 1)) = none) : wordDue nm (.int w) d2 = none := by
  unfold wordDue; rw [h]; dsimp only; rw [h2]
theorem num_in {e lo hi : Int} (h : numF (.int e) (some lo) (some hi) = none) : lo ≤ e ∧ e ≤ hi := by
  simp [numF] at h
  omega
theorem pw_pos (n : Nat) : (0 : Int) < 2 ^ n := Int.pow_pos (by decide)
theorem len_ok {n : Nat} (h : n < 1000) : n < sizeLine := Nat.lt_of_lt_of_le h (by decide)
def P_wordly (A : Ad) (nm : String) (R : Int → Int → List Int) : Sp := fun vs H Q E => ∃ (m : Addr) (d1 d2 : Dt) (v1 v2 : V), vs = [v1, v2] ∧ At m H d1 v1 ∧ At m H d2 v2 ∧ (∀ k n, wordDue nm d1 d2 = some (k, n) → Raises A H E k (Str.ofString n)) ∧
  (wordDue nm d1 d2 = none → ∀ (w x : Int), d1 = .int w → d2 = .int x → 0 ≤ w → w ≤ 6 → 0 ≤ x → x < 2 ^ w.toNat → ∀ p H', Ex H H' → H p = none → H' p = some (.lst ((R w x).map V.int)) → Q (.ref p) H')
def P_bits_of_word (A : Ad) : Sp := P_wordly A "word" fun w x => bitsL w.toNat x
def P_places_of_set (A : Ad) : Sp := P_wordly A "chosen" fun w x => ((List.range w.toNat).filter fun i => bitV x i = 1).map fun i : Nat => (i : Int)
def b_bits_of_word (A : Ad) (W : WX) : TS := tSeq (tDrop (bCall (P_check_width A) W (tCons (bVar 0) (tNil)))) (tSeq (tDrop (bCall (P_check_word A) W (tCons (bVar 0) (tCons (bVar 1) (tCons (tC (.str "word")) (tNil)))))) (tRet (bCmpR (bVar 0) 2 (fun D => cmpTurn D (tOp bBand (tOp bShr (bVar 1) (bVar 2)) (tC (.int 1)))))))
def b_places_of_set (A : Ad) (W : WX) : TS := tSeq (tDrop (bCall (P_check_width A) W (tCons (bVar 0) (tNil)))) (tSeq (tDrop (bCall (P_check_word A) W (tCons (bVar 0) (tCons (bVar 1) (tCons (tC (.str "chosen")) (tNil)))))) (tRet (bCmpR (bVar 0) 2 (fun D => cmpIf D (bTru (tOp bBand (tOp bShr (bVar 1) (bVar 2)) (tC (.int 1)))) (bVar 2)))))
theorem bitV_01 (x : Int) (i : Nat) : bitV x i = 0 ∨ bitV x i = 1 := by unfold bitV; omega
theorem r_bits_of_word (A : Ad) : ∀ vs H Q E, P_bits_of_word A vs H Q E → vs.length = 2 ∧ b_bits_of_word A (wE E) (dE Q) (start ["width", "word", "place"] vs) H := by
  rintro vs H Q E ⟨m, d1, d2, v1, v2, rfl, h1, h2, kr, k⟩
  refine ⟨rfl, ?_⟩
  refine ⟨m, d1, v1, rfl, h1, fun e1 => ?_, fun k e => kr k _ (wordDue_1 e)⟩
  obtain ⟨w, rfl⟩ := num_int e1
  obtain ⟨w0, w1⟩ := num_in e1
  obtain rfl := at_int_inv h1
  refine ⟨m, d2, v2, w, _, rfl, w0, by omega, h2, fun e2 => ?_, fun k e => kr k _ (wordDue_2 e1 e)⟩
  obtain ⟨x, rfl⟩ := num_int e2
  obtain ⟨x0, x1⟩ := num_in e2
  obtain rfl := at_int_inv h2
  replace k := k (wordDue_0 e1 e2) w x rfl rfl w0 w1 x0 (by omega)
  refine ⟨⟨by omega, by omega⟩, ?_⟩
  refine Alloc.mk fun D H2 x2 n2 h2 => ?_
  refine CmpR.mk (fun i H3 => i ≤ w.toNat ∧ ExB D H2 H3 ∧ H3 D = some (.lst ((bitsL i x).map V.int))) ⟨Nat.zero_le _, (Ex.refl _).but _, h2⟩ ?_ ?_
  · rintro i H3 hi ⟨_, x3, g3⟩
    have hl : ((bitsL i x).map V.int).length < sizeLine := len_ok (by simp [bitsL]; omega)
    have ei : (0 + (i : Int)).toNat = i := by omega
    walk_at "go"
    rename_i H4 x4 g4
    rw [ei, band1] at g4
    refine ⟨x3.trans x4, ?_⟩
    rw [g4]
    simp [bitsL, List.range_succ]
  · rintro H3 ⟨_, x3, g3⟩
    exact k D H3 (x2.over x3 n2) n2 g3
theorem r_places_of_set (A : Ad) : ∀ vs H Q E, P_places_of_set A vs H Q E → vs.length = 2 ∧ b_places_of_set A (wE E) (dE Q) (start ["width", "chosen", "place"] vs) H := by
  rintro vs H Q E ⟨m, d1, d2, v1, v2, rfl, h1, h2, kr, k⟩
  refine ⟨rfl, ?_⟩
  refine ⟨m, d1, v1, rfl, h1, fun e1 => ?_, fun k e => kr k _ (wordDue_1 e)⟩
  obtain ⟨w, rfl⟩ := num_int e1
  obtain ⟨w0, w1⟩ := num_in e1
  obtain rfl := at_int_inv h1
  refine ⟨m, d2, v2, w, _, rfl, w0, by omega, h2, fun e2 => ?_, fun k e => kr k _ (wordDue_2 e1 e)⟩
  obtain ⟨x, rfl⟩ := num_int e2
  obtain ⟨x0, x1⟩ := num_in e2
  obtain rfl := at_int_inv h2
  replace k := k (wordDue_0 e1 e2) w x rfl rfl w0 w1 x0 (by omega)
  refine ⟨⟨by omega, by omega⟩, ?_⟩
  refine Alloc.mk fun D H2 x2 n2 h2 => ?_
  refine CmpR.mk (fun i H3 => i ≤ w.toNat ∧ ExB D H2 H3 ∧ H3 D = some (.lst ((((List.range i).filter fun i => bitV x i = 1).map fun i : Nat => (i : Int)).map V.int))) ⟨Nat.zero_le _, (Ex.refl _).but _, h2⟩ ?_ ?_
  · rintro i H3 hi ⟨_, x3, g3⟩
    have ei : (0 + (i : Int)).toNat = i := by omega
    have ej : (0 + (i : Int)) = i := by omega
    have hl : ((((List.range i).filter fun i => bitV x i = 1).map fun i : Nat => (i : Int)).map V.int).length < sizeLine := len_ok (by
      have := List.length_filter_le (fun i => decide (bitV x i = 1)) (List.range i)
      simp at this ⊢
      omega)
    walk_at "go"
    walk_at "br"
    · walk_at "go"
      rename_i hb H4 x4 g4
      rw [ei, band1] at hb
      rw [ej] at g4
      have b1 : bitV x i = 1 := (bitV_01 x i).resolve_left hb
      refine ⟨x3.trans x4, ?_⟩
      rw [g4]
      simp [List.range_succ, List.filter_append, b1]
    · rename_i hb
      rw [ei, band1] at hb
      have b0 : bitV x i = 0 := by simpa using hb
      have b1 : ¬ bitV x i = 1 := by omega
      refine ⟨hi, x3, ?_⟩
      rw [g3]
      simp [List.range_succ, List.filter_append, b1]
  · rintro H3 ⟨_, x3, g3⟩
    exact k D H3 (x2.over x3 n2) n2 g3

/-! ### the law's own -/
def P_l_places (A : Ad) : Sp := fun vs H Q _ => ∃ (w x : Int), vs = [.int w, .int x] ∧ 0 ≤ w ∧ w ≤ 64 ∧ ∀ p H', Ex H H' → H p = none → H' p = some (.lst ((((List.range w.toNat).filter fun i => bitV x i = 1).map fun i : Nat => (i : Int)).map V.int)) → Q (.ref p) H'
def b_l_places (A : Ad) (W : WX) : TS := tRet (bCmpR (bVar 0) 2 (fun D => cmpIf D (bTst (tOp (bEq A.K) (tOp bBand (tOp bShr (bVar 1) (bVar 2)) (tC (.int 1))) (tC (.int 1)))) (bVar 2)))
theorem r_l_places (A : Ad) : ∀ vs H Q E, P_l_places A vs H Q E → vs.length = 2 ∧ b_l_places A (wE E) (dE Q) (start ["wide", "mask", "at"] vs) H := by
  rintro vs H Q E ⟨w, x, rfl, w0, w1, k⟩
  refine ⟨rfl, ?_⟩
  refine ⟨⟨by omega, by omega⟩, ?_⟩
  refine Alloc.mk fun D H2 x2 n2 h2 => ?_
  refine CmpR.mk (fun i H3 => i ≤ w.toNat ∧ ExB D H2 H3 ∧ H3 D = some (.lst ((((List.range i).filter fun i => bitV x i = 1).map fun i : Nat => (i : Int)).map V.int))) ⟨Nat.zero_le _, (Ex.refl _).but _, h2⟩ ?_ ?_
  · rintro i H3 hi ⟨_, x3, g3⟩
    have ei : (0 + (i : Int)).toNat = i := by omega
    have ej : (0 + (i : Int)) = i := by omega
    have hl : ((((List.range i).filter fun i => bitV x i = 1).map fun i : Nat => (i : Int)).map V.int).length < sizeLine := len_ok (by
      have := List.length_filter_le (fun i => decide (bitV x i = 1)) (List.range i)
      simp at this ⊢
      omega)
    walk_at "go"
    walk_at "br"
    · walk_at "go"
      rename_i hb H4 x4 g4
      rw [ei, band1] at hb
      rw [ej] at g4
      refine ⟨x3.trans x4, ?_⟩
      rw [g4]
      simp [List.range_succ, List.filter_append, hb]
    · rename_i hb
      rw [ei, band1] at hb
      refine ⟨hi, x3, ?_⟩
      rw [g3]
      simp [List.range_succ, List.filter_append, hb]
  · rintro H3 ⟨_, x3, g3⟩
    exact k D H3 (x2.over x3 n2) n2 g3
mutual
/-- no dict is in the datum -/
def Dt.nod : Dt → Prop
  | .dct => False
  | .lst ds => Dt.nods ds
  | .tup ds => Dt.nods ds
  | _ => True
def Dt.nods : List Dt → Prop
  | [] => True
  | d :: ds => d.nod ∧ Dt.nods ds
end
theorem nods_mem : ∀ {ds : List Dt} {d : Dt}, Dt.nods ds → d ∈ ds → d.nod
  | e :: ds, d, h, hd => by
    rw [Dt.nods] at h
    rcases List.mem_cons.mp hd with rfl | hd
    · exact h.1
    · exact nods_mem h.2 hd
mutual
theorem At.fresh {m D : Addr} {H : Hp} (n : H D = none) : ∀ {d : Dt} {v : V}, At m H d v → At D H d v
  | _, _, .non => .non
  | _, _, .bl b => .bl b
  | _, _, .int i => .int i
  | _, _, .str x => .str x
  | _, _, .dct _ hp => .dct (by rintro rfl; rw [n] at hp; cases hp) hp
  | _, _, .lst _ hp l => .lst (by rintro rfl; rw [n] at hp; cases hp) hp (AtL.fresh n l)
  | _, _, .tup _ hp l => .tup (by rintro rfl; rw [n] at hp; cases hp) hp (AtL.fresh n l)
theorem AtL.fresh {m D : Addr} {H : Hp} (n : H D = none) : ∀ {ds : List Dt} {xs : List V}, AtL m H ds xs → AtL D H ds xs
  | _, _, .nil => .nil
  | _, _, .cons h l => .cons (At.fresh n h) (AtL.fresh n l)
end
/-- v' is a copy of v: it shares nothing with what stood in H0 but dicts -/
def AtC (H0 H : Hp) (d : Dt) (v v' : V) : Prop := ∀ m, H0 m ≠ none → (d.nod ∨ At m H0 d v) → At m H d v'
def P_l_copyN (A : Ad) (n : Nat) : Sp := fun vs H Q _ => ∃ (m : Addr) (d : Dt) (v : V), vs = [v] ∧ H m ≠ none ∧ At m H d v ∧ d.okN n ∧ ∀ v' H', Ex H H' → AtC H H' d v v' → Q v' H'
def P_l_copy (A : Ad) : Sp := P_l_copyN A 6
def b_l_copyN (A : Ad) (n : Nat) (W : WX) : TS := tSeq (bIf (bTru (bIsi .lst (bVar 0))) (tRet (bCmpA (bVar 0) 1 (fun D => cmpTurn D (bCall (P_l_copyN A n) (fun _ _ _ _ => False) (tCons (bVar 1) (tNil)))))) (tNext)) (tSeq (bIf (bTru (bIsi .tup (bVar 0))) (tRet (bTuple (bCmpA (bVar 0) 1 (fun D => cmpTurn D (bCall (P_l_copyN A n) (fun _ _ _ _ => False) (tCons (bVar 1) (tNil))))))) (tNext)) (tRet (bVar 0)))
mutual
theorem At.mix {m l : Addr} {H H' : Hp} (e : ExB l H H') : ∀ {d : Dt} {v : V}, At m H d v → At l H d v → At m H' d v
  | _, _, .non, _ => .non
  | _, _, .bl b, _ => .bl b
  | _, _, .int i, _ => .int i
  | _, _, .str x, _ => .str x
  | _, _, .dct n hp, h => by
    cases h with | dct n2 hp2 => exact .dct n (e _ _ n2 hp)
  | _, _, .lst n hp a, h => by
    cases h with | lst n2 hp2 b => rw [hp] at hp2; cases hp2; exact .lst n (e _ _ n2 hp) (AtL.mix e a b)
  | _, _, .tup n hp a, h => by
    cases h with | tup n2 hp2 b => rw [hp] at hp2; cases hp2; exact .tup n (e _ _ n2 hp) (AtL.mix e a b)
theorem AtL.mix {m l : Addr} {H H' : Hp} (e : ExB l H H') : ∀ {ds : List Dt} {xs : List V}, AtL m H ds xs → AtL l H ds xs → AtL m H' ds xs
  | _, _, .nil, _ => .nil
  | _, _, .cons h a, k => by
    cases k with | cons k b => exact .cons (At.mix e h k) (AtL.mix e a b)
end
theorem copy_loop {A : Ad} {n : Nat} {m p D : Addr} {u : HO} {H H2 : Hp} {ds : List Dt} {xs : List V} {σ : Sg} {K : Hp → Prop} (hm : H m ≠ none) (hp : H p = some u) (l : AtL m H ds xs) (ok : ∀ d ∈ ds, d.okN n) (hl : ds.length < 100000) (x2 : Ex H H2) (n2 : H D = none) (h2 : H2 D = some (.lst []))
    (k : ∀ H3 ys, Ex H H3 → H3 D = some (.lst ys) → (∀ m', (H m' ≠ none ∨ m' = D) → (Dt.nods ds ∨ AtL m' H ds xs) → AtL m' H3 ds ys) → K H3) (hσ : ∀ x H Q, bVar 1 (σ.set 1 (some x)) H Q = Q x H) :
    CmpL xs p u (fun x H Nx => cmpTurn D (bCall (P_l_copyN A n) (fun _ _ _ _ => False) (tCons (bVar 1) (tNil))) (σ.set 1 (some x)) H Nx) K H2 := by
  refine CmpL.mk (fun i H3 => ExB D H2 H3 ∧ ∃ ys, H3 D = some (.lst ys) ∧ ys.length = i ∧ i ≤ ds.length ∧ ∀ m', (H m' ≠ none ∨ m' = D) → (Dt.nods ds ∨ AtL m' H ds xs) → AtL m' H3 (ds.take i) ys) ⟨(Ex.refl _).but _, [], h2, rfl, Nat.zero_le _, fun m' _ _ => .nil⟩ ?_ ?_ ?_
  · rintro i H3 _ ⟨x3, _⟩
    exact .inl ((x2.over x3 n2) _ _ hp)
  · rintro i z H3 hx ⟨x3, ys, g3, hly, hi, ay⟩
    have xa := x2.over x3 n2
    obtain ⟨d, hd, ha⟩ := l.get hx
    have hmem : d ∈ ds := List.mem_of_getElem? hd
    have hi2 : i < ds.length := (List.getElem?_eq_some_iff.mp hd).1
    show bVar 1 (σ.set 1 (some z)) H3 _
    rw [hσ]
    refine ⟨m, d, z, rfl, fun q => hm (xa.fresh q), ha.mono xa, ok d hmem, fun v' H4 x4 a4 => ?_⟩
    have hll : ys.length < sizeLine := Nat.lt_of_lt_of_le (by omega : ys.length < 100000) (by decide)
    refine Get.mk _ (x4 _ _ g3) ⟨hll, Put.mk fun H5 x5 g5 => ?_⟩
    refine ⟨x3.trans ((x4.but D).trans x5), ys ++ [v'], g5, by simp [hly], hi2, fun m' hm' hc => ?_⟩
    have e : ds.take (i + 1) = ds.take i ++ [d] := by
      rw [List.take_succ, hd]
      rfl
    rw [e]
    have some3 : ∀ m', (H m' ≠ none ∨ m' = D) → H3 m' ≠ none := by
      rintro m' (q | rfl)
      · exact fun z => q (xa.fresh z)
      · rw [g3]; exact fun z => by cases z
    have all : ∀ m', (H m' ≠ none ∨ m' = D) → (Dt.nods ds ∨ AtL m' H ds xs) → AtL m' H4 (ds.take i ++ [d]) (ys ++ [v']) := fun m' hm' hc => ((ay m' hm' hc).mono x4).append (.cons (a4 m' (some3 m' hm') (by
      rcases hc with hc | hc
      · exact .inl (nods_mem hc hmem)
      · obtain ⟨d', hd', ha'⟩ := hc.get hx
        rw [hd] at hd'
        cases hd'
        exact .inr (ha'.mono xa))) .nil)
    exact (all m' hm' hc).mix x5 (all D (.inr rfl) (.inr (l.fresh n2)))
  · rintro H3 ⟨x3, ys, g3, hly, hi, ay⟩
    have e := l.len
    refine k H3 ys (x2.over x3 n2) g3 fun m' hm' hc => ?_
    have := ay m' hm' hc
    rwa [e, List.take_length] at this
theorem r_l_copyN (A : Ad) (n : Nat) : ∀ vs H Q E, P_l_copyN A (n + 1) vs H Q E → vs.length = 1 ∧ b_l_copyN A n (wE E) (dE Q) (start ["given", "item"] vs) H := by
  rintro vs H Q E ⟨m, d, v, rfl, hm, h, ok, k⟩
  refine ⟨rfl, ?_⟩
  cases h with
  | non => walk_at "all"; exact k _ _ (Ex.refl _) fun _ _ _ => .non
  | bl b => walk_at "all"; exact k _ _ (Ex.refl _) fun _ _ _ => .bl b
  | int i => walk_at "all"; exact k _ _ (Ex.refl _) fun _ _ _ => .int i
  | str i => walk_at "all"; exact k _ _ (Ex.refl _) fun _ _ _ => .str i
  | dct => walk_at "all"; exact k _ _ (Ex.refl _) fun _ _ hc => hc.resolve_left (by rw [Dt.nod]; exact id)
  | @lst ds xs p n1 hp l =>
    refine Get.mk _ hp ⟨fun _ => ?_, fun z => absurd z (by decide)⟩
    refine Get.mk _ hp (Alloc.mk fun D H2 x2 n2 h2 => ?_)
    refine copy_loop hm hp l ok.2 ok.1 x2 n2 h2 (fun H3 ys x3 g3 ay => ?_) fun x H Q => rfl
    refine k _ H3 x3 fun m' hm' hc => .lst (new_ne hm' n2) g3 (ay m' (.inl hm') (hc.imp (fun q => by rwa [Dt.nod] at q) fun q => ?_))
    cases q with | lst _ hp' l' => rw [hp] at hp'; cases hp'; exact l'
  | @tup ds xs p n1 hp l =>
    refine Get.mk _ hp ⟨fun z => absurd z (by decide), fun _ => ?_⟩
    refine Get.mk _ hp ⟨fun _ => ?_, fun z => absurd z (by decide)⟩
    refine Get.mk _ hp (Alloc.mk fun D H2 x2 n2 h2 => ?_)
    refine copy_loop hm hp l ok.2 ok.1 x2 n2 h2 (fun H3 ys x3 g3 ay => ?_) fun x H Q => rfl
    refine Get.mk _ g3 (Alloc.mk fun T H4 x4 n4 h4 => ?_)
    refine k _ H4 (x3.trans x4) fun m' hm' hc => .tup (fun z => hm' (x3.fresh (z ▸ n4))) h4 ((ay m' (.inl hm') (hc.imp (fun q => by rwa [Dt.nod] at q) fun q => ?_)).mono x4)
    cases q with | tup _ hp' l' => rw [hp] at hp'; cases hp'; exact l'
def P_l_width (A : Ad) : Sp := fun vs H Q _ => ∃ (st : Sto) (lo hi : Int), vs = [.ref st, .int lo, .int hi] ∧ Store H st ∧ lo ≤ hi ∧ ∀ (r : Int) H', ExB st H H' → Store H' st → lo ≤ r → r ≤ hi → Q (.int r) H'
def b_l_width (A : Ad) (W : WX) : TS := tSeq (tAsg (tOp bIx (bLst (tCons (tC (.int 0)) (tCons (tC (.int 1)) (tCons (tC (.int 1)) (tCons (tC (.int 2)) (tCons (tC (.int 2)) (tCons (tC (.int 2)) (tCons (tC (.int 3)) (tCons (tC (.int 3)) (tCons (tC (.int 3)) (tCons (tC (.int 3)) (tCons (tC (.int 4)) (tCons (tC (.int 4)) (tCons (tC (.int 4)) (tCons (tC (.int 5)) (tCons (tC (.int 5)) (tCons (tC (.int 6)) (tNil)))))))))))))))))) (bCall (P_l_take A) W (tCons (bVar 0) (tCons (tC (.int 16)) (tNil))))) (gName 3)) (tRet (bMax (bVar 1) (bMin (bVar 2) (bVar 3))))
theorem pick_n {ns : List Int} {i : Int} (h0 : 0 ≤ i) (h1 : i < ns.length) : ∃ n, n ∈ ns ∧ atI (ns.map V.int) i = some (.int n) := by
  obtain ⟨n, hn⟩ := atI_ints (ns := ns) h0 (by simpa using h1)
  refine ⟨n, ?_, hn⟩
  rw [atI_of h0 (by simpa using h1)] at hn
  simp at hn
  rw [← hn]
  exact List.getElem_mem _
theorem r_l_width (A : Ad) : ∀ vs H Q E, P_l_width A vs H Q E → vs.length = 3 ∧ b_l_width A (wE E) (dE Q) (start ["store", "least", "most", "wide"] vs) H := by
  rintro vs H Q E ⟨st, lo, hi, rfl, hS, hlh, k⟩
  refine ⟨rfl, ?_⟩
  walk_at "go"
  rename_i p H1 x1 n1 g1
  refine ⟨st, 16, rfl, hS.mono x1, Sz.small (by decide), fun r H2 x2 s2 r0 r1 => ?_⟩
  refine Get.mk _ (x2 _ _ (hS.ne n1) g1) ?_
  obtain ⟨n, hn, e⟩ := pick_n (ns := [0, 1, 1, 2, 2, 2, 3, 3, 3, 3, 4, 4, 4, 5, 5, 6]) r0 (by show r < 16; omega)
  refine AtI.mk _ e ?_
  exact k _ H2 ((x1.but _).trans x2) s2 (by omega) (by omega)
def P_l_word (A : Ad) : Sp := fun vs H Q _ => ∃ (st : Sto) (w : Int), vs = [.ref st, .int w] ∧ Store H st ∧ 0 ≤ w ∧ w ≤ 64 ∧ ∀ (r : Int) H', ExB st H H' → Store H' st → 0 ≤ r → r < 2 ^ w.toNat → Q (.int r) H'
def b_l_word (A : Ad) (W : WX) : TS := tSeq (tAsg (tOp bSub (tOp bShl (tC (.int 1)) (bVar 1)) (tC (.int 1))) (gName 2)) (tSeq (tAsg (bCall (P_l_take A) W (tCons (bVar 0) (tCons (tC (.int 12)) (tNil)))) (gName 3)) (tSeq (bIf (bTst (tOp (bLt) (bVar 3) (tC (.int 2)))) (tRet (tOp bIx (bLst (tCons (tC (.int 0)) (tCons (bVar 2) (tNil)))) (bVar 3))) (tNext)) (tSeq (bIf (bAnd (bTst (tOp (bLt) (bVar 3) (tC (.int 4)))) (bTst (tOp (bGt) (bVar 1) (tC (.int 0))))) (tSeq (tAsg (tOp bShl (tC (.int 1)) (bCall (P_l_take A) W (tCons (bVar 0) (tCons (bVar 1) (tNil))))) (gName 4)) (tRet (tOp bIx (bLst (tCons (bVar 4) (tCons (tOp bSub (bVar 2) (bVar 4)) (tNil)))) (tOp bSub (bVar 3) (tC (.int 2)))))) (tNext)) (tRet (bCall (P_l_take A) W (tCons (bVar 0) (tCons (tOp bAdd (bVar 2) (tC (.int 1))) (tNil))))))))
theorem r_l_word (A : Ad) : ∀ vs H Q E, P_l_word A vs H Q E → vs.length = 2 ∧ b_l_word A (wE E) (dE Q) (start ["store", "wide", "full", "kind", "one"] vs) H := by
  rintro vs H Q E ⟨st, w, rfl, hS, w0, w1, k⟩
  refine ⟨rfl, ?_⟩
  have P0 := pw_pos w.toNat
  have P1 : (2 : Int) ^ w.toNat ≤ 2 ^ 64 := by exact_mod_cast Nat.pow_le_pow_right (n := 2) (by decide) (by omega : w.toNat ≤ 64)
  walk_at "go"
  refine ⟨st, 12, rfl, hS, Sz.small (by decide), fun r H1 x1 s1 r0 r1 => ?_⟩
  walk_at "br"
  · walk_at "go"
    rename_i p H2 x2 n2 g2
    obtain rfl | rfl : r = 0 ∨ r = 1 := by omega
    · exact AtI.mk _ rfl (k _ _ (x1.trans (x2.but _)) (s1.mono x2) (by decide) P0)
    · exact AtI.mk _ rfl (k _ _ (x1.trans (x2.but _)) (s1.mono x2) (by omega) (by omega))
  · rename_i hb
    walk_at "br"
    · walk_at "br"
      · walk_at "go"
        refine ⟨st, w, rfl, s1, Sz.small (by omega), fun j H2 x2 s2 j0 j1 => ?_⟩
        have Q0 := pw_pos j.toNat
        have Q1 : (2 : Int) ^ j.toNat < 2 ^ w.toNat := by exact_mod_cast Nat.pow_lt_pow_right (a := 2) (by decide) (by omega : j.toNat < w.toNat)
        walk_at "go"
        rename_i p H3 x3 n3 g3
        obtain rfl | rfl : r = 2 ∨ r = 3 := by omega
        · exact AtI.mk _ rfl (k _ _ (x1.trans (x2.trans (x3.but _))) (s2.mono x3) (by omega) (by omega))
        · exact AtI.mk _ rfl (k _ _ (x1.trans (x2.trans (x3.but _))) (s2.mono x3) (by omega) (by omega))
      · refine nxt ?_
        try dsimp only
        walk_at "go"
        refine ⟨st, _, rfl, s1, Sz.of 65 (by omega) (by decide) (by decide), fun j H2 x2 s2 j0 j1 => ?_⟩
        exact k _ _ (x1.trans x2) s2 j0 (by omega)
    · walk_at "br"
      refine nxt ?_
      try dsimp only
      walk_at "go"
      refine ⟨st, _, rfl, s1, Sz.of 65 (by omega) (by decide) (by decide), fun j H2 x2 s2 j0 j1 => ?_⟩
      exact k _ _ (x1.trans x2) s2 j0 (by omega)
/-! ### written forms (of k07) -/
namespace K07
/-- a digit's text -/
def dg (i : Int) : Str := Str.ofString (toString i)
theorem dg_len {i : Int} (h0 : 0 ≤ i) (h1 : i ≤ 9) : (dg i).length = 1 := by
  obtain rfl | rfl | rfl | rfl | rfl | rfl | rfl | rfl | rfl | rfl : i = 0 ∨ i = 1 ∨ i = 2 ∨ i = 3 ∨ i = 4 ∨ i = 5 ∨ i = 6 ∨ i = 7 ∨ i = 8 ∨ i = 9 := by omega
  all_goals decide
theorem dg_sum : ∀ {ns : List Int}, (∀ n ∈ ns, 0 ≤ n ∧ n ≤ 9) → ((ns.map dg).map (·.length)).sum = ns.length
  | [], _ => rfl
  | n :: ns, h => by
    have h1 := h n List.mem_cons_self
    have ih := dg_sum (ns := ns) fun m hm => h m (List.mem_cons_of_mem _ hm)
    simp only [List.map_cons, List.sum_cons, List.length_cons]
    rw [dg_len h1.1 h1.2, ih]
    omega
/-- the texts of small numbers, sep between -/
def wr (sep : Str) (ns : List Int) : Str := Txt.join sep (ns.map dg)
def P_written_bits (A : Ad) : Sp := fun vs H Q _ => ∃ (p : Addr) (ns : List Int), vs = [.ref p] ∧ H p = some (.lst (ns.map V.int)) ∧ ns.length ≤ 64 ∧ (∀ n ∈ ns, 0 ≤ n ∧ n ≤ 9) ∧ ∀ H', Ex H H' → Q (.str (wr "" ns)) H'
def b_written_bits (A : Ad) (W : WX) : TS := tRet (bJoin (tC (.str "")) (bCmpA (bVar 0) 1 (fun D => cmpTurn D (bStr (bVar 1)))))
theorem r_written_bits (A : Ad) : ∀ vs H Q E, P_written_bits A vs H Q E → vs.length = 1 ∧ b_written_bits A (wE E) (dE Q) (start ["bits", "bit"] vs) H := by
  rintro vs H Q E ⟨p, ns, rfl, hp, hl, hd, k⟩
  refine ⟨rfl, ?_⟩
  walk_at "go"
  rename_i D H2 x2 n2 h2
  refine CmpL.mk (fun i H3 => ExB D H2 H3 ∧ i ≤ ns.length ∧ H3 D = some (.lst (((ns.take i).map dg).map V.str))) ⟨(Ex.refl _).but _, Nat.zero_le _, h2⟩ ?_ ?_ ?_
  · rintro i H3 _ ⟨x3, _⟩
    exact .inl ((x2.over x3 n2) _ _ hp)
  · rintro i z H3 hx ⟨x3, hi, g3⟩
    obtain ⟨n, rfl, hn⟩ := map_get hx
    have hm := hd n (List.mem_of_getElem? hn)
    have hi2 : i < ns.length := (List.getElem?_eq_some_iff.mp hn).1
    have hsm : n.natAbs.log2 < 1920 := Nat.lt_of_lt_of_le (PySem.Flt.log2_lt_of (k := 4) (by decide) (by omega : n.natAbs < 2 ^ 4)) (by decide)
    have hl2 : (((ns.take i).map dg).map V.str).length < sizeLine := len_ok (by simp; omega)
    refine ⟨hsm, Get.mk _ g3 ⟨hl2, Put.mk fun H4 x4 g4 => ⟨x3.trans x4, hi2, ?_⟩⟩⟩
    rw [g4, List.take_succ, hn]
    simp
    rfl
  · rintro H3 ⟨x3, _, g3⟩
    rw [List.length_map, List.take_length] at g3
    refine Get.mk _ g3 ⟨ns.map dg, rfl, ?_, k H3 (x2.over x3 n2)⟩
    have e0 : (Str.ofString "").length = 0 := by decide
    rw [dg_sum hd, e0, List.length_map]
    omega
/-- a word's bits as a text (the law's way: '-' at width 0) -/
def bitsT (w : Nat) (x : Int) : Str := if w = 0 then "-" else wr "" (bitsL w x)
theorem bitsL_dig (w : Nat) (x : Int) : ∀ n ∈ bitsL w x, 0 ≤ n ∧ n ≤ 9 := by
  intro n hn
  unfold bitsL at hn
  obtain ⟨i, _, rfl⟩ := List.mem_map.mp hn
  rcases bitV_01 x i with e | e <;> omega
theorem bitsL_len (w : Nat) (x : Int) : (bitsL w x).length = w := by simp [bitsL]
def P_l_word_text (A : Ad) : Sp := fun vs H Q _ => ∃ (w x : Int), vs = [.int w, .int x] ∧ 0 ≤ w ∧ w ≤ 6 ∧ ∀ H', Ex H H' → Q (.str (bitsT w.toNat x)) H'
def b_l_word_text (A : Ad) (W : WX) : TS := tSeq (bIf (bTst (tOp (bEq A.K) (bVar 0) (tC (.int 0)))) (tRet (tC (.str "-"))) (tNext)) (tRet (bJoin (tC (.str "")) (bCmpR (bVar 0) 2 (fun D => cmpTurn D (bStr (tOp bBand (tOp bShr (bVar 1) (bVar 2)) (tC (.int 1))))))))
theorem r_l_word_text (A : Ad) : ∀ vs H Q E, P_l_word_text A vs H Q E → vs.length = 2 ∧ b_l_word_text A (wE E) (dE Q) (start ["wide", "here", "at"] vs) H := by
  rintro vs H Q E ⟨w, x, rfl, w0, w1, k⟩
  refine ⟨rfl, ?_⟩
  walk_at "go"
  walk_at "br"
  · rename_i hb
    subst hb
    exact k H (Ex.refl _)
  · rename_i hb
    have kk : ∀ H', Ex H H' → Q (.str (wr "" (bitsL w.toNat x))) H' := by
      intro H' hx
      have := k H' hx
      unfold bitsT at this
      rwa [if_neg (by omega)] at this
    refine ⟨⟨by omega, by omega⟩, ?_⟩
    refine Alloc.mk fun D H2 x2 n2 h2 => ?_
    refine CmpR.mk (fun i H3 => i ≤ w.toNat ∧ ExB D H2 H3 ∧ H3 D = some (.lst (((bitsL i x).map dg).map V.str))) ⟨Nat.zero_le _, (Ex.refl _).but _, h2⟩ ?_ ?_
    · rintro i H3 hi ⟨_, x3, g3⟩
      have hl : (((bitsL i x).map dg).map V.str).length < sizeLine := len_ok (by simp [bitsL]; omega)
      have ei : (0 + (i : Int)).toNat = i := by omega
      have hsm : (Builtin.bitAnd (x / 2 ^ (0 + (i : Int)).toNat) 1).natAbs.log2 < 1920 := by
        rw [ei, band1]
        rcases bitV_01 x i with e | e <;> rw [e] <;> decide
      walk_at "go"
      rename_i H4 x4 g4
      rw [ei, band1] at g4
      refine ⟨x3.trans x4, ?_⟩
      rw [g4]
      simp [bitsL, List.range_succ]
      rfl
    · rintro H3 ⟨_, x3, g3⟩
      refine Get.mk _ g3 ⟨(bitsL w.toNat x).map dg, rfl, ?_, kk H3 (x2.over x3 n2)⟩
      have e0 : (Str.ofString "").length = 0 := by decide
      rw [dg_sum (bitsL_dig _ _), e0, bitsL_len]
      omega
theorem wordDue_in {nm : String} {d1 d2 : Dt} (h : wordDue nm d1 d2 = none) : ∃ w x : Int, d1 = .int w ∧ d2 = .int x ∧ 0 ≤ w ∧ w ≤ 6 ∧ 0 ≤ x ∧ x < 2 ^ w.toNat := by
  unfold wordDue at h
  cases e1 : numF d1 (some 0) (some 6) with
  | some k => rw [e1] at h; cases h
  | none =>
    rw [e1] at h
    obtain ⟨w, rfl⟩ := num_int e1
    obtain ⟨w0, w1⟩ := num_in e1
    dsimp only at h
    cases e2 : numF d2 (some 0) (some (2 ^ w.toNat - 1)) with
    | some k => rw [e2] at h; cases h
    | none =>
      obtain ⟨x, rfl⟩ := num_int e2
      obtain ⟨x0, x1⟩ := num_in e2
      exact ⟨w, x, rfl, rfl, w0, w1, x0, by omega⟩
def P_format_word (A : Ad) : Sp := fun vs H Q E => ∃ (m : Addr) (d1 d2 : Dt) (v1 v2 : V), vs = [v1, v2] ∧ At m H d1 v1 ∧ At m H d2 v2 ∧ (∀ k n, wordDue "word" d1 d2 = some (k, n) → Raises A H E k (Str.ofString n)) ∧
  (wordDue "word" d1 d2 = none → ∀ w x : Int, d1 = .int w → d2 = .int x → ∀ H', Ex H H' → Q (.str (bitsT w.toNat x)) H')
def b_format_word (A : Ad) (W : WX) : TS := tSeq (tAsg (bCall (P_bits_of_word A) W (tCons (bVar 0) (tCons (bVar 1) (tNil)))) (gName 2)) (tSeq (bIf (bTst (tOp (bEq A.K) (bVar 0) (tC (.int 0)))) (tRet (tC (.str "-"))) (tNext)) (tRet (bCall (P_written_bits A) W (tCons (bVar 2) (tNil)))))
theorem r_format_word (A : Ad) : ∀ vs H Q E, P_format_word A vs H Q E → vs.length = 2 ∧ b_format_word A (wE E) (dE Q) (start ["width", "word", "bits"] vs) H := by
  rintro vs H Q E ⟨m, d1, d2, v1, v2, rfl, h1, h2, kr, k⟩
  refine ⟨rfl, ?_⟩
  refine ⟨m, d1, d2, v1, v2, rfl, h1, h2, kr, fun e w x ew ex w0 w1 x0 x1 p H1 y1 n1 g1 => ?_⟩
  replace k := k e w x ew ex
  subst ew; subst ex
  obtain rfl := at_int_inv h1
  walk_at "go"
  walk_at "br"
  · rename_i hb
    subst hb
    exact k H1 y1
  · rename_i hb
    refine nxt ?_
    try dsimp only
    refine ⟨p, bitsL w.toNat x, rfl, g1, by rw [bitsL_len]; omega, bitsL_dig _ _, fun H2 y2 => ?_⟩
    have := k H2 (y1.trans y2)
    unfold bitsT at this
    rwa [if_neg (by omega)] at this
/-- the places of a set, and their text -/
def plcL (w : Nat) (x : Int) : List Int := ((List.range w).filter fun i => bitV x i = 1).map fun i : Nat => (i : Int)
def setT (w : Nat) (x : Int) : Str := if plcL w x = [] then "-" else wr "," (plcL w x)
theorem plcL_dig {w : Nat} (x : Int) (h : w ≤ 10) : ∀ n ∈ plcL w x, 0 ≤ n ∧ n ≤ 9 := by
  intro n hn
  unfold plcL at hn
  obtain ⟨i, hi, rfl⟩ := List.mem_map.mp hn
  have := List.mem_range.mp (List.mem_filter.mp hi).1
  omega
theorem plcL_len (w : Nat) (x : Int) : (plcL w x).length ≤ w := by
  unfold plcL
  rw [List.length_map]
  have := List.length_filter_le (fun i => decide (bitV x i = 1)) (List.range w)
  simpa using this
theorem join_body {p : Addr} {ns : List Int} {H1 : Hp} {K : Hp → Prop} {D : Addr} {H2 : Hp} {σ : Sg} {j : Nat} (hp : H1 p = some (.lst (ns.map V.int))) (hl : ns.length ≤ 64) (hd : ∀ n ∈ ns, 0 ≤ n ∧ n ≤ 9) (x2 : Ex H1 H2) (n2 : H1 D = none) (h2 : H2 D = some (.lst []))
    (hσ : ∀ x H Q, bVar j (σ.set j (some x)) H Q = Q x H) (kk : ∀ H3, Ex H1 H3 → H3 D = some (.lst ((ns.map dg).map V.str)) → K H3) :
    CmpL (ns.map V.int) p (.lst (ns.map V.int)) (fun x H Nx => cmpTurn D (bStr (bVar j)) (σ.set j (some x)) H Nx) K H2 := by
  refine CmpL.mk (fun i H3 => ExB D H2 H3 ∧ i ≤ ns.length ∧ H3 D = some (.lst (((ns.take i).map dg).map V.str))) ⟨(Ex.refl _).but _, Nat.zero_le _, h2⟩ ?_ ?_ ?_
  · rintro i H3 _ ⟨x3, _⟩
    exact .inl ((x2.over x3 n2) _ _ hp)
  · rintro i z H3 hx ⟨x3, hi, g3⟩
    obtain ⟨n, rfl, hn⟩ := map_get hx
    have hm := hd n (List.mem_of_getElem? hn)
    have hi2 : i < ns.length := (List.getElem?_eq_some_iff.mp hn).1
    have hsm : n.natAbs.log2 < 1920 := Nat.lt_of_lt_of_le (PySem.Flt.log2_lt_of (k := 4) (by decide) (by omega : n.natAbs < 2 ^ 4)) (by decide)
    have hl2 : (((ns.take i).map dg).map V.str).length < sizeLine := len_ok (by simp; omega)
    unfold cmpTurn bStr
    rw [hσ]
    refine ⟨hsm, Get.mk _ g3 ⟨hl2, Put.mk fun H4 x4 g4 => ⟨x3.trans x4, hi2, ?_⟩⟩⟩
    rw [g4, List.take_succ, hn]
    simp
    rfl
  · rintro H3 ⟨x3, _, g3⟩
    rw [List.length_map, List.take_length] at g3
    exact kk H3 (x2.over x3 n2) g3
def P_l_set_text (A : Ad) : Sp := fun vs H Q _ => ∃ (w x : Int), vs = [.int w, .int x] ∧ 0 ≤ w ∧ w ≤ 6 ∧ 0 ≤ x ∧ x < 2 ^ w.toNat ∧ ∀ H', Ex H H' → Q (.str (setT w.toNat x)) H'
def b_l_set_text (A : Ad) (W : WX) : TS := tSeq (bIf (bTst (tOp (bEq A.K) (bVar 1) (tC (.int 0)))) (tRet (tC (.str "-"))) (tNext)) (tRet (bJoin (tC (.str ",")) (bCmpA (bCall (P_l_places A) W (tCons (bVar 0) (tCons (bVar 1) (tNil)))) 2 (fun D => cmpTurn D (bStr (bVar 2))))))
theorem comma_len : (Str.ofString ",").length = 1 := by decide
theorem plc_zero (w : Nat) : plcL w 0 = [] := by
  unfold plcL bitV
  simp
theorem bits_zero : ∀ {w : Nat} {x : Int}, 0 ≤ x → x < 2 ^ w → (∀ i, i < w → bitV x i = 0) → x = 0
  | 0, x, h0, h1, _ => by simp at h1; omega
  | w + 1, x, h0, h1, h => by
    have hb := h w (by omega)
    unfold bitV at hb
    have p := pw_pos w
    have e : (2 : Int) ^ (w + 1) = 2 * 2 ^ w := by rw [Int.pow_succ, Int.mul_comm]
    have hq : x / 2 ^ w < 2 := Int.ediv_lt_of_lt_mul p (by omega)
    have hq0 : 0 ≤ x / 2 ^ w := Int.ediv_nonneg h0 (by omega)
    have hz : x / 2 ^ w = 0 := by omega
    have hx : x < 2 ^ w := by
      have := Int.mul_ediv_add_emod x (2 ^ w)
      have hm := Int.emod_lt_of_pos x p
      rw [hz] at this
      omega
    exact bits_zero h0 hx fun i hi => h i (by omega)
theorem plc_ne {w : Nat} {x : Int} (h0 : 0 ≤ x) (h1 : x < 2 ^ w) (hx : x ≠ 0) : plcL w x ≠ [] := by
  intro e
  apply hx
  refine bits_zero h0 h1 fun i hi => ?_
  rcases bitV_01 x i with b | b
  · exact b
  · exfalso
    unfold plcL at e
    have e2 := List.map_eq_nil_iff.mp e
    have : i ∈ (List.range w).filter fun i => bitV x i = 1 := List.mem_filter.mpr ⟨List.mem_range.mpr hi, by simpa using b⟩
    rw [e2] at this
    cases this
theorem r_l_set_text (A : Ad) : ∀ vs H Q E, P_l_set_text A vs H Q E → vs.length = 2 ∧ b_l_set_text A (wE E) (dE Q) (start ["wide", "mask", "at"] vs) H := by
  rintro vs H Q E ⟨w, x, rfl, w0, w1, x0, x1, k⟩
  refine ⟨rfl, ?_⟩
  walk_at "br"
  · rename_i hb
    subst hb
    have := k H (Ex.refl _)
    unfold setT at this
    rwa [if_pos (plc_zero _)] at this
  · rename_i hb
    have ne := plc_ne x0 x1 hb
    refine nxt ?_
    try dsimp only
    refine ⟨w, x, rfl, w0, by omega, fun p H1 y1 n1 g1 => ?_⟩
    refine Get.mk _ g1 (Alloc.mk fun D H2 x2 n2 h2 => ?_)
    refine join_body (ns := plcL w.toNat x) (j := 2) g1 (by have := plcL_len w.toNat x; omega) (plcL_dig x (by omega)) x2 n2 h2 (fun _ _ _ => rfl) fun H3 x3 g3 => ?_
    refine Get.mk _ g3 ⟨(plcL w.toNat x).map dg, rfl, ?_, ?_⟩
    · have := plcL_len w.toNat x
      rw [dg_sum (plcL_dig x (by omega)), comma_len, List.length_map]
      omega
    · have := k H3 (y1.trans x3)
      unfold setT at this
      rwa [if_neg ne] at this
def P_format_set (A : Ad) : Sp := fun vs H Q E => ∃ (m : Addr) (d1 d2 : Dt) (v1 v2 : V), vs = [v1, v2] ∧ At m H d1 v1 ∧ At m H d2 v2 ∧ (∀ k n, wordDue "chosen" d1 d2 = some (k, n) → Raises A H E k (Str.ofString n)) ∧
  (wordDue "chosen" d1 d2 = none → ∀ w x : Int, d1 = .int w → d2 = .int x → ∀ H', Ex H H' → Q (.str (setT w.toNat x)) H')
def b_format_set (A : Ad) (W : WX) : TS := tSeq (tAsg (bCall (P_places_of_set A) W (tCons (bVar 0) (tCons (bVar 1) (tNil)))) (gName 2)) (tSeq (bIf (tNot (bTru (bVar 2))) (tRet (tC (.str "-"))) (tNext)) (tRet (bJoin (tC (.str ",")) (bCmpA (bVar 2) 3 (fun D => cmpTurn D (bStr (bVar 3)))))))
theorem r_format_set (A : Ad) : ∀ vs H Q E, P_format_set A vs H Q E → vs.length = 2 ∧ b_format_set A (wE E) (dE Q) (start ["width", "chosen", "places", "place"] vs) H := by
  rintro vs H Q E ⟨m, d1, d2, v1, v2, rfl, h1, h2, kr, k⟩
  refine ⟨rfl, ?_⟩
  refine ⟨m, d1, d2, v1, v2, rfl, h1, h2, kr, fun e w x ew ex w0 w1 x0 x1 p H1 y1 n1 g1 => ?_⟩
  replace k := k e w x ew ex
  replace g1 : H1 p = some (.lst ((plcL w.toNat x).map V.int)) := g1
  walk_at "go"
  refine ⟨fun hb => ?_, fun hb => ?_⟩
  · have e0 : plcL w.toNat x = [] := by simpa using hb
    have := k H1 y1
    unfold setT at this
    rwa [if_pos e0] at this
  · have ne : plcL w.toNat x ≠ [] := by simpa using hb
    refine nxt ?_
    try dsimp only
    refine Get.mk _ g1 (Alloc.mk fun D H2 x2 n2 h2' => ?_)
    refine join_body (ns := plcL w.toNat x) (j := 3) g1 (by have := plcL_len w.toNat x; omega) (plcL_dig x (by omega)) x2 n2 h2' (fun _ _ _ => rfl) fun H3 x3 g3 => ?_
    refine Get.mk _ g3 ⟨(plcL w.toNat x).map dg, rfl, ?_, ?_⟩
    · have := plcL_len w.toNat x
      rw [dg_sum (plcL_dig x (by omega)), comma_len, List.length_map]
      omega
    · have := k H3 (y1.trans x3)
      unfold setT at this
      rwa [if_neg ne] at this
theorem isR_one {t b p q p' q' : Int} (hb : b ≠ 0) (h : IsR t b p q) (h' : IsR t b p' q') : p = p' ∧ q = q' := by
  obtain ⟨e, q1, g, _, _⟩ := h
  obtain ⟨e', q1', g', _, _⟩ := h'
  have c : p * q' = p' * q := by
    have h1 : p * q' * b = p' * q * b := by
      calc p * q' * b = (p * b) * q' := by ac_rfl
        _ = t * q * q' := by rw [e]
        _ = (t * q') * q := by ac_rfl
        _ = (p' * b) * q := by rw [e']
        _ = p' * q * b := by ac_rfl
    exact Int.mul_eq_mul_right_iff hb |>.mp h1
  have cn : p.natAbs * q'.natAbs = p'.natAbs * q.natAbs := by rw [← Int.natAbs_mul, ← Int.natAbs_mul, c]
  have d1 : q.natAbs ∣ q'.natAbs := by
    have : q.natAbs ∣ p.natAbs * q'.natAbs := ⟨p'.natAbs, by rw [cn, Nat.mul_comm]⟩
    exact (Nat.Coprime.symm g).dvd_of_dvd_mul_left this
  have d2 : q'.natAbs ∣ q.natAbs := by
    have : q'.natAbs ∣ p'.natAbs * q.natAbs := ⟨p.natAbs, by rw [← cn, Nat.mul_comm]⟩
    exact (Nat.Coprime.symm g').dvd_of_dvd_mul_left this
  have eq : q = q' := by
    have := Nat.dvd_antisymm d1 d2
    omega
  subst eq
  exact ⟨Int.mul_eq_mul_right_iff (by omega) |>.mp c, rfl⟩
theorem fdiv_neg_of {x g q : Int} (hg : g ≠ 0) (hd : g ∣ x) (e : q = x.fdiv g) : x.fdiv (-g) = 0 - q := by
  obtain ⟨c, rfl⟩ := hd
  rw [Int.mul_fdiv_cancel_left c hg] at e
  subst e
  have : g * q = (-g) * (-q) := by rw [Int.neg_mul_neg]
  rw [this, Int.mul_fdiv_cancel_left (-q) (by omega)]
  omega
def P_l_lowest (A : Ad) : Sp := fun vs H Q _ => ∃ (m : Addr) (t b : Int), vs = [.int t, .int b] ∧ H m ≠ none ∧ b ≠ 0 ∧ t.natAbs < 2 ^ 8980 ∧ b.natAbs < 2 ^ 8980 ∧ ∀ (p q : Int) (v : V) H', Ex H H' → At m H' (.tup [.int p, .int q]) v → IsR t b p q → Q v H'
def b_l_lowest (A : Ad) (W : WX) : TS := tSeq (tAsg (bAbs (bVar 0)) (gName 2)) (tSeq (tAsg (bAbs (bVar 1)) (gName 3)) (tSeq (bForR (tOp bAdd (tOp bMul (tC (.int 2)) (bBits (bVar 3))) (tC (.int 3))) (gName 4) (tSeq (bIf (bTst (tOp (bEq A.K) (bVar 3) (tC (.int 0)))) (tBreak) (tNext)) (tSeq (tAsg (tOp bMod (bInt (bVar 2)) (bVar 3)) (gName 5)) (tSeq (tAsg (bVar 3) (gName 2)) (tAsg (bVar 5) (gName 3)))))) (tSeq (bIf (bTst (tOp (bLt) (bVar 1) (tC (.int 0)))) (tRet (bTup (tCons (tOp bSub (tC (.int 0)) (tOp bFdv (bVar 0) (bVar 2))) (tCons (tOp bSub (tC (.int 0)) (tOp bFdv (bVar 1) (bVar 2))) (tNil))))) (tNext)) (tRet (bTup (tCons (tOp bFdv (bVar 0) (bVar 2)) (tCons (tOp bFdv (bVar 1) (bVar 2)) (tNil))))))))
theorem r_l_lowest (A : Ad) : ∀ vs H Q E, P_l_lowest A vs H Q E → vs.length = 2 ∧ b_l_lowest A (wE E) (dE Q) (start ["top", "low", "one", "two", "k", "rest"] vs) H := by
  rintro vs H Q E ⟨m, x, y, rfl, hm, hy0, hx, hy, k⟩
  refine ⟨rfl, ?_⟩
  have hx9 : x.natAbs < 2 ^ 8990 := sm_lt hx (by decide)
  have hy9 : y.natAbs < 2 ^ 8990 := sm_lt hy (by decide)
  walk_at "go"
  have sy : Sz ((y.natAbs : Nat) : Int) := Sz.of 8990 (by simpa using hy9) (by decide) (by decide)
  have hn := bits_sz sy
  have hbl := bits_lt ((y.natAbs : Nat) : Int)
  generalize hN : Builtin.Int.intBits ((y.natAbs : Nat) : Int) = n at hn hbl
  rw [Int.natAbs_natCast] at hbl
  refine ⟨⟨by omega, by omega⟩, ?_⟩
  have fin : ∀ (o1 o2 : Option V) (z : V), tSeq (bIf (bTst (tOp (bLt) (bVar 1) (tC (.int 0)))) (tRet (bTup (tCons (tOp bSub (tC (.int 0)) (tOp bFdv (bVar 0) (bVar 2))) (tCons (tOp bSub (tC (.int 0)) (tOp bFdv (bVar 1) (bVar 2))) (tNil))))) (tNext)) (tRet (bTup (tCons (tOp bFdv (bVar 0) (bVar 2)) (tCons (tOp bFdv (bVar 1) (bVar 2)) (tNil)))))
      (dE Q) [some (.int x), some (.int y), some (.int ((Nat.gcd x.natAbs y.natAbs : Nat) : Int)), some z, o1, o2] H := by
    intro o1 o2 z
    have gp : 0 < Nat.gcd x.natAbs y.natAbs := Nat.gcd_pos_of_pos_right _ (Int.natAbs_pos.mpr hy0)
    have gl : Nat.gcd x.natAbs y.natAbs ≤ y.natAbs := Nat.le_of_dvd (Int.natAbs_pos.mpr hy0) (Nat.gcd_dvd_right _ _)
    have gz : Sz ((Nat.gcd x.natAbs y.natAbs : Nat) : Int) := Sz.of 8980 (by rw [Int.natAbs_natCast]; omega) (by decide) (by decide)
    have g0 : ((Nat.gcd x.natAbs y.natAbs : Nat) : Int) ≠ 0 := by omega
    walk_at "br"
    · rename_i hb
      obtain ⟨_, _, R⟩ := ratio_is hy0 (t := x) (g := -((Nat.gcd x.natAbs y.natAbs : Nat) : Int)) (by rw [if_pos hb])
      refine ⟨⟨g0, gz⟩, fun q1 e1 _ => ?_⟩
      refine ⟨⟨g0, gz⟩, fun q2 e2 _ => ?_⟩
      refine Alloc.mk fun p H' x1 n1 h1 => ?_
      have s1 : x.fdiv (-((Nat.gcd x.natAbs y.natAbs : Nat) : Int)) = 0 - q1 := fdiv_neg_of g0 (Int.natAbs_dvd_natAbs.mp (by rw [Int.natAbs_natCast]; exact Nat.gcd_dvd_left _ _)) e1
      have s2 : y.fdiv (-((Nat.gcd x.natAbs y.natAbs : Nat) : Int)) = 0 - q2 := fdiv_neg_of g0 (Int.natAbs_dvd_natAbs.mp (by rw [Int.natAbs_natCast]; exact Nat.gcd_dvd_right _ _)) e2
      rw [s1, s2] at R
      exact k _ _ _ H' x1 (.tup (new_ne hm n1) h1 (.cons (.int _) (.cons (.int _) .nil))) R
    · rename_i hb
      refine nxt ?_
      try dsimp only
      obtain ⟨_, _, R⟩ := ratio_is hy0 (t := x) (g := ((Nat.gcd x.natAbs y.natAbs : Nat) : Int)) (by rw [if_neg hb])
      refine ⟨⟨g0, gz⟩, fun q1 e1 _ => ?_⟩
      refine ⟨⟨g0, gz⟩, fun q2 e2 _ => ?_⟩
      subst e1; subst e2
      refine Alloc.mk fun p H' x1 n1 h1 => ?_
      exact k _ _ _ H' x1 (.tup (new_ne hm n1) h1 (.cons (.int _) (.cons (.int _) .nil))) R
  refine LoopR.mk (fun i σ H' => H' = H ∧ ∃ (a b : Nat) (o1 o2 : Option V), σ = [some (.int x), some (.int y), some (.int a), some (.int b), o1, o2] ∧ Nat.gcd a b = Nat.gcd x.natAbs y.natAbs ∧ a < 2 ^ 8990 ∧ b < 2 ^ 8990 ∧ (i = 0 → b = y.natAbs) ∧ (1 ≤ i → b < a ∧ a * b * 2 ^ (i - 1) < 2 ^ (2 * n)))
    ⟨rfl, _, _, _, _, rfl, rfl, hx9, hy9, fun _ => rfl, fun z => absurd z (by decide)⟩ ?_ ?_
  · rintro i σ H' hi ⟨rfl, a, b, o1, o2, rfl, hg, ha, hb, i0, i1⟩
    walk_at "go"
    walk_at "br"
    · rename_i hz
      obtain rfl : b = 0 := by omega
      rw [Nat.gcd_zero_right] at hg
      subst hg
      exact fin _ _ _
    · rename_i hz
      have bp : 0 < b := by omega
      have sb : Sz (b : Int) := Sz.of 8990 (by simpa using hb) (by decide) (by decide)
      walk_at "go"
      rename_i r er hr
      have er2 : r = ((a % b : Nat) : Int) := by
        rw [er, Int.fmod_eq_emod_of_nonneg _ (by omega)]
        rfl
      subst er2
      have ml := Nat.mod_lt a bp
      refine ⟨rfl, b, a % b, _, _, rfl, by rw [← hg, Nat.gcd_comm a b, Nat.gcd_rec b a, Nat.gcd_comm], hb, by omega, fun z => absurd z (by omega), fun _ => ⟨ml, ?_⟩⟩
      by_cases e : i = 0
      · subst e
        rw [i0 rfl] at ml bp ⊢
        have h1 : y.natAbs * (a % y.natAbs) < 2 ^ n * 2 ^ n := Nat.mul_lt_mul_of_lt_of_le hbl (by omega) (Nat.pow_pos (by decide))
        rw [← Nat.pow_add] at h1
        simpa [Nat.two_mul] using h1
      · obtain ⟨j, rfl⟩ : ∃ j, i = j + 1 := ⟨i - 1, by omega⟩
        obtain ⟨l, h⟩ := i1 (by omega)
        have := half_prod bp l h
        rw [Nat.add_sub_cancel] at this ⊢
        rw [pow2s]
        exact this
  · rintro σ H' ⟨rfl, a, b, o1, o2, rfl, hg, ha, hb, i0, i1⟩
    have en : (2 * ((n : Nat) : Int) + 3).toNat = 2 * n + 3 := by omega
    obtain ⟨l, h⟩ := i1 (by omega)
    have hb0 : b = 0 := by
      rw [en] at h
      have e2 : 2 * n + 3 - 1 = 2 * n + 2 := rfl
      rw [e2, Nat.pow_add] at h
      apply Classical.byContradiction
      intro hb0
      have : 1 ≤ a * b := Nat.mul_pos (by omega) (by omega)
      have h3 : 1 * (2 ^ (2 * n) * 2 ^ 2) ≤ a * b * (2 ^ (2 * n) * 2 ^ 2) := Nat.mul_le_mul_right _ this
      omega
    subst hb0
    rw [Nat.gcd_zero_right] at hg
    subst hg
    exact fin _ _ _
open TL
theorem tl_dg {i : Int} (h0 : 0 ≤ i) (h1 : i ≤ 9) : tl (dg i) = [48 + i.toNat] := by
  obtain rfl | rfl | rfl | rfl | rfl | rfl | rfl | rfl | rfl | rfl : i = 0 ∨ i = 1 ∨ i = 2 ∨ i = 3 ∨ i = 4 ∨ i = 5 ∨ i = 6 ∨ i = 7 ∨ i = 8 ∨ i = 9 := by omega
  all_goals decide
theorem joinL_nil : ∀ {ps : List (List Nat)}, joinL [] ps = ps.flatten
  | [] => rfl
  | [p] => by simp [joinL]
  | p :: q :: r => by
    have ih := joinL_nil (ps := q :: r)
    rw [joinL, ih]
    simp
theorem tl_wr0 {ns : List Int} (h : ∀ n ∈ ns, 0 ≤ n ∧ n ≤ 9) : tl (wr "" ns) = ns.map fun n => 48 + n.toNat := by
  have e : tl (wr "" ns) = joinL (tl "") ((ns.map dg).map tl) := by
    unfold wr
    rw [join_eq]
    exact tl_join _ _
  rw [e]
  have e0 : tl "" = [] := by decide
  rw [e0, joinL_nil]
  clear e
  induction ns with
  | nil => rfl
  | cons n ns ih =>
    have h1 := h n List.mem_cons_self
    simp only [List.map_cons, List.flatten_cons]
    rw [tl_dg h1.1 h1.2, ih fun m hm => h m (List.mem_cons_of_mem _ hm)]
    rfl
open TL
/-- the digit that stands at i, -1 where none does -/
def digV (s : Str) (i : Nat) : Int := match (tl s)[i]? with
  | none => -1
  | some c => Txt.find "0123456789" ⟨#[c]⟩
theorem dig_of {n : Nat} (h : n ≤ 9) : Txt.find "0123456789" ⟨#[48 + n]⟩ = (n : Int) := by
  obtain rfl | rfl | rfl | rfl | rfl | rfl | rfl | rfl | rfl | rfl : n = 0 ∨ n = 1 ∨ n = 2 ∨ n = 3 ∨ n = 4 ∨ n = 5 ∨ n = 6 ∨ n = 7 ∨ n = 8 ∨ n = 9 := by omega
  all_goals decide +kernel
theorem dig_comma : Txt.find "0123456789" ⟨#[44]⟩ = -1 := by decide +kernel
theorem dig_slash : Txt.find "0123456789" ⟨#[47]⟩ = -1 := by decide +kernel
def P_digit_at (A : Ad) : Sp := fun vs H Q _ => ∃ (s : Str) (i : Nat), vs = [.str s, .int i] ∧ s.length ≤ 100000 ∧ Q (.int (digV s i)) H
def b_digit_at (A : Ad) (W : WX) : TS := tSeq (bIf (bTst (tOp (bGe) (bVar 1) (bLen (bVar 0)))) (tRet (tUn bNeg (tC (.int 1)))) (tNext)) (tRet (bFind (tC (.str "0123456789")) (tOp bIx (bVar 0) (bVar 1))))
theorem len5 {n : Nat} (h : n ≤ 100000) : n ≤ sizeLine := Nat.le_trans h (by decide)
theorem r_digit_at (A : Ad) : ∀ vs H Q E, P_digit_at A vs H Q E → vs.length = 2 ∧ b_digit_at A (wE E) (dE Q) (start ["text", "position"] vs) H := by
  rintro vs H Q E ⟨s, i, rfl, hl, k⟩
  refine ⟨rfl, ?_⟩
  have hz := len5 hl
  have e := len_tl s
  walk_at "go"
  walk_at "br"
  · rename_i hb
    have e2 : (tl s)[i]? = none := List.getElem?_eq_none (by omega)
    unfold digV at k
    rw [e2] at k
    exact k
  · rename_i hb
    have hi : i < (tl s).length := by omega
    have e2 : (tl s)[i]? = some ((tl s)[i]) := List.getElem?_eq_getElem hi
    unfold digV at k
    rw [e2] at k
    refine nxt ?_
    try dsimp only
    refine ⟨hz, AtI.mk _ (atI_nat e2) ?_⟩
    exact k
open TL
/-- what the bits of a row are worth, each at its place -/
def worth (ns : List Int) (k : Nat) : List Int := (List.range k).map fun j => ns.getD j 0 * 2 ^ j
theorem worth_bits {x : Int} {w : Nat} (h0 : 0 ≤ x) : ∀ k, k ≤ w → (worth (bitsL w x) k).sum = x % 2 ^ k
  | 0, _ => by simp [worth]
  | k + 1, hk => by
    have ih := worth_bits (x := x) (w := w) h0 k (by omega)
    have e : worth (bitsL w x) (k + 1) = worth (bitsL w x) k ++ [bitV x k * 2 ^ k] := by
      unfold worth
      rw [List.range_succ, List.map_append]
      congr 1
      simp only [bitsL, List.getD, List.getElem?_map, List.map_cons, List.map_nil]
      rw [List.getElem?_range (by omega : k < w)]
      rfl
    rw [e, List.sum_append, ih]
    simp only [List.sum_cons, List.sum_nil, Int.add_zero]
    unfold bitV
    have p : (0 : Int) < 2 ^ k := pw_pos k
    have e2 : (2 : Int) ^ (k + 1) = 2 ^ k * 2 := Int.pow_succ _ _
    have d1 := Int.mul_ediv_add_emod x (2 ^ k)
    have r0 := Int.emod_nonneg x (by omega : (2 : Int) ^ k ≠ 0)
    have r1 := Int.emod_lt_of_pos x p
    generalize hq : x / 2 ^ k = q at d1 ⊢
    generalize hr : x % 2 ^ k = r at d1 r0 r1 ⊢
    generalize (2 : Int) ^ k = P at *
    have dq := Int.mul_ediv_add_emod q 2
    have c : q % 2 = 0 ∨ q % 2 = 1 := by omega
    have ex : x = (r + q % 2 * P) + (P * 2) * (q / 2) := by
      rw [← d1]
      have : P * q = P * (2 * (q / 2) + q % 2) := by rw [dq]
      rw [this, Int.mul_add, Int.mul_comm (q % 2) P, Int.mul_assoc P 2]
      omega
    rw [e2]
    conv => rhs; rw [ex, Int.add_mul_emod_self_left]
    rw [Int.emod_eq_of_lt (a := r + q % 2 * P) (b := P * 2)]
    · rcases c with c | c <;> rw [c] <;> omega
    · rcases c with c | c <;> rw [c] <;> omega
def P_word_of_bits (A : Ad) : Sp := fun vs H Q _ => ∃ (p m : Addr) (ns : List Int), vs = [.ref p] ∧ p ≠ m ∧ H p = some (.lst (ns.map V.int)) ∧ ns.length ≤ 6 ∧ (∀ n ∈ ns, n = 0 ∨ n = 1) ∧ ∀ H', Ex H H' → Q (.int (worth ns ns.length).sum) H'
def b_word_of_bits (A : Ad) (W : WX) : TS := tSeq (tDrop (bCall (P_check_bits A) W (tCons (bVar 0) (tCons (tC (.int 0)) (tCons (tC (.int 6)) (tCons (tC (.str "bits")) (tNil))))))) (tRet (bSum (bCmpE (bVar 0) 1 2 (fun D => cmpTurn D (tOp bShl (bVar 2) (bVar 1))))))
theorem bits_fine {ns : List Int} (hl : ns.length ≤ 6) (hb : ∀ n ∈ ns, n = 0 ∨ n = 1) : bitsF (.lst (ns.map Dt.int)) 0 6 = none := by
  have r : rowF (.lst (ns.map Dt.int)) 0 6 = none := if_neg (by rw [List.length_map]; omega)
  rw [bitsF_in r]
  refine firstN_all fun j f hj => ?_
  show f = none
  have : ((ns.map Dt.int).map bitF)[j]? = some f := hj
  rw [List.map_map, List.getElem?_map] at this
  cases e : ns[j]? with
  | none => rw [e] at this; cases this
  | some n =>
    rw [e] at this
    cases this
    rcases hb n (List.mem_of_getElem? e) with rfl | rfl <;> rfl
theorem r_word_of_bits (A : Ad) : ∀ vs H Q E, P_word_of_bits A vs H Q E → vs.length = 1 ∧ b_word_of_bits A (wE E) (dE Q) (start ["bits", "place", "bit"] vs) H := by
  rintro vs H Q E ⟨p, m, ns, rfl, pm, hp, hl, hb, k⟩
  refine ⟨rfl, ?_⟩
  have f0 := bits_fine hl hb
  refine ⟨m, .lst (ns.map Dt.int), _, 0, 6, _, rfl, .lst pm hp atl_ints, fun _ H1 x1 => ?_, fun k e => by rw [f0] at e; cases e⟩
  have hp1 := x1 _ _ hp
  refine Get.mk _ hp1 (Alloc.mk fun D H2 x2 n2 h2 => ?_)
  have fin : ∀ H3, Ex H1 H3 → H3 D = some (.lst ((worth ns ns.length).map V.int)) → (bSum (bCmpE (bVar 0) 1 2 fun D => cmpTurn D (tOp bShl (bVar 2) (bVar 1)))) [] H3 (fun _ _ => True) → True := fun _ _ _ _ => trivial
  refine CmpE.mk (fun i H3 => ExB D H2 H3 ∧ i ≤ ns.length ∧ H3 D = some (.lst ((worth ns i).map V.int))) ⟨(Ex.refl _).but _, Nat.zero_le _, h2⟩ ?_ ?_ ?_
  · rintro i H3 _ ⟨x3, _⟩
    exact .inl ((x2.over x3 n2) _ _ hp1)
  · rintro i z H3 hx ⟨x3, hi, g3⟩
    obtain ⟨n, rfl, hn⟩ := map_get hx
    have hi2 : i < ns.length := (List.getElem?_eq_some_iff.mp hn).1
    have hm := hb n (List.mem_of_getElem? hn)
    refine Alloc.mk fun T H4 x4 n4 h4 => ?_
    have hl2 : ((worth ns i).map V.int).length < sizeLine := len_ok (by simp [worth]; omega)
    refine ⟨shl1 (by omega) (by omega) (by omega), ?_⟩
    refine Get.mk _ (x4 _ _ g3) ⟨hl2, Put.mk fun H5 x5 g5 => ⟨x3.trans ((x4.but D).trans x5), hi2, ?_⟩⟩
    rw [g5]
    have e : worth ns (i + 1) = worth ns i ++ [n * 2 ^ i] := by
      unfold worth
      rw [List.range_succ, List.map_append]
      congr 1
      simp [List.getD, hn]
    rw [e]
    simp
  · rintro H3 ⟨x3, _, g3⟩
    rw [List.length_map] at g3
    exact Get.mk _ g3 ⟨worth ns ns.length, rfl, k H3 (x1.trans (x2.over x3 n2))⟩
open TL
def P_check_text (A : Ad) : Sp := fun vs H Q _ => ∃ (s n : Str), vs = [.str s, .str n] ∧ s.length ≤ 200 ∧ Q .non H
def b_check_text (A : Ad) (W : WX) : TS := tSeq (bIf (tNot (bTru (bIsi .str (bVar 0)))) (bRaise A.WrongKind "argument" W (bVar 1)) (tNext)) (bIf (bTst (tOp (bGt) (bLen (bVar 0)) (tC (.int 200)))) (bRaise A.WrongSize "argument" W (bVar 1)) (tNext))
theorem r_check_text (A : Ad) : ∀ vs H Q E, P_check_text A vs H Q E → vs.length = 2 ∧ b_check_text A (wE E) (dE Q) (start ["text", "argument"] vs) H := by
  rintro vs H Q E ⟨s, n, rfl, hl, k⟩
  refine ⟨rfl, ?_⟩
  have hz := len5 (by omega : s.length ≤ 100000)
  walk_at "all"
  · omega
  · exact k
theorem tl_inj {s t : Str} (h : tl s = tl t) : s = t := by
  cases s; cases t
  simp only [tl, Array.toList_inj] at h
  rw [h]
theorem tl_cut1 (s : Str) : tl (cutS s none (some 1)) = (tl s).take 1 := by
  unfold cutS tl
  cases e : s.cps.toList with
  | nil => simp
  | cons a r =>
    have hl : s.length = r.length + 1 := by rw [len_tl]; simp [tl, e]
    have e1 : HT.sIx s.length 0 none = 0 := rfl
    have e2 : HT.sIx s.length s.length (some 1) = 1 := by
      rw [hl]
      unfold HT.sIx
      simp
      try omega
    rw [e1, e2]
    rfl
def P_lone_hyphen (A : Ad) : Sp := fun vs H Q _ => ∃ (s : Str), vs = [.str s] ∧ s.length ≤ 200 ∧ ((tl s).head? ≠ some 45 ∧ Q (.bl false) H ∨ s = "-" ∧ Q (.bl true) H)
def b_lone_hyphen (A : Ad) (W : WX) : TS := tSeq (bIf (bTst (tOp (bNe A.K) (bSl (bVar 0) bNoPart (bPart (tC (.int 1)))) (tC (.str "-")))) (tRet (tC (.bl false))) (tNext)) (tSeq (bIf (bTst (tOp (bGt) (bLen (bVar 0)) (tC (.int 1)))) (bRaise A.BadText "position" W (tC (.int 1))) (tNext)) (tRet (tC (.bl true))))
theorem tl_hy : tl (Str.ofString "-") = [45] := by decide
theorem r_lone_hyphen (A : Ad) : ∀ vs H Q E, P_lone_hyphen A vs H Q E → vs.length = 1 ∧ b_lone_hyphen A (wE E) (dE Q) (start ["text"] vs) H := by
  rintro vs H Q E ⟨s, rfl, hl, k⟩
  refine ⟨rfl, ?_⟩
  have hz := len5 (by omega : s.length ≤ 100000)
  refine ⟨hz, ?_⟩
  refine ⟨fun hb => ?_, fun hb => ?_⟩
  · rcases k with ⟨h, k⟩ | ⟨rfl, k⟩
    · exact k
    · exfalso
      have : cutS (Str.ofString "-") none (some 1) = Str.ofString "-" := tl_inj (by rw [tl_cut1, tl_hy]; rfl)
      simp [this] at hb
  · rcases k with ⟨h, k⟩ | ⟨rfl, k⟩
    · exfalso
      have e : cutS s none (some 1) = Str.ofString "-" := by simpa using hb
      have e2 : (tl s).take 1 = [45] := by rw [← tl_cut1, e, tl_hy]
      cases e3 : tl s with
      | nil => rw [e3] at e2; cases e2
      | cons a r =>
        rw [e3] at e2 h
        simp at e2 h
        exact h e2
    · walk_at "all"
      exact k
open TL
theorem bitsT_tl {w : Nat} (h : w ≠ 0) (x : Int) : tl (bitsT w x) = (bitsL w x).map fun n => 48 + n.toNat := by
  unfold bitsT
  rw [if_neg h]
  exact tl_wr0 (bitsL_dig w x)
theorem bitsT_len {w : Nat} (h : w ≠ 0) (x : Int) : (bitsT w x).length = w := by
  rw [len_tl, bitsT_tl h, List.length_map, bitsL_len]
theorem bitsT_dig {w i : Nat} (hi : i < w) (x : Int) : digV (bitsT w x) i = bitV x i := by
  have e : (tl (bitsT w x))[i]? = some (48 + (bitV x i).toNat) := by
    rw [bitsT_tl (by omega), List.getElem?_map]
    unfold bitsL
    rw [List.getElem?_map, List.getElem?_range hi]
    rfl
  unfold digV
  rw [e]
  have c := bitV_01 x i
  have := dig_of (n := (bitV x i).toNat) (by omega)
  refine this.trans ?_
  omega
theorem bitsT_head {w : Nat} (h : w ≠ 0) (x : Int) : (tl (bitsT w x)).head? ≠ some 45 := by
  rw [bitsT_tl h]
  obtain ⟨k, rfl⟩ : ∃ k, w = k + 1 := ⟨w - 1, by omega⟩
  unfold bitsL
  rw [List.range_succ_eq_map]
  simp
  omega
def P_parse_word (A : Ad) : Sp := fun vs H Q _ => ∃ (m : Addr) (w : Nat) (x : Int), vs = [.str (bitsT w x)] ∧ H m ≠ none ∧ w ≤ 6 ∧ 0 ≤ x ∧ x < 2 ^ w ∧ ∀ v H', Ex H H' → At m H' (.tup [.int w, .int x]) v → Q v H'
def b_parse_word (A : Ad) (W : WX) : TS := tSeq (tDrop (bCall (P_check_text A) W (tCons (bVar 0) (tCons (tC (.str "text")) (tNil))))) (tSeq (bIf (bTru (bCall (P_lone_hyphen A) W (tCons (bVar 0) (tNil)))) (tRet (bTup (tCons (tC (.int 0)) (tCons (tC (.int 0)) (tNil))))) (tNext)) (tSeq (bIf (bTst (tOp (bEq A.K) (bVar 0) (tC (.str "")))) (bRaise A.BadText "position" W (tC (.int 0))) (tNext)) (tSeq (tAsg (bCmpR (bLen (bVar 0)) 2 (fun D => cmpTurn D (bCall (P_digit_at A) (fun _ _ _ _ => False) (tCons (bVar 0) (tCons (bVar 2) (tNil)))))) (gName 1)) (tSeq (bForE (bVar 1) 2 3 (bIf (bOr (bTst (tOp (bIn true) (bVar 3) (bTup (tCons (tC (.int 0)) (tCons (tC (.int 1)) (tNil)))))) (bTst (tOp (bEq A.K) (bVar 2) (tC (.int 6))))) (bRaise A.BadText "position" W (bVar 2)) (tNext))) (tRet (bTup (tCons (bLen (bVar 1)) (tCons (bCall (P_word_of_bits A) W (tCons (bVar 1) (tNil))) (tNil)))))))))
theorem r_parse_word (A : Ad) : ∀ vs H Q E, P_parse_word A vs H Q E → vs.length = 1 ∧ b_parse_word A (wE E) (dE Q) (start ["text", "bits", "position", "bit"] vs) H := by
  rintro vs H Q E ⟨m, w, x, rfl, hm, hw, x0, x1, k⟩
  refine ⟨rfl, ?_⟩
  by_cases h0 : w = 0
  · subst h0
    have ex : x = 0 := by simp at x1; omega
    subst ex
    have e : bitsT 0 0 = Str.ofString "-" := rfl
    refine ⟨_, _, rfl, by rw [e]; decide, ?_⟩
    refine ⟨_, rfl, by rw [e]; decide, .inr ⟨e, ?_⟩⟩
    walk_at "br"
    walk_at "go"
    rename_i p H1 y1 n1 g1
    exact k _ H1 y1 (.tup (new_ne hm n1) g1 (.cons (.int _) (.cons (.int _) .nil)))
  · have hl := bitsT_len h0 x
    have hz := len5 (by omega : (bitsT w x).length ≤ 100000)
    refine ⟨_, _, rfl, by omega, ?_⟩
    refine ⟨_, rfl, by omega, .inl ⟨bitsT_head h0 x, ?_⟩⟩
    walk_at "br"
    refine ⟨fun hb => ?_, fun _ => ?_⟩
    · exfalso
      have e : bitsT w x = Str.ofString "" := by simpa using hb
      rw [e] at hl
      have : (Str.ofString "").length = 0 := by decide
      omega
    · refine nxt ?_
      try dsimp only
      refine ⟨hz, ?_⟩
      rw [hl]
      refine ⟨⟨by omega, by omega⟩, ?_⟩
      refine Alloc.mk fun D H2 x2 n2 h2 => ?_
      refine CmpR.mk (fun i H3 => i ≤ w ∧ ExB D H2 H3 ∧ H3 D = some (.lst ((bitsL i x).map V.int))) ⟨Nat.zero_le _, (Ex.refl _).but _, h2⟩ ?_ ?_
      · rintro i H3 hi ⟨_, x3, g3⟩
        have hi : i < w := by simpa using hi
        have hl2 : ((bitsL i x).map V.int).length < sizeLine := len_ok (by simp [bitsL]; omega)
        refine ⟨bitsT w x, i, by rw [Int.zero_add], by omega, ?_⟩
        rw [bitsT_dig hi]
        refine Get.mk _ g3 ⟨hl2, Put.mk fun H4 x4 g4 => ⟨hi, x3.trans x4, ?_⟩⟩
        rw [g4]
        simp [bitsL, List.range_succ]
      · rintro H3 ⟨_, x3, g3⟩
        have xa := x2.over x3 n2
        have eL : ((w : Nat) : Int).toNat = w := by omega
        rw [eL] at g3
        refine Get.mk _ g3 ?_
        refine LoopE.mk (fun i σ H' => Ex H3 H' ∧ ∃ o2 o3, σ = [some (.str (bitsT w x)), some (.ref D), o2, o3]) ⟨Ex.refl _, _, _, rfl⟩ ?_ ?_ ?_
        · rintro i σ H' _ ⟨y, _⟩
          exact .inl (y _ _ g3)
        · rintro i z σ H' hx ⟨y, o2, o3, rfl⟩
          obtain ⟨n, rfl, hn⟩ := map_get hx
          have hi : i < w := by
            have := (List.getElem?_eq_some_iff.mp hn).1
            rwa [bitsL_len] at this
          have hn01 : n = 0 ∨ n = 1 := by
            unfold bitsL at hn
            rw [List.getElem?_map, List.getElem?_range hi] at hn
            cases hn
            exact bitV_01 x i
          refine Alloc.mk fun T H5 x5 n5 h5 => ?_
          refine Alloc.mk fun U H6 x6 n6 h6 => ?_
          refine Get.mk _ h6 ⟨⟨rfl, rfl⟩, ?_⟩
          refine ⟨fun hb => ?_, fun _ => ?_⟩
          · exfalso
            rcases hn01 with rfl | rfl <;> exact absurd hb (by decide)
          · walk_at "br"
            · omega
            · exact ⟨y.trans (x5.trans x6), _, _, rfl⟩
        · rintro σ H' ⟨y, o2, o3, rfl⟩
          have gD := y _ _ g3
          have hDm : D ≠ m := new_ne hm n2
          refine Get.mk _ gD ?_
          refine ⟨D, m, bitsL w x, rfl, hDm, gD, by rw [bitsL_len]; exact hw, fun n hn => ?_, fun H7 x7 => ?_⟩
          · unfold bitsL at hn
            obtain ⟨i, _, rfl⟩ := List.mem_map.mp hn
            exact bitV_01 x i
          · have e1 : (worth (bitsL w x) (bitsL w x).length).sum = x := by
              rw [bitsL_len, worth_bits x0 w (Nat.le_refl _), Int.emod_eq_of_lt x0 x1]
            rw [e1]
            refine Alloc.mk fun R H8 x8 n8 h8 => ?_
            have xx := ((xa.trans y).trans x7)
            refine k _ H8 (xx.trans x8) (.tup (fun z => hm (xx.fresh (z ▸ n8))) h8 (.cons ?_ (.cons (.int _) .nil)))
            have e2 : (((bitsL w x).map V.int).length : Int) = w := by rw [List.length_map, bitsL_len]
            rw [e2]
            exact .int _
open TL
def P_check_places (A : Ad) : Sp := fun vs H Q _ => ∃ (p m : Addr) (w : Int) (ns : List Int) (n : Str), vs = [.int w, .ref p, .int 0, .str n] ∧ p ≠ m ∧ H p = some (.lst (ns.map V.int)) ∧ w ≤ 6 ∧ (ns.length : Int) ≤ w ∧ ns.Nodup ∧ (∀ n ∈ ns, 0 ≤ n ∧ n < w) ∧ ∀ H', Ex H H' → Q .non H'
def b_check_places (A : Ad) (W : WX) : TS := tSeq (tDrop (bCall (P_check_row A) W (tCons (bVar 1) (tCons (bVar 2) (tCons (bVar 0) (tCons (bVar 3) (tNil))))))) (bForE (bVar 1) 4 5 (tSeq (tDrop (bCall (P_check_place A) W (tCons (bVar 0) (tCons (bVar 5) (tCons (bVar 3) (tNil)))))) (bIf (bTst (tOp (bIn false) (bVar 5) (bSl (bVar 1) bNoPart (bPart (bVar 4))))) (bRaise A.OutOfRange "argument" W (bVar 3)) (tNext))))
theorem inV_int {n : Int} : ∀ {ns : List Int}, n ∉ ns → inV (.int n) (ns.map V.int) = false
  | [], _ => rfl
  | a :: ns, h => by
    have h1 : a ≠ n := fun e => h (e ▸ List.mem_cons_self)
    have h2 : n ∉ ns := fun e => h (List.mem_cons_of_mem _ e)
    unfold inV
    rw [List.map_cons, List.any_cons]
    have ih := inV_int h2
    unfold inV at ih
    rw [ih, Bool.or_false]
    show (a == n) = false
    simpa using h1
theorem r_check_places (A : Ad) : ∀ vs H Q E, P_check_places A vs H Q E → vs.length = 4 ∧ b_check_places A (wE E) (dE Q) (start ["width", "places", "least", "argument", "index", "place"] vs) H := by
  rintro vs H Q E ⟨p, m, w, ns, nm, rfl, pm, hp, hw, hl, hnd, hin, k⟩
  refine ⟨rfl, ?_⟩
  have r : rowF (.lst (ns.map Dt.int)) 0 w = none := if_neg (by rw [List.length_map]; omega)
  refine ⟨m, .lst (ns.map Dt.int), _, 0, w, nm, rfl, .lst pm hp atl_ints, fun _ H1 x1 => ?_, fun k e => by rw [r] at e; cases e⟩
  have hp1 := x1 _ _ hp
  refine Get.mk _ hp1 ?_
  refine LoopE.mk (fun i σ H' => Ex H1 H' ∧ ∃ o4 o5, σ = [some (.int w), some (.ref p), some (.int 0), some (.str nm), o4, o5]) ⟨Ex.refl _, _, _, rfl⟩ ?_ ?_ ?_
  · rintro i σ H' _ ⟨y, _⟩
    exact .inl (y _ _ hp1)
  · rintro i z σ H' hx ⟨y, o4, o5, rfl⟩
    obtain ⟨n, rfl, hn⟩ := map_get hx
    obtain ⟨b0, b1⟩ := hin n (List.mem_of_getElem? hn)
    have hi := (List.getElem?_eq_some_iff.mp hn).1
    refine Alloc.mk fun T H5 x5 n5 h5 => ?_
    refine ⟨m, .int n, _, w, nm, rfl, .int n, fun _ => ?_, fun k e => by rw [numF_ok (by intro l e; cases e; omega) (by intro l e; cases e; omega)] at e; cases e⟩
    refine Get.mk _ (x5 _ _ (y _ _ hp1)) ?_
    refine Alloc.mk fun U H6 x6 n6 h6 => ?_
    have ec : cutV (ns.map V.int) none (some (i : Int)) = (ns.take i).map V.int := by
      unfold cutV
      rw [HT.sIx_nat, HT.sIx_none, List.length_map, List.map_take, List.drop_zero, Nat.sub_zero]
      congr 1
      omega
    rw [ec] at h6
    have hno : n ∉ ns.take i := by
      intro hm
      obtain ⟨j, hj, ej⟩ := List.mem_take_iff_getElem.mp hm
      have hj2 : j < i := by omega
      have e2 := (List.getElem?_eq_some_iff.mp hn).2
      have := (List.getElem_inj hnd).mp (ej.trans e2.symm)
      omega
    refine Get.mk _ h6 ⟨⟨rfl, ?_⟩, ?_⟩
    · rw [List.all_map]
      simp [flatV]
    · refine ⟨fun hb => ?_, fun _ => ?_⟩
      · exfalso
        have hb : inV (.int n) ((ns.take i).map V.int) = true := hb
        rw [inV_int hno] at hb
        cases hb
      · exact ⟨y.trans (x5.trans x6), _, _, rfl⟩
  · rintro σ H' ⟨y, o4, o5, rfl⟩
    exact k H' (x1.trans y)
open TL
def pows (ns : List Int) : List Int := ns.map fun n => 1 * 2 ^ n.toNat
def P_set_of_places (A : Ad) : Sp := fun vs H Q _ => ∃ (p m : Addr) (w : Int) (ns : List Int), vs = [.int w, .ref p] ∧ p ≠ m ∧ H p = some (.lst (ns.map V.int)) ∧ 0 ≤ w ∧ w ≤ 6 ∧ (ns.length : Int) ≤ w ∧ ns.Nodup ∧ (∀ n ∈ ns, 0 ≤ n ∧ n < w) ∧ ∀ H', Ex H H' → Q (.int (pows ns).sum) H'
def b_set_of_places (A : Ad) (W : WX) : TS := tSeq (tDrop (bCall (P_check_width A) W (tCons (bVar 0) (tNil)))) (tSeq (tDrop (bCall (P_check_places A) W (tCons (bVar 0) (tCons (bVar 1) (tCons (tC (.int 0)) (tCons (tC (.str "places")) (tNil))))))) (tRet (bSum (bCmpA (bVar 1) 2 (fun D => cmpTurn D (tOp bShl (tC (.int 1)) (bVar 2)))))))
theorem r_set_of_places (A : Ad) : ∀ vs H Q E, P_set_of_places A vs H Q E → vs.length = 2 ∧ b_set_of_places A (wE E) (dE Q) (start ["width", "places", "place"] vs) H := by
  rintro vs H Q E ⟨p, m, w, ns, rfl, pm, hp, w0, w1, hl, hnd, hin, k⟩
  refine ⟨rfl, ?_⟩
  refine ⟨m, .int w, _, rfl, .int w, fun _ => ?_, fun k e => by rw [numF_ok (by intro l e; cases e; omega) (by intro l e; cases e; omega)] at e; cases e⟩
  refine ⟨p, m, w, ns, _, rfl, pm, hp, w1, hl, hnd, hin, fun H1 x1 => ?_⟩
  have hp1 := x1 _ _ hp
  refine Get.mk _ hp1 (Alloc.mk fun D H2 x2 n2 h2 => ?_)
  refine CmpL.mk (fun i H3 => ExB D H2 H3 ∧ i ≤ ns.length ∧ H3 D = some (.lst ((pows (ns.take i)).map V.int))) ⟨(Ex.refl _).but _, Nat.zero_le _, h2⟩ ?_ ?_ ?_
  · rintro i H3 _ ⟨x3, _⟩
    exact .inl ((x2.over x3 n2) _ _ hp1)
  · rintro i z H3 hx ⟨x3, hi, g3⟩
    obtain ⟨n, rfl, hn⟩ := map_get hx
    have hi2 : i < ns.length := (List.getElem?_eq_some_iff.mp hn).1
    obtain ⟨b0, b1⟩ := hin n (List.mem_of_getElem? hn)
    have hl2 : ((pows (ns.take i)).map V.int).length < sizeLine := len_ok (by simp [pows]; omega)
    refine ⟨shl1 (by decide) b0 (by omega), ?_⟩
    refine Get.mk _ g3 ⟨hl2, Put.mk fun H5 x5 g5 => ⟨x3.trans x5, hi2, ?_⟩⟩
    rw [g5, List.take_succ, hn]
    simp [pows]
  · rintro H3 ⟨x3, _, g3⟩
    rw [List.length_map, List.take_length] at g3
    exact Get.mk _ g3 ⟨pows ns, rfl, k H3 (x1.trans (x2.over x3 n2))⟩
theorem plc_succ (k : Nat) (x : Int) : plcL (k + 1) x = plcL k x ++ if bitV x k = 1 then [(k : Int)] else [] := by
  unfold plcL
  rw [List.range_succ, List.filter_append, List.map_append]
  congr 1
  by_cases h : bitV x k = 1
  · simp [h]
  · simp [h]
theorem pows_plc (x : Int) (w : Nat) : ∀ k, k ≤ w → (pows (plcL k x)).sum = (worth (bitsL w x) k).sum
  | 0, _ => by simp [pows, plcL, worth]
  | k + 1, hk => by
    have ih := pows_plc x w k (by omega)
    have e : worth (bitsL w x) (k + 1) = worth (bitsL w x) k ++ [bitV x k * 2 ^ k] := by
      unfold worth
      rw [List.range_succ, List.map_append]
      congr 1
      simp only [bitsL, List.getD, List.getElem?_map, List.map_cons, List.map_nil]
      rw [List.getElem?_range (by omega : k < w)]
      rfl
    rw [e, List.sum_append, plc_succ, ← ih]
    unfold pows
    rw [List.map_append, List.sum_append]
    congr 1
    rcases bitV_01 x k with b | b <;> rw [b] <;> simp
theorem plc_sum {x : Int} {w : Nat} (h0 : 0 ≤ x) (h1 : x < 2 ^ w) : (pows (plcL w x)).sum = x := by
  rw [pows_plc x w w (Nat.le_refl _), worth_bits h0 w (Nat.le_refl _), Int.emod_eq_of_lt h0 h1]
open TL
theorem tl_wrc : ∀ {ns : List Int}, ns ≠ [] → (∀ n ∈ ns, 0 ≤ n ∧ n ≤ 9) → (joinL [44] (ns.map fun n => [48 + n.toNat])).length + 1 = 2 * ns.length ∧ ∀ j n, ns[j]? = some n → (joinL [44] (ns.map fun n => [48 + n.toNat]))[2 * j]? = some (48 + n.toNat) ∧ (j + 1 < ns.length → (joinL [44] (ns.map fun n => [48 + n.toNat]))[2 * j + 1]? = some 44)
  | [], h, _ => absurd rfl h
  | [a], _, h => by
    refine ⟨rfl, fun j n e => ?_⟩
    cases j with
    | zero => simp at e; subst e; exact ⟨rfl, fun z => by simp at z⟩
    | succ j => simp at e
  | a :: b :: r, _, h => by
    obtain ⟨i1, i2⟩ := tl_wrc (ns := b :: r) (by simp) fun n hn => h n (List.mem_cons_of_mem _ hn)
    have e : joinL [44] ((a :: b :: r).map fun n => [48 + n.toNat]) = (48 + a.toNat) :: 44 :: joinL [44] ((b :: r).map fun n => [48 + n.toNat]) := rfl
    rw [e]
    refine ⟨by simp at i1 ⊢; omega, fun j n en => ?_⟩
    cases j with
    | zero =>
      simp at en
      subst en
      exact ⟨rfl, fun _ => rfl⟩
    | succ j =>
      obtain ⟨k1, k2⟩ := i2 j n (by simpa using en)
      have a1 : 2 * (j + 1) = (2 * j) + 1 + 1 := by omega
      have a2 : 2 * (j + 1) + 1 = (2 * j + 1) + 1 + 1 := by omega
      rw [a1, List.getElem?_cons_succ, List.getElem?_cons_succ]
      refine ⟨k1, fun hl => ?_⟩
      rw [List.getElem?_cons_succ, List.getElem?_cons_succ]
      exact k2 (by simp at hl ⊢; omega)
theorem wr_tl {ns : List Int} (h : ∀ n ∈ ns, 0 ≤ n ∧ n ≤ 9) : tl (wr "," ns) = joinL [44] (ns.map fun n => [48 + n.toNat]) := by
  unfold wr
  rw [join_eq]
  refine (tl_join _ _).trans ?_
  have e0 : tl (Str.ofString ",") = [44] := by decide
  rw [e0, List.map_map]
  congr 1
  refine List.map_congr_left fun n hn => ?_
  exact tl_dg (h n hn).1 (h n hn).2
def P_read_places (A : Ad) : Sp := fun vs H Q _ => ∃ (w : Int) (ns : List Int), vs = [.int w, .str (wr "," ns)] ∧ ns ≠ [] ∧ w ≤ 6 ∧ ns.length ≤ 6 ∧ ns.Pairwise (· < ·) ∧ (∀ n ∈ ns, 0 ≤ n ∧ n < w) ∧ ∀ p H', Ex H H' → H p = none → H' p = some (.lst (ns.map V.int)) → Q (.ref p) H'
def b_read_places (A : Ad) (W : WX) : TS := tSeq (tAsg (bLst (tNil)) (gName 2)) (tSeq (tAsg (tC (.int 0)) (gName 3)) (tSeq (tAsg (tC (.int 0)) (gName 4)) (bWhile (bTru (tC (.bl true))) (tSeq (tAsg (bCall (P_digit_at A) W (tCons (bVar 1) (tCons (bVar 4) (tNil)))) (gName 5)) (tSeq (bIf (bOr (bTst (tOp (bLt) (bVar 5) (bVar 3))) (bTst (tOp (bGe) (bVar 5) (bVar 0)))) (bRaise A.BadText "position" W (bVar 4)) (tNext)) (tSeq (tDrop (bApp (bVar 2) (bVar 5))) (tSeq (bIf (bTst (tOp (bEq A.K) (tOp bAdd (bVar 4) (tC (.int 1))) (bLen (bVar 1)))) (tRet (bVar 2)) (tNext)) (tSeq (tAsg (tOp bAdd (bVar 5) (tC (.int 1))) (gName 3)) (tSeq (bIf (bOr (bTst (tOp (bNe A.K) (tOp bIx (bVar 1) (tOp bAdd (bVar 4) (tC (.int 1)))) (tC (.str ",")))) (bTst (tOp (bEq A.K) (bVar 3) (bVar 0)))) (bRaise A.BadText "position" W (tOp bAdd (bVar 4) (tC (.int 1)))) (tNext)) (bAugI 4 (fun i j => i + j) (tC (.int 2))))))))))))
theorem r_read_places (A : Ad) : ∀ vs H Q E, P_read_places A vs H Q E → vs.length = 2 ∧ b_read_places A (wE E) (dE Q) (start ["width", "text", "places", "least", "position", "place"] vs) H := by
  rintro vs H Q E ⟨w, ns, rfl, hne, hw, hl6, hpw, hin, k⟩
  refine ⟨rfl, ?_⟩
  have hd : ∀ n ∈ ns, 0 ≤ n ∧ n ≤ 9 := fun n hn => ⟨(hin n hn).1, by have := (hin n hn).2; omega⟩
  obtain ⟨tlen, tat⟩ := tl_wrc hne hd
  rw [← wr_tl hd] at tlen tat
  have hlen : (wr "," ns).length + 1 = 2 * ns.length := by rw [len_tl]; exact tlen
  have hz := len5 (by omega : (wr "," ns).length ≤ 100000)
  have npos : 0 < ns.length := List.length_pos_iff.mpr hne
  refine Alloc.mk fun D H1 x1 n1 h1 => ?_
  refine LoopW.mk (fun mm σ H' => ExB D H1 H' ∧ ∃ (j : Nat) (least : Int) (o5 : Option V), mm + j = ns.length ∧ j < ns.length ∧ (∀ n, ns[j]? = some n → least ≤ n) ∧ H' D = some (.lst ((ns.take j).map V.int)) ∧ σ = [some (.int w), some (.str (wr "," ns)), some (.ref D), some (.int least), some (.int (2 * j : Nat)), o5])
    ns.length ⟨(Ex.refl _).but _, 0, 0, none, rfl, npos, fun n hn => (hin n (List.mem_of_getElem? hn)).1, h1, rfl⟩ ?_
  rintro mm σ H' ⟨x2, j, least, o5, hmj, hj, hle, g2, rfl⟩
  refine ⟨fun _ => ?_, fun z => by cases z⟩
  have hn : ns[j]? = some ns[j] := List.getElem?_eq_getElem hj
  generalize ns[j] = n at hn
  obtain ⟨c1, c2⟩ := tat j n hn
  obtain ⟨b0, b1⟩ := hin n (List.mem_of_getElem? hn)
  have dv : digV (wr "," ns) (2 * j) = n := by
    unfold digV
    rw [c1]
    refine (dig_of (n := n.toNat) (by omega)).trans ?_
    omega
  refine ⟨_, 2 * j, rfl, by omega, ?_⟩
  rw [dv]
  have l1 := hle n hn
  walk_at "br"
  · omega
  walk_at "br"
  · omega
  refine nxt ?_
  try dsimp only
  have hl2 : ((ns.take j).map V.int).length < sizeLine := len_ok (by simp; omega)
  refine Get.mk _ g2 (Get.mk _ g2 ⟨hl2, Put.mk fun H3 x3 g3 => ?_⟩)
  have g3' : H3 D = some (.lst ((ns.take (j + 1)).map V.int)) := by
    rw [g3, List.take_succ, hn]
    simp
  refine ⟨hz, ?_⟩
  refine ⟨fun hb => ?_, fun hb => ?_⟩
  · have hb : ((2 * j : Nat) : Int) + 1 = ((wr "," ns).length : Int) := by simpa using hb
    have ej : j + 1 = ns.length := by omega
    rw [ej, List.take_length] at g3'
    exact k D H3 (x1.over (x2.trans x3) n1) n1 g3'
  · have hb : ¬ ((2 * j : Nat) : Int) + 1 = ((wr "," ns).length : Int) := by simpa using hb
    have hj2 : j + 1 < ns.length := by omega
    refine nxt ?_
    try dsimp only
    have c3 := c2 hj2
    have ep : ((2 * j : Nat) : Int) + 1 = ((2 * j + 1 : Nat) : Int) := by omega
    refine ⟨hz, AtI.mk _ (by rw [ep]; exact atI_nat c3) ?_⟩
    have hn2 : ns[j + 1]? = some ns[j + 1] := List.getElem?_eq_getElem hj2
    generalize ns[j + 1] = n2 at hn2
    have lt : n < n2 := by
      have h1 := (List.getElem?_eq_some_iff.mp hn)
      have h2 := (List.getElem?_eq_some_iff.mp hn2)
      obtain ⟨a1, a2⟩ := h1
      obtain ⟨b1, b2⟩ := h2
      rw [← a2, ← b2]
      exact List.pairwise_iff_getElem.mp hpw j (j + 1) a1 b1 (by omega)
    have b2 := (hin n2 (List.mem_of_getElem? hn2)).2
    refine ⟨fun hb => ?_, fun _ => ?_⟩
    · exfalso
      exact absurd hb (by decide)
    · walk_at "br"
      · omega
      refine nxt ?_
      try dsimp only
      refine ⟨mm - 1, by omega, x2.trans x3, j + 1, n + 1, some (.int n), by omega, hj2, fun q hq => ?_, g3', ?_⟩
      · rw [hn2] at hq; cases hq; omega
      · have e3 : ((2 * j : Nat) : Int) + 2 = ((2 * (j + 1) : Nat) : Int) := by omega
        rw [← e3]
        rfl
open TL
theorem plcL_pw (w : Nat) (x : Int) : (plcL w x).Pairwise (· < ·) := by
  unfold plcL
  rw [List.pairwise_map]
  exact (List.Pairwise.filter _ List.pairwise_lt_range).imp fun h => by omega
theorem plcL_in {w : Nat} {x : Int} : ∀ n ∈ plcL w x, 0 ≤ n ∧ n < w := by
  intro n hn
  unfold plcL at hn
  obtain ⟨i, hi, rfl⟩ := List.mem_map.mp hn
  have := List.mem_range.mp (List.mem_filter.mp hi).1
  omega
theorem setT_head {w : Nat} {x : Int} (hw : w ≤ 10) (h : plcL w x ≠ []) : (tl (setT w x)).head? ≠ some 45 := by
  unfold setT
  rw [if_neg h]
  obtain ⟨a, r, e⟩ := List.exists_cons_of_ne_nil h
  obtain ⟨_, t⟩ := tl_wrc h (plcL_dig x hw)
  rw [wr_tl (plcL_dig x hw), List.head?_eq_getElem?]
  have := (t 0 a (by rw [e]; rfl)).1
  rw [Nat.mul_zero] at this
  rw [this]
  simp
  omega
theorem setT_len {w : Nat} {x : Int} (hw : w ≤ 6) : (setT w x).length ≤ 200 := by
  unfold setT
  split
  · decide
  · rename_i h
    obtain ⟨t, _⟩ := tl_wrc h (plcL_dig x (by omega))
    rw [len_tl, wr_tl (plcL_dig x (by omega))]
    have := plcL_len w x
    omega
/-- a set's text read back, at its own width or a wider one -/
def P_parse_set (A : Ad) : Sp := fun vs H Q _ => ∃ (m : Addr) (v : Int) (w : Nat) (x : Int), vs = [.int v, .str (setT w x)] ∧ H m ≠ none ∧ v ≤ 6 ∧ (w : Int) ≤ v ∧ 0 ≤ x ∧ x < 2 ^ w ∧ ∀ H', Ex H H' → Q (.int x) H'
def b_parse_set (A : Ad) (W : WX) : TS := tSeq (tDrop (bCall (P_check_width A) W (tCons (bVar 0) (tNil)))) (tSeq (tDrop (bCall (P_check_text A) W (tCons (bVar 1) (tCons (tC (.str "text")) (tNil))))) (tSeq (bIf (bTru (bCall (P_lone_hyphen A) W (tCons (bVar 1) (tNil)))) (tRet (tC (.int 0))) (tNext)) (tRet (bCall (P_set_of_places A) W (tCons (bVar 0) (tCons (bCall (P_read_places A) W (tCons (bVar 0) (tCons (bVar 1) (tNil)))) (tNil)))))))
theorem r_parse_set (A : Ad) : ∀ vs H Q E, P_parse_set A vs H Q E → vs.length = 2 ∧ b_parse_set A (wE E) (dE Q) (start ["width", "text"] vs) H := by
  rintro vs H Q E ⟨m, v, w, x, rfl, hm, hv, hwv, x0, x1, k⟩
  refine ⟨rfl, ?_⟩
  refine ⟨m, .int v, _, rfl, .int v, fun _ => ?_, fun k e => by rw [numF_ok (by intro l e; cases e; omega) (by intro l e; cases e; omega)] at e; cases e⟩
  have hl := setT_len (w := w) (x := x) (by omega)
  refine ⟨_, _, rfl, hl, ?_⟩
  have hs := plc_sum x0 x1
  by_cases h : plcL w x = []
  · have e : setT w x = Str.ofString "-" := by unfold setT; rw [if_pos h]
    refine ⟨_, rfl, hl, .inr ⟨e, ?_⟩⟩
    walk_at "br"
    have ex : x = 0 := by
      rw [h] at hs
      simpa [pows] using hs.symm
    subst ex
    exact k H (Ex.refl _)
  · refine ⟨_, rfl, hl, .inl ⟨setT_head (by omega) h, ?_⟩⟩
    walk_at "br"
    refine nxt ?_
    try dsimp only
    have e : setT w x = wr "," (plcL w x) := by unfold setT; rw [if_neg h]
    have hlen := plcL_len w x
    refine ⟨v, plcL w x, by rw [e], h, hv, by omega, plcL_pw w x, fun n hn => by have := plcL_in n hn; omega, fun p H1 y1 n1 g1 => ?_⟩
    refine ⟨p, m, v, plcL w x, rfl, fun z => hm (z ▸ n1), g1, by omega, hv, by omega, (plcL_pw w x).imp fun h => by omega, fun n hn => by have := plcL_in n hn; omega, fun H2 y2 => ?_⟩
    rw [hs]
    exact k H2 (y1.trans y2)
open TL
/-- the signs of n, in tens -/
def dc (n : Nat) : List Nat := (Nat.toDigits 10 n).map Char.toNat
theorem digitChar_nat {n : Nat} (h : n < 10) : (Nat.digitChar n).toNat = 48 + n := by
  obtain rfl | rfl | rfl | rfl | rfl | rfl | rfl | rfl | rfl | rfl : n = 0 ∨ n = 1 ∨ n = 2 ∨ n = 3 ∨ n = 4 ∨ n = 5 ∨ n = 6 ∨ n = 7 ∨ n = 8 ∨ n = 9 := by omega
  all_goals decide
theorem dc_lt {n : Nat} (h : n < 10) : dc n = [48 + n] := by
  unfold dc
  rw [Nat.toDigits_of_lt_base h, List.map_cons, digitChar_nat h]
  rfl
theorem dc_ge {n : Nat} (h : 10 ≤ n) : dc n = dc (n / 10) ++ [48 + n % 10] := by
  unfold dc
  rw [Nat.toDigits_of_base_le (by decide) h, List.map_append, List.map_cons, digitChar_nat (by omega)]
  rfl
/-- what a row of signs is worth, in tens -/
def val (ds : List Nat) : Nat := ds.foldl (fun a c => 10 * a + (c - 48)) 0
theorem val_snoc (ds : List Nat) (c : Nat) : val (ds ++ [c]) = 10 * val ds + (c - 48) := by
  unfold val
  rw [List.foldl_append]
  rfl
theorem dc_val (n : Nat) : val (dc n) = n := by
  induction n using Nat.strongRecOn with
  | ind n ih =>
    by_cases h : n < 10
    · rw [dc_lt h]
      show 10 * 0 + (48 + n - 48) = n
      omega
    · rw [dc_ge (by omega), val_snoc, ih (n / 10) (by omega)]
      omega
theorem dc_digit (n : Nat) : ∀ c ∈ dc n, 48 ≤ c ∧ c ≤ 57 := by
  induction n using Nat.strongRecOn with
  | ind n ih =>
    intro c hc
    by_cases h : n < 10
    · rw [dc_lt h] at hc
      rw [List.mem_singleton.mp hc]
      omega
    · rw [dc_ge (by omega)] at hc
      rcases List.mem_append.mp hc with hc | hc
      · exact ih (n / 10) (by omega) c hc
      · rw [List.mem_singleton.mp hc]
        omega
theorem dc_ne (n : Nat) : dc n ≠ [] := by
  by_cases h : n < 10
  · rw [dc_lt h]; simp
  · rw [dc_ge (by omega)]; simp
theorem dc_head {n : Nat} (h0 : 0 < n) : ∃ c r, dc n = c :: r ∧ 49 ≤ c ∧ c ≤ 57 := by
  induction n using Nat.strongRecOn with
  | ind n ih =>
    by_cases h : n < 10
    · exact ⟨48 + n, [], dc_lt h, by omega, by omega⟩
    · obtain ⟨c, r, e, h1, h2⟩ := ih (n / 10) (by omega) (by omega)
      exact ⟨c, r ++ [48 + n % 10], by rw [dc_ge (by omega), e]; rfl, h1, h2⟩
theorem dc_len {n k : Nat} (hk : 1 ≤ k) (h : n < 10 ^ k) : (dc n).length ≤ k := by
  induction k generalizing n with
  | zero => omega
  | succ k ih =>
    by_cases h1 : n < 10
    · rw [dc_lt h1]; simp
    · rw [dc_ge (by omega), List.length_append]
      have h2 : n / 10 < 10 ^ k := by
        rw [Nat.pow_succ] at h
        omega
      have k1 : 1 ≤ k := by
        rcases Nat.eq_zero_or_pos k with rfl | z
        · simp at h2; omega
        · exact z
      have := ih k1 h2
      simp
      omega
theorem val_take_pos {n k : Nat} (h0 : 0 < n) (hk : 0 < k) : 0 < val ((dc n).take k) := by
  obtain ⟨c, r, e, h1, _⟩ := dc_head h0
  rw [e]
  obtain ⟨j, rfl⟩ : ∃ j, k = j + 1 := ⟨k - 1, by omega⟩
  rw [List.take_succ_cons]
  unfold val
  rw [List.foldl_cons]
  have : ∀ (l : List Nat) (a : Nat), 0 < a → 0 < l.foldl (fun a c => 10 * a + (c - 48)) a := by
    intro l
    induction l with
    | nil => intro a h; exact h
    | cons x l ih =>
      intro a h
      exact ih (10 * a + (x - 48)) (by omega)
  exact this _ _ (by show 0 < 10 * 0 + (c - 48); omega)
theorem tl_int {i : Int} (h : 0 ≤ i) : tl (Str.ofString (toString i)) = dc i.toNat := by
  obtain ⟨n, rfl⟩ := Int.eq_ofNat_of_zero_le h
  show tl (Str.ofString (Nat.repr n)) = _
  rw [Str.ofString_eq_toList]
  show (String.ofList (Nat.toDigits 10 n)).toList.map Char.toNat = _
  rw [String.toList_ofList]
  rfl
theorem tl_neg {n : Nat} (h : 0 < n) : tl (Str.ofString (toString (-(n : Int)))) = 45 :: dc n := by
  obtain ⟨m, rfl⟩ : ∃ m, n = m + 1 := ⟨n - 1, by omega⟩
  show tl (Str.ofString ("-" ++ Nat.repr (m + 1))) = _
  rw [Str.ofString_eq_toList]
  show ("-" ++ String.ofList (Nat.toDigits 10 (m + 1))).toList.map Char.toNat = _
  have e1 : ("-" ++ String.ofList (Nat.toDigits 10 (m + 1))).toList = '-' :: Nat.toDigits 10 (m + 1) := by
    rw [String.toList_append]
    show _ ++ (String.ofList _).toList = _
    rw [String.toList_ofList (l := Nat.toDigits 10 (m + 1))]
    rfl
  rw [e1]
  rfl
open TL
/-- no digit stands at i -/
def NoDig (s : Str) (i : Nat) : Prop := digV s i = -1
def P_read_number (A : Ad) : Sp := fun vs H Q _ => ∃ (m : Addr) (s : Str) (a n least : Nat) (pre post : List Nat), vs = [.str s, .int a, .int least] ∧ H m ≠ none ∧ s.length ≤ 200 ∧ tl s = pre ++ (dc n ++ post) ∧ pre.length = a ∧ n < 10 ^ 9 ∧ (least ≤ 1 ∧ (n = 0 → least = 0)) ∧ NoDig s (a + (dc n).length) ∧
  ∀ v H', Ex H H' → At m H' (.tup [.int n, .int (a + (dc n).length : Nat)]) v → Q v H'
def b_read_number (A : Ad) (W : WX) : TS := tSeq (tAsg (bCall (P_digit_at A) W (tCons (bVar 0) (tCons (bVar 1) (tNil)))) (gName 3)) (tSeq (bIf (bTst (tOp (bLt) (bVar 3) (bVar 2))) (bRaise A.BadText "position" W (bVar 1)) (tNext)) (tSeq (tAsg (tOp bAdd (bVar 1) (tC (.int 1))) (gName 4)) (tSeq (bWhile (bAnd (bTst (tOp (bGt) (bVar 3) (tC (.int 0)))) (bAnd (bTst (tOp (bLt) (bVar 4) (tOp bAdd (bVar 1) (tC (.int 9))))) (bTst (tOp (bGe) (bCall (P_digit_at A) W (tCons (bVar 0) (tCons (bVar 4) (tNil)))) (tC (.int 0)))))) (tSeq (tAsg (tOp bAdd (tOp bMul (tC (.int 10)) (bVar 3)) (bCall (P_digit_at A) W (tCons (bVar 0) (tCons (bVar 4) (tNil))))) (gName 3)) (bAugI 4 (fun i j => i + j) (tC (.int 1))))) (tRet (bTup (tCons (bVar 3) (tCons (bVar 4) (tNil))))))))
theorem dig_in {s : Str} {pre post ds : List Nat} {a k c : Nat} (hs : tl s = pre ++ (ds ++ post)) (ha : pre.length = a) (hc : ds[k]? = some c) (h : 48 ≤ c ∧ c ≤ 57) : digV s (a + k) = ((c - 48 : Nat) : Int) := by
  have hk := (List.getElem?_eq_some_iff.mp hc).1
  have e : (tl s)[a + k]? = some c := by
    rw [hs, List.getElem?_append_right (by omega), List.getElem?_append_left (by omega)]
    rw [← hc]
    congr 1
    omega
  unfold digV
  rw [e]
  have e2 : c = 48 + (c - 48) := by omega
  have := dig_of (n := c - 48) (by omega)
  rw [← e2] at this
  exact this
theorem r_read_number (A : Ad) : ∀ vs H Q E, P_read_number A vs H Q E → vs.length = 3 ∧ b_read_number A (wE E) (dE Q) (start ["text", "start", "least", "number", "end"] vs) H := by
  rintro vs H Q E ⟨m, s, a, n, least, pre, post, rfl, hm, hl, hs, ha, hn9, ⟨hle, hz0⟩, hno, k⟩
  refine ⟨rfl, ?_⟩
  have hlen9 : (dc n).length ≤ 9 := dc_len (by decide) hn9
  have hlpos : 0 < (dc n).length := List.length_pos_iff.mpr (dc_ne n)
  obtain ⟨c0, r0, e0⟩ := List.exists_cons_of_ne_nil (dc_ne n)
  have hc0 : (dc n)[0]? = some c0 := by rw [e0]; rfl
  have d0 := dc_digit n c0 (List.mem_of_getElem? hc0)
  have v0 := dig_in hs ha hc0 d0
  rw [Nat.add_zero] at v0
  have first : (least : Int) ≤ ((c0 - 48 : Nat) : Int) := by
    by_cases hz : n = 0
    · have := hz0 hz; omega
    · obtain ⟨c, r, e, h1, _⟩ := dc_head (n := n) (by omega)
      rw [e0] at e
      cases e
      omega
  refine ⟨s, a, rfl, by omega, ?_⟩
  rw [v0]
  walk_at "br"
  · omega
  refine nxt ?_
  try dsimp only
  refine LoopW.mk (fun mm σ H' => H' = H ∧ ∃ j : Nat, mm + j = (dc n).length ∧ 1 ≤ j ∧ j ≤ (dc n).length ∧ σ = [some (.str s), some (.int a), some (.int least), some (.int (val ((dc n).take j) : Nat)), some (.int (a + j : Nat))]) ((dc n).length - 1)
    ⟨rfl, 1, by omega, Nat.le_refl _, by omega, by rw [e0, List.take_succ_cons, List.take_zero]; show _ = [some (V.str s), some (V.int a), some (V.int least), some (V.int ((10 * 0 + (c0 - 48) : Nat) : Int)), _]; rw [Nat.mul_zero, Nat.zero_add]; rfl⟩ ?_
  rintro mm σ H' ⟨rfl, j, hmj, j1, jl, rfl⟩
  have out : j = (dc n).length → (tRet (bTup (tCons (bVar 3) (tCons (bVar 4) (tNil))))) (dE Q) [some (.str s), some (.int a), some (.int least), some (.int (val ((dc n).take j) : Nat)), some (.int (a + j : Nat))] H' := by
    rintro rfl
    rw [List.take_length, dc_val]
    refine Alloc.mk fun T H1 x1 n1 h1 => ?_
    exact k _ H1 x1 (.tup (new_ne hm n1) h1 (.cons (.int _) (.cons (.int _) .nil)))
  walk_at "br"
  · walk_at "br"
    · refine ⟨s, a + j, rfl, by omega, ?_⟩
      by_cases hj : j < (dc n).length
      · have hc : (dc n)[j]? = some (dc n)[j] := List.getElem?_eq_getElem hj
        generalize (dc n)[j] = c at hc
        have dd := dc_digit n c (List.mem_of_getElem? hc)
        have vv := dig_in hs ha hc dd
        rw [vv]
        walk_at "br"
        · refine ⟨mulL (by decide) (by decide), ?_⟩
          refine ⟨s, a + j, rfl, by omega, ?_⟩
          rw [vv]
          refine ⟨mm - 1, by omega, rfl, j + 1, by omega, by omega, hj, ?_⟩
          have e1 : (dc n).take (j + 1) = (dc n).take j ++ [c] := by
            rw [List.take_succ, hc]
            rfl
          have e2 : ((val ((dc n).take (j + 1)) : Nat) : Int) = 10 * ((val ((dc n).take j) : Nat) : Int) + ((c - 48 : Nat) : Int) := by
            rw [e1, val_snoc]
            omega
          have e3 : ((a + (j + 1) : Nat) : Int) = ((a + j : Nat) : Int) + 1 := by omega
          rw [e2, e3]
          rfl
      · have ej : j = (dc n).length := by omega
        have vv : digV s (a + j) = -1 := by rw [ej]; exact hno
        rw [vv]
        walk_at "br"
        exact out ej
    · exact ⟨fun z => (by cases z), fun _ => out (by omega)⟩
  · rename_i hb
    refine ⟨fun z => (by cases z), fun _ => out ?_⟩
    by_cases hz : n = 0
    · subst hz
      have : (dc 0).length = 1 := rfl
      omega
    · have := val_take_pos (n := n) (k := j) (by omega) j1
      omega
open TL
theorem tl_cut_at {s : Str} {a : Nat} (h : a < s.length) : tl (cutS s (some (a : Nat)) (some ((a + 1 : Nat) : Int))) = ((tl s).drop a).take 1 := by
  unfold cutS tl
  rw [HT.sIx_nat, HT.sIx_nat]
  have e1 : min a s.length = a := by omega
  have e2 : min (a + 1) s.length = a + 1 := by omega
  rw [e1, e2]
  have e3 : a + 1 - a = 1 := by omega
  rw [e3]
def sg (t : Int) : List Nat := if t < 0 then [45] else []
def P_parse_ratio (A : Ad) : Sp := fun vs H Q _ => ∃ (m : Addr) (s : Str) (t b : Int), vs = [.str s] ∧ H m ≠ none ∧ t.natAbs < 10 ^ 9 ∧ 1 ≤ b ∧ b < 10 ^ 9 ∧ tl s = sg t ++ (dc t.natAbs ++ (47 :: dc b.toNat)) ∧
  ∀ (p q : Int) (v : V) H', Ex H H' → At m H' (.tup [.int p, .int q]) v → IsR t b p q → Q v H'
def b_parse_ratio (A : Ad) (W : WX) : TS := tSeq (tDrop (bCall (P_check_text A) W (tCons (bVar 0) (tCons (tC (.str "text")) (tNil))))) (tSeq (bIf (bTst (tOp (bEq A.K) (bSl (bVar 0) bNoPart (bPart (tC (.int 1)))) (tC (.str "-")))) (tSeq (tAsg (bCall (P_read_number A) W (tCons (bVar 0) (tCons (tC (.int 1)) (tCons (tC (.int 1)) (tNil))))) (gTwo 1 2)) (tAsg (tUn bNeg (bVar 1)) (gName 1))) (tAsg (bCall (P_read_number A) W (tCons (bVar 0) (tCons (tC (.int 0)) (tCons (tC (.int 0)) (tNil))))) (gTwo 1 2))) (tSeq (bIf (bTst (tOp (bNe A.K) (bSl (bVar 0) (bPart (bVar 2)) (bPart (tOp bAdd (bVar 2) (tC (.int 1))))) (tC (.str "/")))) (bRaise A.BadText "position" W (bVar 2)) (tNext)) (tSeq (tAsg (bCall (P_read_number A) W (tCons (bVar 0) (tCons (tOp bAdd (bVar 2) (tC (.int 1))) (tCons (tC (.int 1)) (tNil))))) (gTwo 3 2)) (tSeq (bIf (bTst (tOp (bLt) (bVar 2) (bLen (bVar 0)))) (bRaise A.BadText "position" W (bVar 2)) (tNext)) (tRet (bCall (P_ratio A) W (tCons (bVar 1) (tCons (bVar 3) (tNil)))))))))
theorem r_parse_ratio (A : Ad) : ∀ vs H Q E, P_parse_ratio A vs H Q E → vs.length = 1 ∧ b_parse_ratio A (wE E) (dE Q) (start ["text", "top", "end", "bottom"] vs) H := by
  rintro vs H Q E ⟨m, s, t, b, rfl, hm, ht, b1, b2, hs, k⟩
  refine ⟨rfl, ?_⟩
  have lt9 : (dc t.natAbs).length ≤ 9 := dc_len (by decide) ht
  have lb9 : (dc b.toNat).length ≤ 9 := dc_len (by decide) (by omega)
  have lsg : (sg t).length ≤ 1 := by unfold sg; split <;> simp
  have hlen : s.length = (sg t).length + ((dc t.natAbs).length + ((dc b.toNat).length + 1)) := by
    rw [len_tl, hs]
    simp
  have hl : s.length ≤ 200 := by omega
  have hz := len5 (by omega : s.length ≤ 100000)
  refine ⟨s, _, rfl, hl, ?_⟩
  have nslash : NoDig s ((sg t).length + (dc t.natAbs).length) := by
    unfold NoDig digV
    have e : (tl s)[(sg t).length + (dc t.natAbs).length]? = some 47 := by
      rw [hs, List.getElem?_append_right (by omega), List.getElem?_append_right (by omega)]
      have : (sg t).length + (dc t.natAbs).length - (sg t).length - (dc t.natAbs).length = 0 := by omega
      rw [this]
      rfl
    rw [e]
    exact dig_slash
  have nend : NoDig s ((sg t).length + (dc t.natAbs).length + 1 + (dc b.toNat).length) := by
    unfold NoDig digV
    rw [List.getElem?_eq_none (by rw [← len_tl]; omega)]
  have fin : ∀ (H1 : Hp), Ex H H1 → ∀ D : Ends, D.rt = Q → (tSeq (bIf (bTst (tOp (bNe A.K) (bSl (bVar 0) (bPart (bVar 2)) (bPart (tOp bAdd (bVar 2) (tC (.int 1))))) (tC (.str "/")))) (bRaise A.BadText "position" (wE E) (bVar 2)) (tNext)) (tSeq (tAsg (bCall (P_read_number A) (wE E) (tCons (bVar 0) (tCons (tOp bAdd (bVar 2) (tC (.int 1))) (tCons (tC (.int 1)) (tNil))))) (gTwo 3 2)) (tSeq (bIf (bTst (tOp (bLt) (bVar 2) (bLen (bVar 0)))) (bRaise A.BadText "position" (wE E) (bVar 2)) (tNext)) (tRet (bCall (P_ratio A) (wE E) (tCons (bVar 1) (tCons (bVar 3) (tNil))))))))
      D [some (.str s), some (.int t), some (.int ((sg t).length + (dc t.natAbs).length : Nat)), none] H1 := by
    intro H1 y1 D hD
    have hm1 : H1 m ≠ none := fun z => hm (y1.fresh z)
    have ee : (((sg t).length + (dc t.natAbs).length : Nat) : Int) + 1 = (((sg t).length + (dc t.natAbs).length + 1 : Nat) : Int) := by omega
    have ecut : cutS s (some (((sg t).length + (dc t.natAbs).length : Nat) : Int)) (some ((((sg t).length + (dc t.natAbs).length : Nat) : Int) + 1)) = Str.ofString "/" := by
      rw [ee]
      refine tl_inj ?_
      rw [tl_cut_at (by omega), hs, List.drop_append, List.drop_append]
      have d1 : List.drop ((sg t).length + (dc t.natAbs).length) (sg t) = [] := List.drop_eq_nil_of_le (by omega)
      have d2 : List.drop ((sg t).length + (dc t.natAbs).length - (sg t).length) (dc t.natAbs) = [] := List.drop_eq_nil_of_le (by omega)
      have d3 : (sg t).length + (dc t.natAbs).length - (sg t).length - (dc t.natAbs).length = 0 := by omega
      rw [d1, d2, d3]
      show [47] = _
      decide
    refine ⟨hz, ?_⟩
    rw [ecut]
    refine ⟨fun hb => absurd hb (by decide), fun _ => ?_⟩
    refine nxt ?_
    try dsimp only
    refine ⟨m, s, (sg t).length + (dc t.natAbs).length + 1, b.toNat, 1, sg t ++ (dc t.natAbs ++ [47]), [], by rw [ee]; rfl, hm1, hl, by rw [hs]; simp, by simp; omega, by omega, ⟨Nat.le_refl _, fun z => by omega⟩, nend, fun v H2 y2 a2 => ?_⟩
    obtain ⟨p, w1, w2, rfl, np, hp, i1, i2⟩ := at_pair_inv a2
    obtain rfl := at_int_inv i1
    obtain rfl := at_int_inv i2
    refine Get.mk _ hp ?_
    refine ⟨hz, ?_⟩
    refine ⟨fun hb => ?_, fun _ => ?_⟩
    · exfalso
      simp at hb
      omega
    · refine nxt ?_
      try dsimp only
      have eb : ((b.toNat : Nat) : Int) = b := by omega
      refine ⟨m, t, b, by rw [← eb]; rfl, fun z => hm1 (y2.fresh z), by omega, sm_lt (j := 30) (Nat.lt_of_lt_of_le ht (by decide)) (by decide), sm_lt (j := 30) (Nat.lt_of_lt_of_le (by omega : b.natAbs < 10 ^ 9) (by decide)) (by decide), fun p' q' v' H3 y3 a3 R => ?_⟩
      rw [hD]
      exact k p' q' v' H3 ((y1.trans y2).trans y3) a3 R
  refine ⟨hz, ?_⟩
  by_cases hn : t < 0
  · have es : sg t = [45] := if_pos hn
    have ec : cutS s none (some 1) = Str.ofString "-" := tl_inj (by rw [tl_cut1, hs, es, tl_hy]; rfl)
    rw [ec]
    refine ⟨fun _ => ?_, fun hb => absurd hb (by decide)⟩
    refine ⟨m, s, 1, t.natAbs, 1, [45], 47 :: dc b.toNat, rfl, hm, hl, by rw [hs, es], rfl, ht, ⟨Nat.le_refl _, fun z => by omega⟩, by have := nslash; rw [es] at this; exact this, fun v H1 y1 a1 => ?_⟩
    obtain ⟨p, w1, w2, rfl, np, hp, i1, i2⟩ := at_pair_inv a1
    obtain rfl := at_int_inv i1
    obtain rfl := at_int_inv i2
    refine Get.mk _ hp ?_
    have et : -((t.natAbs : Nat) : Int) = t := by omega
    have e1 : (1 + (dc t.natAbs).length : Nat) = (sg t).length + (dc t.natAbs).length := by rw [es]; rfl
    have h2 := fin H1 y1 (dE Q) rfl
    have key : [some (V.str s), some (V.int t), some (V.int ((sg t).length + (dc t.natAbs).length : Nat)), none] = [some (V.str s), some (V.int (-((t.natAbs : Nat) : Int))), some (V.int ((1 + (dc t.natAbs).length : Nat) : Int)), none] := by rw [et, e1]
    rw [key] at h2
    exact h2
  · have es : sg t = [] := if_neg hn
    have ec : cutS s none (some 1) ≠ Str.ofString "-" := by
      intro e
      have e2 : (tl s).take 1 = [45] := by rw [← tl_cut1, e, tl_hy]
      rw [hs, es] at e2
      obtain ⟨c, r, e3⟩ := List.exists_cons_of_ne_nil (dc_ne t.natAbs)
      have dd := dc_digit t.natAbs c (by rw [e3]; exact List.mem_cons_self)
      rw [e3] at e2
      simp at e2
      omega
    refine ⟨fun hb => absurd (by simpa using hb) ec, fun _ => ?_⟩
    refine ⟨m, s, 0, t.natAbs, 0, [], 47 :: dc b.toNat, rfl, hm, hl, by rw [hs, es], rfl, ht, ⟨by omega, fun _ => rfl⟩, by have := nslash; rw [es] at this; exact this, fun v H1 y1 a1 => ?_⟩
    obtain ⟨p, w1, w2, rfl, np, hp, i1, i2⟩ := at_pair_inv a1
    obtain rfl := at_int_inv i1
    obtain rfl := at_int_inv i2
    refine Get.mk _ hp ?_
    have et : ((t.natAbs : Nat) : Int) = t := by omega
    have e1 : (0 + (dc t.natAbs).length : Nat) = (sg t).length + (dc t.natAbs).length := by rw [es]; rfl
    have h2 := fin H1 y1 (dE Q) rfl
    have key : [some (V.str s), some (V.int t), some (V.int ((sg t).length + (dc t.natAbs).length : Nat)), none] = [some (V.str s), some (V.int ((t.natAbs : Nat) : Int)), some (V.int ((0 + (dc t.natAbs).length : Nat) : Int)), none] := by rw [et, e1]
    rw [key] at h2
    exact h2
def P_l_small_ratio (A : Ad) : Sp := fun vs H Q _ => ∃ (st : Sto), vs = [.ref st] ∧ Store H st ∧ ∀ (a b : Int) (v : V) H', ExB st H H' → Store H' st → At st H' (.tup [.int a, .int b]) v → 1 ≤ b → b ≤ 999999999 → a.natAbs ≤ 999999999 → Q v H'
def b_l_small_ratio (A : Ad) (W : WX) : TS := tSeq (tAsg (bCall (P_l_take A) W (tCons (bVar 0) (tCons (tC (.int 4)) (tNil)))) (gName 1)) (tSeq (tAsg (tOp bIx (bLst (tCons (tC (.int 9)) (tCons (tC (.int 99999)) (tCons (tC (.int 999999999)) (tCons (tC (.int 999999999)) (tNil)))))) (bVar 1)) (gName 2)) (tSeq (tAsg (bCall (P_l_near A) W (tCons (bVar 0) (tCons (tC (.int 1)) (tCons (bVar 2) (tNil))))) (gName 3)) (tSeq (bIf (bTst (tOp (bEq A.K) (bVar 1) (tC (.int 3)))) (tRet (bTup (tCons (tOp bSub (bCall (P_l_take A) W (tCons (bVar 0) (tCons (tC (.int 41)) (tNil)))) (tC (.int 20))) (tCons (bVar 3) (tNil))))) (tNext)) (tRet (bTup (tCons (bCall (P_l_near A) W (tCons (bVar 0) (tCons (tOp bSub (tC (.int 0)) (bVar 2)) (tCons (bVar 2) (tNil))))) (tCons (bVar 3) (tNil))))))))
theorem r_l_small_ratio (A : Ad) : ∀ vs H Q E, P_l_small_ratio A vs H Q E → vs.length = 1 ∧ b_l_small_ratio A (wE E) (dE Q) (start ["store", "kind", "high", "low"] vs) H := by
  rintro vs H Q E ⟨st, rfl, hS, k⟩
  refine ⟨rfl, ?_⟩
  refine ⟨st, 4, rfl, hS, Sz.small (by decide), fun r H1 x1 s1 r0 r1 => ?_⟩
  walk_at "go"
  rename_i p H2 x2 n2 g2
  obtain ⟨h, hh, e⟩ := pick_n (ns := [9, 99999, 999999999, 999999999]) r0 (by show r < 4; omega)
  refine AtI.mk _ e ?_
  have h1 : 9 ≤ h ∧ h ≤ 999999999 := by
    simp at hh
    omega
  have s2 := s1.mono x2
  walk_at "go"
  refine ⟨st, 1, h, rfl, s2, by omega, Sz.small (by omega), fun b H3 x3 s3 b0 b1 => ?_⟩
  have X3 := x1.trans ((x2.but _).trans x3)
  walk_at "br"
  · walk_at "go"
    refine ⟨st, 41, rfl, s3, Sz.small (by decide), fun t H4 x4 s4 t0 t1 => ?_⟩
    walk_at "go"
    rename_i T H5 x5 n5 g5
    exact k (t - 20) b _ _ (X3.trans (x4.trans (x5.but _))) (s4.mono x5) (.tup (s4.ne n5) g5 (.cons (.int _) (.cons (.int _) .nil))) b0 (by omega) (by omega)
  · refine nxt ?_
    try dsimp only
    refine ⟨st, 0 - h, h, rfl, s3, by omega, Sz.small (by omega), fun t H4 x4 s4 t0 t1 => ?_⟩
    walk_at "go"
    rename_i T H5 x5 n5 g5
    exact k t b _ _ (X3.trans (x4.trans (x5.but _))) (s4.mono x5) (.tup (s4.ne n5) g5 (.cons (.int _) (.cons (.int _) .nil))) b0 (by omega) (by omega)
def P_l_beside (A : Ad) : Sp := fun vs H Q _ => ∃ (st : Sto) (d : Dt) (v : V) (lo hi : Option Int), vs = [.ref st, v, optV lo, optV hi] ∧ Store H st ∧ At st H d v ∧ d.fit ∧ (∀ l, lo = some l → l.natAbs < 2 ^ 64) ∧ (∀ l, hi = some l → l.natAbs < 2 ^ 64) ∧
  ∀ (d : Dt) (v : V) H', ExB st H H' → Store H' st → At st H' d v → d.fit → Q v H'
def b_l_beside (A : Ad) (W : WX) : TS := tSeq (bIf (bTst (tOp (bEq A.K) (bCall (P_l_take A) W (tCons (bVar 0) (tCons (tC (.int 2)) (tNil)))) (tC (.int 0)))) (tRet (bVar 1)) (tNext)) (tRet (bCall (P_l_odd_number A) W (tCons (bVar 0) (tCons (bVar 2) (tCons (bVar 3) (tNil))))))
theorem r_l_beside (A : Ad) : ∀ vs H Q E, P_l_beside A vs H Q E → vs.length = 4 ∧ b_l_beside A (wE E) (dE Q) (start ["store", "item", "low", "high"] vs) H := by
  rintro vs H Q E ⟨st, d, v, lo, hi, rfl, hS, ha, hd, h1, h2, k⟩
  refine ⟨rfl, ?_⟩
  walk_at "go"
  refine ⟨st, 2, rfl, hS, Sz.small (by decide), fun r H1 x1 s1 r0 r1 => ?_⟩
  walk_at "br"
  · exact k d v H1 x1 s1 (ha.monoB x1) hd
  · refine nxt ?_
    try dsimp only
    exact ⟨st, lo, hi, rfl, s1, h1, h2, fun d2 v2 H2 x2 s2 a2 m2 => k d2 v2 H2 (x1.trans x2) s2 a2 m2⟩
def P_l_great (A : Ad) : Sp := fun vs H Q _ => ∃ (st : Sto), vs = [.ref st] ∧ Store H st ∧ ∀ (a b : Int) (v : V) H', ExB st H H' → Store H' st → At st H' (.tup [.int a, .int b]) v → 1 ≤ b → a.natAbs < 2 ^ 3900 → b.natAbs < 2 ^ 3900 → Q v H'
def b_l_great (A : Ad) (W : WX) : TS := tSeq (tAsg (bCall (P_l_ten A) W (tCons (tOp bAdd (tC (.int 41)) (bCall (P_l_take A) W (tCons (bVar 0) (tCons (tC (.int 930)) (tNil))))) (tNil))) (gName 1)) (tSeq (tAsg (tOp bMul (tOp bAdd (bVar 1) (bCall (P_l_take A) W (tCons (bVar 0) (tCons (bVar 1) (tNil))))) (tOp bIx (bLst (tCons (tC (.int 1)) (tCons (tUn bNeg (tC (.int 1))) (tNil)))) (bCall (P_l_take A) W (tCons (bVar 0) (tCons (tC (.int 2)) (tNil)))))) (gName 2)) (tSeq (tAsg (tOp bAdd (tC (.int 1)) (bCall (P_l_take A) W (tCons (bVar 0) (tCons (tC (.int 999)) (tNil))))) (gName 3)) (tSeq (bIf (bTst (tOp (bEq A.K) (bCall (P_l_take A) W (tCons (bVar 0) (tCons (tC (.int 3)) (tNil)))) (tC (.int 0)))) (tRet (bTup (tCons (bVar 3) (tCons (bAbs (bVar 2)) (tNil))))) (tNext)) (tRet (bTup (tCons (bVar 2) (tCons (bVar 3) (tNil))))))))
theorem r_l_great (A : Ad) : ∀ vs H Q E, P_l_great A vs H Q E → vs.length = 1 ∧ b_l_great A (wE E) (dE Q) (start ["store", "many", "top", "low"] vs) H := by
  rintro vs H Q E ⟨st, rfl, hS, k⟩
  refine ⟨rfl, ?_⟩
  walk_at "go"
  refine ⟨st, 930, rfl, hS, Sz.small (by decide), fun r1 H1 x1 s1 r10 r11 => ?_⟩
  walk_at "go"
  refine ⟨_, rfl, by omega, by omega, fun T hT => ?_⟩
  obtain ⟨n, hn, n0, n1⟩ : ∃ n : Nat, (41 + r1).toNat = n ∧ 41 ≤ n ∧ n ≤ 970 := ⟨_, rfl, by omega, by omega⟩
  rw [hn] at hT
  have T0 := ten_pos n
  have T1 : (10 : Int) ^ n < 2 ^ 3881 := ten_lt2 (by omega)
  rw [← hT] at T0 T1
  clear hT
  walk_at "go"
  refine ⟨st, T, rfl, s1, Sz.of 3881 (by omega) (by decide) (by decide), fun u H2 x2 s2 u0 u1 => ?_⟩
  walk_at "go"
  rename_i p3 H3 x3 n3 g3
  have s3 := s2.mono x3
  refine ⟨st, 2, rfl, s3, Sz.small (by decide), fun r4 H4 x4 s4 r40 r41 => ?_⟩
  refine Get.mk _ (x4 _ _ (s2.ne n3) g3) ?_
  obtain ⟨s, hs, es⟩ := pick2 r40 r41
  refine AtI.mk _ es ?_
  refine ⟨mulR (by omega) (by omega), ?_⟩
  have tz : ((T + u) * s).natAbs < 2 ^ 3882 := by
    rw [pow2s 3881]
    rcases hs with rfl | rfl <;> omega
  have t0 : (T + u) * s ≠ 0 := by rcases hs with rfl | rfl <;> omega
  generalize (T + u) * s = top at tz t0
  walk_at "go"
  refine ⟨st, 999, rfl, s4, Sz.small (by decide), fun r5 H5 x5 s5 r50 r51 => ?_⟩
  have X5 : ExB st H H5 := x1.trans (x2.trans ((x3.but st).trans (x4.trans x5)))
  walk_at "go"
  refine ⟨st, 3, rfl, s5, Sz.small (by decide), fun r6 H6 x6 s6 r60 r61 => ?_⟩
  have zt : top.natAbs < 2 ^ 3900 := sm_lt tz (by decide)
  have zl : (1 + r5).natAbs < 2 ^ 3900 := sm_lt (j := 10) (by omega) (by decide)
  walk_at "br"
  · walk_at "go"
    rename_i T7 H7 x7 n7 g7
    exact k (1 + r5) (top.natAbs : Int) _ _ (X5.trans (x6.trans (x7.but _))) (s6.mono x7) (.tup (s6.ne n7) g7 (.cons (.int _) (.cons (.int _) .nil))) (by omega) zl (by simpa using zt)
  · walk_at "go"
    rename_i T7 H7 x7 n7 g7
    exact k top (1 + r5) _ _ (X5.trans (x6.trans (x7.but _))) (s6.mono x7) (.tup (s6.ne n7) g7 (.cons (.int _) (.cons (.int _) .nil))) (by omega) zt zl
open TL
def ratioT (t b : Int) : Str := Str.ofString (toString t) ++ Str.ofString "/" ++ Str.ofString (toString b)
theorem p10 : (2 : Nat) ^ 8980 ≤ 10 ^ 2704 := by decide +kernel
theorem p10b : (10 : Nat) ^ 2704 ≤ 10 ^ 4300 := Nat.pow_le_pow_right (by decide) (by decide)
theorem int_len {i : Int} (h : i.natAbs < 2 ^ 8980) : (Str.ofString (toString i)).length ≤ 2705 := by
  have hd : (dc i.natAbs).length ≤ 2704 := dc_len (by decide) (Nat.lt_of_lt_of_le h p10)
  rw [len_tl]
  by_cases h0 : 0 ≤ i
  · rw [tl_int h0]
    have : i.toNat = i.natAbs := by omega
    rw [this]
    omega
  · have e : i = -((i.natAbs : Nat) : Int) := by omega
    rw [e, tl_neg (by omega)]
    simp
    omega
theorem int_ok {i : Int} (h : i.natAbs < 2 ^ 8980) : i.natAbs < 10 ^ 4300 := Nat.lt_of_lt_of_le h (Nat.le_trans p10 p10b)
theorem len_app (a b : Str) : (a ++ b).length = a.length + b.length := by
  show (Str.append a b).length = _
  simp [Str.append, Str.length]
def P_l_ratio_text (A : Ad) : Sp := fun vs H Q _ => ∃ (t b : Int), vs = [.int t, .int b] ∧ t.natAbs < 2 ^ 8980 ∧ b.natAbs < 2 ^ 8980 ∧ Q (.str (ratioT t b)) H
def b_l_ratio_text (A : Ad) (W : WX) : TS := tRet (tOp bAdd (tOp bAdd (bStrW (bVar 0)) (tC (.str "/"))) (bStrW (bVar 1)))
theorem sl_len : (Str.ofString "/").length = 1 := by decide
theorem r_l_ratio_text (A : Ad) : ∀ vs H Q E, P_l_ratio_text A vs H Q E → vs.length = 2 ∧ b_l_ratio_text A (wE E) (dE Q) (start ["top", "low"] vs) H := by
  rintro vs H Q E ⟨t, b, rfl, ht, hb, k⟩
  refine ⟨rfl, ?_⟩
  have l1 := int_len ht
  have l2 := int_len hb
  refine ⟨int_ok ht, ?_⟩
  refine ⟨len5 (by rw [sl_len]; omega), ?_⟩
  refine ⟨int_ok hb, ?_⟩
  refine ⟨len5 (by rw [len_app, sl_len]; omega), ?_⟩
  exact k
open TL
theorem empty_app (a : Str) : Str.empty ++ a = a := by
  refine tl_inj ?_
  show (Str.append Str.empty a).cps.toList = _
  simp [Str.append, Str.empty]
def P_format_ratio (A : Ad) : Sp := fun vs H Q E => ∃ (m : Addr) (d : Dt) (v : V), vs = [v] ∧ H m ≠ none ∧ At m H d v ∧ d.sm 4480 ∧ (∀ k, fracF d = some k → Raises A H E k "fraction") ∧
  (∀ a b : Int, d = .tup [.int a, .int b] → 1 ≤ b → ∀ (p q : Int) H', Ex H H' → IsR a b p q → Q (.str (ratioT p q)) H')
def b_format_ratio (A : Ad) (W : WX) : TS := tSeq (tDrop (bCall (P_check_fraction A) W (tCons (bVar 0) (tCons (tC (.str "fraction")) (tNil))))) (tSeq (tAsg (bCall (P_ratio A) W (tCons (tOp bIx (bVar 0) (tC (.int 0))) (tCons (tOp bIx (bVar 0) (tC (.int 1))) (tNil)))) (gTwo 1 2)) (tRet (bFs (bFmtW (bVar 1) :: (tC (.str "/") :: (bFmtW (bVar 2) :: []))))))
theorem r_format_ratio (A : Ad) : ∀ vs H Q E, P_format_ratio A vs H Q E → vs.length = 1 ∧ b_format_ratio A (wE E) (dE Q) (start ["fraction", "top", "bottom"] vs) H := by
  rintro vs H Q E ⟨m, d, v, rfl, hm, h, hs, kr, k⟩
  refine ⟨rfl, ?_⟩
  refine ⟨m, d, v, _, rfl, h, fun e => ?_, fun k e => kr k e⟩
  obtain ⟨a, b, rfl, hb⟩ := frac_some e
  obtain ⟨za, zb⟩ := sm_pair hs
  obtain ⟨p, x, y, rfl, np, hp, i1, i2⟩ := at_pair_inv h
  obtain rfl := at_int_inv i1
  obtain rfl := at_int_inv i2
  walk_at "go"
  have wa : a.natAbs < 2 ^ 8980 := sm_lt za (by decide)
  have wb : b.natAbs < 2 ^ 8980 := sm_lt zb (by decide)
  refine ⟨m, a, b, rfl, hm, by omega, wa, wb, fun t q v' H1 y1 a1 R => ?_⟩
  obtain ⟨p2, x2, y2, rfl, np2, hp2, j1, j2⟩ := at_pair_inv a1
  obtain rfl := at_int_inv j1
  obtain rfl := at_int_inv j2
  have R' := R
  obtain ⟨_, _, _, lt, lq⟩ := R'
  have wt : t.natAbs < 2 ^ 8980 := Nat.lt_of_le_of_lt lt wa
  have wq : q.natAbs < 2 ^ 8980 := Nat.lt_of_le_of_lt lq wb
  have l1 := int_len wt
  have l2 := int_len wq
  refine Get.mk _ hp2 ?_
  refine ⟨int_ok wt, ?_⟩
  have le : Str.empty.length = 0 := rfl
  refine ⟨len5 (by rw [len_app, le]; omega), ?_⟩
  refine ⟨len5 (by rw [len_app, len_app, sl_len, le]; omega), ?_⟩
  refine ⟨int_ok wq, ?_⟩
  refine ⟨len5 (by rw [len_app, len_app, len_app, sl_len, le]; omega), ?_⟩
  have := k a b rfl hb t q H1 y1 R
  unfold ratioT at this
  show Q (.str (Str.empty ++ Str.ofString (toString t) ++ Str.ofString "/" ++ Str.ofString (toString q))) H1
  rw [empty_app]
  exact this
theorem at_one_inv {m : Addr} {H : Hp} {d : Dt} {v : V} (h : At m H (.lst [d]) v) : ∃ p x, v = .ref p ∧ p ≠ m ∧ H p = some (.lst [x]) ∧ At m H d x := by
  obtain ⟨p, xs, rfl, n, hp, l⟩ := at_lst_inv h
  obtain ⟨x, r, rfl, h1, l⟩ := atl_cons_inv l
  obtain rfl := atl_nil_inv l
  exact ⟨p, x, rfl, n, hp, h1⟩
theorem at_two_inv {m : Addr} {H : Hp} {d1 d2 : Dt} {v : V} (h : At m H (.lst [d1, d2]) v) : ∃ p x y, v = .ref p ∧ p ≠ m ∧ H p = some (.lst [x, y]) ∧ At m H d1 x ∧ At m H d2 y := by
  obtain ⟨p, xs, rfl, n, hp, l⟩ := at_lst_inv h
  obtain ⟨x, r, rfl, h1, l⟩ := atl_cons_inv l
  obtain ⟨y, r, rfl, h2, l⟩ := atl_cons_inv l
  obtain rfl := atl_nil_inv l
  exact ⟨p, x, y, rfl, n, hp, h1, h2⟩
def nmK (w : Nat) : String := if w = 0 then "word" else "chosen"
def dueK (w : Nat) (ds : List Dt) : Option (Fk × String) := match ds with
  | [d] => firstF [("fraction", fracF d)]
  | [d1, d2] => wordDue (nmK w) d1 d2
  | _ => none
/-- the questions that are written: a word, a set, a fraction -/
def AskK (w : Nat) (ds : List Dt) : Prop := (w = 2 ∧ ∃ d, ds = [d]) ∨ (w < 2 ∧ ∃ d1 d2, ds = [d1, d2])
def P_l_fault (A : Ad) : Sp := fun vs H Q _ => ∃ (m : Addr) (w : Nat) (ds : List Dt) (v : V), vs = [.int w, v] ∧ AskK w ds ∧ H m ≠ none ∧ At m H (.lst ds) v ∧ ∀ v' H', Ex H H' → At m H' (dueD (dueK w ds)) v' → Q v' H'
def b_l_fault (A : Ad) (W : WX) : TS := tSeq (bIf (bTst (tOp (bEq A.K) (bVar 0) (tC (.int 2)))) (tRet (bCall (P_l_first_fault A) W (tCons (bLst (tCons (bTup (tCons (tC (.str "fraction")) (tCons (bCall (P_l_fraction_fault A) W (tCons (tOp bIx (bVar 1) (tC (.int 0))) (tNil))) (tNil)))) (tNil))) (tNil)))) (tNext)) (tSeq (tAsg (bCall (P_l_number_fault A) W (tCons (tOp bIx (bVar 1) (tC (.int 0))) (tCons (tC (.int 0)) (tCons (tC (.int 6)) (tNil))))) (gName 2)) (tSeq (bIf (bTst (tOp (bNe A.K) (bVar 2) (tC (.str "")))) (tRet (bTup (tCons (bVar 2) (tCons (tC (.str "width")) (tNil))))) (tNext)) (tRet (bCall (P_l_first_fault A) W (tCons (bLst (tCons (bTup (tCons (tOp bIx (bLst (tCons (tC (.str "word")) (tCons (tC (.str "chosen")) (tNil)))) (bVar 0)) (tCons (bCall (P_l_number_fault A) W (tCons (tOp bIx (bVar 1) (tC (.int 1))) (tCons (tC (.int 0)) (tCons (tOp bSub (tOp bShl (tC (.int 1)) (tOp bIx (bVar 1) (tC (.int 0)))) (tC (.int 1))) (tNil))))) (tNil)))) (tNil))) (tNil))))))
theorem at_row1 {m : Addr} {H : Hp} {p t1 : Addr} {n1 : String} {f1 : Option Fk} (hp : H p = some (.lst [.ref t1])) (np : p ≠ m) (h1 : H t1 = some (.tup [.str (Str.ofString n1), .str (Str.ofString (fs f1))])) (m1 : t1 ≠ m) : At m H (rowD [(n1, f1)]) (.ref p) :=
  .lst np hp (.cons (.tup m1 h1 (.cons (.str _) (.cons (.str _) .nil))) .nil)
theorem r_l_fault (A : Ad) : ∀ vs H Q E, P_l_fault A vs H Q E → vs.length = 2 ∧ b_l_fault A (wE E) (dE Q) (start ["which", "given", "found"] vs) H := by
  rintro vs H Q E ⟨m, w, ds, v, rfl, hw, hm, ha, k⟩
  refine ⟨rfl, ?_⟩
  rcases hw with ⟨rfl, d, rfl⟩ | ⟨hw, d1, d2, rfl⟩
  · obtain ⟨t, x, rfl, nt, ht, h1⟩ := at_one_inv ha
    walk_at "all"
    refine ⟨m, d, x, rfl, h1, ?_⟩
    walk_at "go"
    rename_i t1 H1 x1 n1 g1 p H2 x2 n2 g2
    refine ⟨m, [("fraction", fracF d)], .ref p, rfl, fun z => hm ((x1.trans x2).fresh z), at_row1 g2 (fun z => hm (x1.fresh (z ▸ n2))) (x2 _ _ g1) (new_ne hm n1), fun v' H' x' a' => ?_⟩
    exact k v' H' ((x1.trans x2).trans x') a'
  · obtain ⟨t, x, y, rfl, nt, ht, h1, h2⟩ := at_two_inv ha
    walk_at "br"
    · omega
    walk_at "go"
    refine ⟨m, d1, x, some 0, some 6, rfl, h1, ?_⟩
    walk_at "br"
    · rename_i hb0 hb
      walk_at "go"
      rename_i T H1 x1 n1 g1
      cases e1 : numF d1 (some 0) (some 6) with
      | none => rw [e1] at hb; exact absurd rfl hb
      | some f =>
        rw [e1] at g1
        refine k _ H1 x1 ?_
        show At m H1 (dueD (wordDue (nmK w) d1 d2)) _
        rw [wordDue_1 e1]
        exact .tup (new_ne hm n1) g1 (.cons (.str _) (.cons (.str _) .nil))
    · rename_i hb0 hb
      rw [fs_none] at hb
      obtain ⟨a, rfl⟩ := num_int hb
      obtain ⟨a0, a1⟩ := num_in hb
      obtain rfl := at_int_inv h1
      refine nxt ?_
      try dsimp only
      refine Alloc.mk fun L H1 x1 n1 g1 => ?_
      refine Get.mk _ g1 ?_
      have shl : CShl 1 a := shl1 (by decide) a0 (by omega)
      obtain rfl | rfl : w = 0 ∨ w = 1 := by omega
      all_goals
        refine AtI.mk _ rfl ?_
        refine Get.mk _ (x1 _ _ ht) (AtI.mk _ rfl ?_)
        refine Get.mk _ (x1 _ _ ht) (AtI.mk _ rfl ?_)
        refine ⟨shl, ?_⟩
        refine ⟨m, d2, y, some 0, some (1 * 2 ^ a.toNat - 1), rfl, h2.mono x1, ?_⟩
        rw [Int.one_mul]
        walk_at "go"
        rename_i T2 H2 x2 n2 g2 P3 H3 x3 n3 g3
        have x12 := x1.trans x2
      · refine ⟨m, [("word", numF d2 (some 0) (some (2 ^ a.toNat - 1)))], .ref P3, rfl, fun z => hm ((x12.trans x3).fresh z), at_row1 g3 (fun z => hm (x12.fresh (z ▸ n3))) (x3 _ _ g2) (fun z => hm (x1.fresh (z ▸ n2))), fun v' H' x' a' => ?_⟩
        refine k v' H' ((x12.trans x3).trans x') ?_
        have e : dueK 0 [.int a, d2] = firstF [("word", numF d2 (some 0) (some (2 ^ a.toNat - 1)))] := by
          show wordDue "word" (.int a) d2 = _
          cases e2 : numF d2 (some 0) (some (2 ^ a.toNat - 1)) with
          | none => rw [wordDue_0 hb e2]; rfl
          | some f => rw [wordDue_2 hb e2]; rfl
        rw [e]
        exact a'
      · refine ⟨m, [("chosen", numF d2 (some 0) (some (2 ^ a.toNat - 1)))], .ref P3, rfl, fun z => hm ((x12.trans x3).fresh z), at_row1 g3 (fun z => hm (x12.fresh (z ▸ n3))) (x3 _ _ g2) (fun z => hm (x1.fresh (z ▸ n2))), fun v' H' x' a' => ?_⟩
        refine k v' H' ((x12.trans x3).trans x') ?_
        have e : dueK 1 [.int a, d2] = firstF [("chosen", numF d2 (some 0) (some (2 ^ a.toNat - 1)))] := by
          show wordDue "chosen" (.int a) d2 = _
          cases e2 : numF d2 (some 0) (some (2 ^ a.toNat - 1)) with
          | none => rw [wordDue_0 hb e2]; rfl
          | some f => rw [wordDue_2 hb e2]; rfl
        rw [e]
        exact a'
open TL
theorem tl_ratio {t b : Int} (hb : 1 ≤ b) : tl (ratioT t b) = sg t ++ (dc t.natAbs ++ (47 :: dc b.toNat)) := by
  have app : ∀ x y : Str, tl (x ++ y) = tl x ++ tl y := fun x y => by
    show (Str.append x y).cps.toList = _
    simp [Str.append, tl]
  unfold ratioT
  rw [app, app, tl_int (by omega : 0 ≤ b)]
  have e1 : tl (Str.ofString (toString t)) = sg t ++ dc t.natAbs := by
    unfold sg
    by_cases h0 : 0 ≤ t
    · rw [tl_int h0, if_neg (by omega)]
      have : t.toNat = t.natAbs := by omega
      rw [this]
      rfl
    · have e : t = -((t.natAbs : Nat) : Int) := by omega
      rw [if_pos (by omega)]
      conv => lhs; rw [e]
      rw [tl_neg (by omega)]
      rfl
  rw [e1, List.append_assoc, List.append_assoc]
  have e2 : tl (Str.ofString "/") = [47] := by decide
  rw [e2]
  rfl
/-- the text that is due -/
def AnsK (w : Nat) (ds : List Dt) (s : Str) : Prop := match w, ds with
  | 0, [.int a, .int x] => s = bitsT a.toNat x
  | 1, [.int a, .int x] => s = setT a.toNat x
  | 2, [.tup [.int a, .int b]] => ∃ p q, IsR a b p q ∧ s = ratioT p q
  | _, _ => False
theorem due_frac {d : Dt} (h : dueK 2 [d] = none) : fracF d = none := by
  cases e : fracF d with
  | none => rfl
  | some k =>
    have : dueK 2 [d] = firstF [("fraction", fracF d)] := rfl
    rw [this, e] at h
    cases h
theorem due_word {w : Nat} {d1 d2 : Dt} (h : dueK w [d1, d2] = none) : ∃ a x : Int, d1 = .int a ∧ d2 = .int x ∧ 0 ≤ a ∧ a ≤ 6 ∧ 0 ≤ x ∧ x < 2 ^ a.toNat := wordDue_in (nm := nmK w) h
def P_l_answer (A : Ad) : Sp := fun vs H Q _ => ∃ (m : Addr) (w : Nat) (ds : List Dt) (v : V), vs = [.int w, v] ∧ AskK w ds ∧ H m ≠ none ∧ At m H (.lst ds) v ∧ Dt.sms 4480 ds ∧ dueK w ds = none ∧ ∀ s H', Ex H H' → AnsK w ds s → Q (.str s) H'
def b_l_answer (A : Ad) (W : WX) : TS := tSeq (bIf (bTst (tOp (bEq A.K) (bVar 0) (tC (.int 0)))) (tRet (bCall (P_l_word_text A) W (tCons (tOp bIx (bVar 1) (tC (.int 0))) (tCons (tOp bIx (bVar 1) (tC (.int 1))) (tNil))))) (tNext)) (tSeq (bIf (bTst (tOp (bEq A.K) (bVar 0) (tC (.int 1)))) (tRet (bCall (P_l_set_text A) W (tCons (tOp bIx (bVar 1) (tC (.int 0))) (tCons (tOp bIx (bVar 1) (tC (.int 1))) (tNil))))) (tNext)) (tSeq (tAsg (bCall (P_l_lowest A) W (tCons (tOp bIx (tOp bIx (bVar 1) (tC (.int 0))) (tC (.int 0))) (tCons (tOp bIx (tOp bIx (bVar 1) (tC (.int 0))) (tC (.int 1))) (tNil)))) (gName 2)) (tRet (bCall (P_l_ratio_text A) W (tCons (tOp bIx (bVar 2) (tC (.int 0))) (tCons (tOp bIx (bVar 2) (tC (.int 1))) (tNil)))))))
theorem r_l_answer (A : Ad) : ∀ vs H Q E, P_l_answer A vs H Q E → vs.length = 2 ∧ b_l_answer A (wE E) (dE Q) (start ["which", "given", "pair"] vs) H := by
  rintro vs H Q E ⟨m, w, ds, v, rfl, hw, hm, ha, hs, hd, k⟩
  refine ⟨rfl, ?_⟩
  rcases hw with ⟨rfl, d, rfl⟩ | ⟨hw, d1, d2, rfl⟩
  · obtain ⟨a, b, rfl, hb⟩ := frac_some (due_frac hd)
    obtain ⟨t, x, rfl, nt, ht, h1⟩ := at_one_inv ha
    obtain ⟨p, y, z, rfl, np, hp, i1, i2⟩ := at_pair_inv h1
    obtain rfl := at_int_inv i1
    obtain rfl := at_int_inv i2
    rw [Dt.sms] at hs
    obtain ⟨za, zb⟩ := sm_pair hs.1
    walk_at "all"
    have wa : a.natAbs < 2 ^ 8980 := sm_lt za (by decide)
    have wb : b.natAbs < 2 ^ 8980 := sm_lt zb (by decide)
    refine ⟨m, a, b, rfl, hm, by omega, wa, wb, fun p' q' v' H1 y1 a1 R => ?_⟩
    obtain ⟨p2, x2, y2, rfl, np2, hp2, j1, j2⟩ := at_pair_inv a1
    obtain rfl := at_int_inv j1
    obtain rfl := at_int_inv j2
    obtain ⟨_, _, _, lt, lq⟩ := id R
    walk_at "go"
    exact ⟨p', q', rfl, Nat.lt_of_le_of_lt lt wa, Nat.lt_of_le_of_lt lq wb, k _ H1 y1 ⟨p', q', R, rfl⟩⟩
  · obtain ⟨a, x, rfl, rfl, a0, a1, x0, x1⟩ := due_word hd
    obtain ⟨t, y, z, rfl, nt, ht, h1, h2⟩ := at_two_inv ha
    obtain rfl := at_int_inv h1
    obtain rfl := at_int_inv h2
    obtain rfl | rfl : w = 0 ∨ w = 1 := by omega
    · walk_at "all"
      exact ⟨a, x, rfl, a0, a1, fun H' x' => k _ H' x' rfl⟩
    · walk_at "all"
      exact ⟨a, x, rfl, a0, a1, x0, x1, fun H' x' => k _ H' x' rfl⟩
open TL
/-- a text that is read, and what it is read as -/
def ReadK (w : Nat) (ds : List Dt) (d : Dt) : Prop :=
  (w = 3 ∧ ∃ (a : Nat) (x : Int), a ≤ 6 ∧ 0 ≤ x ∧ x < 2 ^ a ∧ ds = [.str (bitsT a x)] ∧ d = .tup [.int a, .int x]) ∨
  (w = 4 ∧ ∃ (v : Int) (a : Nat) (x : Int), v ≤ 6 ∧ (a : Int) ≤ v ∧ 0 ≤ x ∧ x < 2 ^ a ∧ ds = [.int v, .str (setT a x)] ∧ d = .int x) ∨
  (w = 5 ∧ ∃ (s : Str) (t b p q : Int), t.natAbs < 10 ^ 9 ∧ 1 ≤ b ∧ b < 10 ^ 9 ∧ tl s = sg t ++ (dc t.natAbs ++ (47 :: dc b.toNat)) ∧ IsR t b p q ∧ ds = [.str s] ∧ d = .tup [.int p, .int q])
def P_l_ask (A : Ad) : Sp := fun vs H Q E => ∃ (m : Addr) (w : Nat) (ds : List Dt) (v : V), (vs = [.int w, v] ∨ vs = [.int (w + 20), v]) ∧ H m ≠ none ∧ At m H (.lst ds) v ∧
  ((AskK w ds ∧ Dt.sms 4480 ds ∧ (∀ k n, dueK w ds = some (k, n) → Raises A H E k (Str.ofString n)) ∧ (dueK w ds = none → ∀ s H', Ex H H' → AnsK w ds s → Q (.str s) H')) ∨
   (∃ d, ReadK w ds d ∧ ∀ v' H', Ex H H' → At m H' d v' → Q v' H'))
def b_l_ask (A : Ad) (W : WX) : TS := tSeq (bIf (bTst (tOp (bEq A.K) (bVar 0) (tC (.int 0)))) (tRet (bCall (P_format_word A) W (tCons (tOp bIx (bVar 1) (tC (.int 0))) (tCons (tOp bIx (bVar 1) (tC (.int 1))) (tNil))))) (tNext)) (tSeq (bIf (bTst (tOp (bEq A.K) (bVar 0) (tC (.int 1)))) (tRet (bCall (P_format_set A) W (tCons (tOp bIx (bVar 1) (tC (.int 0))) (tCons (tOp bIx (bVar 1) (tC (.int 1))) (tNil))))) (tNext)) (tSeq (bIf (bTst (tOp (bEq A.K) (bVar 0) (tC (.int 2)))) (tRet (bCall (P_format_ratio A) W (tCons (tOp bIx (bVar 1) (tC (.int 0))) (tNil)))) (tNext)) (tSeq (bIf (bTst (tOp (bEq A.K) (bVar 0) (tC (.int 3)))) (tRet (bCall (P_parse_word A) W (tCons (tOp bIx (bVar 1) (tC (.int 0))) (tNil)))) (tNext)) (tSeq (bIf (bTst (tOp (bEq A.K) (bVar 0) (tC (.int 4)))) (tRet (bCall (P_parse_set A) W (tCons (tOp bIx (bVar 1) (tC (.int 0))) (tCons (tOp bIx (bVar 1) (tC (.int 1))) (tNil))))) (tNext)) (tSeq (bIf (bTst (tOp (bEq A.K) (bVar 0) (tC (.int 5)))) (tRet (bCall (P_parse_ratio A) W (tCons (tOp bIx (bVar 1) (tC (.int 0))) (tNil)))) (tNext)) (tSeq (bIf (bTst (tOp (bEq A.K) (bVar 0) (tC (.int 20)))) (tRet (bCallK [1, 0] (P_format_word A) W (tCons (tOp bIx (bVar 1) (tC (.int 1))) (tCons (tOp bIx (bVar 1) (tC (.int 0))) (tNil))))) (tNext)) (tSeq (bIf (bTst (tOp (bEq A.K) (bVar 0) (tC (.int 21)))) (tRet (bCallK [0, 1] (P_format_set A) W (tCons (tOp bIx (bVar 1) (tC (.int 0))) (tCons (tOp bIx (bVar 1) (tC (.int 1))) (tNil))))) (tNext)) (tSeq (bIf (bTst (tOp (bEq A.K) (bVar 0) (tC (.int 22)))) (tRet (bCallK [0] (P_format_ratio A) W (tCons (tOp bIx (bVar 1) (tC (.int 0))) (tNil)))) (tNext)) (tSeq (bIf (bTst (tOp (bEq A.K) (bVar 0) (tC (.int 23)))) (tRet (bCallK [0] (P_parse_word A) W (tCons (tOp bIx (bVar 1) (tC (.int 0))) (tNil)))) (tNext)) (tSeq (bIf (bTst (tOp (bEq A.K) (bVar 0) (tC (.int 24)))) (tRet (bCallK [1, 0] (P_parse_set A) W (tCons (tOp bIx (bVar 1) (tC (.int 1))) (tCons (tOp bIx (bVar 1) (tC (.int 0))) (tNil))))) (tNext)) (tRet (bCallK [0] (P_parse_ratio A) W (tCons (tOp bIx (bVar 1) (tC (.int 0))) (tNil))))))))))))))
theorem r_l_ask (A : Ad) : ∀ vs H Q E, P_l_ask A vs H Q E → vs.length = 2 ∧ b_l_ask A (wE E) (dE Q) (start ["which", "given"] vs) H := by
  rintro vs H Q E ⟨m, w, ds, v, hv, hm, ha, h⟩
  rcases h with ⟨hw, hs, kr, kq⟩ | ⟨d, hr, kq⟩
  · rcases hw with ⟨rfl, d, rfl⟩ | ⟨hw, d1, d2, rfl⟩
    · obtain ⟨t, x, rfl, nt, ht, h1⟩ := at_one_inv ha
      rw [Dt.sms] at hs
      have go : P_format_ratio A [x] H Q E := by
        refine ⟨m, d, x, rfl, hm, h1, hs.1, fun k e => ?_, ?_⟩
        · refine kr k "fraction" ?_
          have : dueK 2 [d] = firstF [("fraction", fracF d)] := rfl
          rw [this, e]
          rfl
        · rintro a b rfl hb p q H' x' R
          refine kq ?_ _ H' x' ⟨p, q, R, rfl⟩
          have : dueK 2 [.tup [.int a, .int b]] = firstF [("fraction", fracF (.tup [.int a, .int b]))] := rfl
          rw [this, frac_none hb]
          rfl
      rcases hv with rfl | rfl
      all_goals
        refine ⟨rfl, ?_⟩
        walk_at "all"
        exact go
    · obtain ⟨t, x, y, rfl, nt, ht, h1, h2⟩ := at_two_inv ha
      obtain rfl | rfl : w = 0 ∨ w = 1 := by omega
      · have go : P_format_word A [x, y] H Q E := by
          refine ⟨m, d1, d2, x, y, rfl, h1, h2, fun k n e => kr k n e, ?_⟩
          exact fun e w x e1 e2 H' x' => by subst e1 e2; exact kq e _ H' x' rfl
        rcases hv with rfl | rfl
        all_goals
          refine ⟨rfl, ?_⟩
          walk_at "all"
          exact go
      · have go : P_format_set A [x, y] H Q E := by
          refine ⟨m, d1, d2, x, y, rfl, h1, h2, fun k n e => kr k n e, ?_⟩
          exact fun e w x e1 e2 H' x' => by subst e1 e2; exact kq e _ H' x' rfl
        rcases hv with rfl | rfl
        all_goals
          refine ⟨rfl, ?_⟩
          walk_at "all"
          exact go
  · rcases hr with ⟨rfl, a, x, a1, x0, x1, rfl, rfl⟩ | ⟨rfl, u, a, x, u1, a1, x0, x1, rfl, rfl⟩ | ⟨rfl, s, t, b, p, q, ht, b0, b1, hs, R, rfl, rfl⟩
    · obtain ⟨t, z, rfl, nt, ht, h1⟩ := at_one_inv ha
      obtain rfl := at_str_inv h1
      have go : P_parse_word A [.str (bitsT a x)] H Q E := ⟨m, a, x, rfl, hm, a1, x0, x1, kq⟩
      rcases hv with rfl | rfl
      all_goals
        refine ⟨rfl, ?_⟩
        walk_at "all"
        exact go
    · obtain ⟨t, y, z, rfl, nt, ht, h1, h2⟩ := at_two_inv ha
      obtain rfl := at_int_inv h1
      obtain rfl := at_str_inv h2
      have go : P_parse_set A [.int u, .str (setT a x)] H Q E := ⟨m, u, a, x, rfl, hm, u1, a1, x0, x1, fun H' x' => kq _ H' x' (.int _)⟩
      rcases hv with rfl | rfl
      all_goals
        refine ⟨rfl, ?_⟩
        walk_at "all"
        exact go
    · obtain ⟨t', z, rfl, nt, ht', h1⟩ := at_one_inv ha
      obtain rfl := at_str_inv h1
      have go : P_parse_ratio A [.str s] H Q E := ⟨m, s, t, b, rfl, hm, ht, b0, b1, hs, fun p' q' v' H' x' a' R' => by
        obtain ⟨rfl, rfl⟩ := isR_one (by omega) R R'
        exact kq v' H' x' a'⟩
      rcases hv with rfl | rfl
      all_goals
        refine ⟨rfl, ?_⟩
        walk_at "all"
        exact go
open TL
def P_l_told (A : Ad) : Sp := fun vs H Q _ => ∃ (m : Addr) (w : Nat) (ds : List Dt) (v : V), (vs = [.int w, v] ∨ vs = [.int (w + 20), v]) ∧ H m ≠ none ∧ At m H (.lst ds) v ∧ CF A ∧
  ((AskK w ds ∧ Dt.sms 4480 ds ∧ (∀ k n, dueK w ds = some (k, n) → ∀ v H', Ex H H' → At m H' (.tup [.str "refused", .tup [.str (Str.ofString k.nm), .str (Str.ofString n)]]) v → Q v H') ∧
    (dueK w ds = none → ∀ s v H', Ex H H' → AnsK w ds s → At m H' (.tup [.str "answer", .str s]) v → Q v H')) ∨
   (∃ d, ReadK w ds d ∧ ∀ v' H', Ex H H' → At m H' (.tup [.str "answer", d]) v' → Q v' H'))
def b_l_told (A : Ad) (W : WX) : TS := bTry A.K (.ref A.ShadeError) 2 (fun W' => tRet (bTup (tCons (tC (.str "answer")) (tCons (bCall (P_l_ask A) W' (tCons (bVar 0) (tCons (bVar 1) (tNil)))) (tNil))))) (fun a cls d => tRet (bTup (tCons (tC (.str "refused")) (tCons (bCall ((P_l_refusal A) a cls d) (fun _ _ _ _ => False) (tCons (bVar 2) (tNil))) (tNil))))) W
theorem r_l_told (A : Ad) : ∀ vs H Q E, P_l_told A vs H Q E → vs.length = 2 ∧ b_l_told A (wE E) (dE Q) (start ["which", "given", "caught"] vs) H := by
  rintro vs H Q E ⟨m, w, ds, v, hv, hm, ha, F, h⟩
  have body : ∀ i : Int, (i = w ∨ i = w + 20) → b_l_told A (wE E) (dE Q) [some (.int i), some v, none] H := by
    intro i hi
    refine ⟨m, w, ds, v, hi.imp (by rintro rfl; rfl) (by rintro rfl; rfl), hm, ha, ?_⟩
    rcases h with ⟨hw, hs, kr, kq⟩ | ⟨d, hr, kq⟩
    · refine .inl ⟨hw, hs, fun k n e => ?_, fun e s H' x R => ?_⟩
      · intro dd H' x hd
        refine ⟨true, F.sh k, fun _ a' ha' => ?_, fun z => by cases z⟩
        refine ⟨k, dd, _, m, rfl, rfl, rfl, hd, fun z => hm (x.fresh z), F, fun v2 H2 x2 a2 => ?_⟩
        refine Alloc.mk fun p H3 x3 n3 h3 => ?_
        exact kr k n e _ _ (x.trans (x2.trans x3)) (.tup (fun z => hm ((x.trans x2).fresh (z ▸ n3))) h3 (.cons (.str _) (.cons (a2.mono x3) .nil)))
      · refine Alloc.mk fun t H3 x3 n3 h3 => ?_
        exact kq e s _ H3 (x.trans x3) R (.tup (fun z => hm (x.fresh (z ▸ n3))) h3 (.cons (.str _) (.cons (.str _) .nil)))
    · refine .inr ⟨d, hr, fun v' H' x a => ?_⟩
      refine Alloc.mk fun t H3 x3 n3 h3 => ?_
      exact kq _ H3 (x.trans x3) (.tup (fun z => hm (x.fresh (z ▸ n3))) h3 (.cons (.str _) (.cons (a.mono x3) .nil)))
  rcases hv with rfl | rfl
  · exact ⟨rfl, body _ (.inl rfl)⟩
  · exact ⟨rfl, body _ (.inr rfl)⟩
open TL
theorem ok_ref2 {x y : Str} : (Dt.tup [.str "refused", .tup [.str x, .str y]]).okN 5 := by simp [Dt.okN]
theorem ok_ans {s : Str} : (Dt.tup [.str "answer", .str s]).okN 5 := by simp [Dt.okN]
theorem ansK_one {w : Nat} {ds : List Dt} {s s' : Str} (hd : dueK w ds = none) (h : AnsK w ds s) (h' : AnsK w ds s') : s' = s := by
  unfold AnsK at h h'
  split at h
  · exact h'.trans h.symm
  · exact h'.trans h.symm
  · rename_i a b
    obtain ⟨p, q, R, rfl⟩ := h
    obtain ⟨p', q', R', rfl⟩ := h'
    obtain ⟨a', b', e, hb⟩ := frac_some (due_frac hd)
    cases e
    obtain ⟨rfl, rfl⟩ := isR_one (by omega) R R'
    rfl
  · exact h.elim
def P_l_written (A : Ad) : Sp := fun vs H Q _ => ∃ (m : Addr) (w : Nat) (ds : List Dt) (v : V), vs = [.int w, v] ∧ AskK w ds ∧ H m ≠ none ∧ At m H (.lst ds) v ∧ Dt.sms 4480 ds ∧ (Dt.lst ds).okN 5 ∧ CF A ∧ ∀ H', Ex H H' → Q (.bl true) H'
def b_l_written (A : Ad) (W : WX) : TS := tSeq (tAsg (bCall (P_l_fault A) W (tCons (bVar 0) (tCons (bVar 1) (tNil)))) (gName 2)) (tSeq (tAsg (bTup (tCons (tC (.str "refused")) (tCons (bVar 2) (tNil)))) (gName 3)) (tSeq (bIf (bTst (tOp (bIsN) (bVar 2) (tC .non))) (tAsg (bTup (tCons (tC (.str "answer")) (tCons (bCall (P_l_answer A) W (tCons (bVar 0) (tCons (bVar 1) (tNil)))) (tNil)))) (gName 3)) (tNext)) (tSeq (bForA (bLst (tCons (bVar 0) (tCons (tOp bAdd (bVar 0) (tC (.int 20))) (tNil)))) (gName 4) (tSeq (tAsg (bCall (P_l_copy A) W (tCons (bVar 1) (tNil))) (gName 5)) (bIf (bOr (tNot (bTru (bCall (P_l_same A) W (tCons (bCall (P_l_told A) W (tCons (bVar 4) (tCons (bVar 5) (tNil)))) (tCons (bVar 3) (tNil)))))) (tNot (bTru (bCall (P_l_same A) W (tCons (bVar 5) (tCons (bVar 1) (tNil))))))) (tRet (tC (.bl false))) (tNext)))) (tRet (tC (.bl true))))))
theorem r_l_written (A : Ad) : ∀ vs H Q E, P_l_written A vs H Q E → vs.length = 2 ∧ b_l_written A (wE E) (dE Q) (start ["which", "given", "fault", "due", "way", "handed"] vs) H := by
  rintro vs H Q E ⟨m, w, ds, v, rfl, hw, hm, ha, hs, ok, F, k⟩
  refine ⟨rfl, ?_⟩
  refine ⟨m, w, ds, v, rfl, hw, hm, ha, fun fv H1 x1 a1 => ?_⟩
  have hm1 : H1 m ≠ none := fun z => hm (x1.fresh z)
  cases e : dueK w ds with
  | some kn =>
    obtain ⟨k2, n⟩ := kn
    rw [e] at a1
    obtain ⟨pd, xs, rfl, _⟩ := at_tup_inv a1
    walk_at "go"
    rename_i p2 H2 x2 n2 g2
    walk_at "br"
    have X := x1.trans x2
    have okd := ok_ref2 (x := Str.ofString k2.nm) (y := Str.ofString n)
    have dd0 : At m H2 (.tup [.str "refused", .tup [.str (Str.ofString k2.nm), .str (Str.ofString n)]]) (.ref p2) := .tup (fun z => hm1 (z ▸ n2)) g2 (.cons (.str _) (.cons (a1.mono x2) .nil))
    have tld : ∀ (i : Int) (hv : V) (H' : Hp) (Q' : VK) (E' : XK), (i = w ∨ i = w + 20) → Ex H H' → At m H' (.lst ds) hv → (∀ v2 H2, Ex H' H2 → At m H2 (.tup [.str "refused", .tup [.str (Str.ofString k2.nm), .str (Str.ofString n)]]) v2 → Q' v2 H2) → P_l_told A [.int i, hv] H' Q' E' := by
      intro i hv H' Q' E' hi x a kk
      refine ⟨m, w, ds, hv, hi.imp (by rintro rfl; rfl) (by rintro rfl; rfl), fun z => hm (x.fresh z), a, F, .inl ⟨hw, hs, fun k3 n3 e3 => ?_, fun e3 => ?_⟩⟩
      · rw [e] at e3
        cases e3
        exact fun v H' x a => kk v H' x a
      · rw [e] at e3
        cases e3
    walk_at "go"
    rename_i p4 H4 x4 n4 g4
    refine LoopL.mk (fun i σ H' => Ex H4 H' ∧ ∃ o1 o2, σ = [some (.int w), some v, some (.ref pd), some (.ref p2), o1, o2]) ⟨Ex.refl _, _, _, rfl⟩ ?_ ?_ ?_
    · rintro i σ H' _ ⟨x, _⟩
      exact .inl (x _ _ g4)
    · rintro i z σ H' hx ⟨x5, o1, o2, rfl⟩
      have x45 := x4.trans x5
      have xH := X.trans x45
      have hm3 : H' m ≠ none := fun z => hm (xH.fresh z)
      have hz : ∃ j : Int, z = .int j ∧ (j = w ∨ j = w + 20) := by
        match i, hx with
        | 0, hx => cases hx; exact ⟨_, rfl, .inl rfl⟩
        | 1, hx => cases hx; exact ⟨_, rfl, .inr rfl⟩
        | i + 2, hx => simp at hx
      obtain ⟨j, rfl, hj⟩ := hz
      walk_at "go"
      refine ⟨m, .lst ds, v, rfl, hm3, ha.mono xH, okN_succ ok, fun hv H6 x6 a6 => ?_⟩
      have ah : At m H6 (.lst ds) hv := a6 m hm3 (.inr (ha.mono xH))
      walk_at "go"
      refine tld j hv H6 _ E hj (xH.trans x6) ah fun v2 H7 x7 a7 => ?_
      refine ⟨m, _, v2, _, rfl, a7, ((dd0.mono x45).mono x6).mono x7, okd, ?_⟩
      walk_at "br"
      refine ⟨m, _, hv, v, rfl, ah.mono x7, (((ha.mono xH).mono x6).mono x7), ok, ?_⟩
      walk_at "br"
      exact ⟨x5.trans (x6.trans x7), _, _, rfl⟩
    · rintro σ H' ⟨x5, o1, o2, rfl⟩
      exact k H' (X.trans (x4.trans x5))
  | none =>
    rw [e] at a1
    obtain rfl := at_non_inv a1
    walk_at "go"
    rename_i p2 H2 x2 n2 g2
    walk_at "br"
    walk_at "go"
    refine ⟨m, w, ds, v, rfl, hw, fun z => hm ((x1.trans x2).fresh z), (ha.mono x1).mono x2, hs, e, fun s H3 x3 R => ?_⟩
    walk_at "go"
    rename_i p6 H6 x6 n6 g6 p4 H4 x4 n4 g4
    have X := x1.trans (x2.trans (x3.trans x6))
    have okd := ok_ans (s := s)
    have dd0 : At m H6 (.tup [.str "answer", .str s]) (.ref p6) := .tup (fun z => hm ((x1.trans (x2.trans x3)).fresh (z ▸ n6))) g6 (.cons (.str _) (.cons (.str _) .nil))
    have tld : ∀ (i : Int) (hv : V) (H' : Hp) (Q' : VK) (E' : XK), (i = w ∨ i = w + 20) → Ex H H' → At m H' (.lst ds) hv → (∀ v2 H2, Ex H' H2 → At m H2 (.tup [.str "answer", .str s]) v2 → Q' v2 H2) → P_l_told A [.int i, hv] H' Q' E' := by
      intro i hv H' Q' E' hi x a kk
      refine ⟨m, w, ds, hv, hi.imp (by rintro rfl; rfl) (by rintro rfl; rfl), fun z => hm (x.fresh z), a, F, .inl ⟨hw, hs, fun k3 n3 e3 => ?_, fun e3 s' v H' x R' a => ?_⟩⟩
      · rw [e] at e3
        cases e3
      · rw [ansK_one e R R'] at a
        exact kk v H' x a
    refine LoopL.mk (fun i σ H' => Ex H4 H' ∧ ∃ o1 o2, σ = [some (.int w), some v, some .non, some (.ref p6), o1, o2]) ⟨Ex.refl _, _, _, rfl⟩ ?_ ?_ ?_
    · rintro i σ H' _ ⟨x, _⟩
      exact .inl (x _ _ g4)
    · rintro i z σ H' hx ⟨x5, o1, o2, rfl⟩
      have x45 := x4.trans x5
      have xH := X.trans x45
      have hm3 : H' m ≠ none := fun z => hm (xH.fresh z)
      have hz : ∃ j : Int, z = .int j ∧ (j = w ∨ j = w + 20) := by
        match i, hx with
        | 0, hx => cases hx; exact ⟨_, rfl, .inl rfl⟩
        | 1, hx => cases hx; exact ⟨_, rfl, .inr rfl⟩
        | i + 2, hx => simp at hx
      obtain ⟨j, rfl, hj⟩ := hz
      walk_at "go"
      refine ⟨m, .lst ds, v, rfl, hm3, ha.mono xH, okN_succ ok, fun hv H6 x6 a6 => ?_⟩
      have ah : At m H6 (.lst ds) hv := a6 m hm3 (.inr (ha.mono xH))
      walk_at "go"
      refine tld j hv H6 _ E hj (xH.trans x6) ah fun v2 H7 x7 a7 => ?_
      refine ⟨m, _, v2, _, rfl, a7, ((dd0.mono x45).mono x6).mono x7, okd, ?_⟩
      walk_at "br"
      refine ⟨m, _, hv, v, rfl, ah.mono x7, (((ha.mono xH).mono x6).mono x7), ok, ?_⟩
      walk_at "br"
      exact ⟨x5.trans (x6.trans x7), _, _, rfl⟩
    · rintro σ H' ⟨x5, o1, o2, rfl⟩
      exact k H' (X.trans (x4.trans x5))
open TL
theorem read_ok {w : Nat} {ds : List Dt} {d : Dt} (h : ReadK w ds d) : (Dt.lst ds).okN 6 ∧ (Dt.tup [.str "answer", d]).okN 5 := by
  rcases h with ⟨rfl, a, x, a1, x0, x1, rfl, rfl⟩ | ⟨rfl, u, a, x, u1, a1, x0, x1, rfl, rfl⟩ | ⟨rfl, s, t, b, p, q, ht, b0, b1, hs, R, rfl, rfl⟩
  all_goals exact ⟨by simp [Dt.okN], by simp [Dt.okN]⟩
def P_l_read (A : Ad) : Sp := fun vs H Q _ => ∃ (m : Addr) (w : Nat) (ds : List Dt) (d : Dt) (v u : V), vs = [.int w, v, u] ∧ H m ≠ none ∧ At m H (.lst ds) v ∧ At m H d u ∧ ReadK w ds d ∧ CF A ∧ ∀ H', Ex H H' → Q (.bl true) H'
def b_l_read (A : Ad) (W : WX) : TS := tSeq (bForA (bLst (tCons (bVar 0) (tCons (tOp bAdd (bVar 0) (tC (.int 20))) (tNil)))) (gName 3) (bIf (tNot (bTru (bCall (P_l_same A) W (tCons (bCall (P_l_told A) W (tCons (bVar 3) (tCons (bCall (P_l_copy A) W (tCons (bVar 1) (tNil))) (tNil)))) (tCons (bTup (tCons (tC (.str "answer")) (tCons (bVar 2) (tNil)))) (tNil)))))) (tRet (tC (.bl false))) (tNext))) (tRet (tC (.bl true)))
theorem r_l_read (A : Ad) : ∀ vs H Q E, P_l_read A vs H Q E → vs.length = 3 ∧ b_l_read A (wE E) (dE Q) (start ["which", "given", "value", "way"] vs) H := by
  rintro vs H Q E ⟨m, w, ds, d, v, u, rfl, hm, ha, hu, hr, F, k⟩
  refine ⟨rfl, ?_⟩
  obtain ⟨ok1, ok2⟩ := read_ok hr
  walk_at "go"
  rename_i p4 H4 x4 n4 g4
  refine LoopL.mk (fun i σ H' => Ex H4 H' ∧ ∃ o1, σ = [some (.int w), some v, some u, o1]) ⟨Ex.refl _, _, rfl⟩ ?_ ?_ ?_
  · rintro i σ H' _ ⟨x, _⟩
    exact .inl (x _ _ g4)
  · rintro i z σ H' hx ⟨x5, o1, rfl⟩
    have xH := x4.trans x5
    have hm3 : H' m ≠ none := fun z => hm (xH.fresh z)
    have hz : ∃ j : Int, z = .int j ∧ (j = w ∨ j = w + 20) := by
      match i, hx with
      | 0, hx => cases hx; exact ⟨_, rfl, .inl rfl⟩
      | 1, hx => cases hx; exact ⟨_, rfl, .inr rfl⟩
      | i + 2, hx => simp at hx
    obtain ⟨j, rfl, hj⟩ := hz
    walk_at "go"
    refine ⟨m, .lst ds, v, rfl, hm3, ha.mono xH, ok1, fun hv H6 x6 a6 => ?_⟩
    have ah : At m H6 (.lst ds) hv := a6 m hm3 (.inr (ha.mono xH))
    have hm6 : H6 m ≠ none := fun z => hm3 (x6.fresh z)
    walk_at "go"
    refine ⟨m, w, ds, hv, hj.imp (by rintro rfl; rfl) (by rintro rfl; rfl), hm6, ah, F, .inr ⟨d, hr, fun v2 H7 x7 a7 => ?_⟩⟩
    walk_at "go"
    rename_i p8 H8 x8 n8 g8
    refine ⟨m, _, v2, _, rfl, a7.mono x8, .tup (fun z => hm6 (x7.fresh (z ▸ n8))) g8 (.cons (.str _) (.cons ((((hu.mono xH).mono x6).mono x7).mono x8) .nil)), ok2, ?_⟩
    walk_at "br"
    exact ⟨x5.trans (x6.trans (x7.trans x8)), _, rfl⟩
  · rintro σ H' ⟨x5, o1, rfl⟩
    exact k H' (x4.trans x5)
open TL
theorem due_none {nm : String} {n : Nat} {x : Int} (h : n ≤ 6) (x0 : 0 ≤ x) (x1 : x < 2 ^ n) : wordDue nm (.int n) (.int x) = none := by
  refine wordDue_0 (numF_ok (by intro l e; cases e; omega) (by intro l e; cases e; omega)) (numF_ok (by intro l e; cases e; omega) (by intro l e; cases e; rw [Int.toNat_natCast]; omega))
theorem isR_self {t b p q : Int} (h : IsR t b p q) : IsR p q p q := ⟨rfl, h.2.1, h.2.2.1, Nat.le_refl _, Nat.le_refl _⟩
theorem isR_many {t b p q n : Int} (hn : 1 ≤ n) (h : IsR t b p q) : IsR (t * n) (b * n) p q := by
  obtain ⟨e, q1, g, l1, l2⟩ := h
  refine ⟨?_, q1, g, ?_, ?_⟩
  · have : p * (b * n) = p * b * n := by ac_rfl
    rw [this, e]
    ac_rfl
  · rw [Int.natAbs_mul]
    exact Nat.le_trans l1 (Nat.le_mul_of_pos_right _ (by omega))
  · rw [Int.natAbs_mul]
    exact Nat.le_trans l2 (Nat.le_mul_of_pos_right _ (by omega))
def P_l_back (A : Ad) : Sp := fun vs H Q _ => ∃ (m : Addr) (a : Nat) (x y p q n : Int) (v : V), vs = [.int a, .int x, .int y, v, .int n] ∧ H m ≠ none ∧ a ≤ 6 ∧ 0 ≤ x ∧ x < 2 ^ a ∧ 0 ≤ y ∧ y < 2 ^ a ∧ At m H (.tup [.int p, .int q]) v ∧ 1 ≤ q ∧ 1 ≤ n ∧ p.natAbs ≤ 999999999 ∧ q ≤ 999999999 ∧ (p * n).natAbs ≤ 999999999 ∧ q * n ≤ 999999999 ∧ n ≤ 999999999 ∧ CF A ∧ ∀ H', Ex H H' → Q (.bl true) H'
def b_l_back (A : Ad) (W : WX) : TS := tSeq (bIf (tNot (bTru (bCall (P_l_read A) W (tCons (tC (.int 3)) (tCons (bLst (tCons (bCall (P_format_word A) W (tCons (bVar 0) (tCons (bVar 1) (tNil)))) (tNil))) (tCons (bTup (tCons (bVar 0) (tCons (bVar 1) (tNil)))) (tNil))))))) (tRet (tC (.bl false))) (tNext)) (tSeq (bIf (bOr (tNot (bTru (bCall (P_l_read A) W (tCons (tC (.int 4)) (tCons (bLst (tCons (bVar 0) (tCons (bCall (P_format_set A) W (tCons (bVar 0) (tCons (bVar 2) (tNil)))) (tNil)))) (tCons (bVar 2) (tNil))))))) (tNot (bTru (bCall (P_l_read A) W (tCons (tC (.int 4)) (tCons (bLst (tCons (tC (.int 6)) (tCons (bCall (P_format_set A) W (tCons (bVar 0) (tCons (bVar 2) (tNil)))) (tNil)))) (tCons (bVar 2) (tNil)))))))) (tRet (tC (.bl false))) (tNext)) (tSeq (bIf (tNot (bTru (bCall (P_l_read A) W (tCons (tC (.int 5)) (tCons (bLst (tCons (bCall (P_format_ratio A) W (tCons (bVar 3) (tNil))) (tNil))) (tCons (bCall (P_l_lowest A) W (tCons (tOp bIx (bVar 3) (tC (.int 0))) (tCons (tOp bIx (bVar 3) (tC (.int 1))) (tNil)))) (tNil))))))) (tRet (tC (.bl false))) (tNext)) (tSeq (tAsg (bCall (P_l_ratio_text A) W (tCons (tOp bMul (tOp bIx (bVar 3) (tC (.int 0))) (bVar 4)) (tCons (tOp bMul (tOp bIx (bVar 3) (tC (.int 1))) (bVar 4)) (tNil)))) (gName 5)) (tRet (bCall (P_l_read A) W (tCons (tC (.int 5)) (tCons (bLst (tCons (bVar 5) (tNil))) (tCons (bCall (P_l_lowest A) W (tCons (tOp bIx (bVar 3) (tC (.int 0))) (tCons (tOp bIx (bVar 3) (tC (.int 1))) (tNil)))) (tNil)))))))))
theorem r_l_back (A : Ad) : ∀ vs H Q E, P_l_back A vs H Q E → vs.length = 5 ∧ b_l_back A (wE E) (dE Q) (start ["wide", "here", "mask", "pair", "many", "said"] vs) H := by
  rintro vs H Q E ⟨m, a, x, y, p, q, n, v, rfl, hm, a6, x0, x1, y0, y1, hv, hq, hn, sp, sq, spn, sqn, sn, F, k⟩
  refine ⟨rfl, ?_⟩
  walk_at "go"
  refine ⟨m, .int a, .int x, _, _, rfl, .int _, .int _, fun k n e => (by rw [due_none a6 x0 x1] at e; cases e), fun _ w z e1 e2 H1 x1' => ?_⟩
  cases e1
  cases e2
  rw [Int.toNat_natCast]
  walk_at "go"
  rename_i pL HL xL nL gL pT HT xT nT gT
  refine ⟨m, 3, [.str (bitsT a x)], .tup [.int a, .int x], _, _, rfl, fun z => hm ((x1'.trans (xL.trans xT)).fresh z), .lst (fun z => hm (x1'.fresh (z ▸ nL))) (xT _ _ gL) (.cons (.str _) .nil), .tup (fun z => hm ((x1'.trans xL).fresh (z ▸ nT))) gT (.cons (.int _) (.cons (.int _) .nil)), .inl ⟨rfl, a, x, a6, x0, x1, rfl, rfl⟩, F, fun H2 x2 => ?_⟩
  have X2 := x1'.trans (xL.trans (xT.trans x2))
  clear gL gT nL nT xL xT x2 x1'
  walk_at "br"
  walk_at "go"
  refine ⟨m, .int a, .int y, _, _, rfl, .int _, .int _, fun k n e => (by rw [due_none a6 y0 y1] at e; cases e), fun _ w z e1 e2 H1 x1' => ?_⟩
  cases e1
  cases e2
  rw [Int.toNat_natCast]
  walk_at "go"
  rename_i pL HL xL nL gL
  refine ⟨m, 4, [.int a, .str (setT a y)], .int y, _, _, rfl, fun z => hm ((X2.trans (x1'.trans xL)).fresh z), .lst (fun z => hm ((X2.trans x1').fresh (z ▸ nL))) gL (.cons (.int _) (.cons (.str _) .nil)), .int _, .inr (.inl ⟨rfl, a, a, y, by omega, by omega, y0, y1, rfl, rfl⟩), F, fun H3 x3 => ?_⟩
  have X3 := X2.trans (x1'.trans (xL.trans x3))
  clear gL nL xL x3 x1'
  walk_at "br"
  walk_at "go"
  refine ⟨m, .int a, .int y, _, _, rfl, .int _, .int _, fun k n e => (by rw [due_none a6 y0 y1] at e; cases e), fun _ w z e1 e2 H1 x1' => ?_⟩
  cases e1
  cases e2
  rw [Int.toNat_natCast]
  walk_at "go"
  rename_i pL HL xL nL gL
  refine ⟨m, 4, [.int 6, .str (setT a y)], .int y, _, _, rfl, fun z => hm ((X3.trans (x1'.trans xL)).fresh z), .lst (fun z => hm ((X3.trans x1').fresh (z ▸ nL))) gL (.cons (.int _) (.cons (.str _) .nil)), .int _, .inr (.inl ⟨rfl, 6, a, y, by omega, by omega, y0, y1, rfl, rfl⟩), F, fun H4 x4 => ?_⟩
  have X4 := X3.trans (x1'.trans (xL.trans x4))
  clear gL nL xL x4 x1'
  walk_at "br"
  walk_at "go"
  refine nxt ?_
  try dsimp only
  have h4 : H4 m ≠ none := fun z => hm (X4.fresh z)
  have v4 := hv.mono X4
  have smd : (Dt.tup [.int p, .int q]).sm 4480 := by
    simp only [Dt.sm, Dt.sms, and_true]
    exact ⟨sm_lt (j := 30) (by omega) (by decide), sm_lt (j := 30) (by omega) (by decide)⟩
  refine ⟨m, .tup [.int p, .int q], v, rfl, h4, v4, smd, fun k e => (by rw [frac_none hq] at e; cases e), fun a' b' e hb P Q' H5 x5 R => ?_⟩
  cases e
  obtain ⟨pv, w1, w2, rfl, npv, hpv, i1, i2⟩ := at_pair_inv (v4.mono x5)
  obtain rfl := at_int_inv i1
  obtain rfl := at_int_inv i2
  walk_at "go"
  rename_i pL HL xL nL gL
  have hmL : HL m ≠ none := fun z => h4 ((x5.trans xL).fresh z)
  have hpL := xL _ _ hpv
  walk_at "go"
  refine ⟨m, p, q, rfl, hmL, by omega, sm_lt (j := 30) (by omega) (by decide), sm_lt (j := 30) (by omega) (by decide), fun P2 Q2 u H6 x6 a6' R2 => ?_⟩
  obtain ⟨rfl, rfl⟩ := isR_one (by omega) R R2
  have R3 := R
  obtain ⟨_, q1, _, l1, l2⟩ := R3
  refine ⟨m, 5, [.str (ratioT P Q')], .tup [.int P, .int Q'], _, _, rfl, fun z => hmL (x6.fresh z), .lst (fun z => h4 (x5.fresh (z ▸ nL))) (x6 _ _ gL) (.cons (.str _) .nil), a6', .inr (.inr ⟨rfl, ratioT P Q', P, Q', P, Q', by omega, q1, by omega, tl_ratio q1, isR_self R, rfl, rfl⟩), F, fun H7 x7 => ?_⟩
  have X7 := X4.trans (x5.trans (xL.trans (x6.trans x7)))
  have h7 : H7 m ≠ none := fun z => hm (X7.fresh z)
  have hp7 := x7 _ _ (x6 _ _ hpL)
  walk_at "br"
  refine nxt ?_
  try dsimp only
  clear gL nL xL x6 x5 a6' hmL hpL R2
  have pn1 : 1 ≤ q * n := Int.le_trans (by decide) (Int.mul_le_mul hq hn (by decide) (by omega))
  walk_at "go"
  refine ⟨p * n, q * n, rfl, sm_lt (j := 30) (by omega) (by decide), sm_lt (j := 30) (by omega) (by decide), ?_⟩
  refine gn ?_
  try dsimp only
  walk_at "go"
  rename_i pL HL xL nL gL
  have hmL : HL m ≠ none := fun z => h7 (xL.fresh z)
  have hpL := xL _ _ hp7
  walk_at "go"
  refine ⟨m, p, q, rfl, hmL, by omega, sm_lt (j := 30) (by omega) (by decide), sm_lt (j := 30) (by omega) (by decide), fun P2 Q2 u H8 x8 a8 R2 => ?_⟩
  refine ⟨m, 5, [.str (ratioT (p * n) (q * n))], .tup [.int P2, .int Q2], _, _, rfl, fun z => hmL (x8.fresh z), .lst (fun z => h7 (z ▸ nL)) (x8 _ _ gL) (.cons (.str _) .nil), a8, .inr (.inr ⟨rfl, ratioT (p * n) (q * n), p * n, q * n, P2, Q2, by omega, pn1, by omega, tl_ratio pn1, isR_many hn R2, rfl, rfl⟩), F, fun H9 x9 => ?_⟩
  exact k H9 (X7.trans (xL.trans (x8.trans x9)))
open TL
/-- a question of the law: which one, and what is given -/
structure It where
  w : Nat
  ds : List Dt
def It.d (i : It) : Dt := .tup [.int i.w, .lst i.ds]
def It.ok (i : It) : Prop := AskK i.w i.ds ∧ Dt.sms 4480 i.ds ∧ (Dt.lst i.ds).okN 5
/-- a datum at v, apart from what stands at the store and at pa -/
def At2 (st : Sto) (pa : Addr) (H : Hp) (d : Dt) (v : V) : Prop := At st H d v ∧ At pa H d v
theorem At2.mono {st : Sto} {pa : Addr} {H H' : Hp} {d : Dt} {v : V} (h : At2 st pa H d v) (x : Ex H H') : At2 st pa H' d v := ⟨h.1.mono x, h.2.mono x⟩
theorem At2.monoB {st : Sto} {pa : Addr} {H H' : Hp} {d : Dt} {v : V} (h : At2 st pa H d v) (x : ExB st H H') : At2 st pa H' d v := ⟨h.1.monoB x, h.2.mix x h.1⟩
theorem At2.push {st : Sto} {pa : Addr} {H H' : Hp} {d : Dt} {v : V} (h : At2 st pa H d v) (x : ExB pa H H') : At2 st pa H' d v := ⟨h.1.mix x h.2, h.2.monoB x⟩
def As (H : Hp) (st : Sto) (pa : Addr) (n : Nat) : Prop := ∃ (l : List It) (xs : List V), H pa = some (.lst xs) ∧ AtL st H (l.map It.d) xs ∧ AtL pa H (l.map It.d) xs ∧ (∀ i ∈ l, i.ok) ∧ l.length = n ∧ pa ≠ st.a ∧ pa ≠ st.sl
theorem As.monoB {H H' : Hp} {st : Sto} {pa : Addr} {n : Nat} (h : As H st pa n) (x : ExB st H H') : As H' st pa n := by
  obtain ⟨l, xs, h1, h2, h3, h4, h5, h6, h7⟩ := h
  exact ⟨l, xs, x _ _ h6 h1, h2.monoB x, h3.mix x h2, h4, h5, h6, h7⟩
theorem As.mono {H H' : Hp} {st : Sto} {pa : Addr} {n : Nat} (h : As H st pa n) (x : Ex H H') : As H' st pa n := h.monoB (x.but _)
theorem nxt2 {D : Ends} {t : TS} {σ : Sg} {H : Hp} (h : t D σ H) : t D σ H := h
theorem dx_list {m : Addr} {σ : Sg} {H : Hp} {te : TE} {ds : List Dt} (hm : H m ≠ none) (h : Dv m te σ H (.lst ds)) : Dv m (bList te) σ H (.lst ds) := fun H1 x Q k =>
  h H1 x _ fun v H2 x2 a => by
    obtain ⟨p, xs, rfl, n, hp, l⟩ := at_lst_inv a
    exact Get.mk _ hp (Alloc.mk fun q H3 x3 n3 h3 => k _ H3 (x2.trans x3) (at_lst (fun z => hm ((x.trans x2).fresh (z ▸ n3))) h3 (l.mono x3)))
theorem dx_lrev {m : Addr} {σ : Sg} {H : Hp} {te : TE} {ds : List Dt} (hm : H m ≠ none) (h : Dv m te σ H (.lst ds)) : Dv m (bLRev te) σ H (.lst ds.reverse) := fun H1 x Q k =>
  h H1 x _ fun v H2 x2 a => by
    obtain ⟨p, xs, rfl, n, hp, l⟩ := at_lst_inv a
    exact Get.mk _ hp (Alloc.mk fun q H3 x3 n3 h3 => k _ H3 (x2.trans x3) (at_lst (fun z => hm ((x.trans x2).fresh (z ▸ n3))) h3 (l.rev.mono x3)))
theorem ne_of_none' {H : Hp} {p q : Addr} {o : HO} (h : H q = some o) (n : H p = none) : p ≠ q := by
  rintro rfl
  rw [n] at h
  cases h
theorem push_fin {st : Sto} {pa : Addr} {n : Nat} {H : Hp} {i : It} {y : V} {K : Hp → Prop} (hA : As H st pa n) (hS : Store H st) (hn : n < 1000) (av : At2 st pa H i.d y) (ok : i.ok)
    (k : ∀ H3, As H3 st pa (n + 1) → Store H3 st → (∀ d v, At2 st pa H d v → At2 st pa H3 d v) → K H3) :
    Get H pa fun o => match o with
      | .lst xs => xs.length < sizeLine ∧ Put H pa (.lst (xs ++ [y])) K
      | _ => False := by
  obtain ⟨l, xs, hp, a1, a2, oks, hl, n1, n2⟩ := hA
  refine Get.mk _ hp ⟨?_, Put.mk fun H3 x3 h3 => ?_⟩
  · rw [a1.len, List.length_map, hl]
    exact Nat.lt_of_lt_of_le hn (by decide)
  · have hS3 : Store H3 st := by
      obtain ⟨ns, i, c, m, t, g1, g2, g3⟩ := hS
      exact ⟨ns, i, c, m, t, x3 _ _ (Ne.symm n1) g1, x3 _ _ (Ne.symm n2) g2, g3⟩
    refine k H3 ⟨l ++ [i], xs ++ [y], h3, ?_, ?_, ?_, by simp [hl], n1, n2⟩ hS3 fun d v h => h.push x3
    · rw [List.map_append]
      exact (a1.mix x3 a2).append (.cons (av.push x3).1 .nil)
    · rw [List.map_append]
      exact (a2.monoB x3).append (.cons (av.push x3).2 .nil)
    · intro j hj
      rcases List.mem_append.mp hj with hj | hj
      · exact oks j hj
      · rw [List.mem_singleton.mp hj]; exact ok
theorem At.two {st : Sto} {pa : Addr} {H : Hp} {n k : Nat} {d : Dt} {v : V} (hA : As H st pa (n + 1)) (h : At st H d v) (hd : d.sm k) : At2 st pa H d v := by
  obtain ⟨l, xs, hp, a1, _, _, hl, _⟩ := hA
  refine ⟨h, h.other hp ?_ hd⟩
  intro y hy
  cases l with
  | nil => cases hl
  | cons i l =>
    obtain ⟨x, r, rfl, h1, _⟩ := atl_cons_inv a1
    cases hy
    obtain ⟨p, _, rfl, _⟩ := at_tup_inv h1
    exact ⟨p, rfl⟩
def P_law (A : Ad) : Sp := fun vs H Q _ => ∃ (a : Addr) (ns : List Int), vs = [.ref a] ∧ SqL A.K H a (ns.map .int) ∧ CF A ∧ ∀ H', Q (.bl true) H'
def b_law (A : Ad) (W : WX) : TS := tSeq (tAsg (bCall (P_l_store A) W (tCons (bVar 0) (tNil))) (gName 1)) (tSeq (bForR (tC (.int 2)) (gName 2) (tSeq (tAsg (bCall (P_l_width A) W (tCons (bVar 1) (tCons (tC (.int 0)) (tCons (tC (.int 6)) (tNil))))) (gName 3)) (tSeq (tAsg (bCall (P_l_word A) W (tCons (bVar 1) (tCons (bVar 3) (tNil)))) (gName 4)) (tSeq (tAsg (bCall (P_l_word A) W (tCons (bVar 1) (tCons (bVar 3) (tNil)))) (gName 5)) (tSeq (tAsg (bCall (P_l_small_ratio A) W (tCons (bVar 1) (tNil))) (gName 6)) (tSeq (tAsg (bCall (P_l_near A) W (tCons (bVar 1) (tCons (tC (.int 1)) (tCons (bMax (tC (.int 1)) (tOp bFdv (tC (.int 999999999)) (bMax (bAbs (tOp bIx (bVar 6) (tC (.int 0)))) (tOp bIx (bVar 6) (tC (.int 1)))))) (tNil))))) (gName 7)) (tSeq (tAsg (bLst (tCons (bTup (tCons (tC (.int 0)) (tCons (bLst (tCons (bVar 3) (tCons (bVar 4) (tNil)))) (tNil)))) (tCons (bTup (tCons (tC (.int 1)) (tCons (bLst (tCons (bVar 3) (tCons (bVar 5) (tNil)))) (tNil)))) (tCons (bTup (tCons (tC (.int 2)) (tCons (bLst (tCons (bCall (P_l_fraction A) W (tCons (bVar 1) (tCons (tC (.int 40)) (tNil)))) (tNil))) (tNil)))) (tCons (bTup (tCons (tC (.int 2)) (tCons (bLst (tCons (bVar 6) (tNil))) (tNil)))) (tNil)))))) (gName 8)) (tSeq (bForR (tC (.int 3)) (gName 9) (tSeq (tAsg (bLst (tCons (bCall (P_l_beside A) W (tCons (bVar 1) (tCons (bVar 3) (tCons (tC (.int 0)) (tCons (tC (.int 6)) (tNil)))))) (tCons (bCall (P_l_beside A) W (tCons (bVar 1) (tCons (bVar 5) (tCons (tC (.int 0)) (tCons (tOp bSub (tOp bShl (tC (.int 1)) (bVar 3)) (tC (.int 1))) (tNil)))))) (tNil)))) (gName 10)) (tDrop (bApp (bVar 8) (bTup (tCons (bCall (P_l_take A) W (tCons (bVar 1) (tCons (tC (.int 2)) (tNil)))) (tCons (bVar 10) (tNil)))))))) (tSeq (tDrop (bApp (bVar 8) (bTup (tCons (tC (.int 2)) (tCons (bLst (tCons (bCall (P_l_odd_fraction A) W (tCons (bVar 1) (tNil))) (tNil))) (tNil)))))) (tSeq (tDrop (bApp (bVar 8) (bTup (tCons (tC (.int 2)) (tCons (bLst (tCons (bCall (P_l_great A) W (tCons (bVar 1) (tNil))) (tNil))) (tNil)))))) (tSeq (bForA (tOp bAdd (bVar 8) (bLRev (bList (bVar 8)))) (gName 11) (bIf (tNot (bTru (bCall (P_l_written A) W (tCons (tOp bIx (bVar 11) (tC (.int 0))) (tCons (tOp bIx (bVar 11) (tC (.int 1))) (tNil)))))) (tRet (tC (.bl false))) (tNext))) (bIf (bOr (tNot (bTru (bCall (P_l_back A) W (tCons (bVar 3) (tCons (bVar 4) (tCons (bVar 5) (tCons (bVar 6) (tCons (bVar 7) (tNil))))))))) (tNot (bTru (bCall (P_l_back A) W (tCons (bVar 3) (tCons (bVar 5) (tCons (bVar 4) (tCons (bVar 6) (tCons (tC (.int 1)) (tNil)))))))))) (tRet (tC (.bl false))) (tNext))))))))))))) (tRet (tC (.bl true))))
theorem r_law (A : Ad) : ∀ vs H Q E, P_law A vs H Q E → vs.length = 1 ∧ b_law A (wE E) (dE Q) (start ["script", "store", "k", "wide", "here", "mask", "pair", "many", "asked", "j", "bent", "item"] vs) H := by
  rintro vs H Q E ⟨a, ns, rfl, hq, F, k⟩
  refine ⟨rfl, ?_⟩
  refine ⟨a, ns, rfl, hq, fun st H1 x1 n1 s1 => ?_⟩
  walk_at "go"
  refine LoopR.mk (fun i σ H' => ∃ o2 o3 o4 o5 o6 o7 o8 o9 o10 o11, σ = [some (.ref a), some (.ref st), o2, o3, o4, o5, o6, o7, o8, o9, o10, o11] ∧ Store H' st) ⟨_, _, _, _, _, _, _, _, _, _, rfl, s1⟩ ?_ ?_
  · rintro i σ H2 hi ⟨o2, o3, o4, o5, o6, o7, o8, o9, o10, o11, rfl, s2⟩
    clear s1 n1 x1 hq hi
    refine gn ?_
    try dsimp only
    refine ⟨st, 0, 6, rfl, s2, by decide, fun w H3 x3 s3 w0 w6 => ?_⟩
    obtain ⟨b, rfl⟩ : ∃ n : Nat, w = n := ⟨w.toNat, by omega⟩
    have b6 : b ≤ 6 := by omega
    refine gn ?_
    try dsimp only
    refine ⟨st, b, rfl, s3, w0, by omega, fun x H4 x4 s4 x0 x1 => ?_⟩
    rw [Int.toNat_natCast] at x1
    refine gn ?_
    try dsimp only
    refine ⟨st, b, rfl, s4, w0, by omega, fun y H5 x5 s5 y0 y1 => ?_⟩
    rw [Int.toNat_natCast] at y1
    refine gn ?_
    try dsimp only
    refine ⟨st, rfl, s5, fun p q v H6 x6 s6 hv q1 q2 p2 => ?_⟩
    clear x3 x4 x5 x6 s2 s3 s4 s5
    refine gn ?_
    try dsimp only
    obtain ⟨pv, v1, v2, rfl, npv, hpv, i1, i2⟩ := at_pair_inv hv
    obtain rfl := at_int_inv i1
    obtain rfl := at_int_inv i2
    walk_at "go"
    rename_i qq _ hq'
    obtain ⟨qm, qm'⟩ := hq' (by omega)
    clear hq'
    generalize hM : max ((p.natAbs : Nat) : Int) q = M at qm qm'
    have M1 : 1 ≤ M := by omega
    have M9 : M ≤ 999999999 := by omega
    have qq1 : 1 ≤ qq := by
      apply Classical.byContradiction
      intro h
      have : M * qq ≤ 0 := Int.mul_nonpos_of_nonneg_of_nonpos (by omega) (by omega)
      omega
    have qq9 : qq ≤ 999999999 := by
      have : 1 * qq ≤ M * qq := Int.mul_le_mul_of_nonneg_right M1 (by omega)
      omega
    refine ⟨st, 1, max 1 qq, rfl, s6, by omega, Sz.small (by omega), fun n H7 x7 s7 n1 n2 => ?_⟩
    have hnM : M * n ≤ 999999999 := by
      have : M * n ≤ M * qq := Int.mul_le_mul_of_nonneg_left (by omega) (by omega)
      omega
    have hpn : (p * n).natAbs ≤ 999999999 := by
      rw [Int.natAbs_mul]
      have h1 : ((p.natAbs : Nat) : Int) * n ≤ M * n := Int.mul_le_mul_of_nonneg_right (by omega) (by omega)
      have h2 : ((p.natAbs * n.natAbs : Nat) : Int) = ((p.natAbs : Nat) : Int) * n := by
        rw [Int.natCast_mul, Int.natAbs_of_nonneg (by omega : 0 ≤ n)]
      omega
    have hqn : q * n ≤ 999999999 := by
      have h1 : q * n ≤ M * n := Int.mul_le_mul_of_nonneg_right (by omega) (by omega)
      omega
    have n9 : n ≤ 999999999 := by omega
    clear n2 hnM qm qm' hM
    replace hv := hv.monoB x7
    refine gn ?_
    try dsimp only
    walk_at "go"
    rename_i t1 G1 e1 f1 g1 t2 G2 e2 f2 g2 t3 G3 e3 f3 g3 t4 G4 e4 f4 g4
    have sG := (((s7.mono e1).mono e2).mono e3).mono e4
    have A1 : At st G4 (It.mk 0 [.int b, .int x]).d (.ref t2) := .tup ((s7.mono e1).ne f2) (e4 _ _ (e3 _ _ g2)) (.cons (.int _) (.cons (.lst (s7.ne f1) (e4 _ _ (e3 _ _ (e2 _ _ g1))) (.cons (.int _) (.cons (.int _) .nil))) .nil))
    have A2 : At st G4 (It.mk 1 [.int b, .int y]).d (.ref t4) := .tup ((((s7.mono e1).mono e2).mono e3).ne f4) g4 (.cons (.int _) (.cons (.lst (((s7.mono e1).mono e2).ne f3) (e4 _ _ g3) (.cons (.int _) (.cons (.int _) .nil))) .nil))
    replace hv := hv.mono (e1.trans (e2.trans (e3.trans e4)))
    clear e1 e2 e3 e4 f1 f2 f3 f4 g1 g2 g3 g4 s7 x7 s6 i1 i2 hpv
    refine ⟨st, 40, rfl, sG, by decide, by decide, fun fa fb vf H8 x8 s8 af b1 za zb => ?_⟩
    replace A1 := A1.monoB x8
    replace A2 := A2.monoB x8
    replace hv := hv.monoB x8
    clear x8 sG
    walk_at "go"
    rename_i t5 G5 e5 f5 g5 t6 G6 e6 f6 g6 t7 G7 e7 f7 g7 t8 G8 e8 f8 g8 pa H9 x9 n9' h9
    have z8 := (((s8.mono e5).mono e6).mono e7).mono e8
    have A3 : At st G8 (It.mk 2 [.tup [.int fa, .int fb]]).d (.ref t6) := .tup ((s8.mono e5).ne f6) (e8 _ _ (e7 _ _ g6)) (.cons (.int _) (.cons (.lst (s8.ne f5) (e8 _ _ (e7 _ _ (e6 _ _ g5))) (.cons ((((af.mono e5).mono e6).mono e7).mono e8) .nil)) .nil))
    have A4 : At st G8 (It.mk 2 [.tup [.int p, .int q]]).d (.ref t8) := .tup ((((s8.mono e5).mono e6).mono e7).ne f8) g8 (.cons (.int _) (.cons (.lst (((s8.mono e5).mono e6).ne f7) (e8 _ _ g7) (.cons ((((hv.mono e5).mono e6).mono e7).mono e8) .nil)) .nil))
    have e58 := e5.trans (e6.trans (e7.trans e8))
    have AL : AtL st G8 ([It.mk 0 [.int b, .int x], It.mk 1 [.int b, .int y], It.mk 2 [.tup [.int fa, .int fb]], It.mk 2 [.tup [.int p, .int q]]].map It.d) [.ref t2, .ref t4, .ref t6, .ref t8] := .cons (A1.mono e58) (.cons (A2.mono e58) (.cons A3 (.cons A4 .nil)))
    have smp : (Dt.tup [.int p, .int q]).sm 4480 := by
      simp only [Dt.sm, Dt.sms, and_true]
      exact ⟨sm_lt (j := 30) (by omega) (by decide), sm_lt (j := 30) (by omega) (by decide)⟩
    have oks : ∀ it ∈ [It.mk 0 [.int b, .int x], It.mk 1 [.int b, .int y], It.mk 2 [.tup [.int fa, .int fb]], It.mk 2 [.tup [.int p, .int q]]], it.ok := by
      have bx : ∀ z : Int, 0 ≤ z → z < 2 ^ b → z.natAbs < 2 ^ 4480 := fun z z0 z1 => by
        have h1 : z < 2 ^ 6 := Int.lt_of_lt_of_le z1 (by exact_mod_cast Nat.pow_le_pow_right (n := 2) (by decide) b6)
        exact sm_lt (j := 6) (by omega) (by decide)
      have bb : ((b : Nat) : Int).natAbs < 2 ^ 4480 := sm_lt (j := 6) (by omega) (by decide)
      intro it h
      simp only [List.mem_cons, List.not_mem_nil, or_false] at h
      rcases h with rfl | rfl | rfl | rfl
      · exact ⟨.inr ⟨by show (0 : Nat) < 2; decide, _, _, rfl⟩, by simp only [Dt.sms, Dt.sm, and_true]; exact ⟨bb, bx x x0 x1⟩, by simp [Dt.okN]⟩
      · exact ⟨.inr ⟨by show (1 : Nat) < 2; decide, _, _, rfl⟩, by simp only [Dt.sms, Dt.sm, and_true]; exact ⟨bb, bx y y0 y1⟩, by simp [Dt.okN]⟩
      · exact ⟨.inl ⟨rfl, _, rfl⟩, by simp only [Dt.sms, Dt.sm, and_true]; exact ⟨sm_lt za (by decide), sm_lt zb (by decide)⟩, by simp [Dt.okN]⟩
      · exact ⟨.inl ⟨rfl, _, rfl⟩, by rw [Dt.sms, Dt.sms]; exact ⟨smp, trivial⟩, by simp [Dt.okN]⟩
    have s9 := z8.mono x9
    have As9 : As H9 st pa 4 := by
      refine ⟨_, _, h9, AL.mono x9, (AL.fresh n9').mono x9, oks, rfl, z8.ne n9', ?_⟩
      obtain ⟨ns', i, c, m, t, g1, g2, _⟩ := z8
      exact Ne.symm (ne_of_none g2 n9')
    have P9 : At2 st pa H9 (.tup [.int p, .int q]) (.ref pv) := by
      have h := hv.mono e58
      exact ⟨h.mono x9, (h.fresh n9').mono x9⟩
    clear AL A1 A2 A3 A4 e5 e6 e7 e8 f5 f6 f7 f8 g5 g6 g7 g8 e58 oks af za zb hv z8 s8 x9 h9 n9'
    refine LoopR.mk (fun j σ H' => ∃ o9 o10, σ = [some (.ref a), some (.ref st), some (.int (0 + i)), some (.int b), some (.int x), some (.int y), some (.ref pv), some (.int n), some (.ref pa), o9, o10, o11] ∧ As H' st pa (4 + j) ∧ Store H' st ∧ At2 st pa H' (.tup [.int p, .int q]) (.ref pv)) ⟨_, _, rfl, As9, s9, P9⟩ ?_ ?_
    · rintro j σ H3 hj ⟨o9, o10, rfl, A3, s3, P3⟩
      have hj : j < 3 := hj
      clear As9 s9 P9
      have ej : 4 + j = 3 + j + 1 := by omega
      rw [ej] at A3
      refine gn ?_
      try dsimp only
      have fitb : (Dt.int (b : Int)).fit := ⟨by simp only [Dt.sm]; exact sm_lt (j := 6) (by omega) (by decide), trivial⟩
      have y64 : y < 64 := Int.lt_of_lt_of_le y1 (by exact_mod_cast Nat.pow_le_pow_right (n := 2) (by decide) b6)
      have fity : (Dt.int y).fit := ⟨by simp only [Dt.sm]; exact sm_lt (j := 6) (by omega) (by decide), trivial⟩
      refine ⟨st, .int b, _, some 0, some 6, rfl, s3, .int _, fitb, (by intro l e; cases e; decide), (by intro l e; cases e; decide), fun d1 v1 H4 x4 s4 a4 m4 => ?_⟩
      replace A3 := A3.monoB x4
      replace P3 := P3.monoB x4
      walk_at "go"
      rw [Int.toNat_natCast]
      have pb64 : (2 : Int) ^ b ≤ 64 := by exact_mod_cast Nat.pow_le_pow_right (n := 2) (by decide) b6
      have pb0 : (0 : Int) < 2 ^ b := pw_pos b
      refine ⟨st, .int y, _, some 0, some (1 * 2 ^ b - 1), rfl, s4, .int _, fity, (by intro l e; cases e; decide), (by intro l e; cases e; omega), fun d2 v2 H5 x5 s5 a5 m5 => ?_⟩
      replace A3 := A3.monoB x5
      replace P3 := P3.monoB x5
      have B4 := At.two A3 (a4.monoB x5) m4.1
      have B5 := At.two A3 a5 m5.1
      refine Alloc.mk fun pb H6 x6 n6 h6 => ?_
      have npb : pb ≠ pa := by
        obtain ⟨l0, xs0, hp0, _⟩ := A3
        exact ne_of_none' hp0 n6
      have C6 : At2 st pa H6 (.lst [d1, d2]) (.ref pb) := ⟨.lst (s5.ne n6) h6 (.cons (B4.1.mono x6) (.cons (B5.1.mono x6) .nil)), .lst npb h6 (.cons (B4.2.mono x6) (.cons (B5.2.mono x6) .nil))⟩
      replace A3 := A3.mono x6
      replace P3 := P3.mono x6
      have s6 := s5.mono x6
      clear a4 a5 B4 B5 s3 s4 s5 x4 x5 x6 n6 h6
      refine gn ?_
      try dsimp only
      obtain ⟨l0, xs0, hp0, _⟩ := id A3
      refine Get.mk _ hp0 ?_
      refine ⟨st, 2, rfl, s6, Sz.small (by decide), fun r H7 x7 s7 r0 r1 => ?_⟩
      replace A3 := A3.monoB x7
      replace P3 := P3.monoB x7
      replace C6 := C6.monoB x7
      clear hp0
      refine Alloc.mk fun pt H8 x8 n8 h8 => ?_
      have npt : pt ≠ pa := by
        obtain ⟨l0, xs0, hp0, _⟩ := A3
        exact ne_of_none' hp0 n8
      have npts := s7.ne n8
      replace A3 := A3.mono x8
      replace P3 := P3.mono x8
      replace C6 := C6.mono x8
      have s8 := s7.mono x8
      have er : ((r.toNat : Nat) : Int) = r := by omega
      refine push_fin (i := ⟨r.toNat, [d1, d2]⟩) A3 s8 (by omega) ?_ ?_ ?_
      · unfold It.d
        dsimp only
        rw [er]
        exact ⟨.tup npts h8 (.cons (.int r) (.cons C6.1 .nil)), .tup npt h8 (.cons (.int r) (.cons C6.2 .nil))⟩
      · refine ⟨.inr ⟨by show r.toNat < 2; omega, _, _, rfl⟩, ?_, ?_⟩
        · show Dt.sms 4480 [d1, d2]
          simp only [Dt.sms, and_true]
          exact ⟨Dt.sm_mono (by decide) m4.1, Dt.sm_mono (by decide) m5.1⟩
        · refine ⟨by simp, ?_⟩
          intro d hd
          simp only [List.mem_cons, List.not_mem_nil, or_false] at hd
          rcases hd with rfl | rfl
          · exact m4.2
          · exact m5.2
      · intro H9 A9 s9 kk
        exact ⟨_, _, rfl, by rwa [← ej] at A9, s9, kk _ _ P3⟩
    rintro σ H3 ⟨o9, o10, rfl, A3, s3, P3⟩
    clear As9 s9 P9
    have A3 : As H3 st pa 7 := A3
    try dsimp only
    refine nxt2 ?_
    try dsimp only
    obtain ⟨l0, xs0, hp0, _⟩ := id A3
    refine Get.mk _ hp0 ?_
    clear hp0
    refine ⟨st, rfl, s3, fun d v H4 x4 s4 a4 m4 => ?_⟩
    replace A3 := A3.monoB x4
    replace P3 := P3.monoB x4
    have B4 := At.two A3 a4 m4.1
    clear a4 x4 s3
    refine Alloc.mk fun pb H6 x6 n6 h6 => ?_
    have npb : pb ≠ pa := by
      obtain ⟨l0, xs0, hp0, _⟩ := A3
      exact ne_of_none' hp0 n6
    have C6 : At2 st pa H6 (.lst [d]) (.ref pb) := ⟨.lst (s4.ne n6) h6 (.cons (B4.1.mono x6) .nil), .lst npb h6 (.cons (B4.2.mono x6) .nil)⟩
    replace A3 := A3.mono x6
    replace P3 := P3.mono x6
    have s6 := s4.mono x6
    clear B4 s4 x6 n6 h6
    refine Alloc.mk fun pt H8 x8 n8 h8 => ?_
    have npt : pt ≠ pa := by
      obtain ⟨l0, xs0, hp0, _⟩ := A3
      exact ne_of_none' hp0 n8
    have npts := s6.ne n8
    replace A3 := A3.mono x8
    replace P3 := P3.mono x8
    replace C6 := C6.mono x8
    have s8 := s6.mono x8
    refine push_fin (i := ⟨2, [d]⟩) A3 s8 (by omega) ⟨.tup npts h8 (.cons (.int _) (.cons C6.1 .nil)), .tup npt h8 (.cons (.int _) (.cons C6.2 .nil))⟩ ⟨.inl ⟨rfl, _, rfl⟩, ?_, ?_⟩ ?_
    · show Dt.sms 4480 [d]
      simp only [Dt.sms, and_true]
      exact Dt.sm_mono (by decide) m4.1
    · refine ⟨by simp, ?_⟩
      intro d' hd
      rw [List.mem_singleton.mp hd]
      exact m4.2
    clear A3 C6 s6 x8 n8 h8 npt npts npb s8
    intro H3 A3 s3 kk
    replace P3 := kk _ _ P3
    clear kk
    try dsimp only
    refine nxt2 ?_
    try dsimp only
    obtain ⟨l0, xs0, hp0, _⟩ := id A3
    refine Get.mk _ hp0 ?_
    clear hp0
    refine ⟨st, rfl, s3, fun ga gb v H4 x4 s4 a4 gb1 za zb => ?_⟩
    have m4 : (Dt.tup [.int ga, .int gb]).sm 4480 := by
      simp only [Dt.sm, Dt.sms, and_true]
      exact ⟨sm_lt za (by decide), sm_lt zb (by decide)⟩
    replace A3 := A3.monoB x4
    replace P3 := P3.monoB x4
    have B4 := At.two A3 a4 m4
    clear a4 x4 s3
    refine Alloc.mk fun pb H6 x6 n6 h6 => ?_
    have npb : pb ≠ pa := by
      obtain ⟨l0, xs0, hp0, _⟩ := A3
      exact ne_of_none' hp0 n6
    have C6 : At2 st pa H6 (.lst [.tup [.int ga, .int gb]]) (.ref pb) := ⟨.lst (s4.ne n6) h6 (.cons (B4.1.mono x6) .nil), .lst npb h6 (.cons (B4.2.mono x6) .nil)⟩
    replace A3 := A3.mono x6
    replace P3 := P3.mono x6
    have s6 := s4.mono x6
    clear B4 s4 x6 n6 h6
    refine Alloc.mk fun pt H8 x8 n8 h8 => ?_
    have npt : pt ≠ pa := by
      obtain ⟨l0, xs0, hp0, _⟩ := A3
      exact ne_of_none' hp0 n8
    have npts := s6.ne n8
    replace A3 := A3.mono x8
    replace P3 := P3.mono x8
    replace C6 := C6.mono x8
    have s8 := s6.mono x8
    refine push_fin (i := ⟨2, [.tup [.int ga, .int gb]]⟩) A3 s8 (by omega) ⟨.tup npts h8 (.cons (.int _) (.cons C6.1 .nil)), .tup npt h8 (.cons (.int _) (.cons C6.2 .nil))⟩ ⟨.inl ⟨rfl, _, rfl⟩, ?_, ?_⟩ ?_
    · show Dt.sms 4480 [_]
      rw [Dt.sms, Dt.sms]
      exact ⟨m4, trivial⟩
    · simp [Dt.okN]
    clear A3 C6 s6 x8 n8 h8 npt npts npb s8
    intro H3 A3 s3 kk
    replace P3 := kk _ _ P3
    clear kk
    have hm := s3.some
    obtain ⟨l, xs, hp, al, _, ok, hl, m1, m2⟩ := A3
    have apa : At st H3 (.lst (l.map It.d)) (.ref pa) := .lst m1 hp al
    try dsimp only
    refine nxt2 ?_
    try dsimp only
    refine for_dv (m := st) (dx_lsts hm (dx_var rfl apa) (dx_lrev hm (dx_list hm (dx_var rfl apa))) (by simp [hl])) fun pl ys H4 x4 g4 n4 l4 => ?_
    rw [← List.map_reverse, ← List.map_append] at l4
    have hok : ∀ it ∈ l ++ l.reverse, it.ok := by
      intro it h
      rcases List.mem_append.mp h with h | h
      · exact ok it h
      · exact ok it (List.mem_reverse.mp h)
    generalize l ++ l.reverse = L at l4 hok
    have s4 := s3.mono x4
    replace P3 := P3.mono x4
    clear apa x4 hl al ok hp s3 hm
    refine LoopL.mk (fun i2 σ H' => Ex H4 H' ∧ ∃ o11, σ = [some (.ref a), some (.ref st), some (.int (0 + i)), some (.int b), some (.int x), some (.int y), some (.ref pv), some (.int n), some (.ref pa), o9, o10, o11]) ⟨Ex.refl _, _, rfl⟩ ?_ ?_ ?_
    · rintro i2 σ H' _ ⟨x, _⟩
      exact .inl (x _ _ g4)
    · rintro i2 z σ H' hx ⟨x14, o11, rfl⟩
      obtain ⟨dd, hdd, hat⟩ := l4.get hx
      rw [List.getElem?_map] at hdd
      cases e : L[i2]? with
      | none => rw [e] at hdd; cases hdd
      | some it =>
        rw [e] at hdd
        cases hdd
        obtain ⟨k1, k2, k3⟩ := hok it (List.mem_of_getElem? e)
        obtain ⟨q', y1', y2', rfl, nq, hq', i1, i2'⟩ := at_pair_inv (hat.mono x14)
        obtain rfl := at_int_inv i1
        walk_at "go"
        refine ⟨st, it.w, it.ds, y2', rfl, k1, fun z => s4.some (x14.fresh z), i2', k2, k3, F, fun H15 x15 => ?_⟩
        walk_at "br"
        exact ⟨x14.trans x15, _, rfl⟩
    rintro σ H5 ⟨x5, o11, rfl⟩
    have s5 := s4.mono x5
    replace P3 := P3.mono x5
    clear s4 x5 g4 l4 hok
    refine ⟨st, b, x, y, p, q, n, _, rfl, s5.some, b6, x0, x1, y0, y1, P3.1, q1, n1, p2, q2, hpn, hqn, n9, F, fun H6 x6 => ?_⟩
    walk_at "br"
    refine ⟨st, b, y, x, p, q, 1, _, rfl, (s5.mono x6).some, b6, y0, y1, x0, x1, (P3.mono x6).1, q1, by decide, p2, q2, by omega, by omega, by decide, F, fun H7 x7 => ?_⟩
    walk_at "br"
    exact ⟨_, _, _, _, _, _, _, _, _, _, rfl, (s5.mono x6).mono x7⟩
  · rintro σ H3 ⟨o2, o3, o4, o5, o6, o7, o8, o9, o10, o11, rfl, s3⟩
    exact k _
def top (i : Nat) : Stmt := PySem.Challenge.pw_bitshades_k07_written_forms_read_back.main.body.getD i (.Pass ⟨0, 0, 0, 0⟩)
structure ExN (mg : Str → Option Value) (x : Str) (C : Addr) : Prop where
  at_ : mg x = some (.ref C)
/-- what the module's names stand for -/
structure Tx (P : Program) (w : World) (mg : Str → Option Value) (base : Heap) (A : Ad) : Prop where
  b_ValueError : mg "ValueError" = none
  b_abs : mg "abs" = none
  b_bool : mg "bool" = none
  b_enumerate : mg "enumerate" = none
  b_int : mg "int" = none
  b_isinstance : mg "isinstance" = none
  b_len : mg "len" = none
  b_list : mg "list" = none
  b_max : mg "max" = none
  b_min : mg "min" = none
  b_range : mg "range" = none
  b_reversed : mg "reversed" = none
  b_str : mg "str" = none
  b_sum : mg "sum" = none
  b_tuple : mg "tuple" = none
  gcd : mg "gcd" = some (.builtin "math.gcd")
  se : mg "ShadeError" = some (.ref A.ShadeError)
  x_WrongKind : ExM P w A.K mg base "WrongKind" A.WrongKind "argument"
  x_WrongSize : ExM P w A.K mg base "WrongSize" A.WrongSize "argument"
  x_OutOfRange : ExM P w A.K mg base "OutOfRange" A.OutOfRange "argument"
  x_BadText : ExM P w A.K mg base "BadText" A.BadText "position"
  x_NotATable : ExN mg "NotATable" A.NotATable
  x_Spent : ExN mg "Spent" A.Spent
  x_TooFewPlaces : ExN mg "TooFewPlaces" A.TooFewPlaces
  x_WrongPaper : ExN mg "WrongPaper" A.WrongPaper
  x_UnknownName : ExN mg "UnknownName" A.UnknownName
  x_NameTaken : ExN mg "NameTaken" A.NameTaken
  x_NothingToUndo : ExN mg "NothingToUndo" A.NothingToUndo
  x_BookFull : ExN mg "BookFull" A.BookFull
  g_MOST_CHARACTERS : ∃ t, mg "MOST_CHARACTERS" = some (.int 200 t)
  g_MOST_DIGITS : ∃ t, mg "MOST_DIGITS" = some (.int 9 t)
  g_MOST_WIDTH : ∃ t, mg "MOST_WIDTH" = some (.int 6 t)
  nd : PySem.W.nsIn A.K cStatics "sys.int_max_str_digits" = some none
  s_DIGITS : ∃ t, mg "DIGITS" = some (.str "0123456789" t)
section
variable {P : Program} {w : World} {mg : Str → Option Value} {base : Heap} (A : Ad) {f : Addr} {fd : FuncData}
theorem sc_is_integer : FnScope ["value"] ["value"] (defScope (top 17)) := ⟨rfl, rfl, rfl, by decide +kernel, rfl, by decide +kernel, by decide +kernel⟩
theorem ok_is_integer (T : Tx P w mg base A) (F : Fun A.K "is_integer" "is_integer" (top 17) f fd)  : FnOk P w A.K mg base (L2N.CX P w) 1 f fd ["value"] (P_is_integer A) := by
  have S := sc_is_integer
  refine fn_ok F S (r_is_integer A) fun cdv B outer s H E hr tk po => ?_
  have hq := hr.units
  exact pss_one (ps_ret (be_and (be_isi .int T.b_isinstance (be_var 0) (be_ty _ T.b_int)) (be_one (be_not (be_isi .bl T.b_isinstance (be_var 0) (be_ty _ T.b_bool))))))
theorem sc_check_integer : FnScope ["value", "argument"] ["value", "argument"] (defScope (top 18)) := ⟨rfl, rfl, rfl, by decide +kernel, rfl, by decide +kernel, by decide +kernel⟩
theorem ok_check_integer (T : Tx P w mg base A) (F : Fun A.K "check_integer" "check_integer" (top 18) f fd) (c_is_integer : Fn P w A.K mg base 1 "is_integer" ["value"] (P_is_integer A)) : FnOk P w A.K mg base (L2N.CX P w) 3 f fd ["value", "argument"] (P_check_integer A) := by
  have S := sc_check_integer
  refine fn_ok F S (r_check_integer A) fun cdv B outer s H E hr tk po => ?_
  have hq := hr.units
  exact pss_one (bs_if (bt_not (bt_tru (be_call c_is_integer (hr.mono (by decide)) tk (ba_cons (be_var 0) (ba_nil))))) (pss_one (bs_raise T.x_WrongKind (hr.mono (by decide)) rfl tk (be_var 1))) (pss_nil))
theorem sc_check_range : FnScope ["value", "least", "greatest", "argument"] ["value", "least", "greatest", "argument"] (defScope (top 19)) := ⟨rfl, rfl, rfl, by decide +kernel, rfl, by decide +kernel, by decide +kernel⟩
theorem ok_check_range (T : Tx P w mg base A) (F : Fun A.K "check_range" "check_range" (top 19) f fd) (c_check_integer : Fn P w A.K mg base 3 "check_integer" ["value", "argument"] (P_check_integer A)) : FnOk P w A.K mg base (L2N.CX P w) 4 f fd ["value", "least", "greatest", "argument"] (P_check_range A) := by
  have S := sc_check_range
  refine fn_ok F S (r_check_range A) fun cdv B outer s H E hr tk po => ?_
  have hq := hr.units
  exact pss_cons (ps_expr (be_call c_check_integer (hr.mono (by decide)) tk (ba_cons (be_var 0) (ba_cons (be_var 3) (ba_nil))))) (pss_one (bs_if (PW.pt (bt_or (bt_cmp ob_lt (be_var 0) (be_var 1)) (bt_or1 (bt_cmp ob_gt (be_var 0) (be_var 2))))) (pss_one (bs_raise T.x_OutOfRange (hr.mono (by decide)) rfl tk (be_var 3))) (pss_nil)))
theorem sc_check_word : FnScope ["width", "word", "argument"] ["width", "word", "argument"] (defScope (top 20)) := ⟨rfl, rfl, rfl, by decide +kernel, rfl, by decide +kernel, by decide +kernel⟩
theorem ok_check_word (T : Tx P w mg base A) (F : Fun A.K "check_word" "check_word" (top 20) f fd) (c_check_range : Fn P w A.K mg base 4 "check_range" ["value", "least", "greatest", "argument"] (P_check_range A)) : FnOk P w A.K mg base (L2N.CX P w) 5 f fd ["width", "word", "argument"] (P_check_word A) := by
  have S := sc_check_word
  refine fn_ok F S (r_check_word A) fun cdv B outer s H E hr tk po => ?_
  have hq := hr.units
  exact pss_one (ps_expr (be_call c_check_range (hr.mono (by decide)) tk (ba_cons (be_var 1) (ba_cons (pe_int) (ba_cons (be_bin ob_sub (be_bin ob_shl (pe_int) (be_var 0)) (pe_int)) (ba_cons (be_var 2) (ba_nil)))))))
theorem sc_check_place : FnScope ["width", "place", "argument"] ["width", "place", "argument"] (defScope (top 21)) := ⟨rfl, rfl, rfl, by decide +kernel, rfl, by decide +kernel, by decide +kernel⟩
theorem ok_check_place (T : Tx P w mg base A) (F : Fun A.K "check_place" "check_place" (top 21) f fd) (c_check_range : Fn P w A.K mg base 4 "check_range" ["value", "least", "greatest", "argument"] (P_check_range A)) : FnOk P w A.K mg base (L2N.CX P w) 5 f fd ["width", "place", "argument"] (P_check_place A) := by
  have S := sc_check_place
  refine fn_ok F S (r_check_place A) fun cdv B outer s H E hr tk po => ?_
  have hq := hr.units
  exact pss_one (ps_expr (be_call c_check_range (hr.mono (by decide)) tk (ba_cons (be_var 1) (ba_cons (pe_int) (ba_cons (be_bin ob_sub (be_var 0) (pe_int)) (ba_cons (be_var 2) (ba_nil)))))))
theorem sc_check_bit : FnScope ["bit", "argument"] ["bit", "argument"] (defScope (top 22)) := ⟨rfl, rfl, rfl, by decide +kernel, rfl, by decide +kernel, by decide +kernel⟩
theorem ok_check_bit (T : Tx P w mg base A) (F : Fun A.K "check_bit" "check_bit" (top 22) f fd) (c_check_range : Fn P w A.K mg base 4 "check_range" ["value", "least", "greatest", "argument"] (P_check_range A)) : FnOk P w A.K mg base (L2N.CX P w) 5 f fd ["bit", "argument"] (P_check_bit A) := by
  have S := sc_check_bit
  refine fn_ok F S (r_check_bit A) fun cdv B outer s H E hr tk po => ?_
  have hq := hr.units
  exact pss_one (ps_expr (be_call c_check_range (hr.mono (by decide)) tk (ba_cons (be_var 0) (ba_cons (pe_int) (ba_cons (pe_int) (ba_cons (be_var 1) (ba_nil)))))))
theorem sc_check_text : FnScope ["text", "argument"] ["text", "argument"] (defScope (top 23)) := ⟨rfl, rfl, rfl, by decide +kernel, rfl, by decide +kernel, by decide +kernel⟩
theorem ok_check_text (T : Tx P w mg base A) (F : Fun A.K "check_text" "check_text" (top 23) f fd)  : FnOk P w A.K mg base (L2N.CX P w) 3 f fd ["text", "argument"] (P_check_text A) := by
  have S := sc_check_text
  refine fn_ok F S (r_check_text A) fun cdv B outer s H E hr tk po => ?_
  have hq := hr.units
  exact pss_cons (bs_if (bt_not (bt_tru (be_isi .str T.b_isinstance (be_var 0) (be_ty _ T.b_str)))) (pss_one (bs_raise T.x_WrongKind (hr.mono (by decide)) rfl tk (be_var 1))) (pss_nil)) (pss_one (bs_if (bt_cmp ob_gt (be_len T.b_len (be_var 0)) (pe_glob rfl T.g_MOST_CHARACTERS.choose_spec ⟨_, rfl⟩)) (pss_one (bs_raise T.x_WrongSize (hr.mono (by decide)) rfl tk (be_var 1))) (pss_nil)))
theorem sc_check_row : FnScope ["row", "least", "greatest", "argument"] ["row", "least", "greatest", "argument"] (defScope (top 24)) := ⟨rfl, rfl, rfl, by decide +kernel, rfl, by decide +kernel, by decide +kernel⟩
theorem ok_check_row (T : Tx P w mg base A) (F : Fun A.K "check_row" "check_row" (top 24) f fd)  : FnOk P w A.K mg base (L2N.CX P w) 3 f fd ["row", "least", "greatest", "argument"] (P_check_row A) := by
  have S := sc_check_row
  refine fn_ok F S (r_check_row A) fun cdv B outer s H E hr tk po => ?_
  have hq := hr.units
  exact pss_cons (bs_if (bt_not (bt_tru (be_isi2 .lst .tup T.b_isinstance (be_var 0) (be_ty _ T.b_list) (be_ty _ T.b_tuple)))) (pss_one (bs_raise T.x_WrongKind (hr.mono (by decide)) rfl tk (be_var 3))) (pss_nil)) (pss_one (bs_if (PW.pt (bt_or (bt_cmp ob_lt (be_len T.b_len (be_var 0)) (be_var 1)) (bt_or1 (bt_cmp ob_gt (be_len T.b_len (be_var 0)) (be_var 2))))) (pss_one (bs_raise T.x_WrongSize (hr.mono (by decide)) rfl tk (be_var 3))) (pss_nil)))
theorem sc_check_bits : FnScope ["bits", "least", "greatest", "argument", "bit"] ["bits", "least", "greatest", "argument"] (defScope (top 25)) := ⟨rfl, rfl, rfl, by decide +kernel, rfl, by decide +kernel, by decide +kernel⟩
theorem ok_check_bits (T : Tx P w mg base A) (F : Fun A.K "check_bits" "check_bits" (top 25) f fd) (c_check_row : Fn P w A.K mg base 3 "check_row" ["row", "least", "greatest", "argument"] (P_check_row A)) (c_check_bit : Fn P w A.K mg base 5 "check_bit" ["bit", "argument"] (P_check_bit A)) : FnOk P w A.K mg base (L2N.CX P w) 6 f fd ["bits", "least", "greatest", "argument"] (P_check_bits A) := by
  have S := sc_check_bits
  refine fn_ok F S (r_check_bits A) fun cdv B outer s H E hr tk po => ?_
  have hq := hr.units
  exact pss_cons (ps_expr (be_call c_check_row (hr.mono (by decide)) tk (ba_cons (be_var 0) (ba_cons (be_var 1) (ba_cons (be_var 2) (ba_cons (be_var 3) (ba_nil))))))) (pss_one (bs_forA po rfl (be_var 0) (pg_name (i := 4) S.nd rfl (.inl rfl)) (pss_one (ps_expr (be_call c_check_bit (hr.mono (by decide)) tk (ba_cons (be_var 4) (ba_cons (be_var 3) (ba_nil))))))))
theorem sc_check_places : FnScope ["width", "places", "least", "argument", "index", "place"] ["width", "places", "least", "argument"] (defScope (top 26)) := ⟨rfl, rfl, rfl, by decide +kernel, rfl, by decide +kernel, by decide +kernel⟩
theorem ok_check_places (T : Tx P w mg base A) (F : Fun A.K "check_places" "check_places" (top 26) f fd) (c_check_row : Fn P w A.K mg base 3 "check_row" ["row", "least", "greatest", "argument"] (P_check_row A)) (c_check_place : Fn P w A.K mg base 5 "check_place" ["width", "place", "argument"] (P_check_place A)) : FnOk P w A.K mg base (L2N.CX P w) 6 f fd ["width", "places", "least", "argument"] (P_check_places A) := by
  have S := sc_check_places
  refine fn_ok F S (r_check_places A) fun cdv B outer s H E hr tk po => ?_
  have hq := hr.units
  exact pss_cons (ps_expr (be_call c_check_row (hr.mono (by decide)) tk (ba_cons (be_var 1) (ba_cons (be_var 2) (ba_cons (be_var 0) (ba_cons (be_var 3) (ba_nil))))))) (pss_one (bs_forE T.b_enumerate po rfl (be_var 1) (pg_two rfl (pg_name (i := 4) S.nd rfl (.inl rfl)) (pg_name (i := 5) S.nd rfl (.inl rfl))) (pss_cons (ps_expr (be_call c_check_place (hr.mono (by decide)) tk (ba_cons (be_var 0) (ba_cons (be_var 5) (ba_cons (be_var 3) (ba_nil)))))) (pss_one (bs_if (bt_cmp ob_in (be_var 5) (be_slice (be_var 1) bo_none (bo_some (be_var 4)))) (pss_one (bs_raise T.x_OutOfRange (hr.mono (by decide)) rfl tk (be_var 3))) (pss_nil))))))
theorem sc_check_fraction : FnScope ["fraction", "argument", "item"] ["fraction", "argument"] (defScope (top 27)) := ⟨rfl, rfl, rfl, by decide +kernel, rfl, by decide +kernel, by decide +kernel⟩
theorem ok_check_fraction (T : Tx P w mg base A) (F : Fun A.K "check_fraction" "check_fraction" (top 27) f fd) (c_check_integer : Fn P w A.K mg base 3 "check_integer" ["value", "argument"] (P_check_integer A)) : FnOk P w A.K mg base (L2N.CX P w) 4 f fd ["fraction", "argument"] (P_check_fraction A) := by
  have S := sc_check_fraction
  refine fn_ok F S (r_check_fraction A) fun cdv B outer s H E hr tk po => ?_
  have hq := hr.units
  exact pss_cons (bs_if (bt_not (bt_tru (be_isi .tup T.b_isinstance (be_var 0) (be_ty _ T.b_tuple)))) (pss_one (bs_raise T.x_WrongKind (hr.mono (by decide)) rfl tk (be_var 1))) (pss_nil)) (pss_cons (bs_if (bt_cmp (ob_ne hq) (be_len T.b_len (be_var 0)) (pe_int)) (pss_one (bs_raise T.x_WrongSize (hr.mono (by decide)) rfl tk (be_var 1))) (pss_nil)) (pss_cons (bs_forA po rfl (be_var 0) (pg_name (i := 2) S.nd rfl (.inl rfl)) (pss_one (ps_expr (be_call c_check_integer (hr.mono (by decide)) tk (ba_cons (be_var 2) (ba_cons (be_var 1) (ba_nil))))))) (pss_one (bs_if (bt_cmp ob_lt (be_ix (be_var 0) (pe_int)) (pe_int)) (pss_one (bs_raise T.x_OutOfRange (hr.mono (by decide)) rfl tk (be_var 1))) (pss_nil)))))
theorem sc_ratio : FnScope ["top", "bottom", "divisor"] ["top", "bottom"] (defScope (top 29)) := ⟨rfl, rfl, rfl, by decide +kernel, rfl, by decide +kernel, by decide +kernel⟩
theorem ok_ratio (T : Tx P w mg base A) (F : Fun A.K "ratio" "ratio" (top 29) f fd) (c_check_integer : Fn P w A.K mg base 3 "check_integer" ["value", "argument"] (P_check_integer A)) : FnOk P w A.K mg base (L2N.CX P w) 4 f fd ["top", "bottom"] (P_ratio A) := by
  have S := sc_ratio
  refine fn_ok F S (r_ratio A) fun cdv B outer s H E hr tk po => ?_
  have hq := hr.units
  exact pss_cons (ps_expr (be_call c_check_integer (hr.mono (by decide)) tk (ba_cons (be_var 0) (ba_cons (pe_str) (ba_nil))))) (pss_cons (ps_expr (be_call c_check_integer (hr.mono (by decide)) tk (ba_cons (be_var 1) (ba_cons (pe_str) (ba_nil))))) (pss_cons (bs_if (bt_cmp (ob_eq hq) (be_var 1) (pe_int)) (pss_one (bs_raise T.x_OutOfRange (hr.mono (by decide)) rfl tk (pe_str))) (pss_nil)) (pss_cons (ps_set (i := 2) S.nd rfl (.inl rfl) (be_gcd T.gcd (be_var 0) (be_var 1))) (pss_cons (bs_if (bt_cmp ob_lt (be_var 1) (pe_int)) (pss_one (ps_set (i := 2) S.nd rfl (.inl rfl) (be_un ob_neg (be_var 2)))) (pss_nil)) (pss_one (ps_ret (be_tup (ba_cons (be_bin ob_fdv (be_var 0) (be_var 2)) (ba_cons (be_bin ob_fdv (be_var 1) (be_var 2)) (ba_nil))))))))))
theorem sc_check_width : FnScope ["width"] ["width"] (defScope (top 32)) := ⟨rfl, rfl, rfl, by decide +kernel, rfl, by decide +kernel, by decide +kernel⟩
theorem ok_check_width (T : Tx P w mg base A) (F : Fun A.K "check_width" "check_width" (top 32) f fd) (c_check_range : Fn P w A.K mg base 4 "check_range" ["value", "least", "greatest", "argument"] (P_check_range A)) : FnOk P w A.K mg base (L2N.CX P w) 5 f fd ["width"] (P_check_width A) := by
  have S := sc_check_width
  refine fn_ok F S (r_check_width A) fun cdv B outer s H E hr tk po => ?_
  have hq := hr.units
  exact pss_one (ps_expr (be_call c_check_range (hr.mono (by decide)) tk (ba_cons (be_var 0) (ba_cons (pe_int) (ba_cons (pe_glob rfl T.g_MOST_WIDTH.choose_spec ⟨_, rfl⟩) (ba_cons (pe_str) (ba_nil)))))))
theorem sc_word_of_bits : FnScope ["bits", "place", "bit"] ["bits"] (defScope (top 33)) := ⟨rfl, rfl, rfl, by decide +kernel, rfl, by decide +kernel, by decide +kernel⟩
theorem ok_word_of_bits (T : Tx P w mg base A) (F : Fun A.K "word_of_bits" "word_of_bits" (top 33) f fd) (c_check_bits : Fn P w A.K mg base 6 "check_bits" ["bits", "least", "greatest", "argument"] (P_check_bits A)) : FnOk P w A.K mg base (L2N.CX P w) 7 f fd ["bits"] (P_word_of_bits A) := by
  have S := sc_word_of_bits
  refine fn_ok F S (r_word_of_bits A) fun cdv B outer s H E hr tk po => ?_
  have hq := hr.units
  exact pss_cons (ps_expr (be_call c_check_bits (hr.mono (by decide)) tk (ba_cons (be_var 0) (ba_cons (pe_int) (ba_cons (pe_glob rfl T.g_MOST_WIDTH.choose_spec ⟨_, rfl⟩) (ba_cons (pe_str) (ba_nil))))))) (pss_one (ps_ret (be_sum T.b_sum rfl (be_cmpE (by decide) T.b_enumerate rfl S.nd (blkOk_by (N := ["bits", "place", "bit"]) (sc := defScope (top 33)) (by decide +kernel)) (be_var 0) (fun _ _ _ _ _ => pg_two rfl (pg_name (i := 1) S.nd rfl (Or.inl rfl)) (pg_name (i := 2) S.nd rfl (Or.inl rfl))) (fun _ _ _ _ _ => be_bin ob_shl (be_var 2) (be_var 1))))))
theorem sc_bits_of_word : FnScope ["width", "word", "place"] ["width", "word"] (defScope (top 34)) := ⟨rfl, rfl, rfl, by decide +kernel, rfl, by decide +kernel, by decide +kernel⟩
theorem ok_bits_of_word (T : Tx P w mg base A) (F : Fun A.K "bits_of_word" "bits_of_word" (top 34) f fd) (c_check_width : Fn P w A.K mg base 5 "check_width" ["width"] (P_check_width A)) (c_check_word : Fn P w A.K mg base 5 "check_word" ["width", "word", "argument"] (P_check_word A)) : FnOk P w A.K mg base (L2N.CX P w) 6 f fd ["width", "word"] (P_bits_of_word A) := by
  have S := sc_bits_of_word
  refine fn_ok F S (r_bits_of_word A) fun cdv B outer s H E hr tk po => ?_
  have hq := hr.units
  exact pss_cons (ps_expr (be_call c_check_width (hr.mono (by decide)) tk (ba_cons (be_var 0) (ba_nil)))) (pss_cons (ps_expr (be_call c_check_word (hr.mono (by decide)) tk (ba_cons (be_var 0) (ba_cons (be_var 1) (ba_cons (pe_str) (ba_nil)))))) (pss_one (ps_ret (be_cmpR T.b_range rfl S.nd (blkOk_by (N := ["width", "word", "place"]) (sc := defScope (top 34)) (by decide +kernel)) (be_var 0) (fun _ _ _ _ _ => pg_name (i := 2) S.nd rfl (Or.inl rfl)) (fun _ _ _ _ _ => be_bin ob_and (be_bin ob_shr (be_var 1) (be_var 2)) (pe_int))))))
theorem sc_set_of_places : FnScope ["width", "places", "place"] ["width", "places"] (defScope (top 35)) := ⟨rfl, rfl, rfl, by decide +kernel, rfl, by decide +kernel, by decide +kernel⟩
theorem ok_set_of_places (T : Tx P w mg base A) (F : Fun A.K "set_of_places" "set_of_places" (top 35) f fd) (c_check_width : Fn P w A.K mg base 5 "check_width" ["width"] (P_check_width A)) (c_check_places : Fn P w A.K mg base 6 "check_places" ["width", "places", "least", "argument"] (P_check_places A)) : FnOk P w A.K mg base (L2N.CX P w) 7 f fd ["width", "places"] (P_set_of_places A) := by
  have S := sc_set_of_places
  refine fn_ok F S (r_set_of_places A) fun cdv B outer s H E hr tk po => ?_
  have hq := hr.units
  exact pss_cons (ps_expr (be_call c_check_width (hr.mono (by decide)) tk (ba_cons (be_var 0) (ba_nil)))) (pss_cons (ps_expr (be_call c_check_places (hr.mono (by decide)) tk (ba_cons (be_var 0) (ba_cons (be_var 1) (ba_cons (pe_int) (ba_cons (pe_str) (ba_nil))))))) (pss_one (ps_ret (be_sum T.b_sum rfl (be_cmpA rfl S.nd (blkOk_by (N := ["width", "places", "place"]) (sc := defScope (top 35)) (by decide +kernel)) (be_var 1) (fun _ _ _ _ _ => pg_name (i := 2) S.nd rfl (Or.inl rfl)) (fun _ _ _ _ _ => be_bin ob_shl (pe_int) (be_var 2)))))))
theorem sc_places_of_set : FnScope ["width", "chosen", "place"] ["width", "chosen"] (defScope (top 36)) := ⟨rfl, rfl, rfl, by decide +kernel, rfl, by decide +kernel, by decide +kernel⟩
theorem ok_places_of_set (T : Tx P w mg base A) (F : Fun A.K "places_of_set" "places_of_set" (top 36) f fd) (c_check_width : Fn P w A.K mg base 5 "check_width" ["width"] (P_check_width A)) (c_check_word : Fn P w A.K mg base 5 "check_word" ["width", "word", "argument"] (P_check_word A)) : FnOk P w A.K mg base (L2N.CX P w) 6 f fd ["width", "chosen"] (P_places_of_set A) := by
  have S := sc_places_of_set
  refine fn_ok F S (r_places_of_set A) fun cdv B outer s H E hr tk po => ?_
  have hq := hr.units
  exact pss_cons (ps_expr (be_call c_check_width (hr.mono (by decide)) tk (ba_cons (be_var 0) (ba_nil)))) (pss_cons (ps_expr (be_call c_check_word (hr.mono (by decide)) tk (ba_cons (be_var 0) (ba_cons (be_var 1) (ba_cons (pe_str) (ba_nil)))))) (pss_one (ps_ret (be_cmpRi T.b_range rfl S.nd (blkOk_by (N := ["width", "chosen", "place"]) (sc := defScope (top 36)) (by decide +kernel)) (be_var 0) (fun _ _ _ _ _ => pg_name (i := 2) S.nd rfl (Or.inl rfl)) (fun _ _ _ _ _ => bt_tru (be_bin ob_and (be_bin ob_shr (be_var 1) (be_var 2)) (pe_int))) (fun _ _ _ _ _ => be_var 2)))))
theorem sc_written_bits : FnScope ["bits", "bit"] ["bits"] (defScope (top 40)) := ⟨rfl, rfl, rfl, by decide +kernel, rfl, by decide +kernel, by decide +kernel⟩
theorem ok_written_bits (T : Tx P w mg base A) (F : Fun A.K "written_bits" "written_bits" (top 40) f fd)  : FnOk P w A.K mg base (L2N.CX P w) 1 f fd ["bits"] (P_written_bits A) := by
  have S := sc_written_bits
  refine fn_ok F S (r_written_bits A) fun cdv B outer s H E hr tk po => ?_
  have hq := hr.units
  exact pss_one (ps_ret (be_join (pe_str) (be_cmpA rfl S.nd (blkOk_by (N := ["bits", "bit"]) (sc := defScope (top 40)) (by decide +kernel)) (be_var 0) (fun _ _ _ _ _ => pg_name (i := 1) S.nd rfl (Or.inl rfl)) (fun _ _ _ _ _ => be_str T.b_str (be_var 1)))))
theorem sc_digit_at : FnScope ["text", "position"] ["text", "position"] (defScope (top 41)) := ⟨rfl, rfl, rfl, by decide +kernel, rfl, by decide +kernel, by decide +kernel⟩
theorem ok_digit_at (T : Tx P w mg base A) (F : Fun A.K "digit_at" "digit_at" (top 41) f fd)  : FnOk P w A.K mg base (L2N.CX P w) 1 f fd ["text", "position"] (P_digit_at A) := by
  have S := sc_digit_at
  refine fn_ok F S (r_digit_at A) fun cdv B outer s H E hr tk po => ?_
  have hq := hr.units
  exact pss_cons (bs_if (bt_cmp ob_ge (be_var 1) (be_len T.b_len (be_var 0))) (pss_one (ps_ret (be_un ob_neg (pe_int)))) (pss_nil)) (pss_one (ps_ret (be_find (pe_glob rfl T.s_DIGITS.choose_spec ⟨_, rfl⟩) (be_ix (be_var 0) (be_var 1)))))
theorem sc_format_word : FnScope ["width", "word", "bits"] ["width", "word"] (defScope (top 42)) := ⟨rfl, rfl, rfl, by decide +kernel, rfl, by decide +kernel, by decide +kernel⟩
theorem ok_format_word (T : Tx P w mg base A) (F : Fun A.K "format_word" "format_word" (top 42) f fd) (c_bits_of_word : Fn P w A.K mg base 6 "bits_of_word" ["width", "word"] (P_bits_of_word A)) (c_written_bits : Fn P w A.K mg base 1 "written_bits" ["bits"] (P_written_bits A)) : FnOk P w A.K mg base (L2N.CX P w) 7 f fd ["width", "word"] (P_format_word A) := by
  have S := sc_format_word
  refine fn_ok F S (r_format_word A) fun cdv B outer s H E hr tk po => ?_
  have hq := hr.units
  exact pss_cons (ps_set (i := 2) S.nd rfl (.inl rfl) (be_call c_bits_of_word (hr.mono (by decide)) tk (ba_cons (be_var 0) (ba_cons (be_var 1) (ba_nil))))) (pss_cons (bs_if (bt_cmp (ob_eq hq) (be_var 0) (pe_int)) (pss_one (ps_ret (pe_str))) (pss_nil)) (pss_one (ps_ret (be_call c_written_bits (hr.mono (by decide)) tk (ba_cons (be_var 2) (ba_nil))))))
theorem sc_lone_hyphen : FnScope ["text"] ["text"] (defScope (top 43)) := ⟨rfl, rfl, rfl, by decide +kernel, rfl, by decide +kernel, by decide +kernel⟩
theorem ok_lone_hyphen (T : Tx P w mg base A) (F : Fun A.K "lone_hyphen" "lone_hyphen" (top 43) f fd)  : FnOk P w A.K mg base (L2N.CX P w) 3 f fd ["text"] (P_lone_hyphen A) := by
  have S := sc_lone_hyphen
  refine fn_ok F S (r_lone_hyphen A) fun cdv B outer s H E hr tk po => ?_
  have hq := hr.units
  exact pss_cons (bs_if (bt_cmp (ob_ne hq) (be_slice (be_var 0) bo_none (bo_some (pe_int))) (pe_str)) (pss_one (ps_ret (pe_bl))) (pss_nil)) (pss_cons (bs_if (bt_cmp ob_gt (be_len T.b_len (be_var 0)) (pe_int)) (pss_one (bs_raise T.x_BadText (hr.mono (by decide)) rfl tk (pe_int))) (pss_nil)) (pss_one (ps_ret (pe_bl))))
theorem sc_parse_word : FnScope ["text", "bits", "position", "bit"] ["text"] (defScope (top 44)) := ⟨rfl, rfl, rfl, by decide +kernel, rfl, by decide +kernel, by decide +kernel⟩
theorem ok_parse_word (T : Tx P w mg base A) (F : Fun A.K "parse_word" "parse_word" (top 44) f fd) (c_check_text : Fn P w A.K mg base 3 "check_text" ["text", "argument"] (P_check_text A)) (c_lone_hyphen : Fn P w A.K mg base 3 "lone_hyphen" ["text"] (P_lone_hyphen A)) (c_digit_at : Fn P w A.K mg base 1 "digit_at" ["text", "position"] (P_digit_at A)) (c_word_of_bits : Fn P w A.K mg base 7 "word_of_bits" ["bits"] (P_word_of_bits A)) : FnOk P w A.K mg base (L2N.CX P w) 8 f fd ["text"] (P_parse_word A) := by
  have S := sc_parse_word
  refine fn_ok F S (r_parse_word A) fun cdv B outer s H E hr tk po => ?_
  have hq := hr.units
  exact pss_cons (ps_expr (be_call c_check_text (hr.mono (by decide)) tk (ba_cons (be_var 0) (ba_cons (pe_str) (ba_nil))))) (pss_cons (bs_if (bt_tru (be_call c_lone_hyphen (hr.mono (by decide)) tk (ba_cons (be_var 0) (ba_nil)))) (pss_one (ps_ret (be_tup (ba_cons (pe_int) (ba_cons (pe_int) (ba_nil)))))) (pss_nil)) (pss_cons (bs_if (bt_cmp (ob_eq hq) (be_var 0) (pe_str)) (pss_one (bs_raise T.x_BadText (hr.mono (by decide)) rfl tk (pe_int))) (pss_nil)) (pss_cons (bs_cmpR (j := 1) T.b_range rfl S.nd rfl rfl (sw_true rfl rfl rfl (by decide +kernel)) (blkOk_by (N := ["text", "bits", "position", "bit"]) (sc := defScope (top 44)) (by decide +kernel)) (be_len T.b_len (be_var 0)) (fun _ _ _ _ _ => pg_name (i := 2) S.nd rfl (Or.inl rfl)) (fun _ _ _ _ _ => be_call c_digit_at (hr.mono (by decide)) takesF (ba_cons (be_var 0) (ba_cons (be_var 2) (ba_nil))))) (pss_cons (bs_forE T.b_enumerate po rfl (be_var 1) (pg_two rfl (pg_name (i := 2) S.nd rfl (.inl rfl)) (pg_name (i := 3) S.nd rfl (.inl rfl))) (pss_one (bs_if (PW.pt (bt_or (bt_cmp ob_nin (be_var 3) (be_tup (ba_cons (pe_int) (ba_cons (pe_int) (ba_nil))))) (bt_or1 (bt_cmp (ob_eq hq) (be_var 2) (pe_glob rfl T.g_MOST_WIDTH.choose_spec ⟨_, rfl⟩))))) (pss_one (bs_raise T.x_BadText (hr.mono (by decide)) rfl tk (be_var 2))) (pss_nil)))) (pss_one (ps_ret (be_tup (ba_cons (be_len T.b_len (be_var 1)) (ba_cons (be_call c_word_of_bits (hr.mono (by decide)) tk (ba_cons (be_var 1) (ba_nil))) (ba_nil))))))))))
theorem sc_format_set : FnScope ["width", "chosen", "places", "place"] ["width", "chosen"] (defScope (top 45)) := ⟨rfl, rfl, rfl, by decide +kernel, rfl, by decide +kernel, by decide +kernel⟩
theorem ok_format_set (T : Tx P w mg base A) (F : Fun A.K "format_set" "format_set" (top 45) f fd) (c_places_of_set : Fn P w A.K mg base 6 "places_of_set" ["width", "chosen"] (P_places_of_set A)) : FnOk P w A.K mg base (L2N.CX P w) 7 f fd ["width", "chosen"] (P_format_set A) := by
  have S := sc_format_set
  refine fn_ok F S (r_format_set A) fun cdv B outer s H E hr tk po => ?_
  have hq := hr.units
  exact pss_cons (ps_set (i := 2) S.nd rfl (.inl rfl) (be_call c_places_of_set (hr.mono (by decide)) tk (ba_cons (be_var 0) (ba_cons (be_var 1) (ba_nil))))) (pss_cons (bs_if (bt_not (bt_tru (be_var 2))) (pss_one (ps_ret (pe_str))) (pss_nil)) (pss_one (ps_ret (be_join (pe_str) (be_cmpA rfl S.nd (blkOk_by (N := ["width", "chosen", "places", "place"]) (sc := defScope (top 45)) (by decide +kernel)) (be_var 2) (fun _ _ _ _ _ => pg_name (i := 3) S.nd rfl (Or.inl rfl)) (fun _ _ _ _ _ => be_str T.b_str (be_var 3)))))))
theorem sc_parse_set : FnScope ["width", "text"] ["width", "text"] (defScope (top 46)) := ⟨rfl, rfl, rfl, by decide +kernel, rfl, by decide +kernel, by decide +kernel⟩
theorem ok_parse_set (T : Tx P w mg base A) (F : Fun A.K "parse_set" "parse_set" (top 46) f fd) (c_check_width : Fn P w A.K mg base 5 "check_width" ["width"] (P_check_width A)) (c_check_text : Fn P w A.K mg base 3 "check_text" ["text", "argument"] (P_check_text A)) (c_lone_hyphen : Fn P w A.K mg base 3 "lone_hyphen" ["text"] (P_lone_hyphen A)) (c_set_of_places : Fn P w A.K mg base 7 "set_of_places" ["width", "places"] (P_set_of_places A)) (c_read_places : Fn P w A.K mg base 3 "read_places" ["width", "text"] (P_read_places A)) : FnOk P w A.K mg base (L2N.CX P w) 8 f fd ["width", "text"] (P_parse_set A) := by
  have S := sc_parse_set
  refine fn_ok F S (r_parse_set A) fun cdv B outer s H E hr tk po => ?_
  have hq := hr.units
  exact pss_cons (ps_expr (be_call c_check_width (hr.mono (by decide)) tk (ba_cons (be_var 0) (ba_nil)))) (pss_cons (ps_expr (be_call c_check_text (hr.mono (by decide)) tk (ba_cons (be_var 1) (ba_cons (pe_str) (ba_nil))))) (pss_cons (bs_if (bt_tru (be_call c_lone_hyphen (hr.mono (by decide)) tk (ba_cons (be_var 1) (ba_nil)))) (pss_one (ps_ret (pe_int))) (pss_nil)) (pss_one (ps_ret (be_call c_set_of_places (hr.mono (by decide)) tk (ba_cons (be_var 0) (ba_cons (be_call c_read_places (hr.mono (by decide)) tk (ba_cons (be_var 0) (ba_cons (be_var 1) (ba_nil)))) (ba_nil))))))))
theorem sc_read_places : FnScope ["width", "text", "places", "least", "position", "place"] ["width", "text"] (defScope (top 47)) := ⟨rfl, rfl, rfl, by decide +kernel, rfl, by decide +kernel, by decide +kernel⟩
theorem ok_read_places (T : Tx P w mg base A) (F : Fun A.K "read_places" "read_places" (top 47) f fd) (c_digit_at : Fn P w A.K mg base 1 "digit_at" ["text", "position"] (P_digit_at A)) : FnOk P w A.K mg base (L2N.CX P w) 3 f fd ["width", "text"] (P_read_places A) := by
  have S := sc_read_places
  refine fn_ok F S (r_read_places A) fun cdv B outer s H E hr tk po => ?_
  have hq := hr.units
  exact pss_cons (ps_set (i := 2) S.nd rfl (.inl rfl) (be_lst (ba_nil))) (pss_cons (ps_set (i := 3) S.nd rfl (.inl rfl) (pe_int)) (pss_cons (ps_set (i := 4) S.nd rfl (.inl rfl) (pe_int)) (pss_one (bs_while po (bt_tru (pe_bl)) (pss_cons (ps_set (i := 5) S.nd rfl (.inl rfl) (be_call c_digit_at (hr.mono (by decide)) tk (ba_cons (be_var 1) (ba_cons (be_var 4) (ba_nil))))) (pss_cons (bs_if (PW.pt (bt_or (bt_cmp ob_lt (be_var 5) (be_var 3)) (bt_or1 (bt_cmp ob_ge (be_var 5) (be_var 0))))) (pss_one (bs_raise T.x_BadText (hr.mono (by decide)) rfl tk (be_var 4))) (pss_nil)) (pss_cons (ps_expr (be_app (be_var 2) (be_var 5))) (pss_cons (bs_if (bt_cmp (ob_eq hq) (be_bin ob_add (be_var 4) (pe_int)) (be_len T.b_len (be_var 1))) (pss_one (ps_ret (be_var 2))) (pss_nil)) (pss_cons (ps_set (i := 3) S.nd rfl (.inl rfl) (be_bin ob_add (be_var 5) (pe_int))) (pss_cons (bs_if (PW.pt (bt_or (bt_cmp (ob_ne hq) (be_ix (be_var 1) (be_bin ob_add (be_var 4) (pe_int))) (pe_str)) (bt_or1 (bt_cmp (ob_eq hq) (be_var 3) (be_var 0))))) (pss_one (bs_raise T.x_BadText (hr.mono (by decide)) rfl tk (be_bin ob_add (be_var 4) (pe_int)))) (pss_nil)) (pss_one (bs_aug (i := 4) S.nd rfl (.inl rfl) (pe_int) ip_add))))))))))))
theorem sc_format_ratio : FnScope ["fraction", "top", "bottom"] ["fraction"] (defScope (top 48)) := ⟨rfl, rfl, rfl, by decide +kernel, rfl, by decide +kernel, by decide +kernel⟩
theorem ok_format_ratio (T : Tx P w mg base A) (F : Fun A.K "format_ratio" "format_ratio" (top 48) f fd) (c_check_fraction : Fn P w A.K mg base 4 "check_fraction" ["fraction", "argument"] (P_check_fraction A)) (c_ratio : Fn P w A.K mg base 4 "ratio" ["top", "bottom"] (P_ratio A)) : FnOk P w A.K mg base (L2N.CX P w) 5 f fd ["fraction"] (P_format_ratio A) := by
  have S := sc_format_ratio
  refine fn_ok F S (r_format_ratio A) fun cdv B outer s H E hr tk po => ?_
  have hq := hr.units
  exact pss_cons (ps_expr (be_call c_check_fraction (hr.mono (by decide)) tk (ba_cons (be_var 0) (ba_cons (pe_str) (ba_nil))))) (pss_cons (ps_asg (be_call c_ratio (hr.mono (by decide)) tk (ba_cons (be_ix (be_var 0) (pe_int)) (ba_cons (be_ix (be_var 0) (pe_int)) (ba_nil)))) (pg_two rfl (pg_name (i := 1) S.nd rfl (.inl rfl)) (pg_name (i := 2) S.nd rfl (.inl rfl)))) (pss_one (ps_ret (be_fs (bj_cons (be_fmtW rfl T.nd (be_var 1)) (bj_cons (pe_str) (bj_cons (be_fmtW rfl T.nd (be_var 2)) (bj_nil))))))))
theorem sc_parse_ratio : FnScope ["text", "top", "end", "bottom"] ["text"] (defScope (top 49)) := ⟨rfl, rfl, rfl, by decide +kernel, rfl, by decide +kernel, by decide +kernel⟩
theorem ok_parse_ratio (T : Tx P w mg base A) (F : Fun A.K "parse_ratio" "parse_ratio" (top 49) f fd) (c_check_text : Fn P w A.K mg base 3 "check_text" ["text", "argument"] (P_check_text A)) (c_read_number : Fn P w A.K mg base 3 "read_number" ["text", "start", "least"] (P_read_number A)) (c_ratio : Fn P w A.K mg base 4 "ratio" ["top", "bottom"] (P_ratio A)) : FnOk P w A.K mg base (L2N.CX P w) 5 f fd ["text"] (P_parse_ratio A) := by
  have S := sc_parse_ratio
  refine fn_ok F S (r_parse_ratio A) fun cdv B outer s H E hr tk po => ?_
  have hq := hr.units
  exact pss_cons (ps_expr (be_call c_check_text (hr.mono (by decide)) tk (ba_cons (be_var 0) (ba_cons (pe_str) (ba_nil))))) (pss_cons (bs_if (bt_cmp (ob_eq hq) (be_slice (be_var 0) bo_none (bo_some (pe_int))) (pe_str)) (pss_cons (ps_asg (be_call c_read_number (hr.mono (by decide)) tk (ba_cons (be_var 0) (ba_cons (pe_int) (ba_cons (pe_int) (ba_nil))))) (pg_two rfl (pg_name (i := 1) S.nd rfl (.inl rfl)) (pg_name (i := 2) S.nd rfl (.inl rfl)))) (pss_one (ps_set (i := 1) S.nd rfl (.inl rfl) (be_un ob_neg (be_var 1))))) (pss_one (ps_asg (be_call c_read_number (hr.mono (by decide)) tk (ba_cons (be_var 0) (ba_cons (pe_int) (ba_cons (pe_int) (ba_nil))))) (pg_two rfl (pg_name (i := 1) S.nd rfl (.inl rfl)) (pg_name (i := 2) S.nd rfl (.inl rfl)))))) (pss_cons (bs_if (bt_cmp (ob_ne hq) (be_slice (be_var 0) (bo_some (be_var 2)) (bo_some (be_bin ob_add (be_var 2) (pe_int)))) (pe_str)) (pss_one (bs_raise T.x_BadText (hr.mono (by decide)) rfl tk (be_var 2))) (pss_nil)) (pss_cons (ps_asg (be_call c_read_number (hr.mono (by decide)) tk (ba_cons (be_var 0) (ba_cons (be_bin ob_add (be_var 2) (pe_int)) (ba_cons (pe_int) (ba_nil))))) (pg_two rfl (pg_name (i := 3) S.nd rfl (.inl rfl)) (pg_name (i := 2) S.nd rfl (.inl rfl)))) (pss_cons (bs_if (bt_cmp ob_lt (be_var 2) (be_len T.b_len (be_var 0))) (pss_one (bs_raise T.x_BadText (hr.mono (by decide)) rfl tk (be_var 2))) (pss_nil)) (pss_one (ps_ret (be_call c_ratio (hr.mono (by decide)) tk (ba_cons (be_var 1) (ba_cons (be_var 3) (ba_nil))))))))))
theorem sc_read_number : FnScope ["text", "start", "least", "number", "end"] ["text", "start", "least"] (defScope (top 50)) := ⟨rfl, rfl, rfl, by decide +kernel, rfl, by decide +kernel, by decide +kernel⟩
theorem ok_read_number (T : Tx P w mg base A) (F : Fun A.K "read_number" "read_number" (top 50) f fd) (c_digit_at : Fn P w A.K mg base 1 "digit_at" ["text", "position"] (P_digit_at A)) : FnOk P w A.K mg base (L2N.CX P w) 3 f fd ["text", "start", "least"] (P_read_number A) := by
  have S := sc_read_number
  refine fn_ok F S (r_read_number A) fun cdv B outer s H E hr tk po => ?_
  have hq := hr.units
  exact pss_cons (ps_set (i := 3) S.nd rfl (.inl rfl) (be_call c_digit_at (hr.mono (by decide)) tk (ba_cons (be_var 0) (ba_cons (be_var 1) (ba_nil))))) (pss_cons (bs_if (bt_cmp ob_lt (be_var 3) (be_var 2)) (pss_one (bs_raise T.x_BadText (hr.mono (by decide)) rfl tk (be_var 1))) (pss_nil)) (pss_cons (ps_set (i := 4) S.nd rfl (.inl rfl) (be_bin ob_add (be_var 1) (pe_int))) (pss_cons (bs_while po (PW.pt (bt_and (bt_cmp ob_gt (be_var 3) (pe_int)) (bt_and (bt_cmp ob_lt (be_var 4) (be_bin ob_add (be_var 1) (pe_glob rfl T.g_MOST_DIGITS.choose_spec ⟨_, rfl⟩))) (bt_and1 (bt_cmp ob_ge (be_call c_digit_at (hr.mono (by decide)) tk (ba_cons (be_var 0) (ba_cons (be_var 4) (ba_nil)))) (pe_int)))))) (pss_cons (ps_set (i := 3) S.nd rfl (.inl rfl) (be_bin ob_add (be_bin ob_mul (pe_int) (be_var 3)) (be_call c_digit_at (hr.mono (by decide)) tk (ba_cons (be_var 0) (ba_cons (be_var 4) (ba_nil)))))) (pss_one (bs_aug (i := 4) S.nd rfl (.inl rfl) (pe_int) ip_add)))) (pss_one (ps_ret (be_tup (ba_cons (be_var 3) (ba_cons (be_var 4) (ba_nil)))))))))
theorem sc_l_mixed : FnScope ["cell", "nth", "low", "high"] ["cell", "nth"] (defScope (top 52)) := ⟨rfl, rfl, rfl, by decide +kernel, rfl, by decide +kernel, by decide +kernel⟩
theorem ok_l_mixed (T : Tx P w mg base A) (F : Fun A.K "_law_mixed" "_law_mixed" (top 52) f fd)  : FnOk P w A.K mg base (L2N.CX P w) 1 f fd ["cell", "nth"] (P_l_mixed A) := by
  have S := sc_l_mixed
  refine fn_ok F S (r_l_mixed A) fun cdv B outer s H E hr tk po => ?_
  have hq := hr.units
  exact pss_cons (ps_set (i := 2) S.nd rfl (.inl rfl) (be_bin ob_mod (be_int T.b_int (be_bin ob_add (be_bin ob_add (be_bin ob_mul (be_bin ob_mod (be_int T.b_int (be_var 0)) (pe_int)) (pe_int)) (be_bin ob_mul (be_var 1) (pe_int))) (pe_int))) (pe_int))) (pss_cons (ps_set (i := 3) S.nd rfl (.inl rfl) (be_bin ob_mod (be_int T.b_int (be_bin ob_add (be_bin ob_add (be_bin ob_mul (be_var 2) (be_var 2)) (be_bin ob_mul (be_var 1) (pe_int))) (pe_int))) (pe_int))) (pss_one (ps_ret (be_bin ob_mod (be_int T.b_int (be_bin ob_add (be_bin ob_add (be_bin ob_mul (be_bin ob_fdv (be_var 3) (pe_int)) (pe_int)) (be_bin ob_mul (be_bin ob_mod (be_int T.b_int (be_var 3)) (pe_int)) (pe_int))) (be_bin ob_mod (be_int T.b_int (be_var 2)) (pe_int)))) (pe_int)))))
theorem sc_l_wide : FnScope ["cell", "nth", "many", "told", "k"] ["cell", "nth", "many"] (defScope (top 53)) := ⟨rfl, rfl, rfl, by decide +kernel, rfl, by decide +kernel, by decide +kernel⟩
theorem ok_l_wide (T : Tx P w mg base A) (F : Fun A.K "_law_wide" "_law_wide" (top 53) f fd) (c_l_mixed : Fn P w A.K mg base 1 "_law_mixed" ["cell", "nth"] (P_l_mixed A)) : FnOk P w A.K mg base (L2N.CX P w) 2 f fd ["cell", "nth", "many"] (P_l_wide A) := by
  have S := sc_l_wide
  refine fn_ok F S (r_l_wide A) fun cdv B outer s H E hr tk po => ?_
  have hq := hr.units
  exact pss_cons (ps_set (i := 3) S.nd rfl (.inl rfl) (be_call c_l_mixed (hr.mono (by decide)) tk (ba_cons (be_var 0) (ba_cons (be_var 1) (ba_nil))))) (pss_cons (bs_forR T.b_range po rfl (be_bin ob_fdv (be_bits (be_var 2)) (pe_int)) (pg_name (i := 4) S.nd rfl (.inl rfl)) (pss_one (ps_set (i := 3) S.nd rfl (.inl rfl) (be_bin ob_add (be_bin ob_mul (be_var 3) (pe_int)) (be_call c_l_mixed (hr.mono (by decide)) tk (ba_cons (be_var 0) (ba_cons (be_bin ob_add (be_var 1) (be_bin ob_mul (pe_int) (be_bin ob_add (be_var 4) (pe_int)))) (ba_nil)))))))) (pss_one (ps_ret (be_bin ob_mod (be_int T.b_int (be_var 3)) (be_var 2)))))
theorem sc_l_store : FnScope ["script", "mixture", "cell"] ["script"] (defScope (top 54)) := ⟨rfl, rfl, rfl, by decide +kernel, rfl, by decide +kernel, by decide +kernel⟩
theorem ok_l_store (T : Tx P w mg base A) (F : Fun A.K "_law_store" "_law_store" (top 54) f fd)  : FnOk P w A.K mg base (L2N.CX P w) 1 f fd ["script"] (P_l_store A) := by
  have S := sc_l_store
  refine fn_ok F S (r_l_store A) fun cdv B outer s H E hr tk po => ?_
  have hq := hr.units
  exact pss_cons (ps_set (i := 1) S.nd rfl (.inl rfl) (pe_int)) (pss_cons (bs_forS po rfl (be_var 0) (pg_name (i := 2) S.nd rfl (.inl rfl)) (pss_one (ps_set (i := 1) S.nd rfl (.inl rfl) (be_bin ob_mod (be_int T.b_int (be_bin ob_add (be_bin ob_add (be_bin ob_mul (be_var 1) (pe_int)) (be_bin ob_mod (be_int T.b_int (be_var 2)) (pe_int))) (pe_int))) (pe_int))))) (pss_one (ps_ret (be_lst (ba_cons (be_listS T.b_list (be_var 0)) (ba_cons (pe_int) (ba_cons (pe_int) (ba_cons (be_var 1) (ba_cons (pe_int) (ba_nil))))))))))
theorem sc_l_take : FnScope ["store", "many", "cell", "told"] ["store", "many"] (defScope (top 55)) := ⟨rfl, rfl, rfl, by decide +kernel, rfl, by decide +kernel, by decide +kernel⟩
theorem ok_l_take (T : Tx P w mg base A) (F : Fun A.K "_law_take" "_law_take" (top 55) f fd) (c_l_wide : Fn P w A.K mg base 2 "_law_wide" ["cell", "nth", "many"] (P_l_wide A)) : FnOk P w A.K mg base (L2N.CX P w) 3 f fd ["store", "many"] (P_l_take A) := by
  have S := sc_l_take
  refine fn_ok F S (r_l_take A) fun cdv B outer s H E hr tk po => ?_
  have hq := hr.units
  exact pss_cons (bs_if (bt_cmp ob_lt (be_var 1) (pe_int)) (pss_one (ps_ret (pe_int))) (pss_nil)) (pss_cons (ps_asg (be_bin ob_add (be_ix (be_var 0) (pe_int)) (pe_int)) (pg_sub (be_var 0) (pe_int) ob_set)) (pss_cons (bs_if (PW.pt (bt_and (bt_cmp (ob_eq hq) (be_ix (be_var 0) (pe_int)) (pe_int)) (bt_and1 (bt_cmp ob_lt (be_ix (be_var 0) (pe_int)) (be_len T.b_len (be_ix (be_var 0) (pe_int))))))) (pss_cons (ps_set (i := 2) S.nd rfl (.inl rfl) (be_int T.b_int (be_ix (be_ix (be_var 0) (pe_int)) (be_ix (be_var 0) (pe_int))))) (pss_cons (ps_asg (be_bin ob_add (be_ix (be_var 0) (pe_int)) (pe_int)) (pg_sub (be_var 0) (pe_int) ob_set)) (pss_cons (bs_if (bt_cmp ob_lt (be_var 2) (be_bin ob_pow (pe_int) (pe_int))) (pss_one (ps_ret (be_call c_l_wide (hr.mono (by decide)) tk (ba_cons (be_var 2) (ba_cons (be_ix (be_var 0) (pe_int)) (ba_cons (be_var 1) (ba_nil))))))) (pss_nil)) (pss_one (ps_asg (be_var 2) (pg_sub (be_var 0) (pe_int) ob_set)))))) (pss_nil)) (pss_cons (bs_if (bt_cmp ob_gt (be_ix (be_var 0) (pe_int)) (pe_int)) (pss_cons (ps_set (i := 3) S.nd rfl (.inl rfl) (be_bin ob_mod (be_int T.b_int (be_ix (be_var 0) (pe_int))) (be_var 1))) (pss_cons (ps_asg (be_bin ob_fdv (be_int T.b_int (be_ix (be_var 0) (pe_int))) (be_var 1)) (pg_sub (be_var 0) (pe_int) ob_set)) (pss_one (ps_ret (be_var 3))))) (pss_nil)) (pss_one (ps_ret (be_call c_l_wide (hr.mono (by decide)) tk (ba_cons (be_ix (be_var 0) (pe_int)) (ba_cons (be_ix (be_var 0) (pe_int)) (ba_cons (be_var 1) (ba_nil))))))))))
theorem sc_l_near : FnScope ["store", "low", "high", "kind"] ["store", "low", "high"] (defScope (top 56)) := ⟨rfl, rfl, rfl, by decide +kernel, rfl, by decide +kernel, by decide +kernel⟩
theorem ok_l_near (T : Tx P w mg base A) (F : Fun A.K "_law_near" "_law_near" (top 56) f fd) (c_l_take : Fn P w A.K mg base 3 "_law_take" ["store", "many"] (P_l_take A)) : FnOk P w A.K mg base (L2N.CX P w) 4 f fd ["store", "low", "high"] (P_l_near A) := by
  have S := sc_l_near
  refine fn_ok F S (r_l_near A) fun cdv B outer s H E hr tk po => ?_
  have hq := hr.units
  exact pss_cons (ps_set (i := 3) S.nd rfl (.inl rfl) (be_call c_l_take (hr.mono (by decide)) tk (ba_cons (be_var 0) (ba_cons (pe_int) (ba_nil))))) (pss_cons (bs_if (bt_cmp ob_lt (be_var 3) (pe_int)) (pss_one (ps_ret (be_ix (be_lst (ba_cons (be_var 1) (ba_cons (be_var 2) (ba_cons (be_min T.b_min rfl (be_bin ob_add (be_var 1) (pe_int)) (be_var 2)) (ba_cons (be_max T.b_max rfl (be_bin ob_sub (be_var 2) (pe_int)) (be_var 1)) (ba_nil)))))) (be_var 3)))) (pss_nil)) (pss_one (ps_ret (be_bin ob_add (be_var 1) (be_call c_l_take (hr.mono (by decide)) tk (ba_cons (be_var 0) (ba_cons (be_bin ob_add (be_bin ob_sub (be_var 2) (be_var 1)) (pe_int)) (ba_nil))))))))
theorem sc_l_same : FnScope ["told", "due", "k"] ["told", "due"] (defScope (top 57)) := ⟨rfl, rfl, rfl, by decide +kernel, rfl, by decide +kernel, by decide +kernel⟩
theorem ok_l_same (n : Nat) (T : Tx P w mg base A) (F : Fun A.K "_law_same" "_law_same" (top 57) f fd) (c_l_same : Fn P w A.K mg base n "_law_same" ["told", "due"] (P_l_sameN A n)) : FnOk P w A.K mg base (L2N.CX P w) (n + 1) f fd ["told", "due"] (P_l_sameN A (n + 1)) := by
  have S := sc_l_same
  refine fn_ok F S (r_l_sameN A n) fun cdv B outer s H E hr tk po => ?_
  have hq := hr.units
  exact pss_cons (bs_if (bt_cmp ob_isN (be_var 1) (pe_non)) (pss_one (ps_ret (be_cmp ob_isN (be_var 0) (pe_non)))) (pss_nil)) (pss_cons (bs_if (bt_tru (be_isi .bl T.b_isinstance (be_var 1) (be_ty _ T.b_bool))) (pss_one (ps_ret (be_and (be_isi .bl T.b_isinstance (be_var 0) (be_ty _ T.b_bool)) (be_one (be_cmp (ob_eq hq) (be_var 0) (be_var 1)))))) (pss_nil)) (pss_cons (bs_if (bt_tru (be_isi .int T.b_isinstance (be_var 1) (be_ty _ T.b_int))) (pss_one (ps_ret (be_and (be_isi .int T.b_isinstance (be_var 0) (be_ty _ T.b_int)) (be_and (be_not (be_isi .bl T.b_isinstance (be_var 0) (be_ty _ T.b_bool))) (be_one (be_cmp (ob_eq hq) (be_var 0) (be_var 1))))))) (pss_nil)) (pss_cons (bs_if (bt_tru (be_isi .str T.b_isinstance (be_var 1) (be_ty _ T.b_str))) (pss_one (ps_ret (be_and (be_isi .str T.b_isinstance (be_var 0) (be_ty _ T.b_str)) (be_one (be_cmp (ob_eq hq) (be_var 0) (be_var 1)))))) (pss_nil)) (pss_cons (bs_if (PW.pt (bt_and (bt_tru (be_isi .lst T.b_isinstance (be_var 1) (be_ty _ T.b_list))) (bt_and1 (bt_not (bt_tru (be_isi .lst T.b_isinstance (be_var 0) (be_ty _ T.b_list))))))) (pss_one (ps_ret (pe_bl))) (pss_nil)) (pss_cons (bs_if (PW.pt (bt_and (bt_tru (be_isi .tup T.b_isinstance (be_var 1) (be_ty _ T.b_tuple))) (bt_and1 (bt_not (bt_tru (be_isi .tup T.b_isinstance (be_var 0) (be_ty _ T.b_tuple))))))) (pss_one (ps_ret (pe_bl))) (pss_nil)) (pss_cons (bs_if (bt_cmp (ob_ne hq) (be_lenD T.b_len (be_var 0)) (be_lenD T.b_len (be_var 1))) (pss_one (ps_ret (pe_bl))) (pss_nil)) (pss_cons (bs_forR T.b_range po rfl (be_lenD T.b_len (be_var 1)) (pg_name (i := 2) S.nd rfl (.inl rfl)) (pss_one (bs_if (bt_not (bt_tru (be_call c_l_same (hr.mono (Nat.le_refl _)) tk (ba_cons (be_ix (be_var 0) (be_var 2)) (ba_cons (be_ix (be_var 1) (be_var 2)) (ba_nil)))))) (pss_one (ps_ret (pe_bl))) (pss_nil)))) (pss_one (ps_ret (pe_bl))))))))))
theorem sc_l_copy : FnScope ["given", "item"] ["given"] (defScope (top 58)) := ⟨rfl, rfl, rfl, by decide +kernel, rfl, by decide +kernel, by decide +kernel⟩
theorem ok_l_copy (n : Nat) (T : Tx P w mg base A) (F : Fun A.K "_law_copy" "_law_copy" (top 58) f fd) (c_l_copy : Fn P w A.K mg base n "_law_copy" ["given"] (P_l_copyN A n)) : FnOk P w A.K mg base (L2N.CX P w) (n + 1) f fd ["given"] (P_l_copyN A (n + 1)) := by
  have S := sc_l_copy
  refine fn_ok F S (r_l_copyN A n) fun cdv B outer s H E hr tk po => ?_
  have hq := hr.units
  exact pss_cons (bs_if (bt_tru (be_isi .lst T.b_isinstance (be_var 0) (be_ty _ T.b_list))) (pss_one (ps_ret (be_cmpA rfl S.nd (blkOk_by (N := ["given", "item"]) (sc := defScope (top 58)) (by decide +kernel)) (be_var 0) (fun _ _ _ _ _ => pg_name (i := 1) S.nd rfl (Or.inl rfl)) (fun _ _ _ _ _ => be_call c_l_copy (hr.mono (Nat.le_refl _)) takesF (ba_cons (be_var 1) (ba_nil)))))) (pss_nil)) (pss_cons (bs_if (bt_tru (be_isi .tup T.b_isinstance (be_var 0) (be_ty _ T.b_tuple))) (pss_one (ps_ret (be_tuple T.b_tuple (be_cmpA rfl S.nd (blkOk_by (N := ["given", "item"]) (sc := defScope (top 58)) (by decide +kernel)) (be_var 0) (fun _ _ _ _ _ => pg_name (i := 1) S.nd rfl (Or.inl rfl)) (fun _ _ _ _ _ => be_call c_l_copy (hr.mono (Nat.le_refl _)) takesF (ba_cons (be_var 1) (ba_nil))))))) (pss_nil)) (pss_one (ps_ret (be_var 0))))
theorem sc_l_places : FnScope ["wide", "mask", "at"] ["wide", "mask"] (defScope (top 59)) := ⟨rfl, rfl, rfl, by decide +kernel, rfl, by decide +kernel, by decide +kernel⟩
theorem ok_l_places (T : Tx P w mg base A) (F : Fun A.K "_law_places" "_law_places" (top 59) f fd)  : FnOk P w A.K mg base (L2N.CX P w) 1 f fd ["wide", "mask"] (P_l_places A) := by
  have S := sc_l_places
  refine fn_ok F S (r_l_places A) fun cdv B outer s H E hr tk po => ?_
  have hq := hr.units
  exact pss_one (ps_ret (be_cmpRi T.b_range rfl S.nd (blkOk_by (N := ["wide", "mask", "at"]) (sc := defScope (top 59)) (by decide +kernel)) (be_var 0) (fun _ _ _ _ _ => pg_name (i := 2) S.nd rfl (Or.inl rfl)) (fun _ _ _ _ _ => bt_cmp (ob_eq hq) (be_bin ob_and (be_bin ob_shr (be_var 1) (be_var 2)) (pe_int)) (pe_int)) (fun _ _ _ _ _ => be_var 2)))
theorem sc_l_width : FnScope ["store", "least", "most", "wide"] ["store", "least", "most"] (defScope (top 60)) := ⟨rfl, rfl, rfl, by decide +kernel, rfl, by decide +kernel, by decide +kernel⟩
theorem ok_l_width (T : Tx P w mg base A) (F : Fun A.K "_law_width" "_law_width" (top 60) f fd) (c_l_take : Fn P w A.K mg base 3 "_law_take" ["store", "many"] (P_l_take A)) : FnOk P w A.K mg base (L2N.CX P w) 4 f fd ["store", "least", "most"] (P_l_width A) := by
  have S := sc_l_width
  refine fn_ok F S (r_l_width A) fun cdv B outer s H E hr tk po => ?_
  have hq := hr.units
  exact pss_cons (ps_set (i := 3) S.nd rfl (.inl rfl) (be_ix (be_lst (ba_cons (pe_int) (ba_cons (pe_int) (ba_cons (pe_int) (ba_cons (pe_int) (ba_cons (pe_int) (ba_cons (pe_int) (ba_cons (pe_int) (ba_cons (pe_int) (ba_cons (pe_int) (ba_cons (pe_int) (ba_cons (pe_int) (ba_cons (pe_int) (ba_cons (pe_int) (ba_cons (pe_int) (ba_cons (pe_int) (ba_cons (pe_int) (ba_nil)))))))))))))))))) (be_call c_l_take (hr.mono (by decide)) tk (ba_cons (be_var 0) (ba_cons (pe_int) (ba_nil)))))) (pss_one (ps_ret (be_max T.b_max rfl (be_var 1) (be_min T.b_min rfl (be_var 2) (be_var 3)))))
theorem sc_l_word : FnScope ["store", "wide", "full", "kind", "one"] ["store", "wide"] (defScope (top 61)) := ⟨rfl, rfl, rfl, by decide +kernel, rfl, by decide +kernel, by decide +kernel⟩
theorem ok_l_word (T : Tx P w mg base A) (F : Fun A.K "_law_word" "_law_word" (top 61) f fd) (c_l_take : Fn P w A.K mg base 3 "_law_take" ["store", "many"] (P_l_take A)) : FnOk P w A.K mg base (L2N.CX P w) 4 f fd ["store", "wide"] (P_l_word A) := by
  have S := sc_l_word
  refine fn_ok F S (r_l_word A) fun cdv B outer s H E hr tk po => ?_
  have hq := hr.units
  exact pss_cons (ps_set (i := 2) S.nd rfl (.inl rfl) (be_bin ob_sub (be_bin ob_shl (pe_int) (be_var 1)) (pe_int))) (pss_cons (ps_set (i := 3) S.nd rfl (.inl rfl) (be_call c_l_take (hr.mono (by decide)) tk (ba_cons (be_var 0) (ba_cons (pe_int) (ba_nil))))) (pss_cons (bs_if (bt_cmp ob_lt (be_var 3) (pe_int)) (pss_one (ps_ret (be_ix (be_lst (ba_cons (pe_int) (ba_cons (be_var 2) (ba_nil)))) (be_var 3)))) (pss_nil)) (pss_cons (bs_if (PW.pt (bt_and (bt_cmp ob_lt (be_var 3) (pe_int)) (bt_and1 (bt_cmp ob_gt (be_var 1) (pe_int))))) (pss_cons (ps_set (i := 4) S.nd rfl (.inl rfl) (be_bin ob_shl (pe_int) (be_call c_l_take (hr.mono (by decide)) tk (ba_cons (be_var 0) (ba_cons (be_var 1) (ba_nil)))))) (pss_one (ps_ret (be_ix (be_lst (ba_cons (be_var 4) (ba_cons (be_bin ob_sub (be_var 2) (be_var 4)) (ba_nil)))) (be_bin ob_sub (be_var 3) (pe_int)))))) (pss_nil)) (pss_one (ps_ret (be_call c_l_take (hr.mono (by decide)) tk (ba_cons (be_var 0) (ba_cons (be_bin ob_add (be_var 2) (pe_int)) (ba_nil)))))))))
theorem sc_l_ten : FnScope ["digits", "told", "k"] ["digits"] (defScope (top 62)) := ⟨rfl, rfl, rfl, by decide +kernel, rfl, by decide +kernel, by decide +kernel⟩
theorem ok_l_ten (T : Tx P w mg base A) (F : Fun A.K "_law_ten" "_law_ten" (top 62) f fd)  : FnOk P w A.K mg base (L2N.CX P w) 1 f fd ["digits"] (P_l_ten A) := by
  have S := sc_l_ten
  refine fn_ok F S (r_l_ten A) fun cdv B outer s H E hr tk po => ?_
  have hq := hr.units
  exact pss_cons (ps_set (i := 1) S.nd rfl (.inl rfl) (pe_int)) (pss_cons (bs_forR T.b_range po rfl (be_var 0) (pg_name (i := 2) S.nd rfl (.inl rfl)) (pss_one (ps_set (i := 1) S.nd rfl (.inl rfl) (be_bin ob_mul (be_var 1) (pe_int))))) (pss_one (ps_ret (be_var 1))))
theorem sc_l_integer : FnScope ["store", "digits", "kind", "high"] ["store", "digits"] (defScope (top 63)) := ⟨rfl, rfl, rfl, by decide +kernel, rfl, by decide +kernel, by decide +kernel⟩
theorem ok_l_integer (T : Tx P w mg base A) (F : Fun A.K "_law_integer" "_law_integer" (top 63) f fd) (c_l_take : Fn P w A.K mg base 3 "_law_take" ["store", "many"] (P_l_take A)) (c_l_ten : Fn P w A.K mg base 1 "_law_ten" ["digits"] (P_l_ten A)) (c_l_near : Fn P w A.K mg base 4 "_law_near" ["store", "low", "high"] (P_l_near A)) : FnOk P w A.K mg base (L2N.CX P w) 5 f fd ["store", "digits"] (P_l_integer A) := by
  have S := sc_l_integer
  refine fn_ok F S (r_l_integer A) fun cdv B outer s H E hr tk po => ?_
  have hq := hr.units
  exact pss_cons (ps_set (i := 2) S.nd rfl (.inl rfl) (be_call c_l_take (hr.mono (by decide)) tk (ba_cons (be_var 0) (ba_cons (pe_int) (ba_nil))))) (pss_cons (bs_if (bt_cmp ob_lt (be_var 2) (pe_int)) (pss_one (ps_ret (be_ix (be_lst (ba_cons (pe_int) (ba_cons (pe_int) (ba_cons (be_un ob_neg (pe_int)) (ba_cons (pe_int) (ba_nil)))))) (be_var 2)))) (pss_nil)) (pss_cons (bs_if (bt_cmp ob_lt (be_var 2) (pe_int)) (pss_one (ps_ret (be_bin ob_sub (be_call c_l_take (hr.mono (by decide)) tk (ba_cons (be_var 0) (ba_cons (pe_int) (ba_nil)))) (pe_int)))) (pss_nil)) (pss_cons (ps_set (i := 3) S.nd rfl (.inl rfl) (be_bin ob_sub (be_call c_l_ten (hr.mono (by decide)) tk (ba_cons (be_min T.b_min rfl (be_var 1) (pe_int)) (ba_nil))) (pe_int))) (pss_cons (bs_if (bt_cmp (ob_eq hq) (be_var 2) (pe_int)) (pss_one (ps_set (i := 3) S.nd rfl (.inl rfl) (be_bin ob_sub (be_call c_l_ten (hr.mono (by decide)) tk (ba_cons (be_min T.b_min rfl (be_var 1) (pe_int)) (ba_nil))) (pe_int)))) (pss_nil)) (pss_cons (bs_if (bt_cmp (ob_eq hq) (be_var 2) (pe_int)) (pss_one (ps_set (i := 3) S.nd rfl (.inl rfl) (be_bin ob_sub (be_call c_l_ten (hr.mono (by decide)) tk (ba_cons (be_var 1) (ba_nil))) (pe_int)))) (pss_nil)) (pss_one (ps_ret (be_call c_l_near (hr.mono (by decide)) tk (ba_cons (be_var 0) (ba_cons (be_bin ob_sub (pe_int) (be_var 3)) (ba_cons (be_var 3) (ba_nil))))))))))))
theorem sc_l_lowest : FnScope ["top", "low", "one", "two", "k", "rest"] ["top", "low"] (defScope (top 64)) := ⟨rfl, rfl, rfl, by decide +kernel, rfl, by decide +kernel, by decide +kernel⟩
theorem ok_l_lowest (T : Tx P w mg base A) (F : Fun A.K "_law_lowest" "_law_lowest" (top 64) f fd)  : FnOk P w A.K mg base (L2N.CX P w) 1 f fd ["top", "low"] (P_l_lowest A) := by
  have S := sc_l_lowest
  refine fn_ok F S (r_l_lowest A) fun cdv B outer s H E hr tk po => ?_
  have hq := hr.units
  exact pss_cons (ps_set (i := 2) S.nd rfl (.inl rfl) (be_abs T.b_abs (be_var 0))) (pss_cons (ps_set (i := 3) S.nd rfl (.inl rfl) (be_abs T.b_abs (be_var 1))) (pss_cons (bs_forR T.b_range po rfl (be_bin ob_add (be_bin ob_mul (pe_int) (be_bits (be_var 3))) (pe_int)) (pg_name (i := 4) S.nd rfl (.inl rfl)) (pss_cons (bs_if (bt_cmp (ob_eq hq) (be_var 3) (pe_int)) (pss_one (ps_break)) (pss_nil)) (pss_cons (ps_set (i := 5) S.nd rfl (.inl rfl) (be_bin ob_mod (be_int T.b_int (be_var 2)) (be_var 3))) (pss_cons (ps_set (i := 2) S.nd rfl (.inl rfl) (be_var 3)) (pss_one (ps_set (i := 3) S.nd rfl (.inl rfl) (be_var 5))))))) (pss_cons (bs_if (bt_cmp ob_lt (be_var 1) (pe_int)) (pss_one (ps_ret (be_tup (ba_cons (be_bin ob_sub (pe_int) (be_bin ob_fdv (be_var 0) (be_var 2))) (ba_cons (be_bin ob_sub (pe_int) (be_bin ob_fdv (be_var 1) (be_var 2))) (ba_nil)))))) (pss_nil)) (pss_one (ps_ret (be_tup (ba_cons (be_bin ob_fdv (be_var 0) (be_var 2)) (ba_cons (be_bin ob_fdv (be_var 1) (be_var 2)) (ba_nil)))))))))
theorem sc_l_fraction : FnScope ["store", "digits", "top", "low", "many"] ["store", "digits"] (defScope (top 65)) := ⟨rfl, rfl, rfl, by decide +kernel, rfl, by decide +kernel, by decide +kernel⟩
theorem ok_l_fraction (T : Tx P w mg base A) (F : Fun A.K "_law_fraction" "_law_fraction" (top 65) f fd) (c_l_integer : Fn P w A.K mg base 5 "_law_integer" ["store", "digits"] (P_l_integer A)) (c_l_take : Fn P w A.K mg base 3 "_law_take" ["store", "many"] (P_l_take A)) : FnOk P w A.K mg base (L2N.CX P w) 6 f fd ["store", "digits"] (P_l_fraction A) := by
  have S := sc_l_fraction
  refine fn_ok F S (r_l_fraction A) fun cdv B outer s H E hr tk po => ?_
  have hq := hr.units
  exact pss_cons (ps_set (i := 2) S.nd rfl (.inl rfl) (be_call c_l_integer (hr.mono (by decide)) tk (ba_cons (be_var 0) (ba_cons (be_bin ob_sub (be_var 1) (pe_int)) (ba_nil))))) (pss_cons (ps_set (i := 3) S.nd rfl (.inl rfl) (be_abs T.b_abs (be_call c_l_integer (hr.mono (by decide)) tk (ba_cons (be_var 0) (ba_cons (be_bin ob_sub (be_var 1) (pe_int)) (ba_nil)))))) (pss_cons (ps_set (i := 3) S.nd rfl (.inl rfl) (be_bin ob_add (be_var 3) (be_int T.b_int (be_cmp (ob_eq hq) (be_var 3) (pe_int))))) (pss_cons (bs_if (bt_cmp (ob_eq hq) (be_call c_l_take (hr.mono (by decide)) tk (ba_cons (be_var 0) (ba_cons (pe_int) (ba_nil)))) (pe_int)) (pss_one (ps_set (i := 2) S.nd rfl (.inl rfl) (be_bin ob_mul (be_var 3) (be_bin ob_sub (be_call c_l_take (hr.mono (by decide)) tk (ba_cons (be_var 0) (ba_cons (pe_int) (ba_nil)))) (pe_int))))) (pss_nil)) (pss_cons (ps_set (i := 4) S.nd rfl (.inl rfl) (be_ix (be_lst (ba_cons (pe_int) (ba_cons (pe_int) (ba_cons (pe_int) (ba_cons (pe_int) (ba_nil)))))) (be_call c_l_take (hr.mono (by decide)) tk (ba_cons (be_var 0) (ba_cons (pe_int) (ba_nil)))))) (pss_one (ps_ret (be_tup (ba_cons (be_bin ob_mul (be_var 2) (be_var 4)) (ba_cons (be_bin ob_mul (be_var 3) (be_var 4)) (ba_nil))))))))))
theorem sc_l_word_text : FnScope ["wide", "here", "at"] ["wide", "here"] (defScope (top 66)) := ⟨rfl, rfl, rfl, by decide +kernel, rfl, by decide +kernel, by decide +kernel⟩
theorem ok_l_word_text (T : Tx P w mg base A) (F : Fun A.K "_law_word_text" "_law_word_text" (top 66) f fd)  : FnOk P w A.K mg base (L2N.CX P w) 1 f fd ["wide", "here"] (P_l_word_text A) := by
  have S := sc_l_word_text
  refine fn_ok F S (r_l_word_text A) fun cdv B outer s H E hr tk po => ?_
  have hq := hr.units
  exact pss_cons (bs_if (bt_cmp (ob_eq hq) (be_var 0) (pe_int)) (pss_one (ps_ret (pe_str))) (pss_nil)) (pss_one (ps_ret (be_join (pe_str) (be_cmpR T.b_range rfl S.nd (blkOk_by (N := ["wide", "here", "at"]) (sc := defScope (top 66)) (by decide +kernel)) (be_var 0) (fun _ _ _ _ _ => pg_name (i := 2) S.nd rfl (Or.inl rfl)) (fun _ _ _ _ _ => be_str T.b_str (be_bin ob_and (be_bin ob_shr (be_var 1) (be_var 2)) (pe_int)))))))
theorem sc_l_set_text : FnScope ["wide", "mask", "at"] ["wide", "mask"] (defScope (top 67)) := ⟨rfl, rfl, rfl, by decide +kernel, rfl, by decide +kernel, by decide +kernel⟩
theorem ok_l_set_text (T : Tx P w mg base A) (F : Fun A.K "_law_set_text" "_law_set_text" (top 67) f fd) (c_l_places : Fn P w A.K mg base 1 "_law_places" ["wide", "mask"] (P_l_places A)) : FnOk P w A.K mg base (L2N.CX P w) 2 f fd ["wide", "mask"] (P_l_set_text A) := by
  have S := sc_l_set_text
  refine fn_ok F S (r_l_set_text A) fun cdv B outer s H E hr tk po => ?_
  have hq := hr.units
  exact pss_cons (bs_if (bt_cmp (ob_eq hq) (be_var 1) (pe_int)) (pss_one (ps_ret (pe_str))) (pss_nil)) (pss_one (ps_ret (be_join (pe_str) (be_cmpA rfl S.nd (blkOk_by (N := ["wide", "mask", "at"]) (sc := defScope (top 67)) (by decide +kernel)) (be_call c_l_places (hr.mono (by decide)) tk (ba_cons (be_var 0) (ba_cons (be_var 1) (ba_nil)))) (fun _ _ _ _ _ => pg_name (i := 2) S.nd rfl (Or.inl rfl)) (fun _ _ _ _ _ => be_str T.b_str (be_var 2))))))
theorem sc_l_ratio_text : FnScope ["top", "low"] ["top", "low"] (defScope (top 68)) := ⟨rfl, rfl, rfl, by decide +kernel, rfl, by decide +kernel, by decide +kernel⟩
theorem ok_l_ratio_text (T : Tx P w mg base A) (F : Fun A.K "_law_ratio_text" "_law_ratio_text" (top 68) f fd)  : FnOk P w A.K mg base (L2N.CX P w) 1 f fd ["top", "low"] (P_l_ratio_text A) := by
  have S := sc_l_ratio_text
  refine fn_ok F S (r_l_ratio_text A) fun cdv B outer s H E hr tk po => ?_
  have hq := hr.units
  exact pss_one (ps_ret (be_bin ob_add (be_bin ob_add (be_strW T.b_str rfl T.nd (be_var 0)) (pe_str)) (be_strW T.b_str rfl T.nd (be_var 1))))
theorem sc_l_number_fault : FnScope ["given", "low", "high"] ["given", "low", "high"] (defScope (top 69)) := ⟨rfl, rfl, rfl, by decide +kernel, rfl, by decide +kernel, by decide +kernel⟩
theorem ok_l_number_fault (T : Tx P w mg base A) (F : Fun A.K "_law_number_fault" "_law_number_fault" (top 69) f fd)  : FnOk P w A.K mg base (L2N.CX P w) 1 f fd ["given", "low", "high"] (P_l_number_fault A) := by
  have S := sc_l_number_fault
  refine fn_ok F S (r_l_number_fault A) fun cdv B outer s H E hr tk po => ?_
  have hq := hr.units
  exact pss_cons (bs_if (PW.pt (bt_or (bt_not (bt_tru (be_isi .int T.b_isinstance (be_var 0) (be_ty _ T.b_int)))) (bt_or1 (bt_tru (be_isi .bl T.b_isinstance (be_var 0) (be_ty _ T.b_bool)))))) (pss_one (ps_ret (pe_str))) (pss_nil)) (pss_cons (bs_if (PW.pt (bt_or (PW.pt (bt_and (bt_cmp ob_notN (be_var 1) (pe_non)) (bt_and1 (bt_cmp ob_lt (be_var 0) (be_var 1))))) (bt_or1 (PW.pt (bt_and (bt_cmp ob_notN (be_var 2) (pe_non)) (bt_and1 (bt_cmp ob_gt (be_var 0) (be_var 2)))))))) (pss_one (ps_ret (pe_str))) (pss_nil)) (pss_one (ps_ret (pe_str))))
theorem sc_l_fraction_fault : FnScope ["given"] ["given"] (defScope (top 70)) := ⟨rfl, rfl, rfl, by decide +kernel, rfl, by decide +kernel, by decide +kernel⟩
theorem ok_l_fraction_fault (T : Tx P w mg base A) (F : Fun A.K "_law_fraction_fault" "_law_fraction_fault" (top 70) f fd) (c_l_number_fault : Fn P w A.K mg base 1 "_law_number_fault" ["given", "low", "high"] (P_l_number_fault A)) : FnOk P w A.K mg base (L2N.CX P w) 2 f fd ["given"] (P_l_fraction_fault A) := by
  have S := sc_l_fraction_fault
  refine fn_ok F S (r_l_fraction_fault A) fun cdv B outer s H E hr tk po => ?_
  have hq := hr.units
  exact pss_cons (bs_if (bt_not (bt_tru (be_isi .tup T.b_isinstance (be_var 0) (be_ty _ T.b_tuple)))) (pss_one (ps_ret (pe_str))) (pss_nil)) (pss_cons (bs_if (bt_cmp (ob_ne hq) (be_len T.b_len (be_var 0)) (pe_int)) (pss_one (ps_ret (pe_str))) (pss_nil)) (pss_cons (bs_if (bt_cmp (ob_ne hq) (be_call c_l_number_fault (hr.mono (by decide)) tk (ba_cons (be_ix (be_var 0) (pe_int)) (ba_cons (pe_non) (ba_cons (pe_non) (ba_nil))))) (pe_str)) (pss_one (ps_ret (pe_str))) (pss_nil)) (pss_one (ps_ret (be_call c_l_number_fault (hr.mono (by decide)) tk (ba_cons (be_ix (be_var 0) (pe_int)) (ba_cons (pe_int) (ba_cons (pe_non) (ba_nil)))))))))
theorem sc_l_first_fault : FnScope ["pair_row", "item"] ["pair_row"] (defScope (top 71)) := ⟨rfl, rfl, rfl, by decide +kernel, rfl, by decide +kernel, by decide +kernel⟩
theorem ok_l_first_fault (T : Tx P w mg base A) (F : Fun A.K "_law_first_fault" "_law_first_fault" (top 71) f fd)  : FnOk P w A.K mg base (L2N.CX P w) 1 f fd ["pair_row"] (P_l_first_fault A) := by
  have S := sc_l_first_fault
  refine fn_ok F S (r_l_first_fault A) fun cdv B outer s H E hr tk po => ?_
  have hq := hr.units
  exact pss_cons (bs_forA po rfl (be_var 0) (pg_name (i := 1) S.nd rfl (.inl rfl)) (pss_one (bs_if (bt_cmp (ob_ne hq) (be_ix (be_var 1) (pe_int)) (pe_str)) (pss_one (ps_ret (be_tup (ba_cons (be_ix (be_var 1) (pe_int)) (ba_cons (be_ix (be_var 1) (pe_int)) (ba_nil)))))) (pss_nil)))) (pss_one (ps_ret (pe_non)))
theorem sc_l_odd_number : FnScope ["store", "low", "high", "least", "most", "kind"] ["store", "low", "high"] (defScope (top 72)) := ⟨rfl, rfl, rfl, by decide +kernel, rfl, by decide +kernel, by decide +kernel⟩
theorem ok_l_odd_number (T : Tx P w mg base A) (F : Fun A.K "_law_odd_number" "_law_odd_number" (top 72) f fd) (c_l_take : Fn P w A.K mg base 3 "_law_take" ["store", "many"] (P_l_take A)) : FnOk P w A.K mg base (L2N.CX P w) 4 f fd ["store", "low", "high"] (P_l_odd_number A) := by
  have S := sc_l_odd_number
  refine fn_ok F S (r_l_odd_number A) fun cdv B outer s H E hr tk po => ?_
  have hq := hr.units
  exact pss_cons (ps_set (i := 3) S.nd rfl (.inl rfl) (pe_int)) (pss_cons (bs_if (bt_cmp ob_notN (be_var 1) (pe_non)) (pss_one (ps_set (i := 3) S.nd rfl (.inl rfl) (be_var 1))) (pss_nil)) (pss_cons (ps_set (i := 4) S.nd rfl (.inl rfl) (be_var 3)) (pss_cons (bs_if (bt_cmp ob_notN (be_var 2) (pe_non)) (pss_one (ps_set (i := 4) S.nd rfl (.inl rfl) (be_var 2))) (pss_nil)) (pss_cons (ps_set (i := 5) S.nd rfl (.inl rfl) (be_call c_l_take (hr.mono (by decide)) tk (ba_cons (be_var 0) (ba_cons (pe_int) (ba_nil))))) (pss_cons (bs_if (bt_cmp ob_lt (be_var 5) (pe_int)) (pss_one (ps_ret (be_ix (be_lst (ba_cons (pe_non) (ba_cons (pe_bl) (ba_cons (pe_bl) (ba_cons (pe_str) (ba_cons (pe_str) (ba_cons (be_lst (ba_cons (pe_int) (ba_nil))) (ba_cons (be_tup (ba_cons (pe_int) (ba_nil))) (ba_cons (be_dct0) (ba_nil)))))))))) (be_var 5)))) (pss_nil)) (pss_one (ps_ret (be_ix (be_lst (ba_cons (be_bin ob_sub (be_var 3) (pe_int)) (ba_cons (be_bin ob_add (be_var 4) (pe_int)) (ba_cons (be_bin ob_sub (be_var 3) (be_bin ob_pow (pe_int) (pe_int))) (ba_cons (be_bin ob_add (be_var 4) (be_bin ob_pow (pe_int) (pe_int))) (ba_cons (be_var 3) (ba_cons (be_var 4) (ba_nil)))))))) (be_bin ob_sub (be_var 5) (pe_int))))))))))
theorem sc_l_odd_fraction : FnScope ["store", "menu"] ["store"] (defScope (top 73)) := ⟨rfl, rfl, rfl, by decide +kernel, rfl, by decide +kernel, by decide +kernel⟩
theorem ok_l_odd_fraction (T : Tx P w mg base A) (F : Fun A.K "_law_odd_fraction" "_law_odd_fraction" (top 73) f fd) (c_l_take : Fn P w A.K mg base 3 "_law_take" ["store", "many"] (P_l_take A)) : FnOk P w A.K mg base (L2N.CX P w) 4 f fd ["store"] (P_l_odd_fraction A) := by
  have S := sc_l_odd_fraction
  refine fn_ok F S (r_l_odd_fraction A) fun cdv B outer s H E hr tk po => ?_
  have hq := hr.units
  exact pss_cons (ps_set (i := 1) S.nd rfl (.inl rfl) (be_lst (ba_cons (pe_non) (ba_cons (pe_int) (ba_cons (pe_str) (ba_cons (be_lst (ba_cons (pe_int) (ba_cons (pe_int) (ba_nil)))) (ba_cons (be_tup (ba_nil)) (ba_cons (be_tup (ba_cons (pe_int) (ba_nil))) (ba_cons (be_tup (ba_cons (pe_int) (ba_cons (pe_int) (ba_cons (pe_int) (ba_nil))))) (ba_cons (be_tup (ba_cons (pe_bl) (ba_cons (pe_int) (ba_nil)))) (ba_cons (be_tup (ba_cons (pe_int) (ba_cons (pe_bl) (ba_nil)))) (ba_cons (be_tup (ba_cons (pe_str) (ba_cons (pe_int) (ba_nil)))) (ba_cons (be_tup (ba_cons (pe_int) (ba_cons (pe_non) (ba_nil)))) (ba_cons (be_tup (ba_cons (pe_non) (ba_cons (pe_int) (ba_nil)))) (ba_nil))))))))))))))) (pss_cons (ps_set (i := 1) S.nd rfl (.inl rfl) (be_bin ob_add (be_var 1) (be_lst (ba_cons (be_tup (ba_cons (pe_int) (ba_cons (pe_int) (ba_nil)))) (ba_cons (be_tup (ba_cons (pe_int) (ba_cons (be_un ob_neg (pe_int)) (ba_nil)))) (ba_cons (be_tup (ba_cons (pe_int) (ba_cons (pe_int) (ba_nil)))) (ba_cons (be_tup (ba_cons (be_un ob_neg (pe_int)) (ba_cons (be_un ob_neg (pe_int)) (ba_nil)))) (ba_cons (be_tup (ba_cons (be_bin ob_pow (pe_int) (pe_int)) (ba_cons (pe_int) (ba_nil)))) (ba_cons (be_tup (ba_cons (pe_int) (ba_cons (pe_int) (ba_nil)))) (ba_cons (be_tup (ba_cons (be_un ob_neg (pe_int)) (ba_cons (pe_int) (ba_nil)))) (ba_nil))))))))))) (pss_cons (ps_set (i := 1) S.nd rfl (.inl rfl) (be_bin ob_add (be_var 1) (be_lst (ba_cons (be_tup (ba_cons (pe_str) (ba_nil))) (ba_cons (be_tup (ba_cons (pe_non) (ba_cons (pe_int) (ba_cons (pe_int) (ba_nil))))) (ba_cons (be_tup (ba_cons (pe_int) (ba_cons (pe_bl) (ba_cons (pe_int) (ba_nil))))) (ba_cons (be_tup (ba_cons (pe_int) (ba_cons (pe_int) (ba_cons (pe_int) (ba_nil))))) (ba_cons (be_tup (ba_cons (pe_non) (ba_nil))) (ba_cons (be_tup (ba_cons (pe_int) (ba_cons (pe_int) (ba_cons (pe_str) (ba_nil))))) (ba_cons (be_dct0) (ba_nil))))))))))) (pss_one (ps_ret (be_ix (be_var 1) (be_call c_l_take (hr.mono (by decide)) tk (ba_cons (be_var 0) (ba_cons (be_len T.b_len (be_var 1)) (ba_nil)))))))))
theorem sc_l_kinds : FnScope ["caught", "found"] ["caught"] (defScope (top 74)) := ⟨rfl, rfl, rfl, by decide +kernel, rfl, by decide +kernel, by decide +kernel⟩
theorem ok_l_kinds (T : Tx P w mg base A) (F : Fun A.K "_law_kinds" "_law_kinds" (top 74) f fd)  : FnXOk P w A.K mg base 2 f fd ["caught"] (P_l_kinds A) := by
  have S := sc_l_kinds
  refine fnx_ok F S (r_l_kinds A) fun cdv B outer s H E p cls d hr hx => ?_
  have hq : (B.deeper (envOfC "_law_kinds" (defScope (top 74)) s.heap.objs.size f cdv)).units + 64 < cLine := by have := hr.un; omega
  exact pss_cons (ps_set (i := 1) S.nd rfl (.inl rfl) (be_lst (ba_nil))) (pss_cons (bs_if (bt_tru (be_isX (d := d) (v := (.ref A.WrongKind)) hx T.b_isinstance (be_var 0) (pe_glob rfl T.x_WrongKind.at_ rfl) (fun _ z => z))) (pss_one (ps_expr (be_app (be_var 1) (pe_str)))) (pss_nil)) (pss_cons (bs_if (bt_tru (be_isX (d := d) (v := (.ref A.WrongSize)) hx T.b_isinstance (be_var 0) (pe_glob rfl T.x_WrongSize.at_ rfl) (fun _ z => z))) (pss_one (ps_expr (be_app (be_var 1) (pe_str)))) (pss_nil)) (pss_cons (bs_if (bt_tru (be_isX (d := d) (v := (.ref A.OutOfRange)) hx T.b_isinstance (be_var 0) (pe_glob rfl T.x_OutOfRange.at_ rfl) (fun _ z => z))) (pss_one (ps_expr (be_app (be_var 1) (pe_str)))) (pss_nil)) (pss_cons (bs_if (bt_tru (be_isX (d := d) (v := (.ref A.BadText)) hx T.b_isinstance (be_var 0) (pe_glob rfl T.x_BadText.at_ rfl) (fun _ z => z))) (pss_one (ps_expr (be_app (be_var 1) (pe_str)))) (pss_nil)) (pss_cons (bs_if (bt_tru (be_isX (d := d) (v := (.ref A.NotATable)) hx T.b_isinstance (be_var 0) (pe_glob rfl T.x_NotATable.at_ rfl) (fun _ z => z))) (pss_one (ps_expr (be_app (be_var 1) (pe_str)))) (pss_nil)) (pss_cons (bs_if (bt_tru (be_isX (d := d) (v := (.ref A.Spent)) hx T.b_isinstance (be_var 0) (pe_glob rfl T.x_Spent.at_ rfl) (fun _ z => z))) (pss_one (ps_expr (be_app (be_var 1) (pe_str)))) (pss_nil)) (pss_cons (bs_if (bt_tru (be_isX (d := d) (v := (.ref A.TooFewPlaces)) hx T.b_isinstance (be_var 0) (pe_glob rfl T.x_TooFewPlaces.at_ rfl) (fun _ z => z))) (pss_one (ps_expr (be_app (be_var 1) (pe_str)))) (pss_nil)) (pss_cons (bs_if (bt_tru (be_isX (d := d) (v := (.ref A.WrongPaper)) hx T.b_isinstance (be_var 0) (pe_glob rfl T.x_WrongPaper.at_ rfl) (fun _ z => z))) (pss_one (ps_expr (be_app (be_var 1) (pe_str)))) (pss_nil)) (pss_cons (bs_if (bt_tru (be_isX (d := d) (v := (.ref A.UnknownName)) hx T.b_isinstance (be_var 0) (pe_glob rfl T.x_UnknownName.at_ rfl) (fun _ z => z))) (pss_one (ps_expr (be_app (be_var 1) (pe_str)))) (pss_nil)) (pss_cons (bs_if (bt_tru (be_isX (d := d) (v := (.ref A.NameTaken)) hx T.b_isinstance (be_var 0) (pe_glob rfl T.x_NameTaken.at_ rfl) (fun _ z => z))) (pss_one (ps_expr (be_app (be_var 1) (pe_str)))) (pss_nil)) (pss_cons (bs_if (bt_tru (be_isX (d := d) (v := (.ref A.NothingToUndo)) hx T.b_isinstance (be_var 0) (pe_glob rfl T.x_NothingToUndo.at_ rfl) (fun _ z => z))) (pss_one (ps_expr (be_app (be_var 1) (pe_str)))) (pss_nil)) (pss_cons (bs_if (bt_tru (be_isX (d := d) (v := (.ref A.BookFull)) hx T.b_isinstance (be_var 0) (pe_glob rfl T.x_BookFull.at_ rfl) (fun _ z => z))) (pss_one (ps_expr (be_app (be_var 1) (pe_str)))) (pss_nil)) (pss_one (ps_ret (be_var 1)))))))))))))))
theorem sc_l_refusal : FnScope ["caught", "found"] ["caught"] (defScope (top 75)) := ⟨rfl, rfl, rfl, by decide +kernel, rfl, by decide +kernel, by decide +kernel⟩
theorem ok_l_refusal (T : Tx P w mg base A) (F : Fun A.K "_law_refusal" "_law_refusal" (top 75) f fd) (c_l_kinds : FnX P w A.K mg base 2 "_law_kinds" ["caught"] (P_l_kinds A)) : FnXOk P w A.K mg base 4 f fd ["caught"] (P_l_refusal A) := by
  have S := sc_l_refusal
  refine fnx_ok F S (r_l_refusal A) fun cdv B outer s H E p cls d hr hx => ?_
  have hq : (B.deeper (envOfC "_law_refusal" (defScope (top 75)) s.heap.objs.size f cdv)).units + 64 < cLine := by have := hr.un; omega
  exact pss_cons (ps_set (i := 1) S.nd rfl (.inl rfl) (be_callX c_l_kinds (hr.mono (by decide)) hx takesF (ba_cons (be_var 0) (ba_nil)))) (pss_cons (bs_if (PW.pt (bt_or (bt_cmp (ob_ne hq) (be_len T.b_len (be_var 1)) (pe_int)) (bt_or1 (bt_not (bt_tru (be_isX (d := d) (v := (.ty "ValueError")) hx T.b_isinstance (be_var 0) (be_ty _ T.b_ValueError) (fun _ z => z))))))) (pss_one (ps_ret (be_tup (ba_cons (pe_str) (ba_cons (be_var 1) (ba_nil)))))) (pss_nil)) (pss_cons (bs_if (bt_cmp ob_in (be_ix (be_var 1) (pe_int)) (be_lst (ba_cons (pe_str) (ba_cons (pe_str) (ba_cons (pe_str) (ba_nil)))))) (pss_one (ps_ret (be_tup (ba_cons (be_ix (be_var 1) (pe_int)) (ba_cons (be_atX hx (be_var 0)) (ba_nil)))))) (pss_nil)) (pss_cons (bs_if (bt_cmp (ob_eq hq) (be_ix (be_var 1) (pe_int)) (pe_str)) (pss_one (ps_ret (be_tup (ba_cons (be_ix (be_var 1) (pe_int)) (ba_cons (be_atX hx (be_var 0)) (ba_nil)))))) (pss_nil)) (pss_cons (bs_if (bt_cmp (ob_eq hq) (be_ix (be_var 1) (pe_int)) (pe_str)) (pss_one (ps_ret (be_tup (ba_cons (be_ix (be_var 1) (pe_int)) (ba_cons (be_atX hx (be_var 0)) (ba_nil)))))) (pss_nil)) (pss_cons (bs_if (bt_cmp (ob_eq hq) (be_ix (be_var 1) (pe_int)) (pe_str)) (pss_one (ps_never)) (pss_nil)) (pss_cons (bs_if (bt_cmp (ob_eq hq) (be_ix (be_var 1) (pe_int)) (pe_str)) (pss_one (ps_ret (be_tup (ba_cons (be_ix (be_var 1) (pe_int)) (ba_cons (be_atX hx (be_var 0)) (ba_nil)))))) (pss_nil)) (pss_cons (bs_if (bt_cmp (ob_eq hq) (be_ix (be_var 1) (pe_int)) (pe_str)) (pss_one (ps_ret (be_tup (ba_cons (be_ix (be_var 1) (pe_int)) (ba_cons (be_atX hx (be_var 0)) (ba_nil)))))) (pss_nil)) (pss_cons (bs_if (bt_cmp (ob_eq hq) (be_ix (be_var 1) (pe_int)) (pe_str)) (pss_one (ps_ret (be_tup (ba_cons (be_ix (be_var 1) (pe_int)) (ba_cons (be_atX hx (be_var 0)) (ba_nil)))))) (pss_nil)) (pss_one (ps_ret (be_tup (ba_cons (be_ix (be_var 1) (pe_int)) (ba_cons (pe_non) (ba_nil))))))))))))))
theorem sc_l_told : FnScope ["which", "given", "caught"] ["which", "given"] (defScope (top 76)) := ⟨rfl, rfl, rfl, by decide +kernel, rfl, by decide +kernel, by decide +kernel⟩
theorem ok_l_told (T : Tx P w mg base A) (F : Fun A.K "_law_told" "_law_told" (top 76) f fd) (c_l_ask : Fn P w A.K mg base 9 "_law_ask" ["which", "given"] (P_l_ask A)) (c_l_refusal : FnX P w A.K mg base 4 "_law_refusal" ["caught"] (P_l_refusal A)) : FnOk P w A.K mg base (L2N.CX P w) 11 f fd ["which", "given"] (P_l_told A) := by
  have S := sc_l_told
  refine fn_ok F S (r_l_told A) fun cdv B outer s H E hr tk po => ?_
  have hq := hr.units
  exact pss_one (bs_try (i := 2) rfl rfl S.nd rfl rfl ⟨rfl, by decide, .inl T.se⟩ tk (fun W' pn xe tk' po' => pss_one (ps_ret (be_tup (ba_cons (pe_str) (ba_cons (be_call c_l_ask (hr.mono (by decide)) tk' (ba_cons (be_var 0) (ba_cons (be_var 1) (ba_nil)))) (ba_nil)))))) (fun a oe cls d pn hx => pss_one (ps_ret (be_tup (ba_cons (pe_str) (ba_cons (be_callX c_l_refusal (L2H.roomH_mark (hr.mono (by decide)) _) hx takesF (ba_cons (be_var 2) (ba_nil))) (ba_nil)))))))
theorem sc_l_ask : FnScope ["which", "given"] ["which", "given"] (defScope (top 77)) := ⟨rfl, rfl, rfl, by decide +kernel, rfl, by decide +kernel, by decide +kernel⟩
theorem ok_l_ask (T : Tx P w mg base A) (F : Fun A.K "_law_ask" "_law_ask" (top 77) f fd) (c_format_word : Fn P w A.K mg base 7 "format_word" ["width", "word"] (P_format_word A)) (c_format_set : Fn P w A.K mg base 7 "format_set" ["width", "chosen"] (P_format_set A)) (c_format_ratio : Fn P w A.K mg base 5 "format_ratio" ["fraction"] (P_format_ratio A)) (c_parse_word : Fn P w A.K mg base 8 "parse_word" ["text"] (P_parse_word A)) (c_parse_set : Fn P w A.K mg base 8 "parse_set" ["width", "text"] (P_parse_set A)) (c_parse_ratio : Fn P w A.K mg base 5 "parse_ratio" ["text"] (P_parse_ratio A)) (ck_format_word_word_width : FnK P w A.K mg base 7 "format_word" ["width", "word"] ["word", "width"] [1, 0] (P_format_word A)) (ck_format_set_width_chosen : FnK P w A.K mg base 7 "format_set" ["width", "chosen"] ["width", "chosen"] [0, 1] (P_format_set A)) (ck_format_ratio_fraction : FnK P w A.K mg base 5 "format_ratio" ["fraction"] ["fraction"] [0] (P_format_ratio A)) (ck_parse_word_text : FnK P w A.K mg base 8 "parse_word" ["text"] ["text"] [0] (P_parse_word A)) (ck_parse_set_text_width : FnK P w A.K mg base 8 "parse_set" ["width", "text"] ["text", "width"] [1, 0] (P_parse_set A)) (ck_parse_ratio_text : FnK P w A.K mg base 5 "parse_ratio" ["text"] ["text"] [0] (P_parse_ratio A)) : FnOk P w A.K mg base (L2N.CX P w) 9 f fd ["which", "given"] (P_l_ask A) := by
  have S := sc_l_ask
  refine fn_ok F S (r_l_ask A) fun cdv B outer s H E hr tk po => ?_
  have hq := hr.units
  exact pss_cons (bs_if (bt_cmp (ob_eq hq) (be_var 0) (pe_int)) (pss_one (ps_ret (be_call c_format_word (hr.mono (by decide)) tk (ba_cons (be_ix (be_var 1) (pe_int)) (ba_cons (be_ix (be_var 1) (pe_int)) (ba_nil)))))) (pss_nil)) (pss_cons (bs_if (bt_cmp (ob_eq hq) (be_var 0) (pe_int)) (pss_one (ps_ret (be_call c_format_set (hr.mono (by decide)) tk (ba_cons (be_ix (be_var 1) (pe_int)) (ba_cons (be_ix (be_var 1) (pe_int)) (ba_nil)))))) (pss_nil)) (pss_cons (bs_if (bt_cmp (ob_eq hq) (be_var 0) (pe_int)) (pss_one (ps_ret (be_call c_format_ratio (hr.mono (by decide)) tk (ba_cons (be_ix (be_var 1) (pe_int)) (ba_nil))))) (pss_nil)) (pss_cons (bs_if (bt_cmp (ob_eq hq) (be_var 0) (pe_int)) (pss_one (ps_ret (be_call c_parse_word (hr.mono (by decide)) tk (ba_cons (be_ix (be_var 1) (pe_int)) (ba_nil))))) (pss_nil)) (pss_cons (bs_if (bt_cmp (ob_eq hq) (be_var 0) (pe_int)) (pss_one (ps_ret (be_call c_parse_set (hr.mono (by decide)) tk (ba_cons (be_ix (be_var 1) (pe_int)) (ba_cons (be_ix (be_var 1) (pe_int)) (ba_nil)))))) (pss_nil)) (pss_cons (bs_if (bt_cmp (ob_eq hq) (be_var 0) (pe_int)) (pss_one (ps_ret (be_call c_parse_ratio (hr.mono (by decide)) tk (ba_cons (be_ix (be_var 1) (pe_int)) (ba_nil))))) (pss_nil)) (pss_cons (bs_if (bt_cmp (ob_eq hq) (be_var 0) (pe_int)) (pss_one (ps_ret (be_callK ck_format_word_word_width (hr.mono (by decide)) tk (bk_cons (be_ix (be_var 1) (pe_int)) (bk_cons (be_ix (be_var 1) (pe_int)) (bk_nil)))))) (pss_nil)) (pss_cons (bs_if (bt_cmp (ob_eq hq) (be_var 0) (pe_int)) (pss_one (ps_ret (be_callK ck_format_set_width_chosen (hr.mono (by decide)) tk (bk_cons (be_ix (be_var 1) (pe_int)) (bk_cons (be_ix (be_var 1) (pe_int)) (bk_nil)))))) (pss_nil)) (pss_cons (bs_if (bt_cmp (ob_eq hq) (be_var 0) (pe_int)) (pss_one (ps_ret (be_callK ck_format_ratio_fraction (hr.mono (by decide)) tk (bk_cons (be_ix (be_var 1) (pe_int)) (bk_nil))))) (pss_nil)) (pss_cons (bs_if (bt_cmp (ob_eq hq) (be_var 0) (pe_int)) (pss_one (ps_ret (be_callK ck_parse_word_text (hr.mono (by decide)) tk (bk_cons (be_ix (be_var 1) (pe_int)) (bk_nil))))) (pss_nil)) (pss_cons (bs_if (bt_cmp (ob_eq hq) (be_var 0) (pe_int)) (pss_one (ps_ret (be_callK ck_parse_set_text_width (hr.mono (by decide)) tk (bk_cons (be_ix (be_var 1) (pe_int)) (bk_cons (be_ix (be_var 1) (pe_int)) (bk_nil)))))) (pss_nil)) (pss_one (ps_ret (be_callK ck_parse_ratio_text (hr.mono (by decide)) tk (bk_cons (be_ix (be_var 1) (pe_int)) (bk_nil)))))))))))))))
theorem sc_l_fault : FnScope ["which", "given", "found"] ["which", "given"] (defScope (top 78)) := ⟨rfl, rfl, rfl, by decide +kernel, rfl, by decide +kernel, by decide +kernel⟩
theorem ok_l_fault (T : Tx P w mg base A) (F : Fun A.K "_law_fault" "_law_fault" (top 78) f fd) (c_l_first_fault : Fn P w A.K mg base 1 "_law_first_fault" ["pair_row"] (P_l_first_fault A)) (c_l_fraction_fault : Fn P w A.K mg base 2 "_law_fraction_fault" ["given"] (P_l_fraction_fault A)) (c_l_number_fault : Fn P w A.K mg base 1 "_law_number_fault" ["given", "low", "high"] (P_l_number_fault A)) : FnOk P w A.K mg base (L2N.CX P w) 3 f fd ["which", "given"] (P_l_fault A) := by
  have S := sc_l_fault
  refine fn_ok F S (r_l_fault A) fun cdv B outer s H E hr tk po => ?_
  have hq := hr.units
  exact pss_cons (bs_if (bt_cmp (ob_eq hq) (be_var 0) (pe_int)) (pss_one (ps_ret (be_call c_l_first_fault (hr.mono (by decide)) tk (ba_cons (be_lst (ba_cons (be_tup (ba_cons (pe_str) (ba_cons (be_call c_l_fraction_fault (hr.mono (by decide)) tk (ba_cons (be_ix (be_var 1) (pe_int)) (ba_nil))) (ba_nil)))) (ba_nil))) (ba_nil))))) (pss_nil)) (pss_cons (ps_set (i := 2) S.nd rfl (.inl rfl) (be_call c_l_number_fault (hr.mono (by decide)) tk (ba_cons (be_ix (be_var 1) (pe_int)) (ba_cons (pe_int) (ba_cons (pe_int) (ba_nil)))))) (pss_cons (bs_if (bt_cmp (ob_ne hq) (be_var 2) (pe_str)) (pss_one (ps_ret (be_tup (ba_cons (be_var 2) (ba_cons (pe_str) (ba_nil)))))) (pss_nil)) (pss_one (ps_ret (be_call c_l_first_fault (hr.mono (by decide)) tk (ba_cons (be_lst (ba_cons (be_tup (ba_cons (be_ix (be_lst (ba_cons (pe_str) (ba_cons (pe_str) (ba_nil)))) (be_var 0)) (ba_cons (be_call c_l_number_fault (hr.mono (by decide)) tk (ba_cons (be_ix (be_var 1) (pe_int)) (ba_cons (pe_int) (ba_cons (be_bin ob_sub (be_bin ob_shl (pe_int) (be_ix (be_var 1) (pe_int))) (pe_int)) (ba_nil))))) (ba_nil)))) (ba_nil))) (ba_nil)))))))
theorem sc_l_answer : FnScope ["which", "given", "pair"] ["which", "given"] (defScope (top 79)) := ⟨rfl, rfl, rfl, by decide +kernel, rfl, by decide +kernel, by decide +kernel⟩
theorem ok_l_answer (T : Tx P w mg base A) (F : Fun A.K "_law_answer" "_law_answer" (top 79) f fd) (c_l_word_text : Fn P w A.K mg base 1 "_law_word_text" ["wide", "here"] (P_l_word_text A)) (c_l_set_text : Fn P w A.K mg base 2 "_law_set_text" ["wide", "mask"] (P_l_set_text A)) (c_l_lowest : Fn P w A.K mg base 1 "_law_lowest" ["top", "low"] (P_l_lowest A)) (c_l_ratio_text : Fn P w A.K mg base 1 "_law_ratio_text" ["top", "low"] (P_l_ratio_text A)) : FnOk P w A.K mg base (L2N.CX P w) 3 f fd ["which", "given"] (P_l_answer A) := by
  have S := sc_l_answer
  refine fn_ok F S (r_l_answer A) fun cdv B outer s H E hr tk po => ?_
  have hq := hr.units
  exact pss_cons (bs_if (bt_cmp (ob_eq hq) (be_var 0) (pe_int)) (pss_one (ps_ret (be_call c_l_word_text (hr.mono (by decide)) tk (ba_cons (be_ix (be_var 1) (pe_int)) (ba_cons (be_ix (be_var 1) (pe_int)) (ba_nil)))))) (pss_nil)) (pss_cons (bs_if (bt_cmp (ob_eq hq) (be_var 0) (pe_int)) (pss_one (ps_ret (be_call c_l_set_text (hr.mono (by decide)) tk (ba_cons (be_ix (be_var 1) (pe_int)) (ba_cons (be_ix (be_var 1) (pe_int)) (ba_nil)))))) (pss_nil)) (pss_cons (ps_set (i := 2) S.nd rfl (.inl rfl) (be_call c_l_lowest (hr.mono (by decide)) tk (ba_cons (be_ix (be_ix (be_var 1) (pe_int)) (pe_int)) (ba_cons (be_ix (be_ix (be_var 1) (pe_int)) (pe_int)) (ba_nil))))) (pss_one (ps_ret (be_call c_l_ratio_text (hr.mono (by decide)) tk (ba_cons (be_ix (be_var 2) (pe_int)) (ba_cons (be_ix (be_var 2) (pe_int)) (ba_nil))))))))
theorem sc_l_written : FnScope ["which", "given", "fault", "due", "way", "handed"] ["which", "given"] (defScope (top 80)) := ⟨rfl, rfl, rfl, by decide +kernel, rfl, by decide +kernel, by decide +kernel⟩
theorem ok_l_written (T : Tx P w mg base A) (F : Fun A.K "_law_written" "_law_written" (top 80) f fd) (c_l_fault : Fn P w A.K mg base 3 "_law_fault" ["which", "given"] (P_l_fault A)) (c_l_answer : Fn P w A.K mg base 3 "_law_answer" ["which", "given"] (P_l_answer A)) (c_l_copy : Fn P w A.K mg base 7 "_law_copy" ["given"] (P_l_copy A)) (c_l_same : Fn P w A.K mg base 6 "_law_same" ["told", "due"] (P_l_same A)) (c_l_told : Fn P w A.K mg base 11 "_law_told" ["which", "given"] (P_l_told A)) : FnOk P w A.K mg base (L2N.CX P w) 12 f fd ["which", "given"] (P_l_written A) := by
  have S := sc_l_written
  refine fn_ok F S (r_l_written A) fun cdv B outer s H E hr tk po => ?_
  have hq := hr.units
  exact pss_cons (ps_set (i := 2) S.nd rfl (.inl rfl) (be_call c_l_fault (hr.mono (by decide)) tk (ba_cons (be_var 0) (ba_cons (be_var 1) (ba_nil))))) (pss_cons (ps_set (i := 3) S.nd rfl (.inl rfl) (be_tup (ba_cons (pe_str) (ba_cons (be_var 2) (ba_nil))))) (pss_cons (bs_if (bt_cmp ob_isN (be_var 2) (pe_non)) (pss_one (ps_set (i := 3) S.nd rfl (.inl rfl) (be_tup (ba_cons (pe_str) (ba_cons (be_call c_l_answer (hr.mono (by decide)) tk (ba_cons (be_var 0) (ba_cons (be_var 1) (ba_nil)))) (ba_nil)))))) (pss_nil)) (pss_cons (bs_forA po rfl (be_lst (ba_cons (be_var 0) (ba_cons (be_bin ob_add (be_var 0) (pe_int)) (ba_nil)))) (pg_name (i := 4) S.nd rfl (.inl rfl)) (pss_cons (ps_set (i := 5) S.nd rfl (.inl rfl) (be_call c_l_copy (hr.mono (by decide)) tk (ba_cons (be_var 1) (ba_nil)))) (pss_one (bs_if (PW.pt (bt_or (bt_not (bt_tru (be_call c_l_same (hr.mono (by decide)) tk (ba_cons (be_call c_l_told (hr.mono (by decide)) tk (ba_cons (be_var 4) (ba_cons (be_var 5) (ba_nil)))) (ba_cons (be_var 3) (ba_nil)))))) (bt_or1 (bt_not (bt_tru (be_call c_l_same (hr.mono (by decide)) tk (ba_cons (be_var 5) (ba_cons (be_var 1) (ba_nil))))))))) (pss_one (ps_ret (pe_bl))) (pss_nil))))) (pss_one (ps_ret (pe_bl))))))
theorem sc_l_read : FnScope ["which", "given", "value", "way"] ["which", "given", "value"] (defScope (top 81)) := ⟨rfl, rfl, rfl, by decide +kernel, rfl, by decide +kernel, by decide +kernel⟩
theorem ok_l_read (T : Tx P w mg base A) (F : Fun A.K "_law_read" "_law_read" (top 81) f fd) (c_l_same : Fn P w A.K mg base 6 "_law_same" ["told", "due"] (P_l_same A)) (c_l_told : Fn P w A.K mg base 11 "_law_told" ["which", "given"] (P_l_told A)) (c_l_copy : Fn P w A.K mg base 7 "_law_copy" ["given"] (P_l_copy A)) : FnOk P w A.K mg base (L2N.CX P w) 12 f fd ["which", "given", "value"] (P_l_read A) := by
  have S := sc_l_read
  refine fn_ok F S (r_l_read A) fun cdv B outer s H E hr tk po => ?_
  have hq := hr.units
  exact pss_cons (bs_forA po rfl (be_lst (ba_cons (be_var 0) (ba_cons (be_bin ob_add (be_var 0) (pe_int)) (ba_nil)))) (pg_name (i := 3) S.nd rfl (.inl rfl)) (pss_one (bs_if (bt_not (bt_tru (be_call c_l_same (hr.mono (by decide)) tk (ba_cons (be_call c_l_told (hr.mono (by decide)) tk (ba_cons (be_var 3) (ba_cons (be_call c_l_copy (hr.mono (by decide)) tk (ba_cons (be_var 1) (ba_nil))) (ba_nil)))) (ba_cons (be_tup (ba_cons (pe_str) (ba_cons (be_var 2) (ba_nil)))) (ba_nil)))))) (pss_one (ps_ret (pe_bl))) (pss_nil)))) (pss_one (ps_ret (pe_bl)))
theorem sc_l_small_ratio : FnScope ["store", "kind", "high", "low"] ["store"] (defScope (top 82)) := ⟨rfl, rfl, rfl, by decide +kernel, rfl, by decide +kernel, by decide +kernel⟩
theorem ok_l_small_ratio (T : Tx P w mg base A) (F : Fun A.K "_law_small_ratio" "_law_small_ratio" (top 82) f fd) (c_l_take : Fn P w A.K mg base 3 "_law_take" ["store", "many"] (P_l_take A)) (c_l_near : Fn P w A.K mg base 4 "_law_near" ["store", "low", "high"] (P_l_near A)) : FnOk P w A.K mg base (L2N.CX P w) 5 f fd ["store"] (P_l_small_ratio A) := by
  have S := sc_l_small_ratio
  refine fn_ok F S (r_l_small_ratio A) fun cdv B outer s H E hr tk po => ?_
  have hq := hr.units
  exact pss_cons (ps_set (i := 1) S.nd rfl (.inl rfl) (be_call c_l_take (hr.mono (by decide)) tk (ba_cons (be_var 0) (ba_cons (pe_int) (ba_nil))))) (pss_cons (ps_set (i := 2) S.nd rfl (.inl rfl) (be_ix (be_lst (ba_cons (pe_int) (ba_cons (pe_int) (ba_cons (pe_int) (ba_cons (pe_int) (ba_nil)))))) (be_var 1))) (pss_cons (ps_set (i := 3) S.nd rfl (.inl rfl) (be_call c_l_near (hr.mono (by decide)) tk (ba_cons (be_var 0) (ba_cons (pe_int) (ba_cons (be_var 2) (ba_nil)))))) (pss_cons (bs_if (bt_cmp (ob_eq hq) (be_var 1) (pe_int)) (pss_one (ps_ret (be_tup (ba_cons (be_bin ob_sub (be_call c_l_take (hr.mono (by decide)) tk (ba_cons (be_var 0) (ba_cons (pe_int) (ba_nil)))) (pe_int)) (ba_cons (be_var 3) (ba_nil)))))) (pss_nil)) (pss_one (ps_ret (be_tup (ba_cons (be_call c_l_near (hr.mono (by decide)) tk (ba_cons (be_var 0) (ba_cons (be_bin ob_sub (pe_int) (be_var 2)) (ba_cons (be_var 2) (ba_nil))))) (ba_cons (be_var 3) (ba_nil)))))))))
theorem sc_l_beside : FnScope ["store", "item", "low", "high"] ["store", "item", "low", "high"] (defScope (top 83)) := ⟨rfl, rfl, rfl, by decide +kernel, rfl, by decide +kernel, by decide +kernel⟩
theorem ok_l_beside (T : Tx P w mg base A) (F : Fun A.K "_law_beside" "_law_beside" (top 83) f fd) (c_l_take : Fn P w A.K mg base 3 "_law_take" ["store", "many"] (P_l_take A)) (c_l_odd_number : Fn P w A.K mg base 4 "_law_odd_number" ["store", "low", "high"] (P_l_odd_number A)) : FnOk P w A.K mg base (L2N.CX P w) 5 f fd ["store", "item", "low", "high"] (P_l_beside A) := by
  have S := sc_l_beside
  refine fn_ok F S (r_l_beside A) fun cdv B outer s H E hr tk po => ?_
  have hq := hr.units
  exact pss_cons (bs_if (bt_cmp (ob_eq hq) (be_call c_l_take (hr.mono (by decide)) tk (ba_cons (be_var 0) (ba_cons (pe_int) (ba_nil)))) (pe_int)) (pss_one (ps_ret (be_var 1))) (pss_nil)) (pss_one (ps_ret (be_call c_l_odd_number (hr.mono (by decide)) tk (ba_cons (be_var 0) (ba_cons (be_var 2) (ba_cons (be_var 3) (ba_nil)))))))
theorem sc_l_back : FnScope ["wide", "here", "mask", "pair", "many", "said"] ["wide", "here", "mask", "pair", "many"] (defScope (top 84)) := ⟨rfl, rfl, rfl, by decide +kernel, rfl, by decide +kernel, by decide +kernel⟩
theorem ok_l_back (T : Tx P w mg base A) (F : Fun A.K "_law_back" "_law_back" (top 84) f fd) (c_l_read : Fn P w A.K mg base 12 "_law_read" ["which", "given", "value"] (P_l_read A)) (c_format_word : Fn P w A.K mg base 7 "format_word" ["width", "word"] (P_format_word A)) (c_format_set : Fn P w A.K mg base 7 "format_set" ["width", "chosen"] (P_format_set A)) (c_l_lowest : Fn P w A.K mg base 1 "_law_lowest" ["top", "low"] (P_l_lowest A)) (c_format_ratio : Fn P w A.K mg base 5 "format_ratio" ["fraction"] (P_format_ratio A)) (c_l_ratio_text : Fn P w A.K mg base 1 "_law_ratio_text" ["top", "low"] (P_l_ratio_text A)) : FnOk P w A.K mg base (L2N.CX P w) 13 f fd ["wide", "here", "mask", "pair", "many"] (P_l_back A) := by
  have S := sc_l_back
  refine fn_ok F S (r_l_back A) fun cdv B outer s H E hr tk po => ?_
  have hq := hr.units
  exact pss_cons (bs_if (bt_not (bt_tru (be_call c_l_read (hr.mono (by decide)) tk (ba_cons (pe_int) (ba_cons (be_lst (ba_cons (be_call c_format_word (hr.mono (by decide)) tk (ba_cons (be_var 0) (ba_cons (be_var 1) (ba_nil)))) (ba_nil))) (ba_cons (be_tup (ba_cons (be_var 0) (ba_cons (be_var 1) (ba_nil)))) (ba_nil))))))) (pss_one (ps_ret (pe_bl))) (pss_nil)) (pss_cons (bs_if (PW.pt (bt_or (bt_not (bt_tru (be_call c_l_read (hr.mono (by decide)) tk (ba_cons (pe_int) (ba_cons (be_lst (ba_cons (be_var 0) (ba_cons (be_call c_format_set (hr.mono (by decide)) tk (ba_cons (be_var 0) (ba_cons (be_var 2) (ba_nil)))) (ba_nil)))) (ba_cons (be_var 2) (ba_nil))))))) (bt_or1 (bt_not (bt_tru (be_call c_l_read (hr.mono (by decide)) tk (ba_cons (pe_int) (ba_cons (be_lst (ba_cons (pe_int) (ba_cons (be_call c_format_set (hr.mono (by decide)) tk (ba_cons (be_var 0) (ba_cons (be_var 2) (ba_nil)))) (ba_nil)))) (ba_cons (be_var 2) (ba_nil)))))))))) (pss_one (ps_ret (pe_bl))) (pss_nil)) (pss_cons (bs_if (bt_not (bt_tru (be_call c_l_read (hr.mono (by decide)) tk (ba_cons (pe_int) (ba_cons (be_lst (ba_cons (be_call c_format_ratio (hr.mono (by decide)) tk (ba_cons (be_var 3) (ba_nil))) (ba_nil))) (ba_cons (be_call c_l_lowest (hr.mono (by decide)) tk (ba_cons (be_ix (be_var 3) (pe_int)) (ba_cons (be_ix (be_var 3) (pe_int)) (ba_nil)))) (ba_nil))))))) (pss_one (ps_ret (pe_bl))) (pss_nil)) (pss_cons (ps_set (i := 5) S.nd rfl (.inl rfl) (be_call c_l_ratio_text (hr.mono (by decide)) tk (ba_cons (be_bin ob_mul (be_ix (be_var 3) (pe_int)) (be_var 4)) (ba_cons (be_bin ob_mul (be_ix (be_var 3) (pe_int)) (be_var 4)) (ba_nil))))) (pss_one (ps_ret (be_call c_l_read (hr.mono (by decide)) tk (ba_cons (pe_int) (ba_cons (be_lst (ba_cons (be_var 5) (ba_nil))) (ba_cons (be_call c_l_lowest (hr.mono (by decide)) tk (ba_cons (be_ix (be_var 3) (pe_int)) (ba_cons (be_ix (be_var 3) (pe_int)) (ba_nil)))) (ba_nil))))))))))
theorem sc_l_great : FnScope ["store", "many", "top", "low"] ["store"] (defScope (top 85)) := ⟨rfl, rfl, rfl, by decide +kernel, rfl, by decide +kernel, by decide +kernel⟩
theorem ok_l_great (T : Tx P w mg base A) (F : Fun A.K "_law_great" "_law_great" (top 85) f fd) (c_l_ten : Fn P w A.K mg base 1 "_law_ten" ["digits"] (P_l_ten A)) (c_l_take : Fn P w A.K mg base 3 "_law_take" ["store", "many"] (P_l_take A)) : FnOk P w A.K mg base (L2N.CX P w) 4 f fd ["store"] (P_l_great A) := by
  have S := sc_l_great
  refine fn_ok F S (r_l_great A) fun cdv B outer s H E hr tk po => ?_
  have hq := hr.units
  exact pss_cons (ps_set (i := 1) S.nd rfl (.inl rfl) (be_call c_l_ten (hr.mono (by decide)) tk (ba_cons (be_bin ob_add (pe_int) (be_call c_l_take (hr.mono (by decide)) tk (ba_cons (be_var 0) (ba_cons (pe_int) (ba_nil))))) (ba_nil)))) (pss_cons (ps_set (i := 2) S.nd rfl (.inl rfl) (be_bin ob_mul (be_bin ob_add (be_var 1) (be_call c_l_take (hr.mono (by decide)) tk (ba_cons (be_var 0) (ba_cons (be_var 1) (ba_nil))))) (be_ix (be_lst (ba_cons (pe_int) (ba_cons (be_un ob_neg (pe_int)) (ba_nil)))) (be_call c_l_take (hr.mono (by decide)) tk (ba_cons (be_var 0) (ba_cons (pe_int) (ba_nil))))))) (pss_cons (ps_set (i := 3) S.nd rfl (.inl rfl) (be_bin ob_add (pe_int) (be_call c_l_take (hr.mono (by decide)) tk (ba_cons (be_var 0) (ba_cons (pe_int) (ba_nil)))))) (pss_cons (bs_if (bt_cmp (ob_eq hq) (be_call c_l_take (hr.mono (by decide)) tk (ba_cons (be_var 0) (ba_cons (pe_int) (ba_nil)))) (pe_int)) (pss_one (ps_ret (be_tup (ba_cons (be_var 3) (ba_cons (be_abs T.b_abs (be_var 2)) (ba_nil)))))) (pss_nil)) (pss_one (ps_ret (be_tup (ba_cons (be_var 2) (ba_cons (be_var 3) (ba_nil)))))))))
theorem sc_law : FnScope ["script", "store", "k", "wide", "here", "mask", "pair", "many", "asked", "j", "bent", "item"] ["script"] (defScope (top 86)) := ⟨rfl, rfl, rfl, by decide +kernel, rfl, by decide +kernel, by decide +kernel⟩
theorem ok_law (T : Tx P w mg base A) (F : Fun A.K "law" "law" (top 86) f fd) (c_l_store : Fn P w A.K mg base 1 "_law_store" ["script"] (P_l_store A)) (c_l_width : Fn P w A.K mg base 4 "_law_width" ["store", "least", "most"] (P_l_width A)) (c_l_word : Fn P w A.K mg base 4 "_law_word" ["store", "wide"] (P_l_word A)) (c_l_small_ratio : Fn P w A.K mg base 5 "_law_small_ratio" ["store"] (P_l_small_ratio A)) (c_l_near : Fn P w A.K mg base 4 "_law_near" ["store", "low", "high"] (P_l_near A)) (c_l_fraction : Fn P w A.K mg base 6 "_law_fraction" ["store", "digits"] (P_l_fraction A)) (c_l_beside : Fn P w A.K mg base 5 "_law_beside" ["store", "item", "low", "high"] (P_l_beside A)) (c_l_take : Fn P w A.K mg base 3 "_law_take" ["store", "many"] (P_l_take A)) (c_l_odd_fraction : Fn P w A.K mg base 4 "_law_odd_fraction" ["store"] (P_l_odd_fraction A)) (c_l_great : Fn P w A.K mg base 4 "_law_great" ["store"] (P_l_great A)) (c_l_written : Fn P w A.K mg base 12 "_law_written" ["which", "given"] (P_l_written A)) (c_l_back : Fn P w A.K mg base 13 "_law_back" ["wide", "here", "mask", "pair", "many"] (P_l_back A)) : FnOk P w A.K mg base (L2N.CX P w) 14 f fd ["script"] (P_law A) := by
  have S := sc_law
  refine fn_ok F S (r_law A) fun cdv B outer s H E hr tk po => ?_
  have hq := hr.units
  exact pss_cons (ps_set (i := 1) S.nd rfl (.inl rfl) (be_call c_l_store (hr.mono (by decide)) tk (ba_cons (be_var 0) (ba_nil)))) (pss_cons (bs_forR T.b_range po rfl (pe_int) (pg_name (i := 2) S.nd rfl (.inl rfl)) (pss_cons (ps_set (i := 3) S.nd rfl (.inl rfl) (be_call c_l_width (hr.mono (by decide)) tk (ba_cons (be_var 1) (ba_cons (pe_int) (ba_cons (pe_int) (ba_nil)))))) (pss_cons (ps_set (i := 4) S.nd rfl (.inl rfl) (be_call c_l_word (hr.mono (by decide)) tk (ba_cons (be_var 1) (ba_cons (be_var 3) (ba_nil))))) (pss_cons (ps_set (i := 5) S.nd rfl (.inl rfl) (be_call c_l_word (hr.mono (by decide)) tk (ba_cons (be_var 1) (ba_cons (be_var 3) (ba_nil))))) (pss_cons (ps_set (i := 6) S.nd rfl (.inl rfl) (be_call c_l_small_ratio (hr.mono (by decide)) tk (ba_cons (be_var 1) (ba_nil)))) (pss_cons (ps_set (i := 7) S.nd rfl (.inl rfl) (be_call c_l_near (hr.mono (by decide)) tk (ba_cons (be_var 1) (ba_cons (pe_int) (ba_cons (be_max T.b_max rfl (pe_int) (be_bin ob_fdv (pe_int) (be_max T.b_max rfl (be_abs T.b_abs (be_ix (be_var 6) (pe_int))) (be_ix (be_var 6) (pe_int))))) (ba_nil)))))) (pss_cons (ps_set (i := 8) S.nd rfl (.inl rfl) (be_lst (ba_cons (be_tup (ba_cons (pe_int) (ba_cons (be_lst (ba_cons (be_var 3) (ba_cons (be_var 4) (ba_nil)))) (ba_nil)))) (ba_cons (be_tup (ba_cons (pe_int) (ba_cons (be_lst (ba_cons (be_var 3) (ba_cons (be_var 5) (ba_nil)))) (ba_nil)))) (ba_cons (be_tup (ba_cons (pe_int) (ba_cons (be_lst (ba_cons (be_call c_l_fraction (hr.mono (by decide)) tk (ba_cons (be_var 1) (ba_cons (pe_int) (ba_nil)))) (ba_nil))) (ba_nil)))) (ba_cons (be_tup (ba_cons (pe_int) (ba_cons (be_lst (ba_cons (be_var 6) (ba_nil))) (ba_nil)))) (ba_nil))))))) (pss_cons (bs_forR T.b_range po rfl (pe_int) (pg_name (i := 9) S.nd rfl (.inl rfl)) (pss_cons (ps_set (i := 10) S.nd rfl (.inl rfl) (be_lst (ba_cons (be_call c_l_beside (hr.mono (by decide)) tk (ba_cons (be_var 1) (ba_cons (be_var 3) (ba_cons (pe_int) (ba_cons (pe_int) (ba_nil)))))) (ba_cons (be_call c_l_beside (hr.mono (by decide)) tk (ba_cons (be_var 1) (ba_cons (be_var 5) (ba_cons (pe_int) (ba_cons (be_bin ob_sub (be_bin ob_shl (pe_int) (be_var 3)) (pe_int)) (ba_nil)))))) (ba_nil))))) (pss_one (ps_expr (be_app (be_var 8) (be_tup (ba_cons (be_call c_l_take (hr.mono (by decide)) tk (ba_cons (be_var 1) (ba_cons (pe_int) (ba_nil)))) (ba_cons (be_var 10) (ba_nil))))))))) (pss_cons (ps_expr (be_app (be_var 8) (be_tup (ba_cons (pe_int) (ba_cons (be_lst (ba_cons (be_call c_l_odd_fraction (hr.mono (by decide)) tk (ba_cons (be_var 1) (ba_nil))) (ba_nil))) (ba_nil)))))) (pss_cons (ps_expr (be_app (be_var 8) (be_tup (ba_cons (pe_int) (ba_cons (be_lst (ba_cons (be_call c_l_great (hr.mono (by decide)) tk (ba_cons (be_var 1) (ba_nil))) (ba_nil))) (ba_nil)))))) (pss_cons (bs_forA po rfl (be_bin ob_add (be_var 8) (be_lrev rfl T.b_list T.b_reversed (be_list T.b_list (be_var 8)))) (pg_name (i := 11) S.nd rfl (.inl rfl)) (pss_one (bs_if (bt_not (bt_tru (be_call c_l_written (hr.mono (by decide)) tk (ba_cons (be_ix (be_var 11) (pe_int)) (ba_cons (be_ix (be_var 11) (pe_int)) (ba_nil)))))) (pss_one (ps_ret (pe_bl))) (pss_nil)))) (pss_one (bs_if (PW.pt (bt_or (bt_not (bt_tru (be_call c_l_back (hr.mono (by decide)) tk (ba_cons (be_var 3) (ba_cons (be_var 4) (ba_cons (be_var 5) (ba_cons (be_var 6) (ba_cons (be_var 7) (ba_nil))))))))) (bt_or1 (bt_not (bt_tru (be_call c_l_back (hr.mono (by decide)) tk (ba_cons (be_var 3) (ba_cons (be_var 5) (ba_cons (be_var 4) (ba_cons (be_var 6) (ba_cons (pe_int) (ba_nil)))))))))))) (pss_one (ps_ret (pe_bl))) (pss_nil)))))))))))))) (pss_one (ps_ret (pe_bl))))
end
/-- a def of the module -/
def Dn (K : PySem.W.Frag) (x : Str) (st : Stmt) : Prop := ∃ (f : Addr) (fd : FuncData), PySem.W.nsIn K mainGlobals x = some (some (.ref f)) ∧ Fun K x x st f fd
theorem dn_mk {K : PySem.W.Frag} {x : Str} {st : Stmt} {f : Addr} {oc : Value} {od an : Option Addr} {osl : Array (Option Value)} {kV doc pm cdv ct : Value} (a : PySem.W.nsIn K mainGlobals x = some (some (.ref f))) (l : K.lookup f = some ⟨oc, od, .func (PySem.W.fnOf x x (defArgs st) (defBody st) (defScope st) .none kV doc pm an cdv ct), osl⟩)
    (c : PySem.W.codeIn K cdv x = true) (k : PySem.W.keepIn K (.ref f) = true) : Dn K x st := ⟨f, _, a, fun_mk l c k⟩
/-- what the written part says of a class that these defs raise -/
structure Xf (K : PySem.W.Frag) (q fl : Str) (st : Stmt) (C S : Addr) : Prop where
  cls : ∃ nm q N bs sn sub ab col dd k0 k1 k2 k3 k5, K.lookup C = some (excClassObj nm q C N bs [.ref S, .type "ValueError", .type "Exception", .type "BaseException", .type "object"] true sn sub ab col dd k0 k1 k2 k3 k5 "ValueError.__new__")
  sa : PySem.W.findIn K (.ref C) "__setattr__" = some (some (.builtin "object.__setattr__"))
  exC : PySem.W.subIn K (.ref C) (.type "BaseException") = some true
  tyC : PySem.W.typeIn K (.ref C) = some (.type "type")
  kC : PySem.W.keepIn K (.ref C) = true
  ga : PySem.W.findIn K (.ref C) "__getattribute__" = some (some (.builtin "BaseException.__getattribute__"))
  gg : PySem.W.findIn K (.ref C) "__getattr__" = some none
  hd : PySem.W.hasDictIn K C = true
  ca : PySem.W.findIn K (.ref C) "__class__" = some (some (.builtin "object.__class__"))
  cm : PySem.W.mroIn K C (.type "object") = some true
  no : PySem.W.findIn K (.ref C) fl = some none
  ini : ∃ (f : Addr) (fd : FuncData), PySem.W.findIn K (.ref C) "__init__" = some (some (.ref f)) ∧ PySem.W.typeIn K (.ref f) = some (.type "function") ∧ Fun K "__init__" q st f fd
theorem xf_mk {K : PySem.W.Frag} {q fl : Str} {st : Stmt} {C S : Addr} {nm q2 : Str} {N : Addr} {bs : List Value} {sn : List Str} {sub : List Value} {ab : Bool} {col : Option Bool} {dd : Option Addr} {m0 m1 m2 m3 m5 : Option Value} {f : Addr} {oc : Value} {od an : Option Addr} {osl : Array (Option Value)} {kV doc pm cdv ct : Value}
    (xL : K.lookup C = some (excClassObj nm q2 C N bs [.ref S, .type "ValueError", .type "Exception", .type "BaseException", .type "object"] true sn sub ab col dd m0 m1 m2 m3 m5 "ValueError.__new__"))
    (sa : PySem.W.findIn K (.ref C) "__setattr__" = some (some (.builtin "object.__setattr__"))) (exC : PySem.W.subIn K (.ref C) (.type "BaseException") = some true) (tyC : PySem.W.typeIn K (.ref C) = some (.type "type")) (kC : PySem.W.keepIn K (.ref C) = true)
    (ga : PySem.W.findIn K (.ref C) "__getattribute__" = some (some (.builtin "BaseException.__getattribute__"))) (gg : PySem.W.findIn K (.ref C) "__getattr__" = some none) (hd : PySem.W.hasDictIn K C = true) (ca : PySem.W.findIn K (.ref C) "__class__" = some (some (.builtin "object.__class__")))
    (cm : PySem.W.mroIn K C (.type "object") = some true) (no : PySem.W.findIn K (.ref C) fl = some none) (ai : PySem.W.findIn K (.ref C) "__init__" = some (some (.ref f))) (ti : PySem.W.typeIn K (.ref f) = some (.type "function"))
    (l : K.lookup f = some ⟨oc, od, .func (PySem.W.fnOf "__init__" q (defArgs st) (defBody st) (defScope st) .none kV doc pm an cdv ct), osl⟩) (c : PySem.W.codeIn K cdv q = true) (k : PySem.W.keepIn K (.ref f) = true) : Xf K q fl st C S :=
  ⟨⟨_, _, _, _, _, _, _, _, _, _, _, _, _, _, xL⟩, sa, exC, tyC, kC, ga, gg, hd, ca, cm, no, f, _, ai, ti, fun_mk l c k⟩
theorem Xf.oex {K : PySem.W.Frag} {q fl : Str} {st : Stmt} {C S : Addr} (h : Xf K q fl st C S) : OexC K C := by
  obtain ⟨nm, q, N, bs, sn, sub, ab, col, dd, k0, k1, k2, k3, k5, e⟩ := h.cls
  exact ⟨⟨_, _, _, _, _, _, _, _, _, _, _, _, _, _, _, e, rfl⟩, h.sa, h.exC, h.tyC, h.kC⟩
theorem Xf.exk {K : PySem.W.Frag} {q fl : Str} {st : Stmt} {C S : Addr} (h : Xf K q fl st C S) (cn : PySem.W.specialIn K (.builtin "object.__class__") "__get__" = some (some (.builtin "getset_descriptor.__get__"))) (ct : PySem.W.takesIn K (.builtin "object.__class__") = some true) : ExK K C :=
  ⟨h.oex, h.ga, h.gg, h.hd, h.ca, cn, ct, h.cm⟩
theorem in_WrongKind {P : Program} {w : World} {K : PySem.W.Frag} {mg : Str → Option Value} {base : Heap} {C S : Addr} (h : Xf K "WrongKind.__init__" "argument" (inClass (top 3) 0) C S) (cn : PySem.W.specialIn K (.builtin "object.__class__") "__get__" = some (some (.builtin "getset_descriptor.__get__"))) (ct : PySem.W.takesIn K (.builtin "object.__class__") = some true) (at_ : mg "WrongKind" = some (.ref C)) : ExM P w K mg base "WrongKind" C "argument" := by
  obtain ⟨f, fd, a, t, F⟩ := h.ini
  have S : FnScope ["self", "argument"] ["self", "argument"] (defScope (inClass (top 3) 0)) := ⟨rfl, rfl, rfl, by decide +kernel, rfl, by decide +kernel, by decide +kernel⟩
  exact ⟨h.exk cn ct, at_, h.no, f, fd, a, t, init_ok F S rfl h.oex h.no rfl rfl (by decide) (by decide), F.binds fun _ _ _ _ _ _ us hl => match us, hl with | [_, _], _ => rfl⟩
theorem in_WrongSize {P : Program} {w : World} {K : PySem.W.Frag} {mg : Str → Option Value} {base : Heap} {C S : Addr} (h : Xf K "WrongSize.__init__" "argument" (inClass (top 4) 0) C S) (cn : PySem.W.specialIn K (.builtin "object.__class__") "__get__" = some (some (.builtin "getset_descriptor.__get__"))) (ct : PySem.W.takesIn K (.builtin "object.__class__") = some true) (at_ : mg "WrongSize" = some (.ref C)) : ExM P w K mg base "WrongSize" C "argument" := by
  obtain ⟨f, fd, a, t, F⟩ := h.ini
  have S : FnScope ["self", "argument"] ["self", "argument"] (defScope (inClass (top 4) 0)) := ⟨rfl, rfl, rfl, by decide +kernel, rfl, by decide +kernel, by decide +kernel⟩
  exact ⟨h.exk cn ct, at_, h.no, f, fd, a, t, init_ok F S rfl h.oex h.no rfl rfl (by decide) (by decide), F.binds fun _ _ _ _ _ _ us hl => match us, hl with | [_, _], _ => rfl⟩
theorem in_OutOfRange {P : Program} {w : World} {K : PySem.W.Frag} {mg : Str → Option Value} {base : Heap} {C S : Addr} (h : Xf K "OutOfRange.__init__" "argument" (inClass (top 5) 0) C S) (cn : PySem.W.specialIn K (.builtin "object.__class__") "__get__" = some (some (.builtin "getset_descriptor.__get__"))) (ct : PySem.W.takesIn K (.builtin "object.__class__") = some true) (at_ : mg "OutOfRange" = some (.ref C)) : ExM P w K mg base "OutOfRange" C "argument" := by
  obtain ⟨f, fd, a, t, F⟩ := h.ini
  have S : FnScope ["self", "argument"] ["self", "argument"] (defScope (inClass (top 5) 0)) := ⟨rfl, rfl, rfl, by decide +kernel, rfl, by decide +kernel, by decide +kernel⟩
  exact ⟨h.exk cn ct, at_, h.no, f, fd, a, t, init_ok F S rfl h.oex h.no rfl rfl (by decide) (by decide), F.binds fun _ _ _ _ _ _ us hl => match us, hl with | [_, _], _ => rfl⟩
theorem in_BadText {P : Program} {w : World} {K : PySem.W.Frag} {mg : Str → Option Value} {base : Heap} {C S : Addr} (h : Xf K "BadText.__init__" "position" (inClass (top 6) 0) C S) (cn : PySem.W.specialIn K (.builtin "object.__class__") "__get__" = some (some (.builtin "getset_descriptor.__get__"))) (ct : PySem.W.takesIn K (.builtin "object.__class__") = some true) (at_ : mg "BadText" = some (.ref C)) : ExM P w K mg base "BadText" C "position" := by
  obtain ⟨f, fd, a, t, F⟩ := h.ini
  have S : FnScope ["self", "position"] ["self", "position"] (defScope (inClass (top 6) 0)) := ⟨rfl, rfl, rfl, by decide +kernel, rfl, by decide +kernel, by decide +kernel⟩
  exact ⟨h.exk cn ct, at_, h.no, f, fd, a, t, init_ok F S rfl h.oex h.no rfl rfl (by decide) (by decide), F.binds fun _ _ _ _ _ _ us hl => match us, hl with | [_, _], _ => rfl⟩
theorem l_same_all {P : Program} {w : World} {mg : Str → Option Value} {base : Heap} (A : Ad) {f : Addr} {fd : FuncData} (T : Tx P w mg base A) (F : Fun A.K "_law_same" "_law_same" (top 57) f fd) (g : mg "_law_same" = some (.ref f)) (b : Binds A.K fd ["told", "due"] []) : ∀ n : Nat, FnOk P w A.K mg base (L2N.CX P w) n f fd ["told", "due"] (P_l_sameN A n)
  | 0 => by
    have no : ∀ vs H Q E, ¬ P_l_sameN A 0 vs H Q E := fun vs H Q E h => by
      obtain ⟨_, d, _, _, _, _, _, h, _⟩ := h
      cases d <;> exact h
    exact ⟨fun vs H Q E h => absurd h (no vs H Q E), fun A outer s H args us vs Q E _ _ _ _ h => absurd h (no vs H Q E)⟩
  | n + 1 => ok_l_same A n T F ⟨f, fd, l_same_all A T F g b n, g, F.kp, b⟩
theorem l_copy_all {P : Program} {w : World} {mg : Str → Option Value} {base : Heap} (A : Ad) {f : Addr} {fd : FuncData} (T : Tx P w mg base A) (F : Fun A.K "_law_copy" "_law_copy" (top 58) f fd) (g : mg "_law_copy" = some (.ref f)) (b : Binds A.K fd ["given"] []) : ∀ n : Nat, FnOk P w A.K mg base (L2N.CX P w) n f fd ["given"] (P_l_copyN A n)
  | 0 => by
    have no : ∀ vs H Q E, ¬ P_l_copyN A 0 vs H Q E := fun vs H Q E h => by
      obtain ⟨_, d, _, _, _, _, h, _⟩ := h
      cases d <;> exact h
    exact ⟨fun vs H Q E h => absurd h (no vs H Q E), fun A outer s H args us vs Q E _ _ _ _ h => absurd h (no vs H Q E)⟩
  | n + 1 => ok_l_copy A n T F ⟨f, fd, l_copy_all A T F g b n, g, F.kp, b⟩
def spL (K : PySem.W.Frag) : Sp := fun vs H Q _ => ∃ (a : Addr) (ns : List Int), vs = [.ref a] ∧ SqL K H a (ns.map V.int) ∧ ∀ H1, Q (.bl true) H1
theorem all_mk {P : Program} {w : World} {K : PySem.W.Frag} {h : Heap} {mg : Str → Option Value} {fa : Addr} {cS c0 c1 c2 c3 c4 c5 c6 c7 c8 c9 c10 c11 : Addr} {tm_MOST_CHARACTERS : Tok} {tm_MOST_DIGITS : Tok} {tm_MOST_WIDTH : Tok} {tm_DIGITS : Tok}
    (X : K.In h) (G : h.Ns mainGlobals mg) (hfa : mg "law" = some (.ref fa))
    (aS : PySem.W.nsIn K mainGlobals "ShadeError" = some (some (.ref cS)))
    (a0 : PySem.W.nsIn K mainGlobals "WrongKind" = some (some (.ref c0)))
    (a1 : PySem.W.nsIn K mainGlobals "WrongSize" = some (some (.ref c1)))
    (a2 : PySem.W.nsIn K mainGlobals "OutOfRange" = some (some (.ref c2)))
    (a3 : PySem.W.nsIn K mainGlobals "BadText" = some (some (.ref c3)))
    (a4 : PySem.W.nsIn K mainGlobals "NotATable" = some (some (.ref c4)))
    (a5 : PySem.W.nsIn K mainGlobals "Spent" = some (some (.ref c5)))
    (a6 : PySem.W.nsIn K mainGlobals "TooFewPlaces" = some (some (.ref c6)))
    (a7 : PySem.W.nsIn K mainGlobals "WrongPaper" = some (some (.ref c7)))
    (a8 : PySem.W.nsIn K mainGlobals "UnknownName" = some (some (.ref c8)))
    (a9 : PySem.W.nsIn K mainGlobals "NameTaken" = some (some (.ref c9)))
    (a10 : PySem.W.nsIn K mainGlobals "NothingToUndo" = some (some (.ref c10)))
    (a11 : PySem.W.nsIn K mainGlobals "BookFull" = some (some (.ref c11)))
    (x0 : Xf K "WrongKind.__init__" "argument" (inClass (top 3) 0) c0 cS)
    (x1 : Xf K "WrongSize.__init__" "argument" (inClass (top 4) 0) c1 cS)
    (x2 : Xf K "OutOfRange.__init__" "argument" (inClass (top 5) 0) c2 cS)
    (x3 : Xf K "BadText.__init__" "position" (inClass (top 6) 0) c3 cS)
    (cn : PySem.W.specialIn K (.builtin "object.__class__") "__get__" = some (some (.builtin "getset_descriptor.__get__"))) (ct : PySem.W.takesIn K (.builtin "object.__class__") = some true)
    (k0_0 : PySem.W.kitOne K (.ref c0) (.ref c0) = some true)
    (k0_1 : PySem.W.kitOne K (.ref c0) (.ref c1) = some false)
    (k0_2 : PySem.W.kitOne K (.ref c0) (.ref c2) = some false)
    (k0_3 : PySem.W.kitOne K (.ref c0) (.ref c3) = some false)
    (k0_4 : PySem.W.kitOne K (.ref c0) (.ref c4) = some false)
    (k0_5 : PySem.W.kitOne K (.ref c0) (.ref c5) = some false)
    (k0_6 : PySem.W.kitOne K (.ref c0) (.ref c6) = some false)
    (k0_7 : PySem.W.kitOne K (.ref c0) (.ref c7) = some false)
    (k0_8 : PySem.W.kitOne K (.ref c0) (.ref c8) = some false)
    (k0_9 : PySem.W.kitOne K (.ref c0) (.ref c9) = some false)
    (k0_10 : PySem.W.kitOne K (.ref c0) (.ref c10) = some false)
    (k0_11 : PySem.W.kitOne K (.ref c0) (.ref c11) = some false)
    (k0_v : PySem.W.kitOne K (.ref c0) (.type "ValueError") = some true) (k0_s : PySem.W.exmOne K (.ref c0) (.ref cS) = some true)
    (k1_0 : PySem.W.kitOne K (.ref c1) (.ref c0) = some false)
    (k1_1 : PySem.W.kitOne K (.ref c1) (.ref c1) = some true)
    (k1_2 : PySem.W.kitOne K (.ref c1) (.ref c2) = some false)
    (k1_3 : PySem.W.kitOne K (.ref c1) (.ref c3) = some false)
    (k1_4 : PySem.W.kitOne K (.ref c1) (.ref c4) = some false)
    (k1_5 : PySem.W.kitOne K (.ref c1) (.ref c5) = some false)
    (k1_6 : PySem.W.kitOne K (.ref c1) (.ref c6) = some false)
    (k1_7 : PySem.W.kitOne K (.ref c1) (.ref c7) = some false)
    (k1_8 : PySem.W.kitOne K (.ref c1) (.ref c8) = some false)
    (k1_9 : PySem.W.kitOne K (.ref c1) (.ref c9) = some false)
    (k1_10 : PySem.W.kitOne K (.ref c1) (.ref c10) = some false)
    (k1_11 : PySem.W.kitOne K (.ref c1) (.ref c11) = some false)
    (k1_v : PySem.W.kitOne K (.ref c1) (.type "ValueError") = some true) (k1_s : PySem.W.exmOne K (.ref c1) (.ref cS) = some true)
    (k2_0 : PySem.W.kitOne K (.ref c2) (.ref c0) = some false)
    (k2_1 : PySem.W.kitOne K (.ref c2) (.ref c1) = some false)
    (k2_2 : PySem.W.kitOne K (.ref c2) (.ref c2) = some true)
    (k2_3 : PySem.W.kitOne K (.ref c2) (.ref c3) = some false)
    (k2_4 : PySem.W.kitOne K (.ref c2) (.ref c4) = some false)
    (k2_5 : PySem.W.kitOne K (.ref c2) (.ref c5) = some false)
    (k2_6 : PySem.W.kitOne K (.ref c2) (.ref c6) = some false)
    (k2_7 : PySem.W.kitOne K (.ref c2) (.ref c7) = some false)
    (k2_8 : PySem.W.kitOne K (.ref c2) (.ref c8) = some false)
    (k2_9 : PySem.W.kitOne K (.ref c2) (.ref c9) = some false)
    (k2_10 : PySem.W.kitOne K (.ref c2) (.ref c10) = some false)
    (k2_11 : PySem.W.kitOne K (.ref c2) (.ref c11) = some false)
    (k2_v : PySem.W.kitOne K (.ref c2) (.type "ValueError") = some true) (k2_s : PySem.W.exmOne K (.ref c2) (.ref cS) = some true)
    (z_ValueError : PySem.W.nsIn K mainGlobals "ValueError" = some none)
    (z_abs : PySem.W.nsIn K mainGlobals "abs" = some none)
    (z_bool : PySem.W.nsIn K mainGlobals "bool" = some none)
    (z_enumerate : PySem.W.nsIn K mainGlobals "enumerate" = some none)
    (z_int : PySem.W.nsIn K mainGlobals "int" = some none)
    (z_isinstance : PySem.W.nsIn K mainGlobals "isinstance" = some none)
    (z_len : PySem.W.nsIn K mainGlobals "len" = some none)
    (z_list : PySem.W.nsIn K mainGlobals "list" = some none)
    (z_max : PySem.W.nsIn K mainGlobals "max" = some none)
    (z_min : PySem.W.nsIn K mainGlobals "min" = some none)
    (z_range : PySem.W.nsIn K mainGlobals "range" = some none)
    (z_reversed : PySem.W.nsIn K mainGlobals "reversed" = some none)
    (z_str : PySem.W.nsIn K mainGlobals "str" = some none)
    (z_sum : PySem.W.nsIn K mainGlobals "sum" = some none)
    (z_tuple : PySem.W.nsIn K mainGlobals "tuple" = some none)
    (z_gcd : PySem.W.nsIn K mainGlobals "gcd" = some (some (.builtin "math.gcd")))
    (z_MOST_CHARACTERS : PySem.W.nsIn K mainGlobals "MOST_CHARACTERS" = some (some (.int 200 tm_MOST_CHARACTERS)))
    (z_MOST_DIGITS : PySem.W.nsIn K mainGlobals "MOST_DIGITS" = some (some (.int 9 tm_MOST_DIGITS)))
    (z_MOST_WIDTH : PySem.W.nsIn K mainGlobals "MOST_WIDTH" = some (some (.int 6 tm_MOST_WIDTH)))
    (z_DIGITS : PySem.W.nsIn K mainGlobals "DIGITS" = some (some (.str "0123456789" tm_DIGITS)))
    (z_nd : PySem.W.nsIn K cStatics "sys.int_max_str_digits" = some none)
    (d_is_integer : Dn K "is_integer" (top 17))
    (d_check_integer : Dn K "check_integer" (top 18))
    (d_check_range : Dn K "check_range" (top 19))
    (d_check_word : Dn K "check_word" (top 20))
    (d_check_place : Dn K "check_place" (top 21))
    (d_check_bit : Dn K "check_bit" (top 22))
    (d_check_text : Dn K "check_text" (top 23))
    (d_check_row : Dn K "check_row" (top 24))
    (d_check_bits : Dn K "check_bits" (top 25))
    (d_check_places : Dn K "check_places" (top 26))
    (d_check_fraction : Dn K "check_fraction" (top 27))
    (d_ratio : Dn K "ratio" (top 29))
    (d_check_width : Dn K "check_width" (top 32))
    (d_word_of_bits : Dn K "word_of_bits" (top 33))
    (d_bits_of_word : Dn K "bits_of_word" (top 34))
    (d_set_of_places : Dn K "set_of_places" (top 35))
    (d_places_of_set : Dn K "places_of_set" (top 36))
    (d_written_bits : Dn K "written_bits" (top 40))
    (d_digit_at : Dn K "digit_at" (top 41))
    (d_format_word : Dn K "format_word" (top 42))
    (d_lone_hyphen : Dn K "lone_hyphen" (top 43))
    (d_parse_word : Dn K "parse_word" (top 44))
    (d_format_set : Dn K "format_set" (top 45))
    (d_parse_set : Dn K "parse_set" (top 46))
    (d_read_places : Dn K "read_places" (top 47))
    (d_format_ratio : Dn K "format_ratio" (top 48))
    (d_parse_ratio : Dn K "parse_ratio" (top 49))
    (d_read_number : Dn K "read_number" (top 50))
    (d_l_mixed : Dn K "_law_mixed" (top 52))
    (d_l_wide : Dn K "_law_wide" (top 53))
    (d_l_store : Dn K "_law_store" (top 54))
    (d_l_take : Dn K "_law_take" (top 55))
    (d_l_near : Dn K "_law_near" (top 56))
    (d_l_same : Dn K "_law_same" (top 57))
    (d_l_copy : Dn K "_law_copy" (top 58))
    (d_l_places : Dn K "_law_places" (top 59))
    (d_l_width : Dn K "_law_width" (top 60))
    (d_l_word : Dn K "_law_word" (top 61))
    (d_l_ten : Dn K "_law_ten" (top 62))
    (d_l_integer : Dn K "_law_integer" (top 63))
    (d_l_lowest : Dn K "_law_lowest" (top 64))
    (d_l_fraction : Dn K "_law_fraction" (top 65))
    (d_l_word_text : Dn K "_law_word_text" (top 66))
    (d_l_set_text : Dn K "_law_set_text" (top 67))
    (d_l_ratio_text : Dn K "_law_ratio_text" (top 68))
    (d_l_number_fault : Dn K "_law_number_fault" (top 69))
    (d_l_fraction_fault : Dn K "_law_fraction_fault" (top 70))
    (d_l_first_fault : Dn K "_law_first_fault" (top 71))
    (d_l_odd_number : Dn K "_law_odd_number" (top 72))
    (d_l_odd_fraction : Dn K "_law_odd_fraction" (top 73))
    (d_l_kinds : Dn K "_law_kinds" (top 74))
    (d_l_refusal : Dn K "_law_refusal" (top 75))
    (d_l_told : Dn K "_law_told" (top 76))
    (d_l_ask : Dn K "_law_ask" (top 77))
    (d_l_fault : Dn K "_law_fault" (top 78))
    (d_l_answer : Dn K "_law_answer" (top 79))
    (d_l_written : Dn K "_law_written" (top 80))
    (d_l_read : Dn K "_law_read" (top 81))
    (d_l_small_ratio : Dn K "_law_small_ratio" (top 82))
    (d_l_beside : Dn K "_law_beside" (top 83))
    (d_l_back : Dn K "_law_back" (top 84))
    (d_l_great : Dn K "_law_great" (top 85))
    (d_law : Dn K "law" (top 86)) :
    ∃ fd : FuncData, (∀ (s : Shared) (u : Value), BindsTo s fd ⟨[u], []⟩ [("script", u)]) ∧ ∀ base : Heap, K.In base → base.Ns mainGlobals mg → FnOk P w K mg base (L2N.CX P w) 14 fa fd ["script"] (spL K) := by
  let A : Ad := ⟨K, cS, c0, c1, c2, c3, c4, c5, c6, c7, c8, c9, c10, c11⟩
  have mo : ∀ {x : Str} {v : Value}, PySem.W.nsIn K mainGlobals x = some (some v) → mg x = some v := fun a => PySem.W.mg_of X G a
  have CFA : CF A := { ex := (fun k => match k with | .wk => x0.exk cn ct | .ws => x1.exk cn ct | .oor => x2.exk cn ct), no := (fun k => match k with | .wk => x0.no | .ws => x1.no | .oor => x2.no), i0 := (fun k => match k with | .wk => k0_0 | .ws => k1_0 | .oor => k2_0), i1 := (fun k => match k with | .wk => k0_1 | .ws => k1_1 | .oor => k2_1), i2 := (fun k => match k with | .wk => k0_2 | .ws => k1_2 | .oor => k2_2), i3 := (fun k => match k with | .wk => k0_3 | .ws => k1_3 | .oor => k2_3), i4 := (fun k => match k with | .wk => k0_4 | .ws => k1_4 | .oor => k2_4), i5 := (fun k => match k with | .wk => k0_5 | .ws => k1_5 | .oor => k2_5), i6 := (fun k => match k with | .wk => k0_6 | .ws => k1_6 | .oor => k2_6), i7 := (fun k => match k with | .wk => k0_7 | .ws => k1_7 | .oor => k2_7), i8 := (fun k => match k with | .wk => k0_8 | .ws => k1_8 | .oor => k2_8), i9 := (fun k => match k with | .wk => k0_9 | .ws => k1_9 | .oor => k2_9), i10 := (fun k => match k with | .wk => k0_10 | .ws => k1_10 | .oor => k2_10), i11 := (fun k => match k with | .wk => k0_11 | .ws => k1_11 | .oor => k2_11), i12 := (fun k => match k with | .wk => k0_v | .ws => k1_v | .oor => k2_v), sh := (fun k => match k with | .wk => k0_s | .ws => k1_s | .oor => k2_s) }
  obtain ⟨f_is_integer, fd_is_integer, a_is_integer, F_is_integer⟩ := d_is_integer
  obtain ⟨f_check_integer, fd_check_integer, a_check_integer, F_check_integer⟩ := d_check_integer
  obtain ⟨f_check_range, fd_check_range, a_check_range, F_check_range⟩ := d_check_range
  obtain ⟨f_check_word, fd_check_word, a_check_word, F_check_word⟩ := d_check_word
  obtain ⟨f_check_place, fd_check_place, a_check_place, F_check_place⟩ := d_check_place
  obtain ⟨f_check_bit, fd_check_bit, a_check_bit, F_check_bit⟩ := d_check_bit
  obtain ⟨f_check_text, fd_check_text, a_check_text, F_check_text⟩ := d_check_text
  obtain ⟨f_check_row, fd_check_row, a_check_row, F_check_row⟩ := d_check_row
  obtain ⟨f_check_bits, fd_check_bits, a_check_bits, F_check_bits⟩ := d_check_bits
  obtain ⟨f_check_places, fd_check_places, a_check_places, F_check_places⟩ := d_check_places
  obtain ⟨f_check_fraction, fd_check_fraction, a_check_fraction, F_check_fraction⟩ := d_check_fraction
  obtain ⟨f_ratio, fd_ratio, a_ratio, F_ratio⟩ := d_ratio
  obtain ⟨f_check_width, fd_check_width, a_check_width, F_check_width⟩ := d_check_width
  obtain ⟨f_word_of_bits, fd_word_of_bits, a_word_of_bits, F_word_of_bits⟩ := d_word_of_bits
  obtain ⟨f_bits_of_word, fd_bits_of_word, a_bits_of_word, F_bits_of_word⟩ := d_bits_of_word
  obtain ⟨f_set_of_places, fd_set_of_places, a_set_of_places, F_set_of_places⟩ := d_set_of_places
  obtain ⟨f_places_of_set, fd_places_of_set, a_places_of_set, F_places_of_set⟩ := d_places_of_set
  obtain ⟨f_written_bits, fd_written_bits, a_written_bits, F_written_bits⟩ := d_written_bits
  obtain ⟨f_digit_at, fd_digit_at, a_digit_at, F_digit_at⟩ := d_digit_at
  obtain ⟨f_format_word, fd_format_word, a_format_word, F_format_word⟩ := d_format_word
  obtain ⟨f_lone_hyphen, fd_lone_hyphen, a_lone_hyphen, F_lone_hyphen⟩ := d_lone_hyphen
  obtain ⟨f_parse_word, fd_parse_word, a_parse_word, F_parse_word⟩ := d_parse_word
  obtain ⟨f_format_set, fd_format_set, a_format_set, F_format_set⟩ := d_format_set
  obtain ⟨f_parse_set, fd_parse_set, a_parse_set, F_parse_set⟩ := d_parse_set
  obtain ⟨f_read_places, fd_read_places, a_read_places, F_read_places⟩ := d_read_places
  obtain ⟨f_format_ratio, fd_format_ratio, a_format_ratio, F_format_ratio⟩ := d_format_ratio
  obtain ⟨f_parse_ratio, fd_parse_ratio, a_parse_ratio, F_parse_ratio⟩ := d_parse_ratio
  obtain ⟨f_read_number, fd_read_number, a_read_number, F_read_number⟩ := d_read_number
  obtain ⟨f_l_mixed, fd_l_mixed, a_l_mixed, F_l_mixed⟩ := d_l_mixed
  obtain ⟨f_l_wide, fd_l_wide, a_l_wide, F_l_wide⟩ := d_l_wide
  obtain ⟨f_l_store, fd_l_store, a_l_store, F_l_store⟩ := d_l_store
  obtain ⟨f_l_take, fd_l_take, a_l_take, F_l_take⟩ := d_l_take
  obtain ⟨f_l_near, fd_l_near, a_l_near, F_l_near⟩ := d_l_near
  obtain ⟨f_l_same, fd_l_same, a_l_same, F_l_same⟩ := d_l_same
  obtain ⟨f_l_copy, fd_l_copy, a_l_copy, F_l_copy⟩ := d_l_copy
  obtain ⟨f_l_places, fd_l_places, a_l_places, F_l_places⟩ := d_l_places
  obtain ⟨f_l_width, fd_l_width, a_l_width, F_l_width⟩ := d_l_width
  obtain ⟨f_l_word, fd_l_word, a_l_word, F_l_word⟩ := d_l_word
  obtain ⟨f_l_ten, fd_l_ten, a_l_ten, F_l_ten⟩ := d_l_ten
  obtain ⟨f_l_integer, fd_l_integer, a_l_integer, F_l_integer⟩ := d_l_integer
  obtain ⟨f_l_lowest, fd_l_lowest, a_l_lowest, F_l_lowest⟩ := d_l_lowest
  obtain ⟨f_l_fraction, fd_l_fraction, a_l_fraction, F_l_fraction⟩ := d_l_fraction
  obtain ⟨f_l_word_text, fd_l_word_text, a_l_word_text, F_l_word_text⟩ := d_l_word_text
  obtain ⟨f_l_set_text, fd_l_set_text, a_l_set_text, F_l_set_text⟩ := d_l_set_text
  obtain ⟨f_l_ratio_text, fd_l_ratio_text, a_l_ratio_text, F_l_ratio_text⟩ := d_l_ratio_text
  obtain ⟨f_l_number_fault, fd_l_number_fault, a_l_number_fault, F_l_number_fault⟩ := d_l_number_fault
  obtain ⟨f_l_fraction_fault, fd_l_fraction_fault, a_l_fraction_fault, F_l_fraction_fault⟩ := d_l_fraction_fault
  obtain ⟨f_l_first_fault, fd_l_first_fault, a_l_first_fault, F_l_first_fault⟩ := d_l_first_fault
  obtain ⟨f_l_odd_number, fd_l_odd_number, a_l_odd_number, F_l_odd_number⟩ := d_l_odd_number
  obtain ⟨f_l_odd_fraction, fd_l_odd_fraction, a_l_odd_fraction, F_l_odd_fraction⟩ := d_l_odd_fraction
  obtain ⟨f_l_kinds, fd_l_kinds, a_l_kinds, F_l_kinds⟩ := d_l_kinds
  obtain ⟨f_l_refusal, fd_l_refusal, a_l_refusal, F_l_refusal⟩ := d_l_refusal
  obtain ⟨f_l_told, fd_l_told, a_l_told, F_l_told⟩ := d_l_told
  obtain ⟨f_l_ask, fd_l_ask, a_l_ask, F_l_ask⟩ := d_l_ask
  obtain ⟨f_l_fault, fd_l_fault, a_l_fault, F_l_fault⟩ := d_l_fault
  obtain ⟨f_l_answer, fd_l_answer, a_l_answer, F_l_answer⟩ := d_l_answer
  obtain ⟨f_l_written, fd_l_written, a_l_written, F_l_written⟩ := d_l_written
  obtain ⟨f_l_read, fd_l_read, a_l_read, F_l_read⟩ := d_l_read
  obtain ⟨f_l_small_ratio, fd_l_small_ratio, a_l_small_ratio, F_l_small_ratio⟩ := d_l_small_ratio
  obtain ⟨f_l_beside, fd_l_beside, a_l_beside, F_l_beside⟩ := d_l_beside
  obtain ⟨f_l_back, fd_l_back, a_l_back, F_l_back⟩ := d_l_back
  obtain ⟨f_l_great, fd_l_great, a_l_great, F_l_great⟩ := d_l_great
  obtain ⟨f_law, fd_law, a_law, F_law⟩ := d_law
  have e := hfa.symm.trans (mo a_law)
  cases e
  have b_is_integer := F_is_integer.binds (ps := ["value"]) fun _ _ _ _ _ _ us hl => match us, hl with | [_], _ => rfl
  have b_check_integer := F_check_integer.binds (ps := ["value", "argument"]) fun _ _ _ _ _ _ us hl => match us, hl with | [_, _], _ => rfl
  have b_check_range := F_check_range.binds (ps := ["value", "least", "greatest", "argument"]) fun _ _ _ _ _ _ us hl => match us, hl with | [_, _, _, _], _ => rfl
  have b_check_word := F_check_word.binds (ps := ["width", "word", "argument"]) fun _ _ _ _ _ _ us hl => match us, hl with | [_, _, _], _ => rfl
  have b_check_place := F_check_place.binds (ps := ["width", "place", "argument"]) fun _ _ _ _ _ _ us hl => match us, hl with | [_, _, _], _ => rfl
  have b_check_bit := F_check_bit.binds (ps := ["bit", "argument"]) fun _ _ _ _ _ _ us hl => match us, hl with | [_, _], _ => rfl
  have b_check_text := F_check_text.binds (ps := ["text", "argument"]) fun _ _ _ _ _ _ us hl => match us, hl with | [_, _], _ => rfl
  have b_check_row := F_check_row.binds (ps := ["row", "least", "greatest", "argument"]) fun _ _ _ _ _ _ us hl => match us, hl with | [_, _, _, _], _ => rfl
  have b_check_bits := F_check_bits.binds (ps := ["bits", "least", "greatest", "argument"]) fun _ _ _ _ _ _ us hl => match us, hl with | [_, _, _, _], _ => rfl
  have b_check_places := F_check_places.binds (ps := ["width", "places", "least", "argument"]) fun _ _ _ _ _ _ us hl => match us, hl with | [_, _, _, _], _ => rfl
  have b_check_fraction := F_check_fraction.binds (ps := ["fraction", "argument"]) fun _ _ _ _ _ _ us hl => match us, hl with | [_, _], _ => rfl
  have b_ratio := F_ratio.binds (ps := ["top", "bottom"]) fun _ _ _ _ _ _ us hl => match us, hl with | [_, _], _ => rfl
  have b_check_width := F_check_width.binds (ps := ["width"]) fun _ _ _ _ _ _ us hl => match us, hl with | [_], _ => rfl
  have b_word_of_bits := F_word_of_bits.binds (ps := ["bits"]) fun _ _ _ _ _ _ us hl => match us, hl with | [_], _ => rfl
  have b_bits_of_word := F_bits_of_word.binds (ps := ["width", "word"]) fun _ _ _ _ _ _ us hl => match us, hl with | [_, _], _ => rfl
  have b_set_of_places := F_set_of_places.binds (ps := ["width", "places"]) fun _ _ _ _ _ _ us hl => match us, hl with | [_, _], _ => rfl
  have b_places_of_set := F_places_of_set.binds (ps := ["width", "chosen"]) fun _ _ _ _ _ _ us hl => match us, hl with | [_, _], _ => rfl
  have b_written_bits := F_written_bits.binds (ps := ["bits"]) fun _ _ _ _ _ _ us hl => match us, hl with | [_], _ => rfl
  have b_digit_at := F_digit_at.binds (ps := ["text", "position"]) fun _ _ _ _ _ _ us hl => match us, hl with | [_, _], _ => rfl
  have b_format_word := F_format_word.binds (ps := ["width", "word"]) fun _ _ _ _ _ _ us hl => match us, hl with | [_, _], _ => rfl
  have b_lone_hyphen := F_lone_hyphen.binds (ps := ["text"]) fun _ _ _ _ _ _ us hl => match us, hl with | [_], _ => rfl
  have b_parse_word := F_parse_word.binds (ps := ["text"]) fun _ _ _ _ _ _ us hl => match us, hl with | [_], _ => rfl
  have b_format_set := F_format_set.binds (ps := ["width", "chosen"]) fun _ _ _ _ _ _ us hl => match us, hl with | [_, _], _ => rfl
  have b_parse_set := F_parse_set.binds (ps := ["width", "text"]) fun _ _ _ _ _ _ us hl => match us, hl with | [_, _], _ => rfl
  have b_read_places := F_read_places.binds (ps := ["width", "text"]) fun _ _ _ _ _ _ us hl => match us, hl with | [_, _], _ => rfl
  have b_format_ratio := F_format_ratio.binds (ps := ["fraction"]) fun _ _ _ _ _ _ us hl => match us, hl with | [_], _ => rfl
  have b_parse_ratio := F_parse_ratio.binds (ps := ["text"]) fun _ _ _ _ _ _ us hl => match us, hl with | [_], _ => rfl
  have b_read_number := F_read_number.binds (ps := ["text", "start", "least"]) fun _ _ _ _ _ _ us hl => match us, hl with | [_, _, _], _ => rfl
  have b_l_mixed := F_l_mixed.binds (ps := ["cell", "nth"]) fun _ _ _ _ _ _ us hl => match us, hl with | [_, _], _ => rfl
  have b_l_wide := F_l_wide.binds (ps := ["cell", "nth", "many"]) fun _ _ _ _ _ _ us hl => match us, hl with | [_, _, _], _ => rfl
  have b_l_store := F_l_store.binds (ps := ["script"]) fun _ _ _ _ _ _ us hl => match us, hl with | [_], _ => rfl
  have b_l_take := F_l_take.binds (ps := ["store", "many"]) fun _ _ _ _ _ _ us hl => match us, hl with | [_, _], _ => rfl
  have b_l_near := F_l_near.binds (ps := ["store", "low", "high"]) fun _ _ _ _ _ _ us hl => match us, hl with | [_, _, _], _ => rfl
  have b_l_same := F_l_same.binds (ps := ["told", "due"]) fun _ _ _ _ _ _ us hl => match us, hl with | [_, _], _ => rfl
  have b_l_copy := F_l_copy.binds (ps := ["given"]) fun _ _ _ _ _ _ us hl => match us, hl with | [_], _ => rfl
  have b_l_places := F_l_places.binds (ps := ["wide", "mask"]) fun _ _ _ _ _ _ us hl => match us, hl with | [_, _], _ => rfl
  have b_l_width := F_l_width.binds (ps := ["store", "least", "most"]) fun _ _ _ _ _ _ us hl => match us, hl with | [_, _, _], _ => rfl
  have b_l_word := F_l_word.binds (ps := ["store", "wide"]) fun _ _ _ _ _ _ us hl => match us, hl with | [_, _], _ => rfl
  have b_l_ten := F_l_ten.binds (ps := ["digits"]) fun _ _ _ _ _ _ us hl => match us, hl with | [_], _ => rfl
  have b_l_integer := F_l_integer.binds (ps := ["store", "digits"]) fun _ _ _ _ _ _ us hl => match us, hl with | [_, _], _ => rfl
  have b_l_lowest := F_l_lowest.binds (ps := ["top", "low"]) fun _ _ _ _ _ _ us hl => match us, hl with | [_, _], _ => rfl
  have b_l_fraction := F_l_fraction.binds (ps := ["store", "digits"]) fun _ _ _ _ _ _ us hl => match us, hl with | [_, _], _ => rfl
  have b_l_word_text := F_l_word_text.binds (ps := ["wide", "here"]) fun _ _ _ _ _ _ us hl => match us, hl with | [_, _], _ => rfl
  have b_l_set_text := F_l_set_text.binds (ps := ["wide", "mask"]) fun _ _ _ _ _ _ us hl => match us, hl with | [_, _], _ => rfl
  have b_l_ratio_text := F_l_ratio_text.binds (ps := ["top", "low"]) fun _ _ _ _ _ _ us hl => match us, hl with | [_, _], _ => rfl
  have b_l_number_fault := F_l_number_fault.binds (ps := ["given", "low", "high"]) fun _ _ _ _ _ _ us hl => match us, hl with | [_, _, _], _ => rfl
  have b_l_fraction_fault := F_l_fraction_fault.binds (ps := ["given"]) fun _ _ _ _ _ _ us hl => match us, hl with | [_], _ => rfl
  have b_l_first_fault := F_l_first_fault.binds (ps := ["pair_row"]) fun _ _ _ _ _ _ us hl => match us, hl with | [_], _ => rfl
  have b_l_odd_number := F_l_odd_number.binds (ps := ["store", "low", "high"]) fun _ _ _ _ _ _ us hl => match us, hl with | [_, _, _], _ => rfl
  have b_l_odd_fraction := F_l_odd_fraction.binds (ps := ["store"]) fun _ _ _ _ _ _ us hl => match us, hl with | [_], _ => rfl
  have b_l_kinds := F_l_kinds.binds (ps := ["caught"]) fun _ _ _ _ _ _ us hl => match us, hl with | [_], _ => rfl
  have b_l_refusal := F_l_refusal.binds (ps := ["caught"]) fun _ _ _ _ _ _ us hl => match us, hl with | [_], _ => rfl
  have b_l_told := F_l_told.binds (ps := ["which", "given"]) fun _ _ _ _ _ _ us hl => match us, hl with | [_, _], _ => rfl
  have b_l_ask := F_l_ask.binds (ps := ["which", "given"]) fun _ _ _ _ _ _ us hl => match us, hl with | [_, _], _ => rfl
  have b_l_fault := F_l_fault.binds (ps := ["which", "given"]) fun _ _ _ _ _ _ us hl => match us, hl with | [_, _], _ => rfl
  have b_l_answer := F_l_answer.binds (ps := ["which", "given"]) fun _ _ _ _ _ _ us hl => match us, hl with | [_, _], _ => rfl
  have b_l_written := F_l_written.binds (ps := ["which", "given"]) fun _ _ _ _ _ _ us hl => match us, hl with | [_, _], _ => rfl
  have b_l_read := F_l_read.binds (ps := ["which", "given", "value"]) fun _ _ _ _ _ _ us hl => match us, hl with | [_, _, _], _ => rfl
  have b_l_small_ratio := F_l_small_ratio.binds (ps := ["store"]) fun _ _ _ _ _ _ us hl => match us, hl with | [_], _ => rfl
  have b_l_beside := F_l_beside.binds (ps := ["store", "item", "low", "high"]) fun _ _ _ _ _ _ us hl => match us, hl with | [_, _, _, _], _ => rfl
  have b_l_back := F_l_back.binds (ps := ["wide", "here", "mask", "pair", "many"]) fun _ _ _ _ _ _ us hl => match us, hl with | [_, _, _, _, _], _ => rfl
  have b_l_great := F_l_great.binds (ps := ["store"]) fun _ _ _ _ _ _ us hl => match us, hl with | [_], _ => rfl
  refine ⟨fd_law, ?_, fun base hb hn => ?_⟩
  · obtain ⟨_, _, _, _, _, _, _, _, _, e, _⟩ := F_law.ex
    subst e
    exact fun s v => .of_eq rfl
  have T : Tx P w mg base A := { b_ValueError := PySem.W.mg_none_of X G z_ValueError, b_abs := PySem.W.mg_none_of X G z_abs, b_bool := PySem.W.mg_none_of X G z_bool, b_enumerate := PySem.W.mg_none_of X G z_enumerate, b_int := PySem.W.mg_none_of X G z_int, b_isinstance := PySem.W.mg_none_of X G z_isinstance, b_len := PySem.W.mg_none_of X G z_len, b_list := PySem.W.mg_none_of X G z_list, b_max := PySem.W.mg_none_of X G z_max, b_min := PySem.W.mg_none_of X G z_min, b_range := PySem.W.mg_none_of X G z_range, b_reversed := PySem.W.mg_none_of X G z_reversed, b_str := PySem.W.mg_none_of X G z_str, b_sum := PySem.W.mg_none_of X G z_sum, b_tuple := PySem.W.mg_none_of X G z_tuple, gcd := mo z_gcd, se := mo aS, x_WrongKind := in_WrongKind x0 cn ct (mo a0), x_WrongSize := in_WrongSize x1 cn ct (mo a1), x_OutOfRange := in_OutOfRange x2 cn ct (mo a2), x_BadText := in_BadText x3 cn ct (mo a3), x_NotATable := ⟨mo a4⟩, x_Spent := ⟨mo a5⟩, x_TooFewPlaces := ⟨mo a6⟩, x_WrongPaper := ⟨mo a7⟩, x_UnknownName := ⟨mo a8⟩, x_NameTaken := ⟨mo a9⟩, x_NothingToUndo := ⟨mo a10⟩, x_BookFull := ⟨mo a11⟩, g_MOST_CHARACTERS := ⟨tm_MOST_CHARACTERS, mo z_MOST_CHARACTERS⟩, g_MOST_DIGITS := ⟨tm_MOST_DIGITS, mo z_MOST_DIGITS⟩, g_MOST_WIDTH := ⟨tm_MOST_WIDTH, mo z_MOST_WIDTH⟩, s_DIGITS := ⟨tm_DIGITS, mo z_DIGITS⟩, nd := z_nd }
  have o_l_store := ok_l_store A (base := base) T F_l_store 
  have c_l_store : Fn P w A.K mg base 1 "_law_store" ["script"] (P_l_store A) := ⟨f_l_store, fd_l_store, o_l_store, mo a_l_store, F_l_store.kp, b_l_store⟩
  have o_l_mixed := ok_l_mixed A (base := base) T F_l_mixed 
  have c_l_mixed : Fn P w A.K mg base 1 "_law_mixed" ["cell", "nth"] (P_l_mixed A) := ⟨f_l_mixed, fd_l_mixed, o_l_mixed, mo a_l_mixed, F_l_mixed.kp, b_l_mixed⟩
  have o_l_wide := ok_l_wide A (base := base) T F_l_wide c_l_mixed
  have c_l_wide : Fn P w A.K mg base 2 "_law_wide" ["cell", "nth", "many"] (P_l_wide A) := ⟨f_l_wide, fd_l_wide, o_l_wide, mo a_l_wide, F_l_wide.kp, b_l_wide⟩
  have o_l_take := ok_l_take A (base := base) T F_l_take c_l_wide
  have c_l_take : Fn P w A.K mg base 3 "_law_take" ["store", "many"] (P_l_take A) := ⟨f_l_take, fd_l_take, o_l_take, mo a_l_take, F_l_take.kp, b_l_take⟩
  have o_l_width := ok_l_width A (base := base) T F_l_width c_l_take
  have c_l_width : Fn P w A.K mg base 4 "_law_width" ["store", "least", "most"] (P_l_width A) := ⟨f_l_width, fd_l_width, o_l_width, mo a_l_width, F_l_width.kp, b_l_width⟩
  have o_l_word := ok_l_word A (base := base) T F_l_word c_l_take
  have c_l_word : Fn P w A.K mg base 4 "_law_word" ["store", "wide"] (P_l_word A) := ⟨f_l_word, fd_l_word, o_l_word, mo a_l_word, F_l_word.kp, b_l_word⟩
  have o_l_near := ok_l_near A (base := base) T F_l_near c_l_take
  have c_l_near : Fn P w A.K mg base 4 "_law_near" ["store", "low", "high"] (P_l_near A) := ⟨f_l_near, fd_l_near, o_l_near, mo a_l_near, F_l_near.kp, b_l_near⟩
  have o_l_small_ratio := ok_l_small_ratio A (base := base) T F_l_small_ratio c_l_take c_l_near
  have c_l_small_ratio : Fn P w A.K mg base 5 "_law_small_ratio" ["store"] (P_l_small_ratio A) := ⟨f_l_small_ratio, fd_l_small_ratio, o_l_small_ratio, mo a_l_small_ratio, F_l_small_ratio.kp, b_l_small_ratio⟩
  have o_l_ten := ok_l_ten A (base := base) T F_l_ten 
  have c_l_ten : Fn P w A.K mg base 1 "_law_ten" ["digits"] (P_l_ten A) := ⟨f_l_ten, fd_l_ten, o_l_ten, mo a_l_ten, F_l_ten.kp, b_l_ten⟩
  have o_l_integer := ok_l_integer A (base := base) T F_l_integer c_l_take c_l_ten c_l_near
  have c_l_integer : Fn P w A.K mg base 5 "_law_integer" ["store", "digits"] (P_l_integer A) := ⟨f_l_integer, fd_l_integer, o_l_integer, mo a_l_integer, F_l_integer.kp, b_l_integer⟩
  have o_l_fraction := ok_l_fraction A (base := base) T F_l_fraction c_l_integer c_l_take
  have c_l_fraction : Fn P w A.K mg base 6 "_law_fraction" ["store", "digits"] (P_l_fraction A) := ⟨f_l_fraction, fd_l_fraction, o_l_fraction, mo a_l_fraction, F_l_fraction.kp, b_l_fraction⟩
  have o_l_odd_number := ok_l_odd_number A (base := base) T F_l_odd_number c_l_take
  have c_l_odd_number : Fn P w A.K mg base 4 "_law_odd_number" ["store", "low", "high"] (P_l_odd_number A) := ⟨f_l_odd_number, fd_l_odd_number, o_l_odd_number, mo a_l_odd_number, F_l_odd_number.kp, b_l_odd_number⟩
  have o_l_beside := ok_l_beside A (base := base) T F_l_beside c_l_take c_l_odd_number
  have c_l_beside : Fn P w A.K mg base 5 "_law_beside" ["store", "item", "low", "high"] (P_l_beside A) := ⟨f_l_beside, fd_l_beside, o_l_beside, mo a_l_beside, F_l_beside.kp, b_l_beside⟩
  have o_l_odd_fraction := ok_l_odd_fraction A (base := base) T F_l_odd_fraction c_l_take
  have c_l_odd_fraction : Fn P w A.K mg base 4 "_law_odd_fraction" ["store"] (P_l_odd_fraction A) := ⟨f_l_odd_fraction, fd_l_odd_fraction, o_l_odd_fraction, mo a_l_odd_fraction, F_l_odd_fraction.kp, b_l_odd_fraction⟩
  have o_l_great := ok_l_great A (base := base) T F_l_great c_l_ten c_l_take
  have c_l_great : Fn P w A.K mg base 4 "_law_great" ["store"] (P_l_great A) := ⟨f_l_great, fd_l_great, o_l_great, mo a_l_great, F_l_great.kp, b_l_great⟩
  have o_l_first_fault := ok_l_first_fault A (base := base) T F_l_first_fault 
  have c_l_first_fault : Fn P w A.K mg base 1 "_law_first_fault" ["pair_row"] (P_l_first_fault A) := ⟨f_l_first_fault, fd_l_first_fault, o_l_first_fault, mo a_l_first_fault, F_l_first_fault.kp, b_l_first_fault⟩
  have o_l_number_fault := ok_l_number_fault A (base := base) T F_l_number_fault 
  have c_l_number_fault : Fn P w A.K mg base 1 "_law_number_fault" ["given", "low", "high"] (P_l_number_fault A) := ⟨f_l_number_fault, fd_l_number_fault, o_l_number_fault, mo a_l_number_fault, F_l_number_fault.kp, b_l_number_fault⟩
  have o_l_fraction_fault := ok_l_fraction_fault A (base := base) T F_l_fraction_fault c_l_number_fault
  have c_l_fraction_fault : Fn P w A.K mg base 2 "_law_fraction_fault" ["given"] (P_l_fraction_fault A) := ⟨f_l_fraction_fault, fd_l_fraction_fault, o_l_fraction_fault, mo a_l_fraction_fault, F_l_fraction_fault.kp, b_l_fraction_fault⟩
  have o_l_fault := ok_l_fault A (base := base) T F_l_fault c_l_first_fault c_l_fraction_fault c_l_number_fault
  have c_l_fault : Fn P w A.K mg base 3 "_law_fault" ["which", "given"] (P_l_fault A) := ⟨f_l_fault, fd_l_fault, o_l_fault, mo a_l_fault, F_l_fault.kp, b_l_fault⟩
  have o_l_word_text := ok_l_word_text A (base := base) T F_l_word_text 
  have c_l_word_text : Fn P w A.K mg base 1 "_law_word_text" ["wide", "here"] (P_l_word_text A) := ⟨f_l_word_text, fd_l_word_text, o_l_word_text, mo a_l_word_text, F_l_word_text.kp, b_l_word_text⟩
  have o_l_places := ok_l_places A (base := base) T F_l_places 
  have c_l_places : Fn P w A.K mg base 1 "_law_places" ["wide", "mask"] (P_l_places A) := ⟨f_l_places, fd_l_places, o_l_places, mo a_l_places, F_l_places.kp, b_l_places⟩
  have o_l_set_text := ok_l_set_text A (base := base) T F_l_set_text c_l_places
  have c_l_set_text : Fn P w A.K mg base 2 "_law_set_text" ["wide", "mask"] (P_l_set_text A) := ⟨f_l_set_text, fd_l_set_text, o_l_set_text, mo a_l_set_text, F_l_set_text.kp, b_l_set_text⟩
  have o_l_lowest := ok_l_lowest A (base := base) T F_l_lowest 
  have c_l_lowest : Fn P w A.K mg base 1 "_law_lowest" ["top", "low"] (P_l_lowest A) := ⟨f_l_lowest, fd_l_lowest, o_l_lowest, mo a_l_lowest, F_l_lowest.kp, b_l_lowest⟩
  have o_l_ratio_text := ok_l_ratio_text A (base := base) T F_l_ratio_text 
  have c_l_ratio_text : Fn P w A.K mg base 1 "_law_ratio_text" ["top", "low"] (P_l_ratio_text A) := ⟨f_l_ratio_text, fd_l_ratio_text, o_l_ratio_text, mo a_l_ratio_text, F_l_ratio_text.kp, b_l_ratio_text⟩
  have o_l_answer := ok_l_answer A (base := base) T F_l_answer c_l_word_text c_l_set_text c_l_lowest c_l_ratio_text
  have c_l_answer : Fn P w A.K mg base 3 "_law_answer" ["which", "given"] (P_l_answer A) := ⟨f_l_answer, fd_l_answer, o_l_answer, mo a_l_answer, F_l_answer.kp, b_l_answer⟩
  have o_l_copy : FnOk P w A.K mg base (L2N.CX P w) 7 f_l_copy fd_l_copy ["given"] (P_l_copy A) := (l_copy_all A T F_l_copy (mo a_l_copy) b_l_copy 6).mono (by decide)
  have c_l_copy : Fn P w A.K mg base 7 "_law_copy" ["given"] (P_l_copy A) := ⟨f_l_copy, fd_l_copy, o_l_copy, mo a_l_copy, F_l_copy.kp, b_l_copy⟩
  have o_l_same : FnOk P w A.K mg base (L2N.CX P w) 6 f_l_same fd_l_same ["told", "due"] (P_l_same A) := (l_same_all A T F_l_same (mo a_l_same) b_l_same 5).mono (by decide)
  have c_l_same : Fn P w A.K mg base 6 "_law_same" ["told", "due"] (P_l_same A) := ⟨f_l_same, fd_l_same, o_l_same, mo a_l_same, F_l_same.kp, b_l_same⟩
  have o_is_integer := ok_is_integer A (base := base) T F_is_integer 
  have c_is_integer : Fn P w A.K mg base 1 "is_integer" ["value"] (P_is_integer A) := ⟨f_is_integer, fd_is_integer, o_is_integer, mo a_is_integer, F_is_integer.kp, b_is_integer⟩
  have o_check_integer := ok_check_integer A (base := base) T F_check_integer c_is_integer
  have c_check_integer : Fn P w A.K mg base 3 "check_integer" ["value", "argument"] (P_check_integer A) := ⟨f_check_integer, fd_check_integer, o_check_integer, mo a_check_integer, F_check_integer.kp, b_check_integer⟩
  have o_check_range := ok_check_range A (base := base) T F_check_range c_check_integer
  have c_check_range : Fn P w A.K mg base 4 "check_range" ["value", "least", "greatest", "argument"] (P_check_range A) := ⟨f_check_range, fd_check_range, o_check_range, mo a_check_range, F_check_range.kp, b_check_range⟩
  have o_check_width := ok_check_width A (base := base) T F_check_width c_check_range
  have c_check_width : Fn P w A.K mg base 5 "check_width" ["width"] (P_check_width A) := ⟨f_check_width, fd_check_width, o_check_width, mo a_check_width, F_check_width.kp, b_check_width⟩
  have o_check_word := ok_check_word A (base := base) T F_check_word c_check_range
  have c_check_word : Fn P w A.K mg base 5 "check_word" ["width", "word", "argument"] (P_check_word A) := ⟨f_check_word, fd_check_word, o_check_word, mo a_check_word, F_check_word.kp, b_check_word⟩
  have o_bits_of_word := ok_bits_of_word A (base := base) T F_bits_of_word c_check_width c_check_word
  have c_bits_of_word : Fn P w A.K mg base 6 "bits_of_word" ["width", "word"] (P_bits_of_word A) := ⟨f_bits_of_word, fd_bits_of_word, o_bits_of_word, mo a_bits_of_word, F_bits_of_word.kp, b_bits_of_word⟩
  have o_written_bits := ok_written_bits A (base := base) T F_written_bits 
  have c_written_bits : Fn P w A.K mg base 1 "written_bits" ["bits"] (P_written_bits A) := ⟨f_written_bits, fd_written_bits, o_written_bits, mo a_written_bits, F_written_bits.kp, b_written_bits⟩
  have o_format_word := ok_format_word A (base := base) T F_format_word c_bits_of_word c_written_bits
  have c_format_word : Fn P w A.K mg base 7 "format_word" ["width", "word"] (P_format_word A) := ⟨f_format_word, fd_format_word, o_format_word, mo a_format_word, F_format_word.kp, b_format_word⟩
  have o_places_of_set := ok_places_of_set A (base := base) T F_places_of_set c_check_width c_check_word
  have c_places_of_set : Fn P w A.K mg base 6 "places_of_set" ["width", "chosen"] (P_places_of_set A) := ⟨f_places_of_set, fd_places_of_set, o_places_of_set, mo a_places_of_set, F_places_of_set.kp, b_places_of_set⟩
  have o_format_set := ok_format_set A (base := base) T F_format_set c_places_of_set
  have c_format_set : Fn P w A.K mg base 7 "format_set" ["width", "chosen"] (P_format_set A) := ⟨f_format_set, fd_format_set, o_format_set, mo a_format_set, F_format_set.kp, b_format_set⟩
  have o_check_fraction := ok_check_fraction A (base := base) T F_check_fraction c_check_integer
  have c_check_fraction : Fn P w A.K mg base 4 "check_fraction" ["fraction", "argument"] (P_check_fraction A) := ⟨f_check_fraction, fd_check_fraction, o_check_fraction, mo a_check_fraction, F_check_fraction.kp, b_check_fraction⟩
  have o_ratio := ok_ratio A (base := base) T F_ratio c_check_integer
  have c_ratio : Fn P w A.K mg base 4 "ratio" ["top", "bottom"] (P_ratio A) := ⟨f_ratio, fd_ratio, o_ratio, mo a_ratio, F_ratio.kp, b_ratio⟩
  have o_format_ratio := ok_format_ratio A (base := base) T F_format_ratio c_check_fraction c_ratio
  have c_format_ratio : Fn P w A.K mg base 5 "format_ratio" ["fraction"] (P_format_ratio A) := ⟨f_format_ratio, fd_format_ratio, o_format_ratio, mo a_format_ratio, F_format_ratio.kp, b_format_ratio⟩
  have o_check_text := ok_check_text A (base := base) T F_check_text 
  have c_check_text : Fn P w A.K mg base 3 "check_text" ["text", "argument"] (P_check_text A) := ⟨f_check_text, fd_check_text, o_check_text, mo a_check_text, F_check_text.kp, b_check_text⟩
  have o_lone_hyphen := ok_lone_hyphen A (base := base) T F_lone_hyphen 
  have c_lone_hyphen : Fn P w A.K mg base 3 "lone_hyphen" ["text"] (P_lone_hyphen A) := ⟨f_lone_hyphen, fd_lone_hyphen, o_lone_hyphen, mo a_lone_hyphen, F_lone_hyphen.kp, b_lone_hyphen⟩
  have o_digit_at := ok_digit_at A (base := base) T F_digit_at 
  have c_digit_at : Fn P w A.K mg base 1 "digit_at" ["text", "position"] (P_digit_at A) := ⟨f_digit_at, fd_digit_at, o_digit_at, mo a_digit_at, F_digit_at.kp, b_digit_at⟩
  have o_check_row := ok_check_row A (base := base) T F_check_row 
  have c_check_row : Fn P w A.K mg base 3 "check_row" ["row", "least", "greatest", "argument"] (P_check_row A) := ⟨f_check_row, fd_check_row, o_check_row, mo a_check_row, F_check_row.kp, b_check_row⟩
  have o_check_bit := ok_check_bit A (base := base) T F_check_bit c_check_range
  have c_check_bit : Fn P w A.K mg base 5 "check_bit" ["bit", "argument"] (P_check_bit A) := ⟨f_check_bit, fd_check_bit, o_check_bit, mo a_check_bit, F_check_bit.kp, b_check_bit⟩
  have o_check_bits := ok_check_bits A (base := base) T F_check_bits c_check_row c_check_bit
  have c_check_bits : Fn P w A.K mg base 6 "check_bits" ["bits", "least", "greatest", "argument"] (P_check_bits A) := ⟨f_check_bits, fd_check_bits, o_check_bits, mo a_check_bits, F_check_bits.kp, b_check_bits⟩
  have o_word_of_bits := ok_word_of_bits A (base := base) T F_word_of_bits c_check_bits
  have c_word_of_bits : Fn P w A.K mg base 7 "word_of_bits" ["bits"] (P_word_of_bits A) := ⟨f_word_of_bits, fd_word_of_bits, o_word_of_bits, mo a_word_of_bits, F_word_of_bits.kp, b_word_of_bits⟩
  have o_parse_word := ok_parse_word A (base := base) T F_parse_word c_check_text c_lone_hyphen c_digit_at c_word_of_bits
  have c_parse_word : Fn P w A.K mg base 8 "parse_word" ["text"] (P_parse_word A) := ⟨f_parse_word, fd_parse_word, o_parse_word, mo a_parse_word, F_parse_word.kp, b_parse_word⟩
  have o_check_place := ok_check_place A (base := base) T F_check_place c_check_range
  have c_check_place : Fn P w A.K mg base 5 "check_place" ["width", "place", "argument"] (P_check_place A) := ⟨f_check_place, fd_check_place, o_check_place, mo a_check_place, F_check_place.kp, b_check_place⟩
  have o_check_places := ok_check_places A (base := base) T F_check_places c_check_row c_check_place
  have c_check_places : Fn P w A.K mg base 6 "check_places" ["width", "places", "least", "argument"] (P_check_places A) := ⟨f_check_places, fd_check_places, o_check_places, mo a_check_places, F_check_places.kp, b_check_places⟩
  have o_set_of_places := ok_set_of_places A (base := base) T F_set_of_places c_check_width c_check_places
  have c_set_of_places : Fn P w A.K mg base 7 "set_of_places" ["width", "places"] (P_set_of_places A) := ⟨f_set_of_places, fd_set_of_places, o_set_of_places, mo a_set_of_places, F_set_of_places.kp, b_set_of_places⟩
  have o_read_places := ok_read_places A (base := base) T F_read_places c_digit_at
  have c_read_places : Fn P w A.K mg base 3 "read_places" ["width", "text"] (P_read_places A) := ⟨f_read_places, fd_read_places, o_read_places, mo a_read_places, F_read_places.kp, b_read_places⟩
  have o_parse_set := ok_parse_set A (base := base) T F_parse_set c_check_width c_check_text c_lone_hyphen c_set_of_places c_read_places
  have c_parse_set : Fn P w A.K mg base 8 "parse_set" ["width", "text"] (P_parse_set A) := ⟨f_parse_set, fd_parse_set, o_parse_set, mo a_parse_set, F_parse_set.kp, b_parse_set⟩
  have o_read_number := ok_read_number A (base := base) T F_read_number c_digit_at
  have c_read_number : Fn P w A.K mg base 3 "read_number" ["text", "start", "least"] (P_read_number A) := ⟨f_read_number, fd_read_number, o_read_number, mo a_read_number, F_read_number.kp, b_read_number⟩
  have o_parse_ratio := ok_parse_ratio A (base := base) T F_parse_ratio c_check_text c_read_number c_ratio
  have c_parse_ratio : Fn P w A.K mg base 5 "parse_ratio" ["text"] (P_parse_ratio A) := ⟨f_parse_ratio, fd_parse_ratio, o_parse_ratio, mo a_parse_ratio, F_parse_ratio.kp, b_parse_ratio⟩
  have ck_format_word_word_width : FnK P w A.K mg base 7 "format_word" ["width", "word"] ["word", "width"] [1, 0] (P_format_word A) := ⟨f_format_word, fd_format_word, o_format_word, mo a_format_word, F_format_word.kp, by
    obtain ⟨_, _, _, _, _, _, _, _, _, e, _⟩ := F_format_word.ex
    subst e
    exact fun s ws _ hl => match ws, hl with | [_, _], _ => .of_eq rfl⟩
  have ck_format_set_width_chosen : FnK P w A.K mg base 7 "format_set" ["width", "chosen"] ["width", "chosen"] [0, 1] (P_format_set A) := ⟨f_format_set, fd_format_set, o_format_set, mo a_format_set, F_format_set.kp, by
    obtain ⟨_, _, _, _, _, _, _, _, _, e, _⟩ := F_format_set.ex
    subst e
    exact fun s ws _ hl => match ws, hl with | [_, _], _ => .of_eq rfl⟩
  have ck_format_ratio_fraction : FnK P w A.K mg base 5 "format_ratio" ["fraction"] ["fraction"] [0] (P_format_ratio A) := ⟨f_format_ratio, fd_format_ratio, o_format_ratio, mo a_format_ratio, F_format_ratio.kp, by
    obtain ⟨_, _, _, _, _, _, _, _, _, e, _⟩ := F_format_ratio.ex
    subst e
    exact fun s ws _ hl => match ws, hl with | [_], _ => .of_eq rfl⟩
  have ck_parse_word_text : FnK P w A.K mg base 8 "parse_word" ["text"] ["text"] [0] (P_parse_word A) := ⟨f_parse_word, fd_parse_word, o_parse_word, mo a_parse_word, F_parse_word.kp, by
    obtain ⟨_, _, _, _, _, _, _, _, _, e, _⟩ := F_parse_word.ex
    subst e
    exact fun s ws _ hl => match ws, hl with | [_], _ => .of_eq rfl⟩
  have ck_parse_set_text_width : FnK P w A.K mg base 8 "parse_set" ["width", "text"] ["text", "width"] [1, 0] (P_parse_set A) := ⟨f_parse_set, fd_parse_set, o_parse_set, mo a_parse_set, F_parse_set.kp, by
    obtain ⟨_, _, _, _, _, _, _, _, _, e, _⟩ := F_parse_set.ex
    subst e
    exact fun s ws _ hl => match ws, hl with | [_, _], _ => .of_eq rfl⟩
  have ck_parse_ratio_text : FnK P w A.K mg base 5 "parse_ratio" ["text"] ["text"] [0] (P_parse_ratio A) := ⟨f_parse_ratio, fd_parse_ratio, o_parse_ratio, mo a_parse_ratio, F_parse_ratio.kp, by
    obtain ⟨_, _, _, _, _, _, _, _, _, e, _⟩ := F_parse_ratio.ex
    subst e
    exact fun s ws _ hl => match ws, hl with | [_], _ => .of_eq rfl⟩
  have o_l_ask := ok_l_ask A (base := base) T F_l_ask c_format_word c_format_set c_format_ratio c_parse_word c_parse_set c_parse_ratio ck_format_word_word_width ck_format_set_width_chosen ck_format_ratio_fraction ck_parse_word_text ck_parse_set_text_width ck_parse_ratio_text
  have c_l_ask : Fn P w A.K mg base 9 "_law_ask" ["which", "given"] (P_l_ask A) := ⟨f_l_ask, fd_l_ask, o_l_ask, mo a_l_ask, F_l_ask.kp, b_l_ask⟩
  have o_l_kinds := ok_l_kinds A T F_l_kinds 
  have c_l_kinds : FnX P w A.K mg base 2 "_law_kinds" ["caught"] (P_l_kinds A) := ⟨f_l_kinds, fd_l_kinds, o_l_kinds, mo a_l_kinds, F_l_kinds.kp, b_l_kinds⟩
  have o_l_refusal := ok_l_refusal A T F_l_refusal c_l_kinds
  have c_l_refusal : FnX P w A.K mg base 4 "_law_refusal" ["caught"] (P_l_refusal A) := ⟨f_l_refusal, fd_l_refusal, o_l_refusal, mo a_l_refusal, F_l_refusal.kp, b_l_refusal⟩
  have o_l_told := ok_l_told A (base := base) T F_l_told c_l_ask c_l_refusal
  have c_l_told : Fn P w A.K mg base 11 "_law_told" ["which", "given"] (P_l_told A) := ⟨f_l_told, fd_l_told, o_l_told, mo a_l_told, F_l_told.kp, b_l_told⟩
  have o_l_written := ok_l_written A (base := base) T F_l_written c_l_fault c_l_answer c_l_copy c_l_same c_l_told
  have c_l_written : Fn P w A.K mg base 12 "_law_written" ["which", "given"] (P_l_written A) := ⟨f_l_written, fd_l_written, o_l_written, mo a_l_written, F_l_written.kp, b_l_written⟩
  have o_l_read := ok_l_read A (base := base) T F_l_read c_l_same c_l_told c_l_copy
  have c_l_read : Fn P w A.K mg base 12 "_law_read" ["which", "given", "value"] (P_l_read A) := ⟨f_l_read, fd_l_read, o_l_read, mo a_l_read, F_l_read.kp, b_l_read⟩
  have o_l_back := ok_l_back A (base := base) T F_l_back c_l_read c_format_word c_format_set c_l_lowest c_format_ratio c_l_ratio_text
  have c_l_back : Fn P w A.K mg base 13 "_law_back" ["wide", "here", "mask", "pair", "many"] (P_l_back A) := ⟨f_l_back, fd_l_back, o_l_back, mo a_l_back, F_l_back.kp, b_l_back⟩
  have o_law := ok_law A (base := base) T F_law c_l_store c_l_width c_l_word c_l_small_ratio c_l_near c_l_fraction c_l_beside c_l_take c_l_odd_fraction c_l_great c_l_written c_l_back
  exact o_law.imp fun vs H Q E z => by
    obtain ⟨a, ns, e1, e2, e3⟩ := z
    exact ⟨a, ns, e1, e2, CFA, e3⟩
theorem walk {l : PySem.W.OpenLaw} {q : Program} {loose : List Str} {XP : (Str → Option Value) → Heap → Prop} {YP : World → Heap → Prop} {d : DefRec} {K : Params → PySem.W.Frag} (hn : l.most = some 63) (hdf : d.params.defaults = [])
    (hY : ∀ (w : World) (h : Heap), YP w h → (K w.params).In h)
    (F : ∀ (w : World) (mg : Str → Option Value) (fa : Addr) (h : Heap), (K w.params).In h → h.Ns mainGlobals mg → mg d.name = some (.ref fa) →
      ∃ fd : FuncData, (∀ (s : Shared) (u : Value), BindsTo s fd ⟨[u], []⟩ [("script", u)]) ∧ ∀ base : Heap, (K w.params).In base → base.Ns mainGlobals mg → FnOk l.prog w (K w.params) mg base (L2N.CX l.prog w) 14 fa fd ["script"] (spL (K w.params))) :
    PySem.W.WalkO q loose XP YP l.row.toRowW d [] (fun f vs => PySem.call f vs) :=
  L2.walk_of (n := 63) (k := 14) (x := "script") (CX := fun w => L2N.CX l.prog w) (sp := fun w => spL (K w.params)) hn (by decide) hdf ⟨rfl, by decide, by decide⟩ hY F (fun _ _ a ns _ _ hS => ⟨a, ns, rfl, hS, fun _ => rfl⟩) fun _ H s e s' z => by
    obtain ⟨_, _, _, _, _, _, _, _, _, _, _, _, _, _, _, _, z⟩ := z
end K07
end Bv
open PySem PySem.W PyProof.Rows in
set_option maxRecDepth 100000 in
set_option maxHeartbeats 0 in
theorem PySem.Challenge.cw_bitshades_k07_written_forms_read_back_holds : PySem.Challenge.rw_bitshades_k07_written_forms_read_back.Holds := by
  w_on; o_law; k_head; (case hw => w_witness2)
  k_fill
  refine Bv.K07.walk (l := PySem.Challenge.rw_bitshades_k07_written_forms_read_back) rfl rfl (fun w h Y => PySem.W.kIn_of Y) ?F
  case F =>
    intro w mg fa h KX G hmg
    refine' Bv.K07.all_mk KX G hmg ?aS ?a0 ?a1 ?a2 ?a3 ?a4 ?a5 ?a6 ?a7 ?a8 ?a9 ?a10 ?a11 ?x0 ?x1 ?x2 ?x3 ?cn ?ct ?k0_0 ?k0_1 ?k0_2 ?k0_3 ?k0_4 ?k0_5 ?k0_6 ?k0_7 ?k0_8 ?k0_9 ?k0_10 ?k0_11 ?k0_v ?k0_s ?k1_0 ?k1_1 ?k1_2 ?k1_3 ?k1_4 ?k1_5 ?k1_6 ?k1_7 ?k1_8 ?k1_9 ?k1_10 ?k1_11 ?k1_v ?k1_s ?k2_0 ?k2_1 ?k2_2 ?k2_3 ?k2_4 ?k2_5 ?k2_6 ?k2_7 ?k2_8 ?k2_9 ?k2_10 ?k2_11 ?k2_v ?k2_s ?z_ValueError ?z_abs ?z_bool ?z_enumerate ?z_int ?z_isinstance ?z_len ?z_list ?z_max ?z_min ?z_range ?z_reversed ?z_str ?z_sum ?z_tuple ?z_gcd ?z_MOST_CHARACTERS ?z_MOST_DIGITS ?z_MOST_WIDTH ?z_DIGITS ?z_nd ?d_is_integer ?d_check_integer ?d_check_range ?d_check_word ?d_check_place ?d_check_bit ?d_check_text ?d_check_row ?d_check_bits ?d_check_places ?d_check_fraction ?d_ratio ?d_check_width ?d_word_of_bits ?d_bits_of_word ?d_set_of_places ?d_places_of_set ?d_written_bits ?d_digit_at ?d_format_word ?d_lone_hyphen ?d_parse_word ?d_format_set ?d_parse_set ?d_read_places ?d_format_ratio ?d_parse_ratio ?d_read_number ?d_l_mixed ?d_l_wide ?d_l_store ?d_l_take ?d_l_near ?d_l_same ?d_l_copy ?d_l_places ?d_l_width ?d_l_word ?d_l_ten ?d_l_integer ?d_l_lowest ?d_l_fraction ?d_l_word_text ?d_l_set_text ?d_l_ratio_text ?d_l_number_fault ?d_l_fraction_fault ?d_l_first_fault ?d_l_odd_number ?d_l_odd_fraction ?d_l_kinds ?d_l_refusal ?d_l_told ?d_l_ask ?d_l_fault ?d_l_answer ?d_l_written ?d_l_read ?d_l_small_ratio ?d_l_beside ?d_l_back ?d_l_great ?d_law
    (case aS => first | k_is | kernel_rfl)
    (case a0 => first | k_is | kernel_rfl)
    (case a1 => first | k_is | kernel_rfl)
    (case a2 => first | k_is | kernel_rfl)
    (case a3 => first | k_is | kernel_rfl)
    (case a4 => first | k_is | kernel_rfl)
    (case a5 => first | k_is | kernel_rfl)
    (case a6 => first | k_is | kernel_rfl)
    (case a7 => first | k_is | kernel_rfl)
    (case a8 => first | k_is | kernel_rfl)
    (case a9 => first | k_is | kernel_rfl)
    (case a10 => first | k_is | kernel_rfl)
    (case a11 => first | k_is | kernel_rfl)
    (case x0 => refine' Bv.K07.xf_mk ?xL ?sa ?exC ?tyC ?kC ?ga ?gg ?hd ?ca ?cm ?no ?ai ?ti ?l ?c ?k; (case xL => k_is); (case sa => k_is); (case exC => k_is); (case tyC => k_is); (case kC => k_is); (case ga => k_is); (case gg => k_is); (case hd => k_is); (case ca => k_is); (case cm => k_is); (case no => k_is); (case ai => k_is); (case ti => k_is); (case l => k_is); (case c => k_is); (case k => k_is))
    (case x1 => refine' Bv.K07.xf_mk ?xL ?sa ?exC ?tyC ?kC ?ga ?gg ?hd ?ca ?cm ?no ?ai ?ti ?l ?c ?k; (case xL => k_is); (case sa => k_is); (case exC => k_is); (case tyC => k_is); (case kC => k_is); (case ga => k_is); (case gg => k_is); (case hd => k_is); (case ca => k_is); (case cm => k_is); (case no => k_is); (case ai => k_is); (case ti => k_is); (case l => k_is); (case c => k_is); (case k => k_is))
    (case x2 => refine' Bv.K07.xf_mk ?xL ?sa ?exC ?tyC ?kC ?ga ?gg ?hd ?ca ?cm ?no ?ai ?ti ?l ?c ?k; (case xL => k_is); (case sa => k_is); (case exC => k_is); (case tyC => k_is); (case kC => k_is); (case ga => k_is); (case gg => k_is); (case hd => k_is); (case ca => k_is); (case cm => k_is); (case no => k_is); (case ai => k_is); (case ti => k_is); (case l => k_is); (case c => k_is); (case k => k_is))
    (case x3 => refine' Bv.K07.xf_mk ?xL ?sa ?exC ?tyC ?kC ?ga ?gg ?hd ?ca ?cm ?no ?ai ?ti ?l ?c ?k; (case xL => k_is); (case sa => k_is); (case exC => k_is); (case tyC => k_is); (case kC => k_is); (case ga => k_is); (case gg => k_is); (case hd => k_is); (case ca => k_is); (case cm => k_is); (case no => k_is); (case ai => k_is); (case ti => k_is); (case l => k_is); (case c => k_is); (case k => k_is))
    (case cn => first | k_is | kernel_rfl)
    (case ct => first | k_is | kernel_rfl)
    (case k0_0 => first | k_is | kit_is | kernel_rfl)
    (case k0_1 => first | k_is | kit_is | kernel_rfl)
    (case k0_2 => first | k_is | kit_is | kernel_rfl)
    (case k0_3 => first | k_is | kit_is | kernel_rfl)
    (case k0_4 => first | k_is | kit_is | kernel_rfl)
    (case k0_5 => first | k_is | kit_is | kernel_rfl)
    (case k0_6 => first | k_is | kit_is | kernel_rfl)
    (case k0_7 => first | k_is | kit_is | kernel_rfl)
    (case k0_8 => first | k_is | kit_is | kernel_rfl)
    (case k0_9 => first | k_is | kit_is | kernel_rfl)
    (case k0_10 => first | k_is | kit_is | kernel_rfl)
    (case k0_11 => first | k_is | kit_is | kernel_rfl)
    (case k0_v => first | k_is | kit_is | kernel_rfl)
    (case k0_s => first | k_is | kit_is | kernel_rfl)
    (case k1_0 => first | k_is | kit_is | kernel_rfl)
    (case k1_1 => first | k_is | kit_is | kernel_rfl)
    (case k1_2 => first | k_is | kit_is | kernel_rfl)
    (case k1_3 => first | k_is | kit_is | kernel_rfl)
    (case k1_4 => first | k_is | kit_is | kernel_rfl)
    (case k1_5 => first | k_is | kit_is | kernel_rfl)
    (case k1_6 => first | k_is | kit_is | kernel_rfl)
    (case k1_7 => first | k_is | kit_is | kernel_rfl)
    (case k1_8 => first | k_is | kit_is | kernel_rfl)
    (case k1_9 => first | k_is | kit_is | kernel_rfl)
    (case k1_10 => first | k_is | kit_is | kernel_rfl)
    (case k1_11 => first | k_is | kit_is | kernel_rfl)
    (case k1_v => first | k_is | kit_is | kernel_rfl)
    (case k1_s => first | k_is | kit_is | kernel_rfl)
    (case k2_0 => first | k_is | kit_is | kernel_rfl)
    (case k2_1 => first | k_is | kit_is | kernel_rfl)
    (case k2_2 => first | k_is | kit_is | kernel_rfl)
    (case k2_3 => first | k_is | kit_is | kernel_rfl)
    (case k2_4 => first | k_is | kit_is | kernel_rfl)
    (case k2_5 => first | k_is | kit_is | kernel_rfl)
    (case k2_6 => first | k_is | kit_is | kernel_rfl)
    (case k2_7 => first | k_is | kit_is | kernel_rfl)
    (case k2_8 => first | k_is | kit_is | kernel_rfl)
    (case k2_9 => first | k_is | kit_is | kernel_rfl)
    (case k2_10 => first | k_is | kit_is | kernel_rfl)
    (case k2_11 => first | k_is | kit_is | kernel_rfl)
    (case k2_v => first | k_is | kit_is | kernel_rfl)
    (case k2_s => first | k_is | kit_is | kernel_rfl)
    (case z_ValueError => first | k_is | kernel_rfl)
    (case z_abs => first | k_is | kernel_rfl)
    (case z_bool => first | k_is | kernel_rfl)
    (case z_enumerate => first | k_is | kernel_rfl)
    (case z_int => first | k_is | kernel_rfl)
    (case z_isinstance => first | k_is | kernel_rfl)
    (case z_len => first | k_is | kernel_rfl)
    (case z_list => first | k_is | kernel_rfl)
    (case z_max => first | k_is | kernel_rfl)
    (case z_min => first | k_is | kernel_rfl)
    (case z_range => first | k_is | kernel_rfl)
    (case z_reversed => first | k_is | kernel_rfl)
    (case z_str => first | k_is | kernel_rfl)
    (case z_sum => first | k_is | kernel_rfl)
    (case z_tuple => first | k_is | kernel_rfl)
    (case z_gcd => first | k_is | kernel_rfl)
    (case z_MOST_CHARACTERS => first | k_is | kernel_rfl)
    (case z_MOST_DIGITS => first | k_is | kernel_rfl)
    (case z_MOST_WIDTH => first | k_is | kernel_rfl)
    (case z_DIGITS => first | k_is | kernel_rfl)
    (case z_nd => first | k_is | kernel_rfl)
    (case d_is_integer => refine' Bv.K07.dn_mk ?a ?l ?c ?k; (case a => k_is); (case l => k_is); (case c => k_is); (case k => k_is))
    (case d_check_integer => refine' Bv.K07.dn_mk ?a ?l ?c ?k; (case a => k_is); (case l => k_is); (case c => k_is); (case k => k_is))
    (case d_check_range => refine' Bv.K07.dn_mk ?a ?l ?c ?k; (case a => k_is); (case l => k_is); (case c => k_is); (case k => k_is))
    (case d_check_word => refine' Bv.K07.dn_mk ?a ?l ?c ?k; (case a => k_is); (case l => k_is); (case c => k_is); (case k => k_is))
    (case d_check_place => refine' Bv.K07.dn_mk ?a ?l ?c ?k; (case a => k_is); (case l => k_is); (case c => k_is); (case k => k_is))
    (case d_check_bit => refine' Bv.K07.dn_mk ?a ?l ?c ?k; (case a => k_is); (case l => k_is); (case c => k_is); (case k => k_is))
    (case d_check_text => refine' Bv.K07.dn_mk ?a ?l ?c ?k; (case a => k_is); (case l => k_is); (case c => k_is); (case k => k_is))
    (case d_check_row => refine' Bv.K07.dn_mk ?a ?l ?c ?k; (case a => k_is); (case l => k_is); (case c => k_is); (case k => k_is))
    (case d_check_bits => refine' Bv.K07.dn_mk ?a ?l ?c ?k; (case a => k_is); (case l => k_is); (case c => k_is); (case k => k_is))
    (case d_check_places => refine' Bv.K07.dn_mk ?a ?l ?c ?k; (case a => k_is); (case l => k_is); (case c => k_is); (case k => k_is))
    (case d_check_fraction => refine' Bv.K07.dn_mk ?a ?l ?c ?k; (case a => k_is); (case l => k_is); (case c => k_is); (case k => k_is))
    (case d_ratio => refine' Bv.K07.dn_mk ?a ?l ?c ?k; (case a => k_is); (case l => k_is); (case c => k_is); (case k => k_is))
    (case d_check_width => refine' Bv.K07.dn_mk ?a ?l ?c ?k; (case a => k_is); (case l => k_is); (case c => k_is); (case k => k_is))
    (case d_word_of_bits => refine' Bv.K07.dn_mk ?a ?l ?c ?k; (case a => k_is); (case l => k_is); (case c => k_is); (case k => k_is))
    (case d_bits_of_word => refine' Bv.K07.dn_mk ?a ?l ?c ?k; (case a => k_is); (case l => k_is); (case c => k_is); (case k => k_is))
    (case d_set_of_places => refine' Bv.K07.dn_mk ?a ?l ?c ?k; (case a => k_is); (case l => k_is); (case c => k_is); (case k => k_is))
    (case d_places_of_set => refine' Bv.K07.dn_mk ?a ?l ?c ?k; (case a => k_is); (case l => k_is); (case c => k_is); (case k => k_is))
    (case d_written_bits => refine' Bv.K07.dn_mk ?a ?l ?c ?k; (case a => k_is); (case l => k_is); (case c => k_is); (case k => k_is))
    (case d_digit_at => refine' Bv.K07.dn_mk ?a ?l ?c ?k; (case a => k_is); (case l => k_is); (case c => k_is); (case k => k_is))
    (case d_format_word => refine' Bv.K07.dn_mk ?a ?l ?c ?k; (case a => k_is); (case l => k_is); (case c => k_is); (case k => k_is))
    (case d_lone_hyphen => refine' Bv.K07.dn_mk ?a ?l ?c ?k; (case a => k_is); (case l => k_is); (case c => k_is); (case k => k_is))
    (case d_parse_word => refine' Bv.K07.dn_mk ?a ?l ?c ?k; (case a => k_is); (case l => k_is); (case c => k_is); (case k => k_is))
    (case d_format_set => refine' Bv.K07.dn_mk ?a ?l ?c ?k; (case a => k_is); (case l => k_is); (case c => k_is); (case k => k_is))
    (case d_parse_set => refine' Bv.K07.dn_mk ?a ?l ?c ?k; (case a => k_is); (case l => k_is); (case c => k_is); (case k => k_is))
    (case d_read_places => refine' Bv.K07.dn_mk ?a ?l ?c ?k; (case a => k_is); (case l => k_is); (case c => k_is); (case k => k_is))
    (case d_format_ratio => refine' Bv.K07.dn_mk ?a ?l ?c ?k; (case a => k_is); (case l => k_is); (case c => k_is); (case k => k_is))
    (case d_parse_ratio => refine' Bv.K07.dn_mk ?a ?l ?c ?k; (case a => k_is); (case l => k_is); (case c => k_is); (case k => k_is))
    (case d_read_number => refine' Bv.K07.dn_mk ?a ?l ?c ?k; (case a => k_is); (case l => k_is); (case c => k_is); (case k => k_is))
    (case d_l_mixed => refine' Bv.K07.dn_mk ?a ?l ?c ?k; (case a => k_is); (case l => k_is); (case c => k_is); (case k => k_is))
    (case d_l_wide => refine' Bv.K07.dn_mk ?a ?l ?c ?k; (case a => k_is); (case l => k_is); (case c => k_is); (case k => k_is))
    (case d_l_store => refine' Bv.K07.dn_mk ?a ?l ?c ?k; (case a => k_is); (case l => k_is); (case c => k_is); (case k => k_is))
    (case d_l_take => refine' Bv.K07.dn_mk ?a ?l ?c ?k; (case a => k_is); (case l => k_is); (case c => k_is); (case k => k_is))
    (case d_l_near => refine' Bv.K07.dn_mk ?a ?l ?c ?k; (case a => k_is); (case l => k_is); (case c => k_is); (case k => k_is))
    (case d_l_same => refine' Bv.K07.dn_mk ?a ?l ?c ?k; (case a => k_is); (case l => k_is); (case c => k_is); (case k => k_is))
    (case d_l_copy => refine' Bv.K07.dn_mk ?a ?l ?c ?k; (case a => k_is); (case l => k_is); (case c => k_is); (case k => k_is))
    (case d_l_places => refine' Bv.K07.dn_mk ?a ?l ?c ?k; (case a => k_is); (case l => k_is); (case c => k_is); (case k => k_is))
    (case d_l_width => refine' Bv.K07.dn_mk ?a ?l ?c ?k; (case a => k_is); (case l => k_is); (case c => k_is); (case k => k_is))
    (case d_l_word => refine' Bv.K07.dn_mk ?a ?l ?c ?k; (case a => k_is); (case l => k_is); (case c => k_is); (case k => k_is))
    (case d_l_ten => refine' Bv.K07.dn_mk ?a ?l ?c ?k; (case a => k_is); (case l => k_is); (case c => k_is); (case k => k_is))
    (case d_l_integer => refine' Bv.K07.dn_mk ?a ?l ?c ?k; (case a => k_is); (case l => k_is); (case c => k_is); (case k => k_is))
    (case d_l_lowest => refine' Bv.K07.dn_mk ?a ?l ?c ?k; (case a => k_is); (case l => k_is); (case c => k_is); (case k => k_is))
    (case d_l_fraction => refine' Bv.K07.dn_mk ?a ?l ?c ?k; (case a => k_is); (case l => k_is); (case c => k_is); (case k => k_is))
    (case d_l_word_text => refine' Bv.K07.dn_mk ?a ?l ?c ?k; (case a => k_is); (case l => k_is); (case c => k_is); (case k => k_is))
    (case d_l_set_text => refine' Bv.K07.dn_mk ?a ?l ?c ?k; (case a => k_is); (case l => k_is); (case c => k_is); (case k => k_is))
    (case d_l_ratio_text => refine' Bv.K07.dn_mk ?a ?l ?c ?k; (case a => k_is); (case l => k_is); (case c => k_is); (case k => k_is))
    (case d_l_number_fault => refine' Bv.K07.dn_mk ?a ?l ?c ?k; (case a => k_is); (case l => k_is); (case c => k_is); (case k => k_is))
    (case d_l_fraction_fault => refine' Bv.K07.dn_mk ?a ?l ?c ?k; (case a => k_is); (case l => k_is); (case c => k_is); (case k => k_is))
    (case d_l_first_fault => refine' Bv.K07.dn_mk ?a ?l ?c ?k; (case a => k_is); (case l => k_is); (case c => k_is); (case k => k_is))
    (case d_l_odd_number => refine' Bv.K07.dn_mk ?a ?l ?c ?k; (case a => k_is); (case l => k_is); (case c => k_is); (case k => k_is))
    (case d_l_odd_fraction => refine' Bv.K07.dn_mk ?a ?l ?c ?k; (case a => k_is); (case l => k_is); (case c => k_is); (case k => k_is))
    (case d_l_kinds => refine' Bv.K07.dn_mk ?a ?l ?c ?k; (case a => k_is); (case l => k_is); (case c => k_is); (case k => k_is))
    (case d_l_refusal => refine' Bv.K07.dn_mk ?a ?l ?c ?k; (case a => k_is); (case l => k_is); (case c => k_is); (case k => k_is))
    (case d_l_told => refine' Bv.K07.dn_mk ?a ?l ?c ?k; (case a => k_is); (case l => k_is); (case c => k_is); (case k => k_is))
    (case d_l_ask => refine' Bv.K07.dn_mk ?a ?l ?c ?k; (case a => k_is); (case l => k_is); (case c => k_is); (case k => k_is))
    (case d_l_fault => refine' Bv.K07.dn_mk ?a ?l ?c ?k; (case a => k_is); (case l => k_is); (case c => k_is); (case k => k_is))
    (case d_l_answer => refine' Bv.K07.dn_mk ?a ?l ?c ?k; (case a => k_is); (case l => k_is); (case c => k_is); (case k => k_is))
    (case d_l_written => refine' Bv.K07.dn_mk ?a ?l ?c ?k; (case a => k_is); (case l => k_is); (case c => k_is); (case k => k_is))
    (case d_l_read => refine' Bv.K07.dn_mk ?a ?l ?c ?k; (case a => k_is); (case l => k_is); (case c => k_is); (case k => k_is))
    (case d_l_small_ratio => refine' Bv.K07.dn_mk ?a ?l ?c ?k; (case a => k_is); (case l => k_is); (case c => k_is); (case k => k_is))
    (case d_l_beside => refine' Bv.K07.dn_mk ?a ?l ?c ?k; (case a => k_is); (case l => k_is); (case c => k_is); (case k => k_is))
    (case d_l_back => refine' Bv.K07.dn_mk ?a ?l ?c ?k; (case a => k_is); (case l => k_is); (case c => k_is); (case k => k_is))
    (case d_l_great => refine' Bv.K07.dn_mk ?a ?l ?c ?k; (case a => k_is); (case l => k_is); (case c => k_is); (case k => k_is))
    (case d_law => refine' Bv.K07.dn_mk ?a ?l ?c ?k; (case a => k_is); (case l => k_is); (case c => k_is); (case k => k_is))
