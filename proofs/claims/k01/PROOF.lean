import PyProof.Rows.All
import Wide.All
import OpenK.AllK
import Wide.FinOn
import HandS.ForMost
import HandS.Conv
import HandS.ExcCtx
import HandS.ExcField
import HandS.ExcInit
import HandS.ExcInitHot
import HandS.ExcIs
import HandS.Flow
import HandS.Gcd
import HandS.HotCalls
import HandS.IsInst
import HandS.List
import HandS.Rev
import HandS.Wide
import HandS.WideBits
import HandS.WordsDict
import KE.KExcIs
import PySem.Challenge.RW_bitshades_k01_sums_and_products_of_fract
set_option Elab.async false
set_option linter.all false
set_option maxRecDepth 100000
set_option maxHeartbeats 8000000
set_option exponentiation.threshold 20000
namespace Bv
open PySem PySem.Spec PyProof.Rows L2
/-! A layer of our own over HandS: readings that compute (a match on the values) and change the abstract heap by three words: Get, Alloc, Put. -/

/-- all that is tracked stays -/
def Ex (H H' : Hp) : Prop := ∀ a o, H a = some o → H' a = some o
/-- all but what stands at l stays -/
def ExB (l : Addr) (H H' : Hp) : Prop := ∀ a o, a ≠ l → H a = some o → H' a = some o
theorem Ex.refl (H : Hp) : Ex H H := fun _ _ h => h
theorem Ex.trans {H H1 H2 : Hp} (x : Ex H H1) (y : Ex H1 H2) : Ex H H2 := fun a o h => y a o (x a o h)
theorem Ex.but {H H' : Hp} (l : Addr) (x : Ex H H') : ExB l H H' := fun a o _ h => x a o h
theorem ExB.trans {l : Addr} {H H1 H2 : Hp} (x : ExB l H H1) (y : ExB l H1 H2) : ExB l H H2 := fun a o n h => y a o n (x a o n h)
theorem Ex.fresh {H H' : Hp} {p : Addr} (x : Ex H H') (h : H' p = none) : H p = none := by
  cases e : H p with
  | none => rfl
  | some o => rw [x p o e] at h; cases h
theorem Ex.new {H : Hp} {p : Addr} (o : HO) (h : H p = none) : Ex H (upd H p o) := fun a u e => by
  rw [upd_ne (ne_of_none e h)]; exact e
theorem Ex.over {H0 H H' : Hp} {l : Addr} (x : Ex H0 H) (y : ExB l H H') (n : H0 l = none) : Ex H0 H' := fun a o h =>
  y a o (ne_of_none h n) (x a o h)
theorem ExB.put {H : Hp} {l : Addr} (o : HO) : ExB l H (upd H l o) := fun a u n e => by
  rw [upd_ne n]; exact e

/-- what may be read at a -/
def view : HO → HO
  | .frz _ u => u
  | u => u
inductive Get (H : Hp) (a : Addr) (K : HO → Prop) : Prop where
  | mk (o : HO) (h : H a = some o) (k : K o) : Get H a K
inductive Alloc (H : Hp) (o : HO) (K : Addr → Hp → Prop) : Prop where
  | mk (k : ∀ p H', Ex H H' → H p = none → H' p = some o → K p H') : Alloc H o K
inductive Put (H : Hp) (a : Addr) (o : HO) (K : Hp → Prop) : Prop where
  | mk (k : ∀ H', ExB a H H' → H' a = some o → K H') : Put H a o K
inductive AtI {α : Type} (xs : List α) (i : Int) (K : α → Prop) : Prop where
  | mk (v : α) (h : atI xs i = some v) (k : K v) : AtI xs i K
theorem Alloc.at {H : Hp} {o : HO} {K : Addr → Hp → Prop} (x : Alloc H o K) (p : Addr) (hp : H p = none) : K p (upd H p o) := by
  cases x with
  | mk k => exact k p _ (Ex.new o hp) hp upd_same
theorem Put.at {H : Hp} {a : Addr} {o : HO} {K : Hp → Prop} (x : Put H a o K) : K (upd H a o) := by
  cases x with
  | mk k => exact k _ (ExB.put o) upd_same

section imp
variable {X : Cx}
theorem PE.imp {e : Expr} {t u : TE} (h : PE X e t) (k : ∀ σ H Q, u σ H Q → t σ H Q) : PE X e u := ⟨fun pins s σ H Q I q => h.run pins s σ H Q I (k σ H Q q)⟩
theorem PT.imp {e : Expr} {t u : TT} (h : PT X e t) (k : ∀ σ H Q, u σ H Q → t σ H Q) : PT X e u := ⟨fun pins s σ H Q I q => h.run pins s σ H Q I (k σ H Q q)⟩
theorem PW.imp {e : Expr} {t u : TT} (h : PW X e t) (k : ∀ σ H Q, u σ H Q → t σ H Q) : PW X e u := ⟨fun whole pins s σ H Q I q => h.run whole pins s σ H Q I (k σ H Q q)⟩
theorem PS.imp {e : Stmt} {t u : TS} (h : PS X e t) (k : ∀ D σ H, u D σ H → t D σ H) : PS X e u := ⟨fun pins s σ H D I q => h.run pins s σ H D I (k D σ H q)⟩
theorem OpR.imp {f : Value → Value → Sem Value} {r u : R2} (h : OpR X f r) (k : ∀ x y H Q, u x y H Q → r x y H Q) : OpR X f u :=
  fun pins s σ H x y v w Q I rx ry q => h pins s σ H x y v w Q I rx ry (k x y H Q q)
theorem CallR.imp {f : Value} {r u : List V → Hp → VK → Prop} (h : CallR X f r) (k : ∀ xs H Q, u xs H Q → r xs H Q) : CallR X f u :=
  fun pins s σ H xs us Q I rx q => h pins s σ H xs us Q I rx (k xs H Q q)
/-- ways by the values: at each pair some rule -/
theorem OpR.by {f : Value → Value → Sem Value} {u : R2} (k : ∀ x y H Q, u x y H Q → ∃ r, OpR X f r ∧ r x y H Q) : OpR X f u := fun pins s σ H x y v w Q I rx ry q => by
  obtain ⟨r, hr, q⟩ := k x y H Q q
  exact hr pins s σ H x y v w Q I rx ry q
theorem CallR.by {f : Value} {u : List V → Hp → VK → Prop} (k : ∀ xs H Q, u xs H Q → ∃ r, CallR X f r ∧ r xs H Q) : CallR X f u := fun pins s σ H xs us Q I rx q => by
  obtain ⟨r, hr, q⟩ := k xs H Q q
  exact hr pins s σ H xs us Q I rx q
end imp

/-! ### names, constants -/
def bVar (i : Nat) : TE := fun σ H Q => match σ[i]? with
  | some (some v) => Q v H
  | _ => False
section
variable {X : Cx}
theorem be_var (i : Nat) {x : Str} {pos : Pos} (hN : X.N[i]? = some x := by rfl) (hv : Vis X.env.scope x := by first | exact Or.inl rfl | exact Or.inr (Or.inl rfl) | exact Or.inr (Or.inr rfl)) (hd : (x == ("__debug__" : Str)) = false := by decide)
    (hcd : (x == ("__classdict__" : Str)) = false := by decide) : PE X (.Name x pos) (bVar i) := PE.imp (pe_var hN hv hd hcd) fun σ H Q q => by
  unfold bVar at q
  split at q
  · rename_i v e
    exact ⟨v, e, q⟩
  · exact q.elim
end

/-! ### operators on values -/
def bAdd : R2 := fun x y H Q => match x, y with
  | .int i, .int j => Q (.int (i + j)) H
  | .int i, .bl k => Q (.int (i + b2i k)) H
  | .str a, .str b => a.length + b.length ≤ sizeLine ∧ Q (.str (a ++ b)) H
  | .ref p, .ref q => Get H p fun o => Get H q fun u => match o, u with
    | .lst xs, .lst ys => xs.length + ys.length ≤ sizeLine ∧ Alloc H (.lst (xs ++ ys)) fun r H' => Q (.ref r) H'
    | _, _ => False
  | _, _ => False
def bSub : R2 := fun x y H Q => match x, y with
  | .int i, .int j => Q (.int (i - j)) H
  | _, _ => False
/-- a product: one factor small, or both of together some 2 ^ 27 bits -/
def CMulA (i j : Int) : Prop := CMul i j ∨ CMulX i j
theorem op_mulA {X : Cx} : OpR X (binaryOp .Mult) (rI CMulA fun i j => .int (i * j)) := opI fun _ _ _ _ _ _ _ hc q => mul_int q (hc.elim (·.ok) (·.ok))
def bMul : R2 := fun x y H Q => match x, y with
  | .int i, .int j => CMulA i j ∧ Q (.int (i * j)) H
  | .ref l, .int k => Get H l fun o => match o with
    | .lst xs => (-(2 ^ 63) ≤ k ∧ k < 2 ^ 63 ∧ xs.length * k.toNat ≤ sizeLine) ∧ Alloc H (.lst (List.replicate k.toNat xs).flatten) fun r H' => Q (.ref r) H'
    | _ => False
  | _, _ => False
/-- // by a divisor of any sign, its size below 2 ^ 9000 -/
def CDivX (_ j : Int) : Prop := j ≠ 0 ∧ j.natAbs.log2 < 9000
def bFdv : R2 := fun x y H Q => match x, y with
  | .int i, .int j => CDivX i j ∧ ∀ q, q = i.fdiv j → (0 < j → j * q ≤ i ∧ i < j * q + j) → Q (.int q) H
  | _, _ => False
def bMod : R2 := fun x y H Q => match x, y with
  | .int i, .int j => j ≠ 0 ∧ ∀ r, r = i.fmod j → (0 < j → 0 ≤ r ∧ r < j) → Q (.int r) H
  | _, _ => False
def bPow : R2 := fun x y H Q => match x, y with
  | .int i, .int j => CPow i j ∧ Q (.int (i ^ j.toNat)) H
  | _, _ => False
def bShl : R2 := fun x y H Q => match x, y with
  | .int i, .int j => CShl i j ∧ Q (.int (i * 2 ^ j.toNat)) H
  | _, _ => False
def bShr : R2 := fun x y H Q => match x, y with
  | .int i, .int j => 0 ≤ j ∧ Q (.int (i / 2 ^ j.toNat)) H
  | _, _ => False
def bBand : R2 := fun x y H Q => match x, y with
  | .int i, .int j => Q (.int (Builtin.bitAnd i j)) H
  | _, _ => False
def bBor : R2 := fun x y H Q => match x, y with
  | .int i, .int j => Q (.int (Builtin.bitOr i j)) H
  | _, _ => False
def bBxor : R2 := fun x y H Q => match x, y with
  | .int i, .int j => Q (.int (Builtin.bitXor i j)) H
  | _, _ => False
def bLt : R2 := fun x y H Q => match x, y with
  | .int i, .int j => Q (.bl (decide (i < j))) H
  | _, _ => False
def bLe : R2 := fun x y H Q => match x, y with
  | .int i, .int j => Q (.bl (decide (i ≤ j))) H
  | _, _ => False
def bGt : R2 := fun x y H Q => match x, y with
  | .int i, .int j => Q (.bl (decide (j < i))) H
  | _, _ => False
def bGe : R2 := fun x y H Q => match x, y with
  | .int i, .int j => Q (.bl (decide (j ≤ i))) H
  | _, _ => False
def isRef : V → Bool
  | .ref _ => true
  | _ => false
/-- == : scalars as they are; else as data -/
def bEq (K : PySem.W.Frag) : R2 := fun x y H Q => match x, y with
  | .int i, .int j => Q (.bl (decide (i = j))) H
  | .str i, .str j => Q (.bl (decide (i = j))) H
  | .bl i, .bl j => Q (.bl (decide (i = j))) H
  | .non, .non => Q (.bl true) H
  | .ref a, y => rEqD K (.ref a) y H Q
  | x, .ref a => rEqD K x (.ref a) H Q
  | x, y => scal x y = true ∧ Q (.bl (decide (x = y))) H
def bNe (K : PySem.W.Frag) : R2 := fun x y H Q => match x, y with
  | .int i, .int j => Q (.bl (!decide (i = j))) H
  | .str i, .str j => Q (.bl (!decide (i = j))) H
  | .bl i, .bl j => Q (.bl (!decide (i = j))) H
  | .non, .non => Q (.bl false) H
  | .ref a, y => rNeD K (.ref a) y H Q
  | x, .ref a => rNeD K x (.ref a) H Q
  | x, y => scal x y = true ∧ Q (.bl (!decide (x = y))) H
def isN : V → Bool
  | .non => true
  | _ => false
def bIsN : R2 := fun x y H Q => match y with
  | .non => Q (.bl (isN x)) H
  | _ => False
def bNotN : R2 := fun x y H Q => match y with
  | .non => Q (.bl (!isN x)) H
  | _ => False
def bIn (neg : Bool) : R2 := fun x y H Q => match y with
  | .ref p => Get H p fun o => match view o with
    | .lst xs => (flatV x = true ∧ xs.all flatV = true) ∧ Q (.bl (if neg then !inV x xs else inV x xs)) H
    | .tup xs => (flatV x = true ∧ xs.all flatV = true) ∧ Q (.bl (if neg then !inV x xs else inV x xs)) H
    | _ => False
  | _ => False
theorem isN_dec (x : V) : isN x = decide (x = .non) := by cases x <;> rfl


theorem rd_view {o u : HO} {H : Hp} {p : Addr} (e : H p = some o) (h : view o = u) : Rd H p u := by
  cases o with
  | frz ob w => exact .inr ⟨ob, by rw [e]; cases h; rfl⟩
  | _ => exact .inl (by rw [e, ← h]; rfl)
theorem sq_view {o : HO} {K : PySem.W.Frag} {H : Hp} {p : Addr} {xs : List V} (e : H p = some o) (h : view o = .lst xs) : SqL K H p xs := .inl (rd_view e h)
theorem st_view {o : HO} {K : PySem.W.Frag} {H : Hp} {p : Addr} {xs : List V} (e : H p = some o) (h : view o = .tup xs) : SqT K H p xs := .inl (rd_view e h)

section
variable {X : Cx}
theorem ob_add : OpR X (binaryOp .Add) bAdd := OpR.by fun x y H Q q => by
  cases x <;> cases y <;> first
    | exact False.elim q
    | exact ⟨_, op_add, _, _, rfl, rfl, q⟩
    | exact ⟨_, op_add_ib, _, _, rfl, rfl, q⟩
    | exact ⟨_, op_add_str, _, _, rfl, rfl, q.1, q.2⟩
    | (obtain ⟨o, ho, u, hu, q⟩ := q
       cases o <;> cases u <;> first
         | exact False.elim q
         | exact ⟨_, op_cat, _, _, _, _, rfl, rfl, ho, hu, q.1, fun r hr => q.2.at r hr⟩)
theorem ob_sub : OpR X (binaryOp .Sub) bSub := OpR.by fun x y H Q q => by
  cases x <;> cases y <;> first
    | exact False.elim q
    | exact ⟨_, op_sub, _, _, rfl, rfl, q⟩
theorem ob_mul : OpR X (binaryOp .Mult) bMul := OpR.by fun x y H Q q => by
  cases x <;> cases y <;> first
    | exact False.elim q
    | exact ⟨_, op_mulA, _, _, rfl, rfl, q.1, q.2⟩
    | (obtain ⟨o, ho, q⟩ := q
       cases o <;> first
         | exact False.elim q
         | exact ⟨_, op_rep, _, _, _, rfl, rfl, ho, q.1.1, q.1.2.1, q.1.2.2, fun r hr => q.2.at r hr⟩)
theorem op_fdivX : OpR X (binaryOp .FloorDiv) (rI CDivX fun i j => .int (i.fdiv j)) := opI fun _ _ _ _ _ _ _ hc q => floordiv_int hc.1 q (.inl (PyProof.noPylong_of_log2 hc.2))
theorem fdiv_at {i j : Int} (h : 0 < j) : j * i.fdiv j ≤ i ∧ i < j * i.fdiv j + j := by
  rw [Int.fdiv_eq_ediv_of_nonneg i (by omega)]
  have h1 := Int.mul_ediv_add_emod i j
  have h2 := Int.emod_nonneg i (show j ≠ 0 by omega)
  have h3 := Int.emod_lt_of_pos i h
  omega
theorem fmod_at {a b : Int} (h : 0 < b) : 0 ≤ a.fmod b ∧ a.fmod b < b := by
  rw [Int.fmod_eq_emod_of_nonneg a (by omega)]
  exact ⟨Int.emod_nonneg _ (by omega), Int.emod_lt_of_pos _ h⟩
theorem ob_fdv : OpR X (binaryOp .FloorDiv) bFdv := OpR.by fun x y H Q q => by
  cases x <;> cases y <;> first
    | exact False.elim q
    | exact ⟨_, op_fdivX, _, _, rfl, rfl, q.1, q.2 _ rfl fdiv_at⟩
theorem ob_mod : OpR X (binaryOp .Mod) bMod := OpR.by fun x y H Q q => by
  cases x <;> cases y <;> first
    | exact False.elim q
    | exact ⟨_, op_modN, _, _, rfl, rfl, q.1, q.2 _ rfl fmod_at⟩
theorem ob_pow : OpR X (binaryOp .Pow) bPow := OpR.by fun x y H Q q => by
  cases x <;> cases y <;> first
    | exact False.elim q
    | exact ⟨_, op_pow, _, _, rfl, rfl, q.1, q.2⟩
theorem ob_shl : OpR X (binaryOp .LShift) bShl := OpR.by fun x y H Q q => by
  cases x <;> cases y <;> first
    | exact False.elim q
    | exact ⟨_, op_shlW, _, _, rfl, rfl, q.1, q.2⟩
theorem ob_shr : OpR X (binaryOp .RShift) bShr := OpR.by fun x y H Q q => by
  cases x <;> cases y <;> first
    | exact False.elim q
    | exact ⟨_, op_shr, _, _, rfl, rfl, q.1, q.2⟩
theorem ob_and : OpR X (binaryOp .BitAnd) bBand := OpR.by fun x y H Q q => by
  cases x <;> cases y <;> first
    | exact False.elim q
    | exact ⟨_, op_and, _, _, rfl, rfl, q⟩
theorem ob_or : OpR X (binaryOp .BitOr) bBor := OpR.by fun x y H Q q => by
  cases x <;> cases y <;> first
    | exact False.elim q
    | exact ⟨_, op_or, _, _, rfl, rfl, q⟩
theorem ob_xor : OpR X (binaryOp .BitXor) bBxor := OpR.by fun x y H Q q => by
  cases x <;> cases y <;> first
    | exact False.elim q
    | exact ⟨_, op_xor, _, _, rfl, rfl, q⟩
theorem ob_lt : OpR X (compareOp .Lt) bLt := OpR.by fun x y H Q q => by
  cases x <;> cases y <;> first
    | exact False.elim q
    | exact ⟨_, op_lt, _, _, rfl, rfl, q⟩
theorem ob_le : OpR X (compareOp .LtE) bLe := OpR.by fun x y H Q q => by
  cases x <;> cases y <;> first
    | exact False.elim q
    | exact ⟨_, op_le, _, _, rfl, rfl, q⟩
theorem ob_gt : OpR X (compareOp .Gt) bGt := OpR.by fun x y H Q q => by
  cases x <;> cases y <;> first
    | exact False.elim q
    | exact ⟨_, op_gt, _, _, rfl, rfl, q⟩
theorem ob_ge : OpR X (compareOp .GtE) bGe := OpR.by fun x y H Q q => by
  cases x <;> cases y <;> first
    | exact False.elim q
    | exact ⟨_, op_ge, _, _, rfl, rfl, q⟩
theorem dv_int (i j : Int) : decide (V.int i = V.int j) = decide (i = j) := by
  by_cases h : i = j
  · subst h; simp
  · simp [h]
theorem dv_str (i j : Str) : decide (V.str i = V.str j) = decide (i = j) := by
  by_cases h : i = j
  · subst h; simp
  · simp [h]
theorem dv_bl (i j : Bool) : decide (V.bl i = V.bl j) = decide (i = j) := by
  by_cases h : i = j
  · subst h; simp
  · simp [h]
theorem ob_eq (hu : X.A.units + 64 < cLine) : OpR X (compareOp .Eq) (bEq X.K) := OpR.by fun x y H Q q => by
  cases x <;> cases y <;> first
    | exact ⟨_, op_eq, rfl, by rw [dv_int]; exact q⟩
    | exact ⟨_, op_eq, rfl, by rw [dv_str]; exact q⟩
    | exact ⟨_, op_eq, rfl, by rw [dv_bl]; exact q⟩
    | exact ⟨_, op_eq, rfl, q⟩
    | exact ⟨_, op_eq, q.1, q.2⟩
    | exact ⟨_, op_eqD hu, q⟩
theorem ob_ne (hu : X.A.units + 64 < cLine) : OpR X (compareOp .NotEq) (bNe X.K) := OpR.by fun x y H Q q => by
  cases x <;> cases y <;> first
    | exact ⟨_, op_ne, rfl, by rw [dv_int]; exact q⟩
    | exact ⟨_, op_ne, rfl, by rw [dv_str]; exact q⟩
    | exact ⟨_, op_ne, rfl, by rw [dv_bl]; exact q⟩
    | exact ⟨_, op_ne, rfl, q⟩
    | exact ⟨_, op_ne, q.1, q.2⟩
    | exact ⟨_, op_neD hu, q⟩
theorem ob_isN : OpR X (compareOp .Is) bIsN := OpR.by fun x y H Q q => by
  cases y <;> first
    | exact False.elim q
    | exact ⟨_, op_isN, rfl, by rw [← isN_dec]; exact q⟩
theorem ob_notN : OpR X (compareOp .IsNot) bNotN := OpR.by fun x y H Q q => by
  cases y <;> first
    | exact False.elim q
    | exact ⟨_, op_notN, rfl, by rw [← isN_dec]; exact q⟩
theorem ob_in : OpR X (compareOp .In) (bIn false) := OpR.by fun x y H Q q => by
  cases y <;> first
    | exact False.elim q
    | (obtain ⟨o, ho, q⟩ := q
       cases e : view o <;> rw [e] at q <;> first
         | exact False.elim q
         | exact ⟨_, op_in_seq, _, _, rfl, .inl (sq_view ho e), q.1.1, q.1.2, q.2⟩
         | exact ⟨_, op_in_seq, _, _, rfl, .inr (st_view ho e), q.1.1, q.1.2, q.2⟩)
theorem ob_nin : OpR X (compareOp .NotIn) (bIn true) := OpR.by fun x y H Q q => by
  cases y <;> first
    | exact False.elim q
    | (obtain ⟨o, ho, q⟩ := q
       cases e : view o <;> rw [e] at q <;> first
         | exact False.elim q
         | exact ⟨_, op_notIn_seq, _, _, rfl, .inl (sq_view ho e), q.1.1, q.1.2, q.2⟩
         | exact ⟨_, op_notIn_seq, _, _, rfl, .inr (st_view ho e), q.1.1, q.1.2, q.2⟩)
end
abbrev Sg := L2.St

/-! ### a reading that may be weakened behind -/
def upE (t : TE) : TE := fun σ H Q => ∃ Q0 : VK, t σ H Q0 ∧ ∀ v H', Q0 v H' → Q v H'
def upA (t : TA) : TA := fun σ H Q => ∃ Q0 : List V → Hp → Prop, t σ H Q0 ∧ ∀ v H', Q0 v H' → Q v H'
def upT (t : TT) : TT := fun σ H Q => ∃ Q0 : Bool → Hp → Prop, t σ H Q0 ∧ ∀ v H', Q0 v H' → Q v H'
section
variable {X : Cx}
theorem PE.up {e : Expr} {t : TE} (h : PE X e t) : PE X e (upE t) := ⟨fun pins s σ H Q I ⟨Q0, q, k⟩ => thn (h.run pins s σ H Q0 I q) fun u s' ⟨v, H', I', r, q'⟩ => ⟨v, H', I', r, k _ _ q'⟩⟩
theorem PA.up {es : List Expr} {t : TA} (h : PA X es t) : PA X es (upA t) := ⟨fun pos pins s σ H Q I ⟨Q0, q, k⟩ => thn (h.run pos pins s σ H Q0 I q) fun u s' ⟨v, H', I', r, q'⟩ => ⟨v, H', I', r, k _ _ q'⟩⟩
theorem PT.up {e : Expr} {t : TT} (h : PT X e t) : PT X e (upT t) := ⟨fun pins s σ H Q I ⟨Q0, q, k⟩ => thn (h.run pins s σ H Q0 I q) fun u s' ⟨H', I', q'⟩ => ⟨H', I', k _ _ q'⟩⟩
end

/-! ### a branch -/
theorem br_if {c : Bool} {A B : Prop} (h : (c = true → A) ∧ (c = false → B)) : if c = true then A else B := by
  cases c with
  | true => rw [if_pos rfl]; exact h.1 rfl
  | false => rw [if_neg Bool.false_ne_true]; exact h.2 rfl

/-! ### tests -/
def bTst (t : TE) : TT := fun σ H Q => t σ H fun x H' => match x with
  | .bl k => Q k H'
  | _ => False
/-- the truth of a value -/
def bTru (t : TE) : TT := fun σ H Q => t σ H fun x H' => match x with
  | .non => Q false H'
  | .bl b => Q b H'
  | .int i => Q (i != 0) H'
  | .str y => y.length ≤ sizeLine ∧ Q ((y.length : Int) != 0) H'
  | .ref p => Get H' p fun o => match view o with
    | .lst xs => Q (!xs.isEmpty) H'
    | .tup xs => Q (!xs.isEmpty) H'
    | _ => False
  | _ => False
def bAnd (t u : TT) : TT := fun σ H Q => t σ H fun c H1 => (c = true → u σ H1 Q) ∧ (c = false → Q false H1)
def bOr (t u : TT) : TT := fun σ H Q => t σ H fun c H1 => (c = true → Q true H1) ∧ (c = false → u σ H1 Q)
def bAndV (ta tb : TE) : TE := fun σ H Q => ta σ H fun x H1 => match x with
  | .bl c => (c = true → tb σ H1 Q) ∧ (c = false → Q (.bl false) H1)
  | _ => False
def bOrV (ta tb : TE) : TE := fun σ H Q => ta σ H fun x H1 => match x with
  | .bl c => (c = true → Q (.bl true) H1) ∧ (c = false → tb σ H1 Q)
  | _ => False
def bNotV (ta : TE) : TE := fun σ H Q => ta σ H fun x H1 => match x with
  | .bl c => Q (.bl (!c)) H1
  | _ => False
def bIfE (t : TT) (ta tb : TE) : TE := fun σ H Q => t σ H fun c H1 => (c = true → ta σ H1 Q) ∧ (c = false → tb σ H1 Q)
def bNeg : V → Hp → VK → Prop := fun x H Q => match x with
  | .int i => Q (.int (-i)) H
  | _ => False
section
variable {X : Cx} {a b c : Expr} {ta tb tc : TE} {t u : TT} {pos : Pos}
theorem bTst_eq (t : TE) : bTst t = tTest t := by
  funext σ H Q
  unfold bTst tTest
  congr 1
  funext x H'
  cases x with
  | bl k => exact propext ⟨fun h => ⟨k, rfl, h⟩, fun ⟨j, e, h⟩ => by cases e; exact h⟩
  | _ => exact propext ⟨False.elim, fun ⟨_, e, _⟩ => nomatch e⟩
theorem bt_cmp {op : CmpOp} {r : R2} (ho : OpR X (compareOp op) r) (ha : PE X a ta) (hb : PE X b tb) (hm : behindInMarks op b = false := by first | exact nomark _ | rfl) : PT X (.Compare a [op] [b] pos) (bTst (tOp r ta tb)) := by
  rw [bTst_eq]; exact pt_cmpR ho ha hb hm
theorem be_cmp {op : CmpOp} {r : R2} (ho : OpR X (compareOp op) r) (ha : PE X a ta) (hb : PE X b tb) (hm : behindInMarks op b = false := by first | exact nomark _ | rfl) : PE X (.Compare a [op] [b] pos) (tOp r ta tb) := pe_cmpR ho ha hb hm
theorem bt_tru (ha : PE X a ta) (he : ∀ whole, isTrue a X.env whole = (do let v ← whole; standAt a.pos; holding [v] (truthy v)) := by intro _; rfl) : PT X a (bTru ta) :=
  PT.imp (pt_truth (PE.up ha) he) fun σ H Q q => ⟨_, q, fun x H' q => by
    cases x with
    | non => exact ⟨_, rfl, q⟩
    | bl b => exact ⟨_, rfl, q⟩
    | int i => exact ⟨_, rfl, q⟩
    | str y => exact ⟨_, ⟨q.1, rfl⟩, q.2⟩
    | ref p =>
      obtain ⟨o, ho, q⟩ := q
      cases e : view o <;> rw [e] at q <;> first
        | exact False.elim q
        | exact ⟨_, .inl ⟨_, sq_view ho e, rfl⟩, q⟩
        | exact ⟨_, .inr (.inl ⟨_, st_view ho e, rfl⟩), q⟩
    | _ => exact False.elim q⟩
theorem bt_and {r : List Expr} (ha : PT X a t) (hb : PW X (.BoolOp .And (b :: r) pos) u) : PW X (.BoolOp .And (a :: b :: r) pos) (bAnd t u) :=
  PW.imp (pw_and (PT.up ha) hb) fun σ H Q q => ⟨_, q, fun _ _ z => br_if z⟩
theorem bt_or {r : List Expr} (ha : PT X a t) (hb : PW X (.BoolOp .Or (b :: r) pos) u) : PW X (.BoolOp .Or (a :: b :: r) pos) (bOr t u) :=
  PW.imp (pw_or (PT.up ha) hb) fun σ H Q q => ⟨_, q, fun _ _ z => br_if z⟩
theorem bt_and1 (ha : PT X a t) : PW X (.BoolOp .And [a] pos) t := pw_and1 ha
theorem bt_or1 (ha : PT X a t) : PW X (.BoolOp .Or [a] pos) t := pw_or1 ha
theorem bt_not (ha : PT X a t) : PT X (.UnaryOp .Not a pos) (tNot t) := pt_not ha
theorem be_and {r : List Expr} (ha : PE X a ta) (hb : PE X (.BoolOp .And (b :: r) pos) tb) : PE X (.BoolOp .And (a :: b :: r) pos) (bAndV ta tb) :=
  PE.imp (pe_and (PE.up ha) hb) fun σ H Q q => ⟨_, q, fun x _ z => by
    cases x with
    | bl c => exact ⟨c, rfl, br_if z⟩
    | _ => exact False.elim z⟩
theorem be_or {r : List Expr} (ha : PE X a ta) (hb : PE X (.BoolOp .Or (b :: r) pos) tb) : PE X (.BoolOp .Or (a :: b :: r) pos) (bOrV ta tb) :=
  PE.imp (pe_or (PE.up ha) hb) fun σ H Q q => ⟨_, q, fun x _ z => by
    cases x with
    | bl c => exact ⟨c, rfl, br_if z⟩
    | _ => exact False.elim z⟩
theorem be_one {op : BoolOp} (ha : PE X a ta) : PE X (.BoolOp op [a] pos) ta := pe_one ha
theorem be_not (ha : PE X a ta) : PE X (.UnaryOp .Not a pos) (bNotV ta) :=
  PE.imp (pe_not (PE.up ha)) fun σ H Q q => ⟨_, q, fun x _ z => by
    cases x with
    | bl c => exact ⟨c, rfl, z⟩
    | _ => exact False.elim z⟩
theorem be_ife (hc : PT X c t) (ha : PE X a ta) (hb : PE X b tb) : PE X (.IfExp c a b pos) (bIfE t ta tb) :=
  PE.imp (pe_ifExp (PT.up hc) ha hb) fun σ H Q q => ⟨_, q, fun _ _ z => br_if z⟩
theorem ob_neg : UnR X (unaryOp .USub) bNeg := fun pins s σ H x v Q I rx q => by
  cases x <;> first
    | exact False.elim q
    | exact un_neg pins s σ H _ v Q I rx ⟨_, rfl, q⟩
theorem be_bin {op : Operator} {r : R2} (ho : OpR X (binaryOp op) r) (ha : PE X a ta) (hb : PE X b tb) : PE X (.BinOp a op b pos) (tOp r ta tb) := pe_op ho ha hb
theorem be_un {op : UnaryOp} {r : V → Hp → VK → Prop} (ho : UnR X (unaryOp op) r) (ha : PE X a ta) : PE X (.UnaryOp op a pos) (tUn r ta) := pe_un ho ha
end

/-! ### subscripts -/
def bIx : R2 := fun x y H Q => match x, y with
  | .ref p, .int i => Get H p fun o => match view o with
    | .lst xs => AtI xs i fun v => Q v H
    | .tup xs => AtI xs i fun v => Q v H
    | _ => False
  | .str z, .int i => z.length ≤ sizeLine ∧ AtI z.cps.toList i fun c => Q (.str ⟨#[c]⟩) H
  | _, _ => False
section
variable {X : Cx} {a b c : Expr} {ta tb tc : TE} {t u : TT} {pos : Pos}
theorem ob_ix : IxR X bIx := by
  intro value slice pins s σ H x y v u Q I rx ry q hs
  cases x <;> cases y <;> first
    | exact False.elim q
    | (obtain ⟨hz, c, e, q⟩ := q
       exact ix_seq value slice pins s σ H _ _ v u Q I rx ry (.inr (.inr ⟨_, _, _, rfl, rfl, hz, e, q⟩)) hs)
    | (obtain ⟨o, ho, q⟩ := q
       cases e : view o <;> rw [e] at q <;> first
         | exact False.elim q
         | (obtain ⟨w, hw, q⟩ := q
            exact ix_seq value slice pins s σ H _ _ v u Q I rx ry (.inl ⟨_, _, _, _, rfl, rfl, sq_view ho e, hw, q⟩) hs)
         | (obtain ⟨w, hw, q⟩ := q
            exact ix_seq value slice pins s σ H _ _ v u Q I rx ry (.inr (.inl ⟨_, _, _, _, rfl, rfl, st_view ho e, hw, q⟩)) hs))
theorem be_ix (ha : PE X a ta) (hb : PE X b tb) (hs : PlainIx b := by exact fun _ _ => rfl) : PE X (.Subscript a b pos) (tOp bIx ta tb) := pe_ix ob_ix ha hb hs
end

/-! ### displays, arguments -/
structure PAn (X : Cx) (es : List Expr) (t : TA) : Prop where
  run : ∀ (pos : Pos) (pins : List (Addr × Obj)) (s : Shared) (σ : Sg) (H : Hp) (Q : List V → Hp → Prop), Inv X pins σ H s → t σ H Q →
    wpAny (model X.prog X.w) X.A (spliced (backTo pos (starEach es X.env))) (fun us s' => us.length = es.length ∧ AP X pins σ Q us s') X.xe s
def bTup (t : TA) : TE := fun σ H Q => t σ H fun xs H1 => Alloc H1 (.tup xs) fun p H' => Q (.ref p) H'
def bLst (t : TA) : TE := fun σ H Q => t σ H fun xs H1 => Alloc H1 (.lst xs) fun p H' => Q (.ref p) H'
def bDct0 : TE := fun _ H Q => Alloc H (.dK []) fun p H' => Q (.ref p) H'
section
variable {X : Cx} {e : Expr} {es : List Expr} {te : TE} {t : TA} {pos : Pos}
theorem PAn.pa (h : PAn X es t) : PA X es t := ⟨fun pos pins s σ H Q I q => thn (h.run pos pins s σ H Q I q) fun _ _ z => z.2⟩
theorem ba_nil : PAn X [] tNil := ⟨fun pos pins s σ H Q I h => Calls.spliced_nil ⟨rfl, [], H, I, .nil, h⟩⟩
theorem ba_cons (ha : PE X e te) (hr : PAn X es t) (hs : starEach (e :: es) X.env = (false, eval e X.env) :: starEach es X.env := by rfl) : PAn X (e :: es) (tCons te t) := by
  refine ⟨fun pos pins s σ H Q I h => ?_⟩
  rw [hs]
  refine Calls.spliced_cons (thn (ha.run pins s σ H _ I h) ?_)
  intro u s1 ⟨x, H1, I1, r1, q1⟩
  refine thn (hr.run pos pins s1 σ H1 _ I1 q1) ?_
  intro us s2 ⟨hl, xs, H2, I2, r2, q2⟩
  exact ⟨congrArg (· + 1) hl, x :: xs, H2, I2, .cons r1 r2, q2⟩
/-- the arguments are as many as are written -/
def upN (n : Nat) (t : TA) : TA := fun σ H Q => ∃ Q0 : List V → Hp → Prop, t σ H Q0 ∧ ∀ xs H', xs.length = n → Q0 xs H' → Q xs H'
theorem PAn.up (h : PAn X es t) : PA X es (upN es.length t) := ⟨fun pos pins s σ H Q I ⟨Q0, q, k⟩ => by
  refine thn (h.run pos pins s σ H Q0 I q) ?_
  intro us s' ⟨hl, xs, H', I', r, z⟩
  exact ⟨xs, H', I', r, k _ _ (by rw [r.length, hl]) z⟩⟩
theorem lenA {n : Nat} {xs : List V} (e : xs.length = n) (h : n ≤ 1000) : xs.length ≤ sizeLine := Nat.le_of_lt (small1000 (by omega))
theorem be_tup {x1} (h : PAn X es t) (hl : es.length ≤ 1000 := by decide) : PE X (.Tuple es x1 pos) (bTup t) :=
  PE.imp (pe_tup h.up) fun σ H Q q => ⟨_, q, fun xs H1 n z => ⟨lenA n hl, fun p hp => z.at p hp⟩⟩
theorem be_lst (h : PAn X es t) (hl : es.length ≤ 1000 := by decide) : PE X (.List es pos) (bLst t) :=
  PE.imp (pe_lst h.up) fun σ H Q q => ⟨_, q, fun xs H1 n z => ⟨lenA n hl, fun p hp => z.at p hp⟩⟩
theorem be_dct0 : PE X (.Dict [] [] pos) bDct0 := PE.imp pe_dnewK fun σ H Q q => fun p hp => q.at p hp
end

/-! ### built-in functions and classes, called -/
inductive Ty where
  | non | bl | int | str | lst | tup | dct
  deriving DecidableEq
def Ty.nm : Ty → String
  | .non => "NoneType" | .bl => "bool" | .int => "int" | .str => "str" | .lst => "list" | .tup => "tuple" | .dct => "dict"
/-- an instance of a is one of b -/
def Ty.is : Ty → Ty → Bool
  | .non, .non => true | .bl, .bl => true | .bl, .int => true | .int, .int => true | .str, .str => true
  | .lst, .lst => true | .tup, .tup => true | .dct, .dct => true
  | _, _ => false
theorem Ty.kit {K : PySem.W.Frag} (a b : Ty) : PySem.W.kitOne K (.type a.nm) (.type b.nm) = some (a.is b) := kit_ty (by cases a <;> cases b <;> decide +kernel)
/-- the type of a tracked object -/
def Ty.ho : HO → Option Ty
  | .lst _ => some .lst
  | .tup _ => some .tup
  | .dK _ => some .dct
  | .dT _ => some .dct
  | _ => none
/-- isinstance(x, T) for one of these T -/
def bIsi (T : Ty) (te : TE) : TE := fun σ H Q => te σ H fun x H' => match x with
  | .non => Q (.bl (Ty.is .non T)) H'
  | .bl _ => Q (.bl (Ty.is .bl T)) H'
  | .int _ => Q (.bl (Ty.is .int T)) H'
  | .str _ => Q (.bl (Ty.is .str T)) H'
  | .ref p => Get H' p fun o => match view o with
    | .lst _ => Q (.bl (Ty.is .lst T)) H'
    | .tup _ => Q (.bl (Ty.is .tup T)) H'
    | .dK _ => Q (.bl (Ty.is .dct T)) H'
    | _ => False
  | _ => False
/-- isinstance(x, (T, U)) -/
def bIsi2 (T U : Ty) (te : TE) : TE := fun σ H Q => te σ H fun x H' => Alloc H' (.tup [.ty T.nm, .ty U.nm]) fun _ H2 => match x with
  | .non => Q (.bl (Ty.is .non T || Ty.is .non U)) H2
  | .bl _ => Q (.bl (Ty.is .bl T || Ty.is .bl U)) H2
  | .int _ => Q (.bl (Ty.is .int T || Ty.is .int U)) H2
  | .str _ => Q (.bl (Ty.is .str T || Ty.is .str U)) H2
  | .ref p => Get H2 p fun o => match view o with
    | .lst _ => Q (.bl (Ty.is .lst T || Ty.is .lst U)) H2
    | .tup _ => Q (.bl (Ty.is .tup T || Ty.is .tup U)) H2
    | .dK _ => Q (.bl (Ty.is .dct T || Ty.is .dct U)) H2
    | _ => False
  | _ => False
def rIsiT1 (T : Ty) : List V → Hp → VK → Prop := fun xs H Q => match xs with
  | [x, .ty n] => n = T.nm ∧ match x with
    | .non => Q (.bl (Ty.is .non T)) H
    | .bl _ => Q (.bl (Ty.is .bl T)) H
    | .int _ => Q (.bl (Ty.is .int T)) H
    | .str _ => Q (.bl (Ty.is .str T)) H
    | .ref p => Get H p fun o => match view o with
      | .lst _ => Q (.bl (Ty.is .lst T)) H
      | .tup _ => Q (.bl (Ty.is .tup T)) H
      | .dK _ => Q (.bl (Ty.is .dct T)) H
      | _ => False
    | _ => False
  | _ => False
theorem ty_of {K : PySem.W.Frag} {H : Hp} {p : Addr} {o : HO} {t : Ty} (e : H p = some o) (h : Ty.ho (view o) = some t) (hz : ∀ ob u, o = .frz ob u → (∃ xs, u = .lst xs) ∨ (∃ xs, u = .tup xs) ∨ ∃ k, u = .dK k) : TyX K H (.ref p) (.type t.nm) := by
  cases o <;> first
    | (cases h; exact .base (.lst e))
    | (cases h; exact .base (.tup e))
    | (cases h; exact .base (.dK e))
    | (cases h; exact .base (.dT e))
    | (rename_i ob u
       rcases hz ob u rfl with ⟨xs, z⟩ | ⟨xs, z⟩ | ⟨k, z⟩
       · subst z; cases h; exact .base (.frz e)
       · subst z; cases h; exact .fTuple e
       · subst z; cases h; exact .fDict e)
    | cases h
theorem view_frz {o : HO} {u : HO} (h : view o = u) {ob w} (e : o = .frz ob w) : w = u := by subst e; exact h
section
variable {X : Cx}
theorem cr_isi (T : Ty) : CallR X (.builtin "isinstance") (rIsiT1 T) := CallR.by fun xs H Q q => by
  match xs, q with
  | [x, .ty n], ⟨hn, q⟩ =>
    subst hn
    refine ⟨_, call_isi, ?_⟩
    cases x <;> first
      | exact False.elim q
      | exact ⟨_, _, _, _, _, rfl, .ty _, .base .non, Ty.kit .non T, q⟩
      | exact ⟨_, _, _, _, _, rfl, .ty _, .base (.bl _), Ty.kit .bl T, q⟩
      | exact ⟨_, _, _, _, _, rfl, .ty _, .base (.int _), Ty.kit .int T, q⟩
      | exact ⟨_, _, _, _, _, rfl, .ty _, .base (.str _), Ty.kit .str T, q⟩
      | (obtain ⟨o, ho, q⟩ := q
         cases e : view o <;> rw [e] at q <;> first
           | exact False.elim q
           | exact ⟨_, _, _, _, _, rfl, .ty _, ty_of (t := .lst) ho (by rw [e]; rfl) (fun ob u z => .inl ⟨_, view_frz e z⟩), Ty.kit .lst T, q⟩
           | exact ⟨_, _, _, _, _, rfl, .ty _, ty_of (t := .tup) ho (by rw [e]; rfl) (fun ob u z => .inr (.inl ⟨_, view_frz e z⟩)), Ty.kit .tup T, q⟩
           | exact ⟨_, _, _, _, _, rfl, .ty _, ty_of (t := .dct) ho (by rw [e]; rfl) (fun ob u z => .inr (.inr ⟨_, view_frz e z⟩)), Ty.kit .dct T, q⟩)
def bInt (te : TE) : TE := fun σ H Q => te σ H fun x H' => match x with
  | .int i => Q (.int i) H'
  | .bl k => Q (.int (if k then 1 else 0)) H'
  | _ => False
def bLen (te : TE) : TE := fun σ H Q => te σ H fun x H' => match x with
  | .str y => y.length ≤ sizeLine ∧ Q (.int y.length) H'
  | .ref p => Get H' p fun o => match view o with
    | .lst xs => Q (.int xs.length) H'
    | .tup xs => Q (.int xs.length) H'
    | _ => False
  | _ => False
def bAbs (te : TE) : TE := fun σ H Q => te σ H fun x H' => match x with
  | .int i => Q (.int i.natAbs) H'
  | _ => False
def bMin (ta tb : TE) : TE := fun σ H Q => ta σ H fun x H1 => tb σ H1 fun y H2 => match x, y with
  | .int i, .int j => Q (.int (min i j)) H2
  | _, _ => False
def bMax (ta tb : TE) : TE := fun σ H Q => ta σ H fun x H1 => tb σ H1 fun y H2 => match x, y with
  | .int i, .int j => Q (.int (max i j)) H2
  | _, _ => False
def bList (te : TE) : TE := fun σ H Q => te σ H fun x H' => match x with
  | .ref p => Get H' p fun o => match view o with
    | .lst xs => Alloc H' (.lst xs) fun l H2 => Q (.ref l) H2
    | .tup xs => Alloc H' (.lst xs) fun l H2 => Q (.ref l) H2
    | _ => False
  | _ => False
/-- tuple(x): a new one of a list, the same of a tuple -/
def bTuple (te : TE) : TE := fun σ H Q => te σ H fun x H' => match x with
  | .ref p => Get H' p fun o => match view o with
    | .lst xs => Alloc H' (.tup xs) fun l H2 => Q (.ref l) H2
    | .tup _ => Q (.ref p) H'
    | _ => False
  | _ => False
def bGcd (ta tb : TE) : TE := fun σ H Q => ta σ H fun x H1 => tb σ H1 fun y H2 => match x, y with
  | .int i, .int j => Q (.int ((Nat.gcd i.natAbs j.natAbs : Nat) : Int)) H2
  | _, _ => False
variable {e a b : Expr} {te ta tb : TE} {p p2 p3 pos apos : Pos}
theorem be_ty (n : String) {x : Str} (hm : X.mg x = none) (hg : Gl X x := by rfl) (hv : bootBuiltins x = some (.type n) := by decide +kernel) (hn : x ≠ "__name__" := by decide) (hd : (x == ("__debug__" : Str)) = false := by decide) : PE X (.Name x p) (tC (.ty n)) := pe_bltn hg hm hv rfl hn hd
theorem be_isi (T : Ty) (hm : X.mg "isinstance" = none) (ha : PE X a ta) (hb : PE X b (tC (.ty T.nm))) (hg : Gl X "isinstance" := by rfl)
    (h1 : starEach [a, b] X.env = (false, eval a X.env) :: starEach [b] X.env := by rfl) (h2 : starEach [b] X.env = (false, eval b X.env) :: starEach [] X.env := by rfl)
    (hpl : (backTo pos (starEach [b] X.env)).any (·.1) = false := by rfl) :
    PE X (.Call (.Name "isinstance" p) [a, b] [] pos) (bIsi T ta) :=
  PE.imp (pe_callB (cr_isi T) hg hm (by decide +kernel) (pa_cons (PE.up ha) (pa_cons hb pa_nil h2) h1) (he := h1) (hpl := hpl)) fun σ H Q q => ⟨_, q, fun x H' z => ⟨rfl, z⟩⟩
theorem be_int (hm : X.mg "int" = none) (ha : PE X a ta) (hg : Gl X "int" := by rfl) (h1 : starEach [a] X.env = (false, eval a X.env) :: starEach [] X.env := by rfl) :
    PE X (.Call (.Name "int" p) [a] [] pos) (bInt ta) :=
  PE.imp (pe_callTy call_int1 hg hm (by decide +kernel) (pa_cons (PE.up ha) pa_nil h1) (he := h1) (hpl := rfl)) fun σ H Q q => ⟨_, q, fun x H' z => by
    cases x <;> first
      | exact False.elim z
      | exact .inl ⟨_, rfl, z⟩
      | exact .inr ⟨_, rfl, z⟩⟩
theorem be_len (hm : X.mg "len" = none) (ha : PE X a ta) (hg : Gl X "len" := by rfl) (h1 : starEach [a] X.env = (false, eval a X.env) :: starEach [] X.env := by rfl) :
    PE X (.Call (.Name "len" p) [a] [] pos) (bLen ta) :=
  PE.imp (pe_callB call_len hg hm (by decide +kernel) (pa_cons (PE.up ha) pa_nil h1) (he := h1) (hpl := rfl)) fun σ H Q q => ⟨_, q, fun x H' z => by
    cases x <;> first
      | exact False.elim z
      | exact ⟨_, _, rfl, ⟨z.1, rfl⟩, z.2⟩
      | (obtain ⟨o, ho, z⟩ := z
         cases e : view o <;> rw [e] at z <;> first
           | exact False.elim z
           | exact ⟨_, _, rfl, .inl ⟨_, sq_view ho e, rfl⟩, z⟩
           | exact ⟨_, _, rfl, .inr ⟨_, st_view ho e, rfl⟩, z⟩)⟩
theorem be_abs (hm : X.mg "abs" = none) (ha : PE X a ta) (hg : Gl X "abs" := by rfl) (h1 : starEach [a] X.env = (false, eval a X.env) :: starEach [] X.env := by rfl) :
    PE X (.Call (.Name "abs" p) [a] [] pos) (bAbs ta) :=
  PE.imp (pe_callB call_abs hg hm (by decide +kernel) (pa_cons (PE.up ha) pa_nil h1) (he := h1) (hpl := rfl)) fun σ H Q q => ⟨_, q, fun x H' z => by
    cases x <;> first
      | exact False.elim z
      | (rename_i i
         refine ⟨i, rfl, ?_⟩
         rw [show (if i < 0 then -i else i) = (i.natAbs : Int) from by split <;> omega]
         exact z)⟩
theorem ite_min (i j : Int) : (if j < i then j else i) = min i j := by split <;> omega
theorem ite_max (i j : Int) : (if j > i then j else i) = max i j := by split <;> omega
theorem be_min (hm : X.mg "min" = none) (hc : X.calm = true) (ha : PE X a ta) (hb : PE X b tb) (hg : Gl X "min" := by rfl)
    (h1 : starEach [a, b] X.env = (false, eval a X.env) :: starEach [b] X.env := by rfl) (h2 : starEach [b] X.env = (false, eval b X.env) :: starEach [] X.env := by rfl)
    (hpl : (backTo pos (starEach [b] X.env)).any (·.1) = false := by rfl) : PE X (.Call (.Name "min" p) [a, b] [] pos) (bMin ta tb) :=
  PE.imp (pe_callB (call_min2 hc) hg hm (by decide +kernel) (pa_cons (PE.up ha) (pa_cons (PE.up hb) pa_nil h2) h1) (he := h1) (hpl := hpl)) fun σ H Q q => ⟨_, q, fun x H' z => ⟨_, z, fun y H2 z => by
    cases x <;> cases y <;> first
      | exact False.elim z
      | exact ⟨_, _, rfl, by rw [ite_min]; exact z⟩⟩⟩
theorem be_max (hm : X.mg "max" = none) (hc : X.calm = true) (ha : PE X a ta) (hb : PE X b tb) (hg : Gl X "max" := by rfl)
    (h1 : starEach [a, b] X.env = (false, eval a X.env) :: starEach [b] X.env := by rfl) (h2 : starEach [b] X.env = (false, eval b X.env) :: starEach [] X.env := by rfl)
    (hpl : (backTo pos (starEach [b] X.env)).any (·.1) = false := by rfl) : PE X (.Call (.Name "max" p) [a, b] [] pos) (bMax ta tb) :=
  PE.imp (pe_callB (call_max2 hc) hg hm (by decide +kernel) (pa_cons (PE.up ha) (pa_cons (PE.up hb) pa_nil h2) h1) (he := h1) (hpl := hpl)) fun σ H Q q => ⟨_, q, fun x H' z => ⟨_, z, fun y H2 z => by
    cases x <;> cases y <;> first
      | exact False.elim z
      | exact ⟨_, _, rfl, by rw [ite_max]; exact z⟩⟩⟩
theorem be_list (hm : X.mg "list" = none) (ha : PE X a ta) (hg : Gl X "list" := by rfl) (h1 : starEach [a] X.env = (false, eval a X.env) :: starEach [] X.env := by rfl) :
    PE X (.Call (.Name "list" p) [a] [] pos) (bList ta) :=
  PE.imp (pe_callTy call_list_of hg hm (by decide +kernel) (pa_cons (PE.up ha) pa_nil h1) (he := h1) (hpl := rfl)) fun σ H Q q => ⟨_, q, fun x H' z => by
    cases x <;> first
      | exact False.elim z
      | (obtain ⟨o, ho, z⟩ := z
         cases e : view o <;> rw [e] at z <;> first
           | exact False.elim z
           | exact ⟨_, _, rfl, .inl (sq_view ho e), fun l hl => z.at l hl⟩
           | exact ⟨_, _, rfl, .inr (st_view ho e), fun l hl => z.at l hl⟩)⟩
theorem be_tuple (hm : X.mg "tuple" = none) (ha : PE X a ta) (hg : Gl X "tuple" := by rfl) (h1 : starEach [a] X.env = (false, eval a X.env) :: starEach [] X.env := by rfl) :
    PE X (.Call (.Name "tuple" p) [a] [] pos) (bTuple ta) :=
  PE.imp (pe_callTy call_tuple_of hg hm (by decide +kernel) (pa_cons (PE.up ha) pa_nil h1) (he := h1) (hpl := rfl)) fun σ H Q q => ⟨_, q, fun x H' z => by
    cases x <;> first
      | exact False.elim z
      | (obtain ⟨o, ho, z⟩ := z
         cases e : view o <;> rw [e] at z <;> first
           | exact False.elim z
           | exact ⟨_, _, rfl, .inl ⟨sq_view ho e, fun l hl => z.at l hl⟩⟩
           | exact ⟨_, _, rfl, .inr ⟨st_view ho e, z⟩⟩)⟩
theorem be_gcd (hm : X.mg "gcd" = some (.builtin "math.gcd")) (ha : PE X a ta) (hb : PE X b tb) (hg : Gl X "gcd" := by rfl)
    (h1 : starEach [a, b] X.env = (false, eval a X.env) :: starEach [b] X.env := by rfl) (h2 : starEach [b] X.env = (false, eval b X.env) :: starEach [] X.env := by rfl)
    (hpl : (backTo pos (starEach [b] X.env)).any (·.1) = false := by rfl) : PE X (.Call (.Name "gcd" p) [a, b] [] pos) (bGcd ta tb) :=
  PE.imp (pe_callBfun cr_gcd hg hm (pa_cons (PE.up ha) (pa_cons (PE.up hb) pa_nil h2) h1) (he := h1) (hpl := hpl)) fun σ H Q q => ⟨_, q, fun x H' z => ⟨_, z, fun y H2 z => by
    cases x <;> cases y <;> first
      | exact False.elim z
      | exact ⟨_, _, rfl, z⟩⟩⟩

/-! ### methods -/
def bBits (te : TE) : TE := fun σ H Q => te σ H fun x H' => match x with
  | .int i => Q (.int (Builtin.Int.intBits i : Nat)) H'
  | _ => False
theorem be_bits (ha : PE X a ta) (hbase : attributeBase a "bit_length" X.env (eval a X.env) = eval a X.env := by rfl) (hline : (apos.endLine == pos.line) = true := by rfl) :
    PE X (.Call (.Attribute a "bit_length" apos) [] [] pos) (bBits ta) :=
  PE.imp (pe_bits (PE.up ha) hbase hline) fun σ H Q q => ⟨_, q, fun x H' z => by
    cases x <;> first
      | exact False.elim z
      | exact ⟨_, rfl, z⟩⟩
/-- xs.append(e) -/
def bApp (ta tb : TE) : TE := fun σ H Q => ta σ H fun x H1 => match x with
  | .ref l => Get H1 l fun o => match o with
    | .lst _ => tb σ H1 fun y H2 => Get H2 l fun o => match o with
      | .lst xs => xs.length < sizeLine ∧ Put H2 l (.lst (xs ++ [y])) fun H3 => Q .non H3
      | _ => False
    | _ => False
  | _ => False
theorem be_app (ha : PE X a ta) (hb : PE X b tb) (hbase : attributeBase a "append" X.env (eval a X.env) = eval a X.env := by rfl)
    (hfew : ((backTo pos (starEach [b] X.env)).all (fun x => !x.1) && (backToKw pos (keywordEach [] X.env)).all (fun x => x.1.isSome) && decide ([b].length + ([] : List Keyword).length + (if ([] : List Keyword).isEmpty then 0 else 1) < 30)) = true := by rfl)
    (hline : (apos.endLine == pos.line) = true := by rfl) (hs : starEach [b] X.env = (false, eval b X.env) :: starEach [] X.env := by rfl) :
    PE X (.Call (.Attribute a "append" apos) [b] [] pos) (bApp ta tb) :=
  PE.imp (pe_bm PySem.F.plainAttrs_list PySem.F.slot_list_append PySem.F.type_list_append mt_append (PE.up ha) (pa_cons (PE.up hb) pa_nil hs) hbase hfew hline hs rfl) fun σ H Q q => ⟨_, q, fun x H1 z => by
    cases x <;> first
      | exact False.elim z
      | (obtain ⟨o, ho, z⟩ := z
         cases o <;> first
           | exact False.elim z
           | (refine ⟨.inl ⟨rfl, _, .inl (.inl ho)⟩, _, z, fun y H2 z => ?_⟩
              obtain ⟨o, ho, z⟩ := z
              cases o <;> first
                | exact False.elim z
                | exact ⟨_, _, _, rfl, rfl, ho, z.1, z.2.at⟩))⟩
end
/-! ### statements -/
def upG (t : TE) : TE := upE t
inductive IxI (n : Nat) (i : Int) (K : Nat → Prop) : Prop where
  | mk (j : Nat) (h : ixN n i = some j) (k : K j) : IxI n i K
/-- xs[i] = v -/
def bSetL : V → V → V → Hp → (Hp → Prop) → Prop := fun o i v H Q => match o, i with
  | .ref p, .int k => Get H p fun u => match u with
    | .lst xs => IxI xs.length k fun j => Put H p (.lst (xs.set j v)) Q
    | _ => False
  | _, _ => False
def bIf (c : TT) (t u : TS) : TS := fun D σ H => c σ H fun b H1 => (b = true → t D σ H1) ∧ (b = false → u D σ H1)
section
variable {X : Cx} {e : Expr} {te : TE} {pos : Pos} {t u : TS}
theorem ob_set : PSet X bSetL := by
  intro pins s σ H o i v ov iv w Q I ro ri rv h
  cases o <;> cases i <;> first
    | exact False.elim h
    | (obtain ⟨z, hz, h⟩ := h
       cases z <;> first
         | exact False.elim h
         | (obtain ⟨j, hj, h⟩ := h
            exact set_list pins s σ H _ _ v ov iv w Q I ro ri rv ⟨_, _, _, j, rfl, rfl, hz, hj, h.at⟩))
theorem bs_if {c : Expr} {tc : TT} {a b : List Stmt} (hc : PT X c tc) (ha : PSs X a t) (hb : PSs X b u) : PS X (.If c a b pos) (bIf tc t u) :=
  PS.imp (ps_if (PT.up hc) ha hb) fun D σ H q => ⟨_, q, fun _ _ z => br_if z⟩
end

/-! ### loops -/
/-- a list that the turns leave as it is -/
inductive LoopL (a : Addr) (xs : List V) (g : TG) (tb : TS) (D : Ends) (σ : Sg) (H : Hp) : Prop where
  | mk (Pv : Nat → Sg → Hp → Prop) (h0 : Pv 0 σ H) (hl : ∀ i σ H, i ≤ xs.length → Pv i σ H → Rd H a (.lst xs))
    (hs : ∀ i x σ H, xs[i]? = some x → Pv i σ H → g x σ H fun σ2 H2 => tb { D with nx := Pv (i + 1), ct := Pv (i + 1), bk := D.nx } σ2 H2) (hd : ∀ σ H, Pv xs.length σ H → D.nx σ H) : LoopL a xs g tb D σ H
inductive LoopT (a : Addr) (xs : List V) (g : TG) (tb : TS) (D : Ends) (σ : Sg) (H : Hp) : Prop where
  | mk (Pv : Nat → Sg → Hp → Prop) (h0 : Pv 0 σ H) (hl : ∀ i σ H, i ≤ xs.length → Pv i σ H → Rd H a (.tup xs))
    (hs : ∀ i x σ H, xs[i]? = some x → Pv i σ H → g x σ H fun σ2 H2 => tb { D with nx := Pv (i + 1), ct := Pv (i + 1), bk := D.nx } σ2 H2) (hd : ∀ σ H, Pv xs.length σ H → D.nx σ H) : LoopT a xs g tb D σ H
inductive LoopR (lo : Int) (n : Nat) (g : TG) (tb : TS) (D : Ends) (σ : Sg) (H : Hp) : Prop where
  | mk (Pv : Nat → Sg → Hp → Prop) (h0 : Pv 0 σ H)
    (hs : ∀ (i : Nat) σ H, i < n → Pv i σ H → g (.int (lo + i)) σ H fun σ2 H2 => tb { D with nx := Pv (i + 1), ct := Pv (i + 1), bk := D.nx } σ2 H2) (hd : ∀ σ H, Pv n σ H → D.nx σ H) : LoopR lo n g tb D σ H
def iAny (K : PySem.W.Frag) (te : TE) : TI := fun σ H R => te σ H fun x H1 => match x with
  | .ref a => (∃ xs, SqL K H1 a xs ∧ R (Itl K a) H1) ∨ (∃ xs, SqT K H1 a xs ∧ R (Itt K a) H1)
  | _ => False
def bForA (te : TE) (g : TG) (tb : TS) : TS := fun D σ H => te σ H fun x H1 => match x with
  | .ref a => Get H1 a fun o => match view o with
    | .lst xs => LoopL a xs g tb D σ H1
    | .tup xs => LoopT a xs g tb D σ H1
    | _ => False
  | _ => False
def bForR (ta : TE) (g : TG) (tb : TS) : TS := fun D σ H => ta σ H fun x H1 => match x with
  | .int n => (-(2 ^ 62) ≤ n ∧ n < 2 ^ 62) ∧ LoopR 0 n.toNat g tb D σ H1
  | _ => False
def bForR2 (ta tb' : TE) (g : TG) (tb : TS) : TS := fun D σ H => ta σ H fun x H1 => tb' σ H1 fun y H2 => match x, y with
  | .int i, .int j => ((-(2 ^ 62) ≤ i ∧ i < 2 ^ 62) ∧ -(2 ^ 62) ≤ j ∧ j < 2 ^ 62) ∧ LoopR i (j - i).toNat g tb D σ H2
  | _, _ => False
section
variable {X : Cx} {e a b tg : Expr} {te ta tb' : TE} {pos p p2 : Pos} {t u tb : TS} {g : TG} {body : List Stmt}
theorem pi_any (he : PE X e te) : PI X tg e (iAny X.K te) := by
  constructor
  intro pins s σ H R I h
  refine thn (he.run pins s σ H _ I h) ?_
  intro v s1 ⟨x, H1, I1, r1, q1⟩
  cases x <;> try exact False.elim q1
  rename_i a
  cases r1
  have fp : ∀ c ∈ [s1.heap.objs.size], FpOk X pins H1 c := by
    intro c hc
    rw [List.mem_singleton.mp hc]
    exact I1.fpOk (Nat.le_refl _) (I1.hok.fresh (Nat.le_refl _))
  have I2 : ∀ ob : Obj, Inv X pins σ H1 { s1 with heap := s1.heap.push ob } := fun ob => I1.kept (t' := s1.toks) (fun _ _ z => Heap.get?_push_of_some ob z)
  rcases q1 with ⟨xs, hq, q⟩ | ⟨xs, hq, q⟩
  · obtain ⟨its, _, pl, _⟩ := I1.list hq
    exact wpAny_pyIter_list pl.isList ⟨_, [s1.heap.objs.size], _, _, H1, rfl, I2 _, turn_list a _, ⟨_, Heap.get?_push_size _ rfl, rfl, rfl⟩, fp, q⟩
  · obtain ⟨its, _, pl, _⟩ := I1.tuple hq
    exact wpAny_pyIter_tuple (show s1.heap.IsTuple a its.toArray from pl) ⟨_, [s1.heap.objs.size], _, _, H1, rfl, I2 _, turn_tuple a _, ⟨_, Heap.get?_push_size _ rfl, rfl, rfl⟩, fp, q⟩
theorem bs_forA (hp : PassesOwn (model X.prog X.w) X.A X.env X.xe) (hc : X.calm = true) (he : PE X e te) (hg : PG X tg g) (hb : PSs X body tb)
    (hs : ∀ x, foldedSetIterable e X.env x = pure x := by intro _; rfl) : PS X (.For tg e body [] pos) (bForA te g tb) :=
  PS.imp (ps_for hp hc (pi_any (PE.up he)) hg hb hs) fun D σ H q => ⟨_, q, fun x H1 z => by
    cases x <;> try exact False.elim z
    rename_i a
    obtain ⟨o, ho, z⟩ := z
    cases e : view o <;> rw [e] at z <;> try exact False.elim z
    · obtain ⟨Pv, h0, hl, hs, hd⟩ := z
      exact .inl ⟨_, sq_view ho e, for_list Pv h0 (fun i σ H l p => .inl (hl i σ H l p)) hs hd⟩
    · obtain ⟨Pv, h0, hl, hs, hd⟩ := z
      exact .inr ⟨_, st_view ho e, for_tup Pv h0 (fun i σ H l p => .inl (hl i σ H l p)) hs hd⟩⟩
theorem bs_forR (hm : X.mg "range" = none) (hp : PassesOwn (model X.prog X.w) X.A X.env X.xe) (hc : X.calm = true) (ha : PE X a ta) (hg : PG X tg g) (hb : PSs X body tb) (hG : Gl X "range" := by rfl)
    (h1 : starEach [a] X.env = (false, eval a X.env) :: starEach [] X.env := by rfl)
    (hs : ∀ x, foldedSetIterable (.Call (.Name "range" p) [a] [] p2) X.env x = pure x := by intro _; rfl) : PS X (.For tg (.Call (.Name "range" p) [a] [] p2) body [] pos) (bForR ta g tb) :=
  PS.imp (ps_for hp hc (pi_range1 hG hm (pa_cons (PE.up ha) pa_nil h1) h1) hg hb hs) fun D σ H q => ⟨_, q, fun x H1 z => by
    cases x <;> try exact False.elim z
    rename_i n
    obtain ⟨⟨b1, b2⟩, Pv, h0, hs, hd⟩ := z
    exact ⟨n, rfl, b1, b2, for_range Pv h0 hs hd⟩⟩
theorem bs_forR2 (hm : X.mg "range" = none) (hp : PassesOwn (model X.prog X.w) X.A X.env X.xe) (hc : X.calm = true) (ha : PE X a ta) (hb' : PE X b tb') (hg : PG X tg g) (hb : PSs X body tb) (hG : Gl X "range" := by rfl)
    (h1 : starEach [a, b] X.env = (false, eval a X.env) :: starEach [b] X.env := by rfl) (h2 : starEach [b] X.env = (false, eval b X.env) :: starEach [] X.env := by rfl)
    (h3 : starEach [a, b] X.env = [(false, eval a X.env), (false, eval b X.env)] := by rfl)
    (hs : ∀ x, foldedSetIterable (.Call (.Name "range" p) [a, b] [] p2) X.env x = pure x := by intro _; rfl) : PS X (.For tg (.Call (.Name "range" p) [a, b] [] p2) body [] pos) (bForR2 ta tb' g tb) :=
  PS.imp (ps_for hp hc (pi_range2 hG hm (pa_cons (PE.up ha) (pa_cons (PE.up hb') pa_nil h2) h1) h3 h2) hg hb hs) fun D σ H q => ⟨_, q, fun x H1 z => ⟨_, z, fun y H2 z => by
    cases x <;> cases y <;> try exact False.elim z
    obtain ⟨⟨⟨b1, b2⟩, b3, b4⟩, Pv, h0, hs, hd⟩ := z
    exact ⟨_, _, rfl, ⟨b1, b2, b3, b4⟩, for_range Pv h0 hs hd⟩⟩⟩
end

/-! ### defs and calls -/
/-- a def of the module, called by position -/
inductive Fn (P : Program) (w : World) (K : PySem.W.Frag) (mg : Str → Option Value) (base : Heap) (k : Nat) (x : Str) (ps : List Str) (sp : Sp) : Prop where
  | mk (f : Addr) (fd : FuncData) (ok : FnOk P w K mg base (L2N.CX P w) k f fd ps sp) (at_ : mg x = some (.ref f)) (kp : PySem.W.keepIn K (.ref f) = true) (bi : Binds K fd ps []) : Fn P w K mg base k x ps sp
theorem Fn.mono {P : Program} {w : World} {K : PySem.W.Frag} {mg : Str → Option Value} {base : Heap} {j k : Nat} {x : Str} {ps : List Str} {sp : Sp} (h : Fn P w K mg base j x ps sp) (l : j ≤ k) : Fn P w K mg base k x ps sp := by
  obtain ⟨f, fd, ok, a, kp, bi⟩ := h
  exact ⟨f, fd, ok.mono l, a, kp, bi⟩
theorem Fn.imp {P : Program} {w : World} {K : PySem.W.Frag} {mg : Str → Option Value} {base : Heap} {k : Nat} {x : Str} {ps : List Str} {sp sp' : Sp} (h : Fn P w K mg base k x ps sp) (l : ∀ vs H Q E, sp' vs H Q E → sp vs H Q E) : Fn P w K mg base k x ps sp' := by
  obtain ⟨f, fd, ok, a, kp, bi⟩ := h
  exact ⟨f, fd, ok.imp l, a, kp, bi⟩
/-- .. by keywords alone, named ks; g puts their values in the order of the parameters -/
inductive FnK (P : Program) (w : World) (K : PySem.W.Frag) (mg : Str → Option Value) (base : Heap) (k : Nat) (x : Str) (ps ks : List Str) (g : List Nat) (sp : Sp) : Prop where
  | mk (f : Addr) (fd : FuncData) (ok : FnOk P w K mg base (L2N.CX P w) k f fd ps sp) (at_ : mg x = some (.ref f)) (kp : PySem.W.keepIn K (.ref f) = true)
    (bi : ∀ (s : Shared) (ws : List Value), K.In s.heap → ws.length = ks.length → BindsTo s fd ⟨[], ks.zip ws⟩ (ps.zip (g.filterMap fun i => ws[i]?))) : FnK P w K mg base k x ps ks g sp
def bCall (sp : Sp) (W : WX) (t : TA) : TE := fun σ H Q => t σ H fun vs H1 => sp vs H1 Q (fun cls d H' => W cls d σ H')
def bCallK (g : List Nat) (sp : Sp) (W : WX) (t : TA) : TE := fun σ H Q => t σ H fun vs H1 => sp (g.filterMap fun i => vs[i]?) H1 Q (fun cls d H' => W cls d σ H')
theorem Vals.perm {vs : List V} {us : List Value} (r : Vals vs us) : ∀ g : List Nat, Vals (g.filterMap fun i => vs[i]?) (g.filterMap fun i => us[i]?)
  | [] => .nil
  | i :: g => by
    cases e : vs[i]? with
    | some v =>
      obtain ⟨u, hu, ru⟩ := r.get e
      rw [List.filterMap_cons_some e, List.filterMap_cons_some hu]
      exact .cons ru (Vals.perm r g)
    | none =>
      rw [List.filterMap_cons_none e, List.filterMap_cons_none (r.none_of e)]
      exact Vals.perm r g
section
variable {X : Cx} {k : Nat} {x : Str} {ps ks : List Str} {sp : Sp} {W : WX} {p pos kpos : Pos} {e : Expr} {es : List Expr} {te : TE} {t : TA} {g : List Nat} {kws : List Keyword}
theorem be_call (F : Fn X.prog X.w X.K X.mg X.base k x ps sp) (hr : Room k X.A) (tk : L2N.Takes X W) (ha : PAn X (e :: es) t) (hg : Gl X x := by rfl) (hdb : (x == ("__debug__" : Str)) = false := by decide)
    (he : starEach (e :: es) X.env = (false, eval e X.env) :: starEach es X.env := by rfl) (hpl : (backTo pos (starEach es X.env)).any (·.1) = false := by rfl) : PE X (.Call (.Name x p) (e :: es) [] pos) (bCall sp W t) := by
  obtain ⟨f, fd, ok, a, kp, bi⟩ := F
  exact pe_callS (E := fun σ cls d H' => W cls d σ H') ok hr hg a kp bi (fun σ => L2N.passAt tk σ) ha.pa hdb he hpl
theorem be_call0 (F : Fn X.prog X.w X.K X.mg X.base k x ps sp) (hr : Room k X.A) (tk : L2N.Takes X W) (hg : Gl X x := by rfl) (hdb : (x == ("__debug__" : Str)) = false := by decide) : PE X (.Call (.Name x p) [] [] pos) (bCall sp W tNil) := by
  obtain ⟨f, fd, ok, a, kp, bi⟩ := F
  constructor
  intro pins s σ H Q I h
  refine wpAny_Call_Name_kw (ld_glob I hg a (PySem.W.callWith_K0 I.kIn kp ?_) hdb)
  exact run_fnS (E := fun σ cls d H' => W cls d σ H') (us := []) ok hr bi (L2N.passAt tk σ) I .nil h
structure PKn (X : Cx) (kws : List Keyword) (t : TA) : Prop where
  run : ∀ (pos : Pos) (pins : List (Addr × Obj)) (s : Shared) (σ : Sg) (H : Hp) (Q : List V → Hp → Prop), Inv X pins σ H s → t σ H Q →
    wpAny (model X.prog X.w) X.A (evalAll ((backToKw pos (keywordEach kws X.env)).map (·.2))) (fun us s' => us.length = kws.length ∧ AP X pins σ Q us s') X.xe s
theorem bk_nil : PKn X [] tNil := ⟨fun _ _ _ _ H Q I h => wpAny_evalAll_nil ⟨rfl, [], H, I, .nil, h⟩⟩
theorem bk_cons {nm : Option Str} (ha : PE X e te) (hr : PKn X kws t) : PKn X (⟨nm, e, kpos⟩ :: kws) (tCons te t) := by
  constructor
  intro pos pins s σ H Q I h
  show wpAny _ _ (evalAll ((do let v ← eval e X.env; standAt pos; pure v) :: _)) _ _ s
  refine wpAny_evalAll_cons (wpAny_bind (thn (ha.run pins s σ H _ I h) ?_))
  intro u s1 ⟨x, H1, I1, r1, q1⟩
  refine wpAny_bind (wpAny_standAt (wpAny_pure (thn (hr.run pos pins s1 σ H1 _ I1 q1) ?_)))
  intro us s2 ⟨hl, xs, H2, I2, r2, q2⟩
  exact ⟨congrArg (· + 1) hl, x :: xs, H2, I2, .cons r1 r2, q2⟩
theorem be_callK (F : FnK X.prog X.w X.K X.mg X.base k x ps ks g sp) (hr : Room k X.A) (tk : L2N.Takes X W) (hkw : PKn X kws t) (hg : Gl X x := by rfl) (hdb : (x == ("__debug__" : Str)) = false := by decide)
    (hall : (backToKw pos (keywordEach kws X.env)).all (·.1.isSome) = true := by rfl) (hks : (backToKw pos (keywordEach kws X.env)).filterMap (·.1) = ks := by rfl)
    (hln : kws.length = ks.length := by rfl)
    (hpl : ((backTo pos (starEach [] X.env)).any (·.1) || (backToKw pos (keywordEach kws X.env)).any (·.1.isNone)) = false := by rfl) :
    PE X (.Call (.Name x p) [] kws pos) (bCallK g sp W t) := by
  obtain ⟨f, fd, ok, a, kp, bi⟩ := F
  constructor
  intro pins s σ H Q I h
  refine wpAny_Call_Name_kw (ld_glob I hg a (PySem.W.callWith_KW0 (h₀ := X.base) I.ok.mod.kin kp hall (thn (hkw.run pos pins s σ H _ I h) ?_) hpl) hdb)
  intro ws s1 ⟨hl, vs, H1, I1, r, q⟩
  refine ⟨I1.kIn, ?_⟩
  rw [hks]
  have r2 := Vals.perm r g
  refine wpAny_call (codeAny_mono (ok.run X.A X.stack s1 H1 ⟨[], ks.zip ws⟩ _ _ Q _ hr I1.env0 (bi s1 ws I1.kIn (hl.trans hln)) r2 q) ?_)
  intro r s' hq
  cases r with
  | error e => exact L2N.passAt tk σ pins H1 s1 e s' I1 hq
  | ok fl => cases fl <;> first
    | exact I1.after hq
    | exact False.elim hq
end

/-! ### a def's body -/
abbrev wE (E : XK) : WX := fun cls d _ H => E cls d H
/-- the end of a body -/
abbrev dE (Q : VK) : Ends := { nx := fun _ H' => Q .non H', rt := Q }
abbrev cxN (P : Program) (w : World) (K : PySem.W.Frag) (mg : Str → Option Value) (base : Heap) (N : List Str) (qual : Str) (scope : Scope) (f : Addr) (cd : Value) (A : Around) (outer : List Env) (s : Shared) (H : Hp) (E : XK) : Cx :=
  cxOf (L2N.CX P w) P w K mg base N qual scope f cd A outer s H E
section
variable {P : Program} {w : World} {K : PySem.W.Frag} {mg : Str → Option Value} {base : Heap}
theorem fn_ok {x qual : Str} {st : Stmt} {f : Addr} {fd : FuncData} {N ps : List Str} {k : Nat} {sp : Sp} {b : WX → TS} (F : Fun K x qual st f fd) (S : FnScope N ps (defScope st))
    (rd : ∀ vs H Q E, sp vs H Q E → vs.length = ps.length ∧ b (wE E) (dE Q) (start N vs) H)
    (dv : ∀ (cdv : Value) (A : Around) (outer : List Env) (s : Shared) (H : Hp) (E : XK), Room k (A.deeper (envOfC qual (defScope st) s.heap.objs.size f cdv)) →
      L2N.Takes (cxN P w K mg base N qual (defScope st) f cdv A outer s H E) (wE E) → PassesOwn (model P w) (A.deeper (envOfC qual (defScope st) s.heap.objs.size f cdv)) (envOfC qual (defScope st) s.heap.objs.size f cdv) (cxN P w K mg base N qual (defScope st) f cdv A outer s H E).xe →
      PSs (cxN P w K mg base N qual (defScope st) f cdv A outer s H E) (defBody st) (b (wE E))) : FnOk P w K mg base (L2N.CX P w) (k + 1) f fd ps sp := by
  obtain ⟨oc, od, kV, doc, pm, an, cdv, ct, osl, rfl, lk, hcd⟩ := F.ex
  refine fn_of lk hcd S (fun vs H Q E h => (rd vs H Q E h).1) fun A outer s H vs Q E hr hsp => ⟨b (wE E), ?_, (rd vs H Q E hsp).2⟩
  exact dv cdv A outer s H E hr (L2N.takes_of rfl rfl rfl rfl) PassesOwn.leaving
end
/-! ### an own error class: class X(..): def __init__(self, f): self.f = f -/
def spInit (C : Addr) (f : Str) : Sp := fun vs H Q _ => ∃ (a : Addr) (v : V), vs = [.ref a, v] ∧ H a = some (exo a C none) ∧
  ∀ dx, H dx = none → dx ≠ a → Q .non (upd (upd H dx (exd dx [(f, v)])) a (exo a C (some dx)))
/-- what the written part says of the class -/
structure ExK (K : PySem.W.Frag) (C : Addr) : Prop where
  oex : OexC K C
  ga : PySem.W.findIn K (.ref C) "__getattribute__" = some (some (.builtin "BaseException.__getattribute__"))
  gg : PySem.W.findIn K (.ref C) "__getattr__" = some none
  hd : PySem.W.hasDictIn K C = true
  ca : PySem.W.findIn K (.ref C) "__class__" = some (some (.builtin "object.__class__"))
  cn : PySem.W.specialIn K (.builtin "object.__class__") "__get__" = some (some (.builtin "getset_descriptor.__get__"))
  ct : PySem.W.takesIn K (.builtin "object.__class__") = some true
  cm : PySem.W.mroIn K C (.type "object") = some true
/-- a class with its __init__, by the module's name x -/
structure ExM (P : Program) (w : World) (K : PySem.W.Frag) (mg : Str → Option Value) (base : Heap) (x : Str) (C : Addr) (f : Str) : Prop where
  ex : ExK K C
  at_ : mg x = some (.ref C)
  no : PySem.W.findIn K (.ref C) f = some none
  ini : ∃ (fI : Addr) (fd : FuncData), PySem.W.findIn K (.ref C) "__init__" = some (some (.ref fI)) ∧ PySem.W.typeIn K (.ref fI) = some (.type "function") ∧
    FnOk P w K mg base CX0 1 fI fd ["self", f] (spInit C f) ∧ Binds K fd ["self", f] []
theorem init_ok {P : Program} {w : World} {K : PySem.W.Frag} {mg : Str → Option Value} {base : Heap} {C fI : Addr} {fd : FuncData} {st : Stmt} {f qual : Str} {p1 p2 p3 p4 : Pos} (F : Fun K "__init__" qual st fI fd) (S : FnScope ["self", f] ["self", f] (defScope st))
    (hb : defBody st = [.Assign [.Attribute (.Name "self" p1) f p2] (.Name f p3) p4]) (T : OexC K C) (hno : PySem.W.findIn K (.ref C) f = some none)
    (v0 : (defScope st).names.lookup ("self" : Str) = some .local) (v1 : (defScope st).names.lookup f = some .local)
    (d1 : (f == ("__debug__" : Str)) = false) (d2 : (f == ("__classdict__" : Str)) = false) : FnOk P w K mg base CX0 1 fI fd ["self", f] (spInit C f) := by
  refine F.ok (k := 0) S ?_ ?_
  · rintro vs H Q E ⟨a, v, rfl, _⟩
    rfl
  · rintro cdv A outer s H vs Q E hr ⟨a, v, rfl, ha, k⟩
    rw [hb]
    refine ⟨_, pss_one (ps_ost (pe_var (i := 0) rfl (.inl v0)) (pe_var (i := 1) rfl (.inl v1) d1 d2)), ?_⟩
    exact ⟨v, rfl, .ref a, rfl, a, C, rfl, T, hno, .inl ⟨ha, k⟩⟩

inductive NewX (H : Hp) (f : Str) (v : V) (K : Addr → Hp → Prop) : Prop where
  | mk (k : ∀ d H', Ex H H' → H d = none → H' d = some (.xd [(f, v)]) → K d H') : NewX H f v K
/-- raise X(e) -/
def bRaise (C : Addr) (f : Str) (W : WX) (te : TE) : TS := fun _ σ H => te σ H fun v H1 => NewX H1 f v fun d H' => W (.ref C) (some d) σ H'
section
variable {X : Cx} {x f : Str} {C : Addr} {W : WX} {p pos pos2 : Pos} {e : Expr} {te : TE}
theorem pmk_x (M : ExM X.prog X.w X.K X.mg X.base x C f) (hr : Room 2 X.A) (he : PE X e te) (hg : Gl X x := by rfl) (hdb : (x == ("__debug__" : Str)) = false := by decide)
    (hs : starEach [e] X.env = (false, eval e X.env) :: starEach [] X.env := by rfl) :
    L2N.PMk X (.Call (.Name x p) [e] [] pos) (fun σ H Q => te σ H fun v H1 => NewX H1 f v fun d H' => Q (.ref C) (some d) H') := by
  intro pins s σ H Q I h
  obtain ⟨T, _⟩ := id M.ex
  obtain ⟨nm, q, N, bs, bm, sn, sub, ab, col, dd, k0, k1, k2, k3, k5, hC, hbm⟩ := T.cls
  obtain ⟨fI, fd, iC, tI, ok, bi⟩ := M.ini
  have ha : PA X [e] (tCons (upE te) tNil) := pa_cons (PE.up he) pa_nil hs
  refine wpAny_Call_Name_kw (ld_glob I hg M.at_ (PySem.W.callWith_K (h₀ := X.base) I.ok.mod.kin T.kC
    (thn (ha.run pos pins s σ H (fun vs H1 => ∃ v, vs = [v] ∧ NewX H1 f v fun d H' => Q (.ref C) (some d) H') I ⟨_, h, fun v H1 z => ⟨v, rfl, z⟩⟩) ?_) hs rfl) hdb)
  intro us s1 ⟨vs, H1, I1, r1, v, ev, hq⟩
  subst ev
  refine ⟨I1.kIn, ?_⟩
  obtain ⟨u, rfl, ru⟩ := vals1 r1
  obtain ⟨hp, g, dr, tk, os⟩ := s1
  have a1 : hp.objs.size ≤ hp.objs.size + 1 := by omega
  have na : H1 (hp.objs.size + 1) = none := I1.hok.fresh a1
  -- the new object with its args
  let hp2 : Heap := (hp.push (PySem.W.kdv_tup [u])).push (PySem.HandSPX.excO C hp.objs.size)
  have keep2 : ∀ b o, hp.get? b = some o → hp2.get? b = some o := by
    intro b o z
    exact Heap.get?_push_of_some _ (Heap.get?_push_of_some _ z)
  have new2 : hp2.get? (hp.objs.size + 1) = some (PySem.HandSPX.excO C hp.objs.size) := by
    show ((hp.push _).push _).get? _ = _
    heap_get
  have I2 : Inv X pins σ (upd H1 (hp.objs.size + 1) (exo (hp.objs.size + 1) C none)) ⟨hp2, g, dr, tk, os⟩ :=
    I1.laid (t' := tk) keep2 a1 (exo_ok new2)
  have r2 : Vals [V.ref (hp.objs.size + 1), v] [Value.ref (hp.objs.size + 1), u] := .cons rfl (.cons ru .nil)
  have b2 := bi ⟨hp2, g, dr, tk, os⟩ [Value.ref (hp.objs.size + 1), u] I2.kIn rfl
  let goal : VK := fun v2 H2 => v2 = .non ∧ ∃ d, H2 = upd (upd (upd H1 (hp.objs.size + 1) (exo (hp.objs.size + 1) C none)) d (exd d [(f, v)])) (hp.objs.size + 1) (exo (hp.objs.size + 1) C (some d)) ∧
    upd H1 (hp.objs.size + 1) (exo (hp.objs.size + 1) C none) d = none ∧ d ≠ hp.objs.size + 1
  have hspec : spInit C f [V.ref (hp.objs.size + 1), v] (upd H1 (hp.objs.size + 1) (exo (hp.objs.size + 1) C none)) goal (fun _ _ _ => False) :=
    ⟨_, v, rfl, upd_same, fun dx n1 n2 => ⟨rfl, dx, rfl, n1, n2⟩⟩
  show wpAny _ _ (call (.ref C) [u]) _ _ _
  refine wpAny_call (PySem.HandSPX.call_own F.excBase_ValueError (fun Y => PySem.HandSPX.refsVE_contains Y bm hbm) (I1.kIn _ _ hC) (PySem.W.looks_findIn I1.kIn iC) (fun self => PySem.W.bind_fn I1.kIn self tI)
    (show [u].length ≤ sizeLine from lenA (n := 1) (xs := [v]) rfl (by decide) |> fun z => z) (codeAny_mono (ok.run _ X.stack _ _ ⟨[Value.ref (hp.objs.size + 1), u], []⟩ _ _ goal _ (hr.make C [u] []) (I2.env0.make C [u] []) b2 r2 hspec) ?_))
  intro r s' hq'
  cases r with
  | error er => exact False.elim hq'
  | ok fl =>
    cases fl <;> try exact False.elim hq'
    obtain ⟨v2, H2, os2, bare2, un2, hok2, rv, ev2, d, eH, nd, nda⟩ := hq'
    subst ev2
    have nd1 : H1 d = none := by
      rw [upd_ne nda] at nd
      exact nd
    have ea : H2 (hp.objs.size + 1) = some (exo (hp.objs.size + 1) C (some d)) := by rw [eH]; exact upd_same
    have ed : H2 d = some (exd d [(f, v)]) := by rw [eH, upd_ne nda]; exact upd_same
    obtain ⟨h2, g2, d2, t2, os'⟩ := s'
    obtain ⟨t0, G, J, kG, ge, hoe, naa⟩ := mk_end0 (d2 := d2) (t2 := t2) I1 a1 keep2 un2 hok2 os2 bare2 ea ed nd1
    refine ⟨rv, hp.objs.size + 1, _, _, ⟨G, g2, d2, t2, os'⟩, _, .ref C, some d, rfl, J, kG, ge, hoe, ⟨rfl, rfl, fun ws hw => ?_⟩, rfl, rfl, naa, rfl, bare2, raises_own T.exC T.tyC, ?_⟩
    · cases hw
      rfl
    · obtain ⟨k⟩ := hq
      refine k d _ (fun b o z => ?_) nd1 upd_same
      have hbd : b ≠ d := ne_of_none z nd1
      have hba : b ≠ hp.objs.size + 1 := ne_of_none z na
      rw [upd_ne hbd, del_ne hba, eH, upd_ne hba, upd_ne hbd, upd_ne hba]
      exact z
theorem bs_raise (M : ExM X.prog X.w X.K X.mg X.base x C f) (hr : Room 2 X.A) (hc : X.calm = true) (tk : L2N.Takes X W) (he : PE X e te) (hg : Gl X x := by rfl) (hdb : (x == ("__debug__" : Str)) = false := by decide)
    (hs : starEach [e] X.env = (false, eval e X.env) :: starEach [] X.env := by rfl) : PS X (.Raise (some (.Call (.Name x p) [e] [] pos)) none pos2) (bRaise C f W te) :=
  L2N.ps_raise hc tk (pmk_x M hr he hg hdb hs)
end

/-! ### the exception that is handled -/
/-- the context bears it, at a: an instance of the class at C, its dict d -/
structure HotX (X : Cx) (a : Addr) (cls : Value) (d : Option Addr) : Prop where
  pin : ∃ oe : Obj, (a, oe) ∈ X.pn ∧ L2N.Zn cls d oe ∧ ∃ vs : Array Value, oe.data = .fields vs
  hd : X.A.handled = some (.ref a)
theorem HotX.hot {X : Cx} {a : Addr} {cls : Value} {d : Option Addr} (h : HotX X a cls d) : L2H.HotC X := by
  obtain ⟨⟨oe, hm, z, vs, hv⟩, hh⟩ := h
  exact ⟨(a, oe), ⟨hh, vs, hv, z.2.2 vs hv⟩, hm⟩
/-- a def that is called where it is handled -/
structure FnXOk (P : Program) (w : World) (K : PySem.W.Frag) (mg : Str → Option Value) (base : Heap) (k : Nat) (f : Addr) (fd : FuncData) (ps : List Str) (sp : Addr → Value → Option Addr → Sp) : Prop where
  len : ∀ a cls d vs H Q E, sp a cls d vs H Q E → vs.length = ps.length
  run : ∀ (A : Around) (outer : List Env) (s : Shared) (H : Hp) (args : Args) (us : List Value) (vs : List V) (Q : VK) (E : XK) (p : Addr × Obj) (cls : Value) (d : Option Addr), L2H.RoomH k A → L2H.Hot1 A p → L2N.Zn cls d p.2 → L2H.PinOk outer H s p →
    Env0 P w K mg base A outer s H → BindsTo s fd args (ps.zip us) → Vals vs us → sp p.1 cls d vs H Q E → codeAny (model P w) A (.call (.ref f) args) (CR (L2N.CX P w) outer P w H s Q E) s
inductive FnX (P : Program) (w : World) (K : PySem.W.Frag) (mg : Str → Option Value) (base : Heap) (k : Nat) (x : Str) (ps : List Str) (sp : Addr → Value → Option Addr → Sp) : Prop where
  | mk (f : Addr) (fd : FuncData) (ok : FnXOk P w K mg base k f fd ps sp) (at_ : mg x = some (.ref f)) (kp : PySem.W.keepIn K (.ref f) = true) (bi : Binds K fd ps []) : FnX P w K mg base k x ps sp
theorem FnX.mono {P : Program} {w : World} {K : PySem.W.Frag} {mg : Str → Option Value} {base : Heap} {j k : Nat} {x : Str} {ps : List Str} {sp : Addr → Value → Option Addr → Sp} (h : FnX P w K mg base j x ps sp) (l : j ≤ k) : FnX P w K mg base k x ps sp := by
  obtain ⟨f, fd, ok, a, kp, bi⟩ := h
  exact ⟨f, fd, ⟨ok.len, fun A outer s H args us vs Q E p cls d hr => ok.run A outer s H args us vs Q E p cls d (hr.mono l)⟩, a, kp, bi⟩
abbrev cxX (P : Program) (w : World) (K : PySem.W.Frag) (mg : Str → Option Value) (base : Heap) (N : List Str) (qual : Str) (scope : Scope) (f : Addr) (cd : Value) (A : Around) (outer : List Env) (s : Shared) (H : Hp) (E : XK) (p : Addr × Obj) : Cx :=
  L2H.cxH (L2N.CX P w) P w K mg base N qual scope f cd A outer s H E p
section
variable {P : Program} {w : World} {K : PySem.W.Frag} {mg : Str → Option Value} {base : Heap}
theorem fnx_ok {x qual : Str} {st : Stmt} {f : Addr} {fd : FuncData} {N ps : List Str} {k : Nat} {sp : Addr → Value → Option Addr → Sp} {b : Addr → Value → Option Addr → TS} (F : Fun K x qual st f fd) (S : FnScope N ps (defScope st))
    (rd : ∀ a cls d vs H Q E, sp a cls d vs H Q E → vs.length = ps.length ∧ b a cls d (dE Q) (start N vs) H)
    (dv : ∀ (cdv : Value) (A : Around) (outer : List Env) (s : Shared) (H : Hp) (E : XK) (p : Addr × Obj) (cls : Value) (d : Option Addr), L2H.RoomH k (A.deeper (envOfC qual (defScope st) s.heap.objs.size f cdv)) →
      HotX (cxX P w K mg base N qual (defScope st) f cdv A outer s H E p) p.1 cls d → PSs (cxX P w K mg base N qual (defScope st) f cdv A outer s H E p) (defBody st) (b p.1 cls d)) : FnXOk P w K mg base (k + 1) f fd ps sp := by
  obtain ⟨oc, od, kV, doc, pm, an, cdv, ct, osl, rfl, lk, hcd⟩ := F.ex
  refine ⟨fun a cls d vs H Q E h => (rd a cls d vs H Q E h).1, ?_⟩
  intro A outer s H args us vs Q E p cls d hr hot hz hpin e0 hb r hsp
  have hl := (rd _ _ _ vs H Q E hsp).1
  have KX : K.In s.heap := e0.mod.kin.keeps (fun _ _ z => (e0.bs _ _ z).1)
  have lim : s.heap.NoLimit := e0.mod.nolimit.keeps (fun _ _ z => (e0.bs _ _ z).1)
  refine codeAny_call_function hr.depth (KX _ _ lk) rfl S.co S.gen rfl (PySem.W.codeRec_of KX hcd) (hb _ _ _ _ (wpAny_newFunctionEnv_cells S.kind ?_ ?_))
  · rintro ⟨n, v⟩ hy
    rcases S.par n (List.of_mem_zip hy).1 with z | z
    · exact .inl z
    · exact .inr ⟨z, PySem.W.cellsFrom_some _ _ _ (.inl z)⟩
  · intro env he s1 x1
    subst he
    have I := L2H.inv_startH (CX := L2N.CX P w) (E := E) S hpin e0 hl r x1
    have hx : HotX (cxX P w K mg base N qual (defScope st) f cdv A outer s H E p) p.1 cls d := ⟨⟨p.2, List.mem_singleton.mpr rfl, hz, hot.2.imp fun _ z => z.1⟩, hot.1⟩
    have body := (dv cdv A outer s H E p cls d (hr.deeper _) hx).run [] s1 (start N vs) H (dE Q) I (rd _ _ _ vs H Q E hsp).2
    refine ⟨lim.keeps x1.toInCall.keep, codeAny_func (wpAny_mono body ?_ fun _ _ z => z)⟩
    intro fl s' hs
    cases fl
    · obtain ⟨σ', H', J, q⟩ := hs
      exact ⟨V.non, H', J.os, J.bare, J.base, J.hok, rfl, q⟩
    · obtain ⟨_, _, _, q⟩ := hs
      exact False.elim q
    · obtain ⟨_, _, _, q⟩ := hs
      exact False.elim q
    · obtain ⟨v, σ', H', J, rv, q⟩ := hs
      exact ⟨v, H', J.os, J.bare, J.base, J.hok, rv, q⟩
end
section
variable {X : Cx} {k : Nat} {x n : Str} {ps : List Str} {sp : Addr → Value → Option Addr → Sp} {sp0 : Sp} {W : WX} {p p2 p3 pos : Pos} {e o : Expr} {es : List Expr} {te : TE} {t : TA} {a C : Addr} {cls : Value} {d : Option Addr}
theorem be_callX (F : FnX X.prog X.w X.K X.mg X.base k x ps sp) (hr : L2H.RoomH k X.A) (hx : HotX X a cls d) (tk : L2N.Takes X W) (ha : PAn X (e :: es) t) (hg : Gl X x := by rfl) (hdb : (x == ("__debug__" : Str)) = false := by decide)
    (he : starEach (e :: es) X.env = (false, eval e X.env) :: starEach es X.env := by rfl) (hpl : (backTo pos (starEach es X.env)).any (·.1) = false := by rfl) : PE X (.Call (.Name x p) (e :: es) [] pos) (bCall (sp a cls d) W t) := by
  obtain ⟨f, fd, ok, at_, kp, bi⟩ := F
  constructor
  intro pins s σ H Q I h
  refine wpAny_Call_Name_kw (ld_glob I hg at_ (PySem.W.callWith_K (h₀ := X.base) I.ok.mod.kin kp (thn (ha.pa.run pos pins s σ H _ I h) ?_) he hpl) hdb)
  intro us s1 ⟨vs, H1, I1, r, q⟩
  refine ⟨I1.kIn, ?_⟩
  have hl : us.length = ps.length := by rw [← r.length]; exact ok.len _ _ _ _ _ _ _ q
  have b2 := bi s1 us I1.kIn (by simpa using hl)
  rw [List.append_nil] at b2
  obtain ⟨⟨oe, hm, hz, ws, hws⟩, hh⟩ := hx
  have P1 := I1.pin (a, oe) (List.mem_append_left _ hm)
  have pk : L2H.PinOk X.stack H1 s1 (a, oe) := by
    refine ⟨P1.1, P1.2.1, fun z => ?_, P1.2.2.2.2⟩
    rcases List.mem_cons.mp (I1.stkSub a z) with y | y
    · exact P1.2.2.1 y
    · exact P1.2.2.2.1 y
  refine wpAny_call (codeAny_mono (ok.run X.A X.stack s1 H1 ⟨us, []⟩ us vs Q _ (a, oe) cls d hr ⟨hh, ws, hws, hz.2.2 ws hws⟩ hz pk I1.env0 b2 r q) ?_)
  intro r s' hq
  cases r with
  | error e => exact L2N.passAt tk σ pins H1 s1 e s' I1 hq
  | ok fl => cases fl <;> first
    | exact I1.after hq
    | exact False.elim hq
/-- isinstance(e, X), e the exception that is handled, X an own class or a built-in one -/
def bIsX (K : PySem.W.Frag) (a : Addr) (cls : Value) (c : Value) (te : TE) : TE := fun σ H Q => te σ H fun x H1 => x = .ref a ∧ (∃ D, cls = .ref D ∧ ExK K D) ∧ (∀ dd, d = some dd → ∃ fs, H1 dd = some (.xd fs)) ∧ ∃ b, PySem.W.kitOne K cls c = some b ∧ Q (.bl b) H1
theorem inst_at {pins : List (Addr × Obj)} {σ : Sg} {H : Hp} {s : Shared} {D : Addr} (hx : HotX X a (.ref D) d) (I : Inv X pins σ H s) (hd : ∀ dd, d = some dd → ∃ fs, H dd = some (.xd fs)) : ∃ oe od, PySem.W.InstAt s.heap a oe D od ∧ (∀ dd fs, d = some dd → H dd = some (.xd fs) → ∃ (o : Obj) (m : Str → Option Value), od = some o ∧ (∀ name, PySem.W.lookIn name o = some (m name)) ∧ ∀ f, RelO (fs.lookup f) (m f)) := by
  obtain ⟨⟨oe, hm, hz, ws, hws⟩, hh⟩ := hx
  have P1 := I.pin (a, oe) (List.mem_append_left _ hm)
  have nc : PySem.W.notCls oe = true := by unfold PySem.W.notCls; rw [hws] <;> rfl
  cases d with
  | none => exact ⟨oe, none, ⟨P1.1, hz.1, nc, by rw [hz.2.1]; trivial⟩, fun _ _ z => nomatch z⟩
  | some dd =>
    obtain ⟨fs, hf⟩ := hd dd rfl
    obtain ⟨m, hn, hr⟩ := (show ObjOk X.prog X.w H s.heap dd (.xd fs) from I.hok dd _ hf)
    obtain ⟨o, ho, hl⟩ := lookIn_ns hn
    refine ⟨oe, some o, ⟨P1.1, hz.1, nc, by rw [hz.2.1]; exact ho⟩, fun d2 fs2 e1 e2 => ?_⟩
    cases e1
    rw [hf] at e2
    cases e2
    exact ⟨o, m, rfl, hl, hr⟩
theorem be_isX {c : Value} {v : V} (hx : HotX X a cls d) (hm : X.mg "isinstance" = none) (he : PE X e te) (ho : PE X o (tC v)) (hv : ∀ u, RelV v u → u = c) (hg : Gl X "isinstance" := by rfl)
    (h1 : starEach [e, o] X.env = (false, eval e X.env) :: starEach [o] X.env := by rfl) (h2 : starEach [o] X.env = (false, eval o X.env) :: starEach [] X.env := by rfl)
    (hpl : (backTo pos (starEach [o] X.env)).any (·.1) = false := by rfl) : PE X (.Call (.Name "isinstance" p) [e, o] [] pos) (bIsX (d := d) X.K a cls c te) := by
  have cr : CallR X (.builtin "isinstance") (fun xs H Q => xs = [.ref a, v] ∧ (∃ D, cls = .ref D ∧ ExK X.K D) ∧ (∀ dd, d = some dd → ∃ fs, H dd = some (.xd fs)) ∧ ∃ b, PySem.W.kitOne X.K cls c = some b ∧ Q (.bl b) H) := by
    intro pins s σ H xs us Q I r ⟨ex, ⟨D, eD, T⟩, hd, b, hb, q⟩
    subst ex
    subst eD
    obtain ⟨u1, u2, rfl, r1, r2⟩ := vals2 r
    obtain rfl : u1 = Value.ref a := r1
    have e2 := hv u2 r2
    subst e2
    obtain ⟨oe, od, J, _⟩ := inst_at hx I hd
    have hcl : (PySem.W.clsIn X.K D).isSome = true := by
      obtain ⟨cd, hc, _⟩ := PySem.W.any_some T.hd
      rw [hc]; rfl
    exact PySem.W.kia_one (PySem.W.kitx_exc hcl T.ga T.gg T.oex.exC T.ca T.cn T.ct T.cm) I.kIn J hb (fun z => nomatch z) fun tk => ⟨.bl b, H, I.kept (t' := tk) fun _ _ z => z, rfl, q⟩
  refine PE.imp (pe_callB cr hg hm (by decide +kernel) (pa_cons (PE.up he) (pa_cons ho pa_nil h2) h1) (he := h1) (hpl := hpl)) fun σ H Q q => ⟨_, q, ?_⟩
  rintro x H' ⟨ex, z⟩
  subst ex
  exact ⟨rfl, z⟩
/-- e.f, e the exception that is handled -/
def bAtX (K : PySem.W.Frag) (a : Addr) (cls : Value) (d : Option Addr) (f : Str) (te : TE) : TE := fun σ H Q => te σ H fun x H1 => x = .ref a ∧ ∃ (D dd : Addr) (fs : List (Str × V)) (v : V), cls = .ref D ∧ ExK K D ∧ PySem.W.findIn K (.ref D) f = some none ∧ d = some dd ∧ H1 dd = some (.xd fs) ∧ fs.lookup f = some v ∧ Q v H1
theorem be_atX (hx : HotX X a cls d) (he : PE X e te) (hb : attributeBase e n X.env (eval e X.env) = eval e X.env := by rfl) : PE X (.Attribute e n pos) (bAtX X.K a cls d n te) := by
  constructor
  intro pins s σ H Q I h
  refine attr_of hb (thn (he.run pins s σ H _ I h) ?_)
  intro u s1 ⟨x, H1, I1, rx, ex, D, dd, fs, v, ec, T, hno, ed, hf, hl, q⟩
  subst ex
  obtain rfl : u = Value.ref a := rx
  subst ec
  subst ed
  obtain ⟨oe, od, J, hod⟩ := inst_at hx I1 (fun d2 z => by cases z; exact ⟨fs, hf⟩)
  obtain ⟨o, m, rfl, h3, h4⟩ := hod dd fs rfl hf
  obtain ⟨u2, hu, ru⟩ := RelO.some_of (v := v) (o := m n) (by rw [← hl]; exact h4 n)
  exact HandSPX.exc_get I1.kIn J T.ga T.gg T.oex.exC (PySem.W.findObj_own T.hd hno rfl (by rw [h3, hu])) (handed_of ru) ⟨v, H1, I1.tok _, ru, q⟩
end
theorem takesF {X : Cx} : L2N.Takes X (fun _ _ _ _ => False) := fun _ _ x => by
  obtain ⟨_, _, _, _, _, _, _, _, _, _, _, _, _, _, _, _, z⟩ := x
  exact z.elim
/-- try: .. except x as n: .. -/
def bTry (K : PySem.W.Frag) (c : Value) (i : Nat) (tb : WX → TS) (ts : Addr → Value → Option Addr → TS) (Wout : WX) : TS := fun D σ H => tb (wAs K c i ts Wout D) D σ H
section
variable {X : Cx} {x n : Str} {c : Value} {i : Nat} {body suite : List Stmt} {b₀ : Stmt} {np pos pos' : Pos} {tb : WX → TS} {ts : Addr → Value → Option Addr → TS} {Wout : WX}
theorem bs_try (hs : X.stack = X.env :: X.outer) (hf : X.env.frame = some X.env.locals) (hN : X.N.Nodup) (hi : X.N[i]? = some n) (hln : X.env.kindOf n = some .local) (hc : Names X x c) (tk : L2N.Takes X Wout)
    (hb : ∀ (W : WX) (pn : List (Addr × Obj)) (xe : Value → Shared → Prop), L2N.Takes (X.tr pn xe) W → PassesOwn (model X.prog X.w) X.A X.env xe → PSs (X.tr pn xe) body (tb W))
    (hsu : ∀ (a : Addr) (oe : Obj) (cls : Value) (d : Option Addr) (pn : List (Addr × Obj)), HotX (X.suite a ((a, oe) :: pn)) a cls d → PSs (X.suite a ((a, oe) :: pn)) (b₀ :: suite) (ts a cls d)) :
    PS X (.Try body [.ExceptHandler (some (.Name x np)) (some n) (b₀ :: suite) pos'] [] [] pos) (bTry X.K c i tb ts Wout) :=
  L2N.ps_try_as hs hf hN hi hln hc tk hb fun a oe cls d pn hz hv => hsu a oe cls d pn ⟨⟨oe, List.mem_cons_self, hz, hv⟩, rfl⟩
end
/-- where the classes of the program stand -/
structure Ad where
  K : PySem.W.Frag
  ShadeError : Addr
  WrongKind : Addr
  WrongSize : Addr
  OutOfRange : Addr
  BadText : Addr
  NotATable : Addr
  Spent : Addr
  TooFewPlaces : Addr
  WrongPaper : Addr
  UnknownName : Addr
  NameTaken : Addr
  NothingToUndo : Addr
  BookFull : Addr
theorem Ex.app {H H' : Hp} {a : Addr} {o : HO} (x : Ex H H') (h : H a = some o) : H' a = some o := x a o h
theorem ExB.app {l : Addr} {H H' : Hp} {a : Addr} {o : HO} (x : ExB l H H') (n : a ≠ l) (h : H a = some o) : H' a = some o := x a o n h
theorem ne_new {H : Hp} {a b : Addr} {o : HO} (h : H a = some o) (n : H b = none) : a ≠ b := ne_of_none h n
/-- the law's store of drawn numbers, at st -/
structure Sto where
  a : Addr
  sl : Addr
instance : Coe Sto Addr := ⟨Sto.a⟩
def Store (H : Hp) (st : Sto) : Prop := ∃ (ns : List Int) (i c m t : Int), H st.a = some (.lst [.ref st.sl, .int i, .int c, .int m, .int t]) ∧ H st.sl = some (.lst (ns.map .int)) ∧ 0 ≤ i ∧ 0 ≤ c
/-- a size that // and range bear -/
def Sz (n : Int) : Prop := n.natAbs.log2 < 9000
theorem Sz.of {n : Int} (k : Nat) (h : n.natAbs < 2 ^ k) (h0 : 0 < k) (h9 : k ≤ 9000) : Sz n := Nat.lt_of_lt_of_le (PySem.Flt.log2_lt_of h0 h) h9
theorem Sz.small {n : Int} (h : n.natAbs < 18446744073709551616) : Sz n := Sz.of 64 h (by decide) (by decide)
theorem mulL {i j : Int} (h1 : -18446744073709551616 < i) (h2 : i < 18446744073709551616) : CMulA i j := .inl (.inl ⟨by omega, by omega⟩)
theorem mulR {i j : Int} (h1 : -18446744073709551616 < j) (h2 : j < 18446744073709551616) : CMulA i j := .inl (.inr ⟨by omega, by omega⟩)
theorem divS {i j : Int} (h : j ≠ 0) (s : Sz j) : CDivX i j := ⟨h, s⟩
theorem atI_at {α : Type} {xs : List α} {i : Int} {v : α} (h0 : 0 ≤ i) (h : xs[i.toNat]? = some v) : atI xs i = some v := by
  have e : ((i.toNat : Nat) : Int) = i := by omega
  rw [← e]
  exact atI_nat h
theorem atI_of {α : Type} {xs : List α} {i : Int} (h0 : 0 ≤ i) (h1 : i < xs.length) : atI xs i = some (xs[i.toNat]'(by omega)) := atI_at h0 (List.getElem?_eq_getElem _)
theorem atI_ints {ns : List Int} {i : Int} (h0 : 0 ≤ i) (h1 : i < (ns.map V.int).length) : ∃ n, atI (ns.map V.int) i = some (.int n) := by
  refine ⟨ns[i.toNat]'(by simp at h1; omega), ?_⟩
  rw [atI_of h0 h1, List.getElem_map]
theorem fdiv_nn {a b : Int} (h : 0 ≤ a) (hb : 0 < b) : 0 ≤ a.fdiv b := by
  rw [Int.fdiv_eq_ediv_of_nonneg a (by omega)]
  exact Int.ediv_nonneg h (by omega)
theorem map_get {ns : List Int} {i : Nat} {x : V} (h : (ns.map V.int)[i]? = some x) : ∃ n, x = .int n ∧ ns[i]? = some n := by
  rw [List.getElem?_map] at h
  cases e : ns[i]? with
  | none => rw [e] at h; cases h
  | some n => rw [e] at h; exact ⟨n, (Option.some.inj h).symm, rfl⟩
theorem bits_sz {m : Int} (h : Sz m) : Builtin.Int.intBits m < 9001 := by
  have h : m.natAbs.log2 < 9000 := h
  unfold Builtin.Int.intBits
  split <;> omega
theorem toNat_inj {a b : Char} (h : a.toNat = b.toNat) : a = b := by
  have : a.val = b.val := UInt32.toNat_inj.mp h
  exact Char.ext this
theorem map_nat_inj : ∀ {a b : List Char}, a.map Char.toNat = b.map Char.toNat → a = b
  | [], [], _ => rfl
  | [], _ :: _, h => by simp at h
  | _ :: _, [], h => by simp at h
  | x :: a, y :: b, h => by
    rw [List.map_cons, List.map_cons] at h
    obtain ⟨h1, h2⟩ := List.cons.inj h
    rw [toNat_inj h1, map_nat_inj h2]
theorem ofs_inj (a b : String) : (Str.ofString a = Str.ofString b) = (a = b) := by
  apply propext
  constructor
  · intro h
    rw [PySem.Str.ofString_eq_toList, PySem.Str.ofString_eq_toList] at h
    have h1 : (a.toList.map Char.toNat) = (b.toList.map Char.toNat) := by
      have := congrArg (fun s : Str => s.cps.toList) h
      simpa using this
    exact String.ext (map_nat_inj h1)
  · intro h
    rw [h]
example : ¬ ((("WrongKind" : Str) = ("" : Str))) := by
  simp only [ofs_inj, String.reduceEq, reduceCtorEq, not_false_eq_true]
theorem mulZ {i j : Int} (h1 : Sz i) (h2 : Sz j) : CMulA i j := by
  have a := bits_sz h1
  have b := bits_sz h2
  refine .inr ?_
  unfold CMulX
  omega
theorem new_ne {H : Hp} {m p : Addr} (h : H m ≠ none) (n : H p = none) : p ≠ m := fun z => h (z ▸ n)
/-! ### data at any depth -/
inductive Dt where
  | non | bl (b : Bool) | int (i : Int) | str (x : Str) | lst (ds : List Dt) | tup (ds : List Dt) | dct
mutual
/-- v is the data d in the heap H, apart from what stands at m -/
inductive At (m : Addr) (H : Hp) : Dt → V → Prop where
  | non : At m H .non .non
  | bl (b : Bool) : At m H (.bl b) (.bl b)
  | int (i : Int) : At m H (.int i) (.int i)
  | str (x : Str) : At m H (.str x) (.str x)
  | dct {p : Addr} (n : p ≠ m) (hp : H p = some (.dK [])) : At m H .dct (.ref p)
  | lst {ds : List Dt} {xs : List V} {p : Addr} (n : p ≠ m) (hp : H p = some (.lst xs)) (l : AtL m H ds xs) : At m H (.lst ds) (.ref p)
  | tup {ds : List Dt} {xs : List V} {p : Addr} (n : p ≠ m) (hp : H p = some (.tup xs)) (l : AtL m H ds xs) : At m H (.tup ds) (.ref p)
inductive AtL (m : Addr) (H : Hp) : List Dt → List V → Prop where
  | nil : AtL m H [] []
  | cons {d : Dt} {x : V} {ds : List Dt} {xs : List V} (h : At m H d x) (l : AtL m H ds xs) : AtL m H (d :: ds) (x :: xs)
end
mutual
theorem At.monoB {m : Addr} {H H' : Hp} (e : ExB m H H') : ∀ {d : Dt} {v : V}, At m H d v → At m H' d v
  | _, _, .non => .non
  | _, _, .bl b => .bl b
  | _, _, .int i => .int i
  | _, _, .str x => .str x
  | _, _, .dct n hp => .dct n (e _ _ n hp)
  | _, _, .lst n hp l => .lst n (e _ _ n hp) (AtL.monoB e l)
  | _, _, .tup n hp l => .tup n (e _ _ n hp) (AtL.monoB e l)
theorem AtL.monoB {m : Addr} {H H' : Hp} (e : ExB m H H') : ∀ {ds : List Dt} {xs : List V}, AtL m H ds xs → AtL m H' ds xs
  | _, _, .nil => .nil
  | _, _, .cons h l => .cons (At.monoB e h) (AtL.monoB e l)
end
theorem At.mono {m : Addr} {H H' : Hp} {d : Dt} {v : V} (e : Ex H H') (h : At m H d v) : At m H' d v := h.monoB (e.but m)
theorem AtL.mono {m : Addr} {H H' : Hp} {ds : List Dt} {xs : List V} (e : Ex H H') (h : AtL m H ds xs) : AtL m H' ds xs := h.monoB (e.but m)
section
variable {m : Addr} {H H' : Hp} {v x : V} {d : Dt} {ds es : List Dt} {xs ys : List V} {p : Addr}
theorem at_tup (n : p ≠ m) (h : H p = some (.tup xs)) (l : AtL m H ds xs) : At m H (.tup ds) (.ref p) := .tup n h l
theorem at_lst (n : p ≠ m) (h : H p = some (.lst xs)) (l : AtL m H ds xs) : At m H (.lst ds) (.ref p) := .lst n h l
theorem at_non_inv (h : At m H .non v) : v = .non := by cases h; rfl
theorem at_bl_inv {b : Bool} (h : At m H (.bl b) v) : v = .bl b := by cases h; rfl
theorem at_int_inv {i : Int} (h : At m H (.int i) v) : v = .int i := by cases h; rfl
theorem at_str_inv {s : Str} (h : At m H (.str s) v) : v = .str s := by cases h; rfl
theorem at_dct_inv (h : At m H .dct v) : ∃ p, v = .ref p ∧ p ≠ m ∧ H p = some (.dK []) := by cases h with | dct n hp => exact ⟨_, rfl, n, hp⟩
theorem at_lst_inv (h : At m H (.lst ds) v) : ∃ p xs, v = .ref p ∧ p ≠ m ∧ H p = some (.lst xs) ∧ AtL m H ds xs := by cases h with | lst n hp l => exact ⟨_, _, rfl, n, hp, l⟩
theorem at_tup_inv (h : At m H (.tup ds) v) : ∃ p xs, v = .ref p ∧ p ≠ m ∧ H p = some (.tup xs) ∧ AtL m H ds xs := by cases h with | tup n hp l => exact ⟨_, _, rfl, n, hp, l⟩
theorem atl_nil_inv (h : AtL m H [] xs) : xs = [] := by cases h; rfl
theorem atl_cons_inv (h : AtL m H (d :: ds) xs) : ∃ x r, xs = x :: r ∧ At m H d x ∧ AtL m H ds r := by cases h with | cons h l => exact ⟨_, _, rfl, h, l⟩
theorem atl_nil : AtL m H [] [] := .nil
theorem atl_cons (h : At m H d x) (l : AtL m H ds xs) : AtL m H (d :: ds) (x :: xs) := .cons h l
theorem AtL.len : ∀ {ds : List Dt} {xs : List V}, AtL m H ds xs → xs.length = ds.length
  | [], _, h => by rw [atl_nil_inv h]; rfl
  | _ :: _, _, h => by
    obtain ⟨x, r, rfl, _, l⟩ := atl_cons_inv h
    rw [List.length_cons, List.length_cons, AtL.len l]
theorem AtL.get : ∀ {ds : List Dt} {xs : List V} {i : Nat} {x : V}, AtL m H ds xs → xs[i]? = some x → ∃ d, ds[i]? = some d ∧ At m H d x
  | [], _, i, _, h, e => by rw [atl_nil_inv h] at e; simp at e
  | d :: ds, _, 0, _, h, e => by
    obtain ⟨y, r, rfl, hy, _⟩ := atl_cons_inv h
    simp at e; subst e
    exact ⟨d, rfl, hy⟩
  | d :: ds, _, i + 1, _, h, e => by
    obtain ⟨y, r, rfl, _, l⟩ := atl_cons_inv h
    obtain ⟨d', e1, e2⟩ := AtL.get (i := i) l (by simpa using e)
    exact ⟨d', by simpa using e1, e2⟩
theorem AtL.at (l : AtL m H ds xs) {i : Nat} {d : Dt} (h : ds[i]? = some d) : ∃ x, xs[i]? = some x ∧ At m H d x := by
  have hl := l.len
  have hi : i < xs.length := by rw [hl]; exact (List.getElem?_eq_some_iff.mp h).1
  obtain ⟨d', e1, e2⟩ := l.get (List.getElem?_eq_getElem hi)
  rw [h] at e1
  cases e1
  exact ⟨_, List.getElem?_eq_getElem hi, e2⟩
/-- an index that lies in it -/
theorem AtL.ati (l : AtL m H ds xs) {i : Int} (h0 : 0 ≤ i) (h1 : i < ds.length) : ∃ x d, atI xs i = some x ∧ ds[i.toNat]? = some d ∧ At m H d x := by
  have e : ds[i.toNat]? = some (ds[i.toNat]'(by omega)) := List.getElem?_eq_getElem _
  obtain ⟨x, hx, a⟩ := l.at e
  exact ⟨x, _, atI_at h0 hx, e, a⟩
theorem AtL.append : ∀ {ds : List Dt} {xs : List V}, AtL m H ds xs → AtL m H es ys → AtL m H (ds ++ es) (xs ++ ys)
  | [], _, h, k => by rw [atl_nil_inv h]; exact k
  | _ :: _, _, h, k => by
    obtain ⟨y, r, rfl, hy, l⟩ := atl_cons_inv h
    exact atl_cons hy (AtL.append l k)
theorem AtL.rev : ∀ {ds : List Dt} {xs : List V}, AtL m H ds xs → AtL m H ds.reverse xs.reverse
  | [], _, h => by rw [atl_nil_inv h]; exact atl_nil
  | _ :: _, _, h => by
    obtain ⟨y, r, rfl, hy, l⟩ := atl_cons_inv h
    rw [List.reverse_cons, List.reverse_cons]
    exact (AtL.rev l).append (atl_cons hy atl_nil)
theorem atl_ints : ∀ {ns : List Int}, AtL m H (ns.map Dt.int) (ns.map V.int)
  | [] => atl_nil
  | _ :: _ => atl_cons (.int _) atl_ints
end
/-- a list's first item is no container -/
def Dt.hs : List Dt → Prop
  | .non :: _ => True
  | .bl _ :: _ => True
  | .int _ :: _ => True
  | .str _ :: _ => True
  | _ => False
/-! ### sizes of the ints within -/
mutual
def Dt.sm (k : Nat) : Dt → Prop
  | .int i => i.natAbs < 2 ^ k
  | .lst ds => Dt.sms k ds ∧ Dt.hs ds
  | .tup ds => Dt.sms k ds
  | _ => True
def Dt.sms (k : Nat) : List Dt → Prop
  | [] => True
  | d :: ds => d.sm k ∧ Dt.sms k ds
end
theorem sm_lt {a j k : Nat} (h : a < 2 ^ j) (l : j ≤ k) : a < 2 ^ k := Nat.lt_of_lt_of_le h (Nat.pow_le_pow_right (by decide) l)
mutual
theorem Dt.sm_mono {j k : Nat} (l : j ≤ k) : ∀ {d : Dt}, d.sm j → d.sm k
  | .non, _ => by rw [Dt.sm] <;> simp
  | .bl _, _ => by rw [Dt.sm] <;> simp
  | .int _, h => by rw [Dt.sm] at h ⊢; exact sm_lt h l
  | .str _, _ => by rw [Dt.sm] <;> simp
  | .dct, _ => by rw [Dt.sm] <;> simp
  | .lst _, h => by rw [Dt.sm] at h ⊢; exact ⟨Dt.sms_mono l h.1, h.2⟩
  | .tup _, h => by rw [Dt.sm] at h ⊢; exact Dt.sms_mono l h
theorem Dt.sms_mono {j k : Nat} (l : j ≤ k) : ∀ {ds : List Dt}, Dt.sms j ds → Dt.sms k ds
  | [], _ => by rw [Dt.sms]; trivial
  | _ :: _, h => by rw [Dt.sms] at h ⊢; exact ⟨Dt.sm_mono l h.1, Dt.sms_mono l h.2⟩
end
theorem sms_get {k : Nat} : ∀ {ds : List Dt} {i : Nat} {d : Dt}, Dt.sms k ds → ds[i]? = some d → d.sm k
  | [], i, d, _, e => by simp at e
  | x :: ds, 0, d, h, e => by simp at e; subst e; rw [Dt.sms] at h; exact h.1
  | x :: ds, i + 1, d, h, e => by rw [Dt.sms] at h; exact sms_get h.2 (by simpa using e)

/-! ### depth -/
def Dt.okN : Nat → Dt → Prop
  | 0, _ => False
  | n + 1, .tup ds => ds.length < 100000 ∧ ∀ d ∈ ds, Dt.okN n d
  | n + 1, .lst ds => ds.length < 100000 ∧ ∀ d ∈ ds, Dt.okN n d
  | _ + 1, _ => True
theorem okN_succ : ∀ {n : Nat} {d : Dt}, d.okN n → d.okN (n + 1)
  | 0, _, h => h.elim
  | n + 1, .tup ds, h => ⟨h.1, fun d hd => okN_succ (h.2 d hd)⟩
  | n + 1, .lst ds, h => ⟨h.1, fun d hd => okN_succ (h.2 d hd)⟩
  | n + 1, .non, _ => trivial
  | n + 1, .bl _, _ => trivial
  | n + 1, .int _, _ => trivial
  | n + 1, .str _, _ => trivial
  | n + 1, .dct, _ => trivial
/-- small, and of little depth -/
def Dt.fit (d : Dt) : Prop := d.sm 140 ∧ d.okN 4
/-! ### an expression that makes data, leaving all that is tracked -/
def Dv (m : Addr) (te : TE) (σ : Sg) (H : Hp) (d : Dt) : Prop := ∀ H1, Ex H H1 → ∀ Q : VK, (∀ v H2, Ex H1 H2 → At m H2 d v → Q v H2) → te σ H1 Q
def DvA (m : Addr) (ta : TA) (σ : Sg) (H : Hp) (ds : List Dt) : Prop := ∀ H1, Ex H H1 → ∀ Q : List V → Hp → Prop, (∀ vs H2, Ex H1 H2 → AtL m H2 ds vs → Q vs H2) → ta σ H1 Q
section
variable {m : Addr} {σ : Sg} {H : Hp} {te : TE} {ta : TA} {d : Dt} {ds : List Dt} {v : V}
theorem dx_c (h : ∀ H, At m H d v) : Dv m (tC v) σ H d := fun H1 _ Q k => k v H1 (Ex.refl _) (h H1)
theorem dx_int (i : Int) : Dv m (tC (.int i)) σ H (.int i) := dx_c fun _ => .int i
theorem dx_str (s : Str) : Dv m (tC (.str s)) σ H (.str s) := dx_c fun _ => .str s
theorem dx_bl (b : Bool) : Dv m (tC (.bl b)) σ H (.bl b) := dx_c fun _ => .bl b
theorem dx_non : Dv m (tC .non) σ H .non := dx_c fun _ => .non
theorem dx_neg (i : Int) : Dv m (tUn bNeg (tC (.int i))) σ H (.int (-i)) := fun H1 _ Q k => k _ H1 (Ex.refl _) (.int _)
theorem dx_var {i : Nat} (e : σ[i]? = some (some v)) (h : At m H d v) : Dv m (bVar i) σ H d := fun H1 x Q k => by
  unfold bVar
  rw [e]
  exact k v H1 (Ex.refl _) (h.mono x)
theorem dxa_nil : DvA m tNil σ H [] := fun H1 _ Q k => k [] H1 (Ex.refl _) atl_nil
theorem dxa_cons (h : Dv m te σ H d) (l : DvA m ta σ H ds) : DvA m (tCons te ta) σ H (d :: ds) := fun H1 x Q k =>
  h H1 x _ fun v H2 x2 a => l H2 (x.trans x2) _ fun vs H3 x3 al => k _ H3 (x2.trans x3) (atl_cons (a.mono x3) al)
theorem dx_tup (hm : H m ≠ none) (l : DvA m ta σ H ds) : Dv m (bTup ta) σ H (.tup ds) := fun H1 x Q k =>
  l H1 x _ fun vs H2 x2 al => Alloc.mk fun p H3 x3 n hp => k _ H3 (x2.trans x3) (at_tup (fun z => hm ((x.trans x2).fresh (z ▸ n))) hp (al.mono x3))
theorem dx_lst (hm : H m ≠ none) (l : DvA m ta σ H ds) : Dv m (bLst ta) σ H (.lst ds) := fun H1 x Q k =>
  l H1 x _ fun vs H2 x2 al => Alloc.mk fun p H3 x3 n hp => k _ H3 (x2.trans x3) (at_lst (fun z => hm ((x.trans x2).fresh (z ▸ n))) hp (al.mono x3))
theorem dx_dct (hm : H m ≠ none) : Dv m bDct0 σ H .dct := fun H1 x Q k =>
  Alloc.mk fun p H3 x3 n hp => k _ H3 x3 (.dct (fun z => hm (x.fresh (z ▸ n))) hp)
theorem Dv.run {Q : VK} (h : Dv m te σ H d) (k : ∀ v H2, Ex H H2 → At m H2 d v → Q v H2) : te σ H Q := h H (Ex.refl _) Q k
end
/-! ### list(reversed(a list)) -/
def Mt : Obj := { cls := .type "list", data := .seq #[] }
section
variable {pg : Program} {wd : World} {B : Around} {EE : Value → Shared → Prop} {t : Shared}
theorem init_lrev {Rf : Result → Shared → Prop} {j c S : Addr} {ar : Array Value} (nh : B.handled = none) (nS1 : S ≠ j) (nS2 : S ≠ c) (ncj : c ≠ j)
    (gi : t.heap.IsRevIter j c ((ar.size : Int) - 1)) (gl : t.heap.IsList c ar) (gS : t.heap.get? S = some Mt) (sz : ar.size ≤ sizeLine)
    (fin : ∀ h2 k2 out n2, (∀ b o, b ≠ S → b ≠ j → t.heap.get? b = some o → h2.get? b = some o) → h2.get? S = some { cls := .type "list", dict := none, data := .seq out n2, slots := #[] } → ItemsOf (fun i v => ar[ar.size - 1 - i]? = some v) out ar.size → Rf (.ok (.ret .none)) { t with heap := h2, toks := k2 }) :
    wpAny (model pg wd) B.in1 (Builtin.«list.__init__» ⟨[.ref S, .ref j], []⟩)
      (fun z t2 => match z with | .done f => Rf (.ok f) t2 | .again d => d.quiet = true ∧ codeAny (model pg wd) B d Rf t2) (fun e t2 => Rf (.error e) t2) t := by
  have off : ∀ {hh : Heap} (g : Obj → Obj) (b : Addr) (o : Obj), b ≠ S → hh.get? b = some o → (hh.update S g).get? b = some o := fun g b o nb e => (Heap.get?_update_other _ _ (Ne.symm nb)).trans e
  show wpAny _ _ (Builtin.List.listItems (.ref S) >>= fun was => Builtin.List.listUpdate (.ref S) (fun _ => #[]) >>= fun _ => letGo was.toList.reverse >>= fun _ => Builtin.List.listExtendWith (.ref S) (.ref j) .none) _ _ t
  refine wpAny_bind ?_
  unfold Builtin.List.listItems
  refine wpAny_bind (wpAny_seqItems gS rfl (wpAny_pure ?_))
  show wpAny _ _ (updateSeq S (fun _ => #[]) >>= fun _ => letGo (#[] : Array Value).toList.reverse >>= fun _ => (Builtin.List.listExtendWith (.ref S) (.ref j) .none)) _ _ t
  refine wpAny_bind (wpAny_updateSeq gS rfl ?_)
  have gS2 := Heap.get?_update_self (Obj.mapSeq (fun _ => (#[] : Array Value))) gS rfl
  refine wpAny_bind (wpAny_letGo ?_)
  have gi2 : (t.heap.update S (Obj.mapSeq (fun _ => (#[] : Array Value)))).IsRevIter j c ((ar.size : Int) - 1) := gi.at fun o e => off _ j o (Ne.symm nS1) e
  have gl2 : (t.heap.update S (Obj.mapSeq (fun _ => (#[] : Array Value)))).IsList c ar := gl.at fun o e => off _ c o (Ne.symm nS2) e
  have ty : ({ t with heap := t.heap.update S (Obj.mapSeq (fun _ => (#[] : Array Value))) } : Shared).TypeIs (.ref j) "list_reverseiterator" := Heap.IsRevIter.typeIs (s := { t with heap := t.heap.update S (Obj.mapSeq (fun _ => (#[] : Array Value))) }) gi2
  unfold Builtin.List.listExtendWith
  refine wpAny_bind (wpAny_typeOf ty ?_)
  have q1 : Builtin.List.listSameRef (.ref S) (.ref j) = false := by simp [Builtin.List.listSameRef, nS1]
  rw [if_neg (by rw [q1]; decide)]
  refine wpAny_bind (wpAny_pyIter_revIter (s := { t with heap := t.heap.update S (Obj.mapSeq (fun _ => (#[] : Array Value))) }) gi2 ?_)
  refine wpAny_bind (wpAny_holding ?_)
  unfold Builtin.List.listLengthHint
  refine wpAny_bind (wpAny_specialOf ty RT.nolen_lri ?_)
  show wpAny _ _ (specialOf (Value.ref j) (Str.ofString "__length_hint__") >>= _) _ _ _
  refine wpAny_bind (wpAny_specialOf ty RT.hint_lri ?_)
  generalize hid : ("list_reverseiterator.__length_hint__" : String) = id0
  wp_delta
  rw [show splitId id0 = some ("list_reverseiterator", "__length_hint__") from by subst hid; decide +kernel]
  subst hid
  refine wpAny_bind (wpAny_isInstance (b := true) ty (by rw [isSubtype_type]; kernel_rfl) ?_)
  refine wpAny_pure ?_
  rw [if_neg (by decide)]
  have e0 : ((ar.size : Nat) : Int) - 1 - ((0 : Nat) : Int) = (ar.size : Int) - 1 := by omega
  have nSf : S ∉ [j, c] := by simp only [List.mem_cons, List.not_mem_nil, or_false, not_or]; exact ⟨nS1, nS2⟩
  have W := (Walks.listRev (prog := pg) (w := wd) (A := B.in1) nh j c ncj ar).toS
  refine wpAny_pure ⟨plainId_quiet F.plain_extend_loop _, codeAny_extend_loopS W sz _ nSf _ ar.size 0 _ _ _ rfl (Nat.zero_le _) ⟨Nat.zero_le _, by rw [e0]; exact gi2, gl2⟩ gS2 (ItemsOf.nil _) fun t3 out n3 mv gS3 it3 => ?_⟩
  rw [Moved.eq_with mv]
  refine fin t3.heap t3.toks out n3 (fun b o nb nj e => mv.heap b o (fun hm => ?_) (off _ b o nb e)) gS3 it3
  rcases List.mem_cons.mp hm with z | hm
  · exact nb z
  · exact nj (List.mem_singleton.mp hm)
theorem call_lrev {QQ : Value → Shared → Prop} {j c : Addr} {ar : Array Value} (nh : B.handled = none) (ncj : c ≠ j)
    (gi : t.heap.IsRevIter j c ((ar.size : Int) - 1)) (gl : t.heap.IsList c ar) (sz : ar.size ≤ sizeLine)
    (fin : ∀ h2 k2 out n2, (∀ b o, b ≠ j → t.heap.get? b = some o → h2.get? b = some o) → h2.get? t.heap.objs.size = some { cls := .type "list", dict := none, data := .seq out n2, slots := #[] } → ItemsOf (fun i v => ar[ar.size - 1 - i]? = some v) out ar.size → QQ (.ref t.heap.objs.size) { t with heap := h2, toks := k2 }) :
    wpAny (model pg wd) B (call (.type "list") [.ref j]) QQ EE t := by
  obtain ⟨oj, hoj, _⟩ := id gi
  obtain ⟨oc, hoc, _⟩ := id gl
  refine callType_codes (Q₁ := fun ob t1 => ob = .ref t.heap.objs.size ∧ t1 = { t with heap := t.heap.push Mt }) F.called_list (F.typeCall_list_1 _) F.entry_list_init (code_list_new _ ⟨rfl, rfl⟩) fun ob t1 q1 => ?_
  obtain ⟨rfl, rfl⟩ := q1
  have gS : (t.heap.push Mt).get? t.heap.objs.size = some Mt := Heap.get?_push_size _ rfl
  refine ⟨⟨_, gS, rfl⟩, F.args_list_init_2 _ _, init_lrev (B := B.in1) nh (Nat.ne_of_gt (Heap.lt_size hoj)) (Nat.ne_of_gt (Heap.lt_size hoc)) ncj (gi.at fun o e => Heap.get?_push_of_some _ e) (gl.push _) gS sz fun h2 k2 out n2 kp g2 it2 => ?_⟩
  exact ⟨rfl, fin h2 k2 out n2 (fun b o nj e => kp b o (Nat.ne_of_lt (Heap.lt_size e)) nj (Heap.get?_push_of_some _ e)) g2 it2⟩
end
/-- list(reversed(x)), x a list: a new list -/
def bLRev (te : TE) : TE := fun σ H Q => te σ H fun x H1 => match x with
  | .ref p => Get H1 p fun o => match view o with
    | .lst xs => Alloc H1 (.lst xs.reverse) fun l H2 => Q (.ref l) H2
    | _ => False
  | _ => False
section
variable {X : Cx} {e : Expr} {te : TE} {p p2 pos pos2 : Pos}
theorem be_lrev (hc : X.calm = true) (hm : X.mg "list" = none) (hm2 : X.mg "reversed" = none) (he : PE X e te) (hg : Gl X "list" := by rfl) (hg2 : Gl X "reversed" := by rfl)
    (hs : starEach [e] X.env = (false, eval e X.env) :: starEach [] X.env := by rfl)
    (hs2 : starEach [.Call (.Name "reversed" p2) [e] [] pos2] X.env = (false, eval (.Call (.Name "reversed" p2) [e] [] pos2) X.env) :: starEach [] X.env := by rfl) :
    PE X (.Call (.Name "list" p) [.Call (.Name "reversed" p2) [e] [] pos2] [] pos) (bLRev te) := by
  refine ⟨fun pins s σ H Q I h => ?_⟩
  refine Call_ (ld_blt I hg hm boot_list (PyProof.Rows.callWith_type1 (args_cons (Call_ (ld_blt I hg2 hm2 PyProof.Rows.boot_reversed (PyProof.Rows.callWith_type1 (args_cons (thn (he.run pins s σ H _ I h) fun u s1 ⟨v, H1, I1, r1, q1⟩ => args_nil ?_) hs) hs rfl))) hs2) hs2 rfl))
  cases v <;> try exact False.elim q1
  rename_i a
  obtain rfl : u = Value.ref a := r1
  obtain ⟨o, ho, q⟩ := q1
  cases ev : view o <;> rw [ev] at q <;> try exact False.elim q
  rename_i xs
  have hq : SqL X.K H1 a xs := sq_view ho ev
  obtain ⟨its, rv, p', hz⟩ := I1.list hq
  refine call_reversed_list p'.isList (args_nil ?_)
  have hl := p'.isList
  obtain ⟨ol, hol, _⟩ := id hl
  have hne : a ≠ s1.heap.objs.size := Nat.ne_of_lt (Heap.lt_size hol)
  have hn : its.toArray.size ≤ sizeLine := by rw [List.size_toArray, ← rv.length]; exact hz
  refine call_lrev (t := { s1 with heap := s1.heap.push (revObj a ((its.toArray.size : Int) - 1)) }) (I1.ok.hd hc) hne ⟨_, Heap.get?_push_size _ rfl, rfl, rfl⟩ (hl.push _) hn fun h2 k2 out n2 kp g2 it2 => ?_
  have sz1 : (s1.heap.push (revObj a ((its.toArray.size : Int) - 1))).objs.size = s1.heap.objs.size + 1 := Heap.size_push _ _
  have kk : ∀ b o, s1.heap.get? b = some o → h2.get? b = some o := fun b o e => kp b o (Nat.ne_of_lt (Heap.lt_size e)) (Heap.get?_push_of_some _ e)
  have fr : H1 (s1.heap.push (revObj a ((its.toArray.size : Int) - 1))).objs.size = none := I1.hok.fresh (by rw [sz1]; omega)
  refine ⟨V.ref (s1.heap.push (revObj a ((its.toArray.size : Int) - 1))).objs.size, upd H1 (s1.heap.push (revObj a ((its.toArray.size : Int) - 1))).objs.size (.lst xs.reverse), I1.laid (t' := k2) kk (by rw [sz1]; omega) (show ObjOk X.prog X.w _ _ _ (.lst xs.reverse) from ⟨by rw [List.length_reverse]; exact hz, out.toList, n2, RT.vals_rev rv it2, ?_⟩), rfl, q.at _ fr⟩
  rw [Array.toArray_toList]
  exact g2
end
/-! ### a list that may stand in the written part -/
theorem sql_ex {K : PySem.W.Frag} {H H' : Hp} {a : Addr} {xs : List V} (h : SqL K H a xs) (x : Ex H H') : SqL K H' a xs := by
  rcases h with (h | ⟨o, h⟩) | h
  · exact .inl (.inl (x _ _ h))
  · exact .inl (.inr ⟨o, x _ _ h⟩)
  · exact .inr h
inductive LoopS (K : PySem.W.Frag) (a : Addr) (xs : List V) (g : TG) (tb : TS) (D : Ends) (σ : Sg) (H : Hp) : Prop where
  | mk (Pv : Nat → Sg → Hp → Prop) (h0 : Pv 0 σ H) (hl : ∀ i σ H, Pv i σ H → SqL K H a xs)
    (hs : ∀ i x σ H, xs[i]? = some x → Pv i σ H → g x σ H fun σ2 H2 => tb { D with nx := Pv (i + 1), ct := Pv (i + 1), bk := D.nx } σ2 H2) (hd : ∀ σ H, Pv xs.length σ H → D.nx σ H) : LoopS K a xs g tb D σ H
def bForS (K : PySem.W.Frag) (te : TE) (g : TG) (tb : TS) : TS := fun D σ H => te σ H fun x H1 => match x with
  | .ref a => ∃ xs, SqL K H1 a xs ∧ LoopS K a xs g tb D σ H1
  | _ => False
def bListS (K : PySem.W.Frag) (te : TE) : TE := fun σ H Q => te σ H fun x H' => match x with
  | .ref a => ∃ xs, SqL K H' a xs ∧ Alloc H' (.lst xs) fun l H2 => Q (.ref l) H2
  | _ => False
section
variable {X : Cx} {e tg : Expr} {te : TE} {pos p : Pos} {tb : TS} {g : TG} {body : List Stmt}
theorem bs_forS (hp : PassesOwn (model X.prog X.w) X.A X.env X.xe) (hc : X.calm = true) (he : PE X e te) (hg : PG X tg g) (hb : PSs X body tb)
    (hs : ∀ x, foldedSetIterable e X.env x = pure x := by intro _; rfl) : PS X (.For tg e body [] pos) (bForS X.K te g tb) :=
  PS.imp (ps_for hp hc (pi_any (PE.up he)) hg hb hs) fun D σ H q => ⟨_, q, fun x H1 z => by
    cases x <;> try exact False.elim z
    obtain ⟨xs, hq, Pv, h0, hl, hs, hd⟩ := z
    exact .inl ⟨_, hq, for_list Pv h0 (fun i σ H _ p => hl i σ H p) hs hd⟩⟩
theorem be_listS (hm : X.mg "list" = none) (ha : PE X e te) (hg : Gl X "list" := by rfl) (h1 : starEach [e] X.env = (false, eval e X.env) :: starEach [] X.env := by rfl) :
    PE X (.Call (.Name "list" p) [e] [] pos) (bListS X.K te) :=
  PE.imp (pe_callTy call_list_of hg hm (by decide +kernel) (pa_cons (PE.up ha) pa_nil h1) (he := h1) (hpl := rfl)) fun σ H Q q => ⟨_, q, fun x H' z => by
    cases x <;> try exact False.elim z
    obtain ⟨xs, hq, z⟩ := z
    exact ⟨_, _, rfl, .inl hq, fun l hl => z.at l hl⟩⟩
end
/-! ### len of a text, a list, a tuple or a dict -/
def bLenD (te : TE) : TE := fun σ H Q => te σ H fun x H' => match x with
  | .str y => y.length ≤ sizeLine ∧ Q (.int y.length) H'
  | .ref p => Get H' p fun o => match view o with
    | .lst xs => Q (.int xs.length) H'
    | .tup xs => Q (.int xs.length) H'
    | _ => match o with
      | .dK kvs => Q (.int kvs.length) H'
      | _ => False
  | _ => False
section
variable {X : Cx} {a : Expr} {te : TE} {p pos : Pos}
theorem be_lenD (hm : X.mg "len" = none) (ha : PE X a te) (hg : Gl X "len" := by rfl) (h1 : starEach [a] X.env = (false, eval a X.env) :: starEach [] X.env := by rfl) :
    PE X (.Call (.Name "len" p) [a] [] pos) (bLenD te) :=
  PE.imp (pe_callB (CallR.or call_len call_lenD) hg hm (by decide +kernel) (pa_cons (PE.up ha) pa_nil h1) (he := h1) (hpl := rfl)) fun σ H Q q => ⟨_, q, fun x H' z => by
    cases x <;> first
      | exact False.elim z
      | exact .inl ⟨_, _, rfl, ⟨z.1, rfl⟩, z.2⟩
      | (obtain ⟨o, ho, z⟩ := z
         cases e : view o <;> rw [e] at z <;> first
           | exact .inl ⟨_, _, rfl, .inl ⟨_, sq_view ho e, rfl⟩, z⟩
           | exact .inl ⟨_, _, rfl, .inr ⟨_, st_view ho e, rfl⟩, z⟩
           | (cases o <;> first
               | exact False.elim z
               | exact .inr ⟨_, _, rfl, ho, z⟩))⟩
end
local macro_rules | `(tactic| walk_at "ne") => `(tactic| first | assumption | exact Ne.symm (by assumption) | exact ne_new (by assumption) (by assumption) | exact Ne.symm (ne_new (by assumption) (by assumption)))
local macro_rules | `(tactic| walk_at "hg") => `(tactic| first | assumption | exact Ex.app (by assumption) (by walk_at "hg") | exact ExB.app (by assumption) (by walk_at "ne") (by walk_at "hg"))
local macro_rules | `(tactic| walk_at "side") => `(tactic| first | decide | omega | (unfold CPow; decide) | exact mulZ (by assumption) (by assumption) | exact mulL (by omega) (by omega) | exact mulR (by omega) (by omega) | exact divS (by omega) (Sz.small (by omega)) | exact divS (by omega) (by assumption) | assumption)
local macro_rules | `(tactic| walk_at "go") => `(tactic| first
  | (refine Get.mk _ (by walk_at "hg") ?_; walk_at "go")
  | (refine Alloc.mk ?_; intro _ _ _ _ _; walk_at "go")
  | (refine Put.mk ?_; intro _ _ _; walk_at "go")
  | (refine AtI.mk _ rfl ?_; walk_at "go")
  | (refine IxI.mk _ rfl ?_; walk_at "go")
  | (refine And.intro (by walk_at "side") ?_; walk_at "go")
  | (intro _; walk_at "go")
  | skip)
local macro_rules | `(tactic| walk_at "br") => `(tactic| (refine And.intro (fun hb => ?_) (fun hb => ?_) <;> first | exact absurd hb (by decide) | (cases hb; done) | (try simp only [decide_eq_true_eq, decide_eq_false_iff_not, Bool.not_true, Bool.not_false, Bool.true_eq_false, Bool.false_eq_true, Bool.not_eq_true', Bool.not_eq_false', reduceCtorEq, not_true_eq_false, not_false_eq_true, ofs_inj, String.reduceEq, Bool.not_eq_eq_eq_not, bne_iff_ne, ne_eq, decide_not] at hb)))
local macro_rules | `(tactic| walk_at "xb") => `(tactic| first | assumption | exact (Ex.refl _).but _ | exact Ex.but _ (by assumption) | (refine ExB.trans ?_ (by assumption); walk_at "xb") | (refine ExB.trans ?_ (Ex.but _ (by assumption)); walk_at "xb"))
local macro_rules | `(tactic| walk_at "xe") => `(tactic| first | assumption | exact Ex.refl _ | (refine Ex.trans ?_ (by assumption); walk_at "xe") | (refine Ex.over ?_ (by assumption) (by walk_at "hn"); walk_at "xe"))
local macro_rules | `(tactic| walk_at "hn") => `(tactic| first | assumption | (refine Ex.fresh (by assumption) ?_; walk_at "hn"))
local macro_rules | `(tactic| walk_at "g1") => `(tactic| first
  | refine Get.mk _ (by walk_at "hg") ?_
  | (refine Alloc.mk ?_; intro _ _ _ _ _)
  | (refine Put.mk ?_; intro _ _ _)
  | refine AtI.mk _ rfl ?_
  | refine IxI.mk _ rfl ?_
  | refine And.intro (by walk_at "side") ?_
  | intro _)
local macro_rules | `(tactic| walk_at "all") => `(tactic| (walk_at "go"; first | (walk_at "br" <;> walk_at "all") | skip))
local macro_rules | `(tactic| walk_at "nn") => `(tactic| exact new_ne (by assumption) (by walk_at "hn"))
def P_l_mixed (A : Ad) : Sp := fun vs H Q _ => ∃ c n : Int, vs = [.int c, .int n] ∧ ∀ r : Int, 0 ≤ r → r < 2147483399 → Q (.int r) H
def b_l_mixed (A : Ad) (W : WX) : TS := tSeq (tAsg (tOp bMod (bInt (tOp bAdd (tOp bAdd (tOp bMul (tOp bMod (bInt (bVar 0)) (tC (.int 2147483647))) (tC (.int 48271))) (tOp bMul (bVar 1) (tC (.int 69621)))) (tC (.int 8191)))) (tC (.int 2147483647))) (gName 2)) (tSeq (tAsg (tOp bMod (bInt (tOp bAdd (tOp bAdd (tOp bMul (bVar 2) (bVar 2)) (tOp bMul (bVar 1) (tC (.int 40692)))) (tC (.int 77)))) (tC (.int 2147483399))) (gName 3)) (tRet (tOp bMod (bInt (tOp bAdd (tOp bAdd (tOp bMul (tOp bFdv (bVar 3) (tC (.int 46337))) (tC (.int 7919))) (tOp bMul (tOp bMod (bInt (bVar 3)) (tC (.int 46337))) (tC (.int 46327)))) (tOp bMod (bInt (bVar 2)) (tC (.int 65521))))) (tC (.int 2147483399)))))
theorem r_l_mixed (A : Ad) : ∀ vs H Q E, P_l_mixed A vs H Q E → vs.length = 2 ∧ b_l_mixed A (wE E) (dE Q) (start ["cell", "nth", "low", "high"] vs) H := by
  rintro vs H Q E ⟨c, n, rfl, k⟩
  refine ⟨rfl, ?_⟩
  walk_at "go"
  apply k <;> omega
def P_l_wide (A : Ad) : Sp := fun vs H Q _ => ∃ c n m : Int, vs = [.int c, .int n, .int m] ∧ 0 < m ∧ Sz m ∧ ∀ r : Int, 0 ≤ r → r < m → Q (.int r) H
def b_l_wide (A : Ad) (W : WX) : TS := tSeq (tAsg (bCall (P_l_mixed A) W (tCons (bVar 0) (tCons (bVar 1) (tNil)))) (gName 3)) (tSeq (bForR (tOp bFdv (bBits (bVar 2)) (tC (.int 20))) (gName 4) (tAsg (tOp bAdd (tOp bMul (bVar 3) (tC (.int 2147483399))) (bCall (P_l_mixed A) W (tCons (bVar 0) (tCons (tOp bAdd (bVar 1) (tOp bMul (tC (.int 1000003)) (tOp bAdd (bVar 4) (tC (.int 1))))) (tNil))))) (gName 3))) (tRet (tOp bMod (bInt (bVar 3)) (bVar 2))))
theorem r_l_wide (A : Ad) : ∀ vs H Q E, P_l_wide A vs H Q E → vs.length = 3 ∧ b_l_wide A (wE E) (dE Q) (start ["cell", "nth", "many", "told", "k"] vs) H := by
  rintro vs H Q E ⟨c, n, m, rfl, m0, ms, k⟩
  refine ⟨rfl, ?_⟩
  refine ⟨c, n, rfl, fun t t0 t1 => ?_⟩
  have hb := bits_sz ms
  refine ⟨divS (by decide) (Sz.small (by decide)), fun q eq hq => ⟨?_, ?_⟩⟩
  · omega
  refine LoopR.mk (fun i σ H' => H' = H ∧ ∃ t v, σ = [some (.int c), some (.int n), some (.int m), some (.int t), v]) ⟨rfl, t, none, rfl⟩ ?_ ?_
  · rintro i σ H' hi ⟨rfl, t, v, rfl⟩
    walk_at "go"
    refine ⟨_, _, rfl, fun r r0 r1 => ?_⟩
    exact ⟨rfl, _, _, rfl⟩
  · rintro σ H' ⟨rfl, t, v, rfl⟩
    walk_at "go"
    apply k <;> omega
def P_l_store (A : Ad) : Sp := fun vs H Q _ => ∃ (a : Addr) (ns : List Int), vs = [.ref a] ∧ SqL A.K H a (ns.map .int) ∧ ∀ (st : Sto) H', Ex H H' → H st = none → Store H' st → Q (.ref st) H'
def b_l_store (A : Ad) (W : WX) : TS := tSeq (tAsg (tC (.int 900001)) (gName 1)) (tSeq (bForS A.K (bVar 0) (gName 2) (tAsg (tOp bMod (bInt (tOp bAdd (tOp bAdd (tOp bMul (bVar 1) (tC (.int 69621))) (tOp bMod (bInt (bVar 2)) (tC (.int 2147483629)))) (tC (.int 11)))) (tC (.int 2147483629))) (gName 1))) (tRet (bLst (tCons (bListS A.K (bVar 0)) (tCons (tC (.int 0)) (tCons (tC (.int 0)) (tCons (bVar 1) (tCons (tC (.int 0)) (tNil)))))))))
theorem r_l_store (A : Ad) : ∀ vs H Q E, P_l_store A vs H Q E → vs.length = 1 ∧ b_l_store A (wE E) (dE Q) (start ["script", "mixture", "cell"] vs) H := by
  rintro vs H Q E ⟨a, ns, rfl, hq, k⟩
  refine ⟨rfl, ?_⟩
  refine ⟨_, hq, ?_⟩
  refine LoopS.mk (fun i σ H' => H' = H ∧ ∃ t v, σ = [some (.ref a), some (.int t), v] ∧ 0 ≤ t) ⟨rfl, _, none, rfl, by decide⟩ ?_ ?_ ?_
  · rintro i σ H' ⟨rfl, _⟩
    exact hq
  · rintro i x σ H' hx ⟨rfl, t, v, rfl, t0⟩
    obtain ⟨n, rfl, _⟩ := map_get hx
    walk_at "go"
    exact ⟨rfl, _, _, rfl, by omega⟩
  · rintro σ H' ⟨rfl, t, v, rfl, t0⟩
    refine ⟨_, hq, ?_⟩
    refine Alloc.mk fun p H1 x1 n1 h1 => ?_
    refine Alloc.mk fun p2 H2 x2 n2 h2 => ?_
    exact k ⟨p2, p⟩ H2 (x1.trans x2) (x1.fresh n2) ⟨ns, 0, 0, t, 0, h2, x2 _ _ h1, by decide, by decide⟩
def P_l_take (A : Ad) : Sp := fun vs H Q _ => ∃ (st : Sto) (m : Int), vs = [.ref st, .int m] ∧ Store H st ∧ Sz m ∧
  ∀ (r : Int) H', ExB st H H' → Store H' st → 0 ≤ r → (r < m ∨ r = 0) → Q (.int r) H'
def b_l_take (A : Ad) (W : WX) : TS := tSeq (bIf (bTst (tOp (bLt) (bVar 1) (tC (.int 2)))) (tRet (tC (.int 0))) (tNext)) (tSeq (tAsg (tOp bAdd (tOp bIx (bVar 0) (tC (.int 4))) (tC (.int 1))) (gSub (bVar 0) (tC (.int 4)) bSetL)) (tSeq (bIf (bAnd (bTst (tOp (bEq A.K) (tOp bIx (bVar 0) (tC (.int 2))) (tC (.int 0)))) (bTst (tOp (bLt) (tOp bIx (bVar 0) (tC (.int 1))) (bLen (tOp bIx (bVar 0) (tC (.int 0))))))) (tSeq (tAsg (bInt (tOp bIx (tOp bIx (bVar 0) (tC (.int 0))) (tOp bIx (bVar 0) (tC (.int 1))))) (gName 2)) (tSeq (tAsg (tOp bAdd (tOp bIx (bVar 0) (tC (.int 1))) (tC (.int 1))) (gSub (bVar 0) (tC (.int 1)) bSetL)) (tSeq (bIf (bTst (tOp (bLt) (bVar 2) (tOp bPow (tC (.int 10)) (tC (.int 18))))) (tRet (bCall (P_l_wide A) W (tCons (bVar 2) (tCons (tOp bIx (bVar 0) (tC (.int 4))) (tCons (bVar 1) (tNil)))))) (tNext)) (tAsg (bVar 2) (gSub (bVar 0) (tC (.int 2)) bSetL))))) (tNext)) (tSeq (bIf (bTst (tOp (bGt) (tOp bIx (bVar 0) (tC (.int 2))) (tC (.int 0)))) (tSeq (tAsg (tOp bMod (bInt (tOp bIx (bVar 0) (tC (.int 2)))) (bVar 1)) (gName 3)) (tSeq (tAsg (tOp bFdv (bInt (tOp bIx (bVar 0) (tC (.int 2)))) (bVar 1)) (gSub (bVar 0) (tC (.int 2)) bSetL)) (tRet (bVar 3)))) (tNext)) (tRet (bCall (P_l_wide A) W (tCons (tOp bIx (bVar 0) (tC (.int 3))) (tCons (tOp bIx (bVar 0) (tC (.int 4))) (tCons (bVar 1) (tNil)))))))))
theorem r_l_take (A : Ad) : ∀ vs H Q E, P_l_take A vs H Q E → vs.length = 2 ∧ b_l_take A (wE E) (dE Q) (start ["store", "many", "cell", "told"] vs) H := by
  rintro vs H Q E ⟨⟨st, sl⟩, m, rfl, ⟨ns, i, c, x, t, hs, hl, i0, c0⟩, ms, k⟩
  dsimp only at hs hl k ⊢
  refine ⟨rfl, ?_⟩
  have nsl : sl ≠ st := ne_of hl hs (by intro z; cases ns <;> cases z)
  have fin : ∀ (r : Int) H', ExB st H H' → H' sl = some (.lst (ns.map V.int)) → (∃ i c x t, H' st = some (.lst [.ref sl, .int i, .int c, .int x, .int t]) ∧ 0 ≤ i ∧ 0 ≤ c) → 0 ≤ r → (r < m ∨ r = 0) → Q (.int r) H' := by
    rintro r H' xb h1 ⟨i, c, x, t, h2, i0, c0⟩ r0 r1
    exact k r H' xb ⟨ns, i, c, x, t, h2, h1, i0, c0⟩ r0 r1
  walk_at "go"
  walk_at "br"
  · exact k 0 H (Ex.refl H |>.but st) ⟨ns, i, c, x, t, hs, hl, i0, c0⟩ (by decide) (.inr rfl)
  walk_at "go"
  have tail : ∀ (H1 : Hp) (o : Option V) (i1 c1 t1 : Int), ExB st H H1 → H1 sl = some (.lst (ns.map V.int)) → H1 st = some (.lst [.ref sl, .int i1, .int c1, .int x, .int t1]) → 0 ≤ i1 → 0 ≤ c1 →
      tSeq (bIf (bTst (tOp bGt (tOp bIx (bVar 0) (tC (.int 2))) (tC (.int 0)))) (tSeq (tAsg (tOp bMod (bInt (tOp bIx (bVar 0) (tC (.int 2)))) (bVar 1)) (gName 3)) (tSeq (tAsg (tOp bFdv (bInt (tOp bIx (bVar 0) (tC (.int 2)))) (bVar 1)) (gSub (bVar 0) (tC (.int 2)) bSetL)) (tRet (bVar 3)))) (tNext)) (tRet (bCall (P_l_wide A) (wE E) (tCons (tOp bIx (bVar 0) (tC (.int 3))) (tCons (tOp bIx (bVar 0) (tC (.int 4))) (tCons (bVar 1) (tNil))))))
        (dE Q) [some (.ref st), some (.int m), o, none] H1 := by
    intro H1 o i1 c1 t1 xb h1 h2 i1p c1p
    walk_at "go"
    walk_at "br"
    · refine Get.mk _ h2 (AtI.mk _ rfl ⟨by omega, fun r er hr => Get.mk _ h2 (AtI.mk _ rfl ⟨divS (by omega) ms, fun q eq hq => Get.mk _ h2 (IxI.mk _ rfl (Put.mk fun H2 x2 h3 => ?_))⟩)⟩)
      exact fin _ _ (by walk_at "xb") (by walk_at "hg") ⟨_, _, _, _, h3, i1p, by rw [eq]; exact fdiv_nn c1p (by omega)⟩ (by omega) (by omega)
    · walk_at "go"
      exact ⟨_, _, _, rfl, by omega, ms, fun r r0 r1 => fin _ _ (by walk_at "xb") (by walk_at "hg") ⟨_, _, _, _, h2, i1p, c1p⟩ r0 (.inl r1)⟩
  walk_at "br"
  · walk_at "go"
    walk_at "br"
    · rename_i H1 x1 h1 _ hb
      have hi : i < ((ns.map V.int).length : Int) := hb
      obtain ⟨n, hn⟩ := atI_ints i0 hi
      walk_at "go"
      refine AtI.mk _ hn ?_
      walk_at "go"
      walk_at "br"
      · walk_at "go"
        exact ⟨_, _, _, rfl, by omega, ms, fun r r0 r1 => fin _ _ (by walk_at "xb") (by walk_at "hg") ⟨_, _, _, _, by walk_at "hg", by omega, c0⟩ r0 (.inl r1)⟩
      · have e18 : (10 : Int) ^ Int.toNat 18 = 1000000000000000000 := by decide
        iterate 3 walk_at "g1"
        exact tail _ _ _ _ _ (by walk_at "xb") (by walk_at "hg") (by walk_at "hg") (by omega) (by omega)
    · exact tail _ _ _ _ _ (by walk_at "xb") (by walk_at "hg") (by walk_at "hg") i0 c0
  · walk_at "br"
    exact tail _ _ _ _ _ (by walk_at "xb") (by walk_at "hg") (by walk_at "hg") i0 c0
def P_l_near (A : Ad) : Sp := fun vs H Q _ => ∃ (st : Sto) (lo hi : Int), vs = [.ref st, .int lo, .int hi] ∧ Store H st ∧ lo ≤ hi ∧ Sz (hi - lo + 1) ∧
  ∀ (r : Int) H', ExB st H H' → Store H' st → lo ≤ r → r ≤ hi → Q (.int r) H'
def b_l_near (A : Ad) (W : WX) : TS := tSeq (tAsg (bCall (P_l_take A) W (tCons (bVar 0) (tCons (tC (.int 12)) (tNil)))) (gName 3)) (tSeq (bIf (bTst (tOp (bLt) (bVar 3) (tC (.int 4)))) (tRet (tOp bIx (bLst (tCons (bVar 1) (tCons (bVar 2) (tCons (bMin (tOp bAdd (bVar 1) (tC (.int 1))) (bVar 2)) (tCons (bMax (tOp bSub (bVar 2) (tC (.int 1))) (bVar 1)) (tNil)))))) (bVar 3))) (tNext)) (tRet (tOp bAdd (bVar 1) (bCall (P_l_take A) W (tCons (bVar 0) (tCons (tOp bAdd (tOp bSub (bVar 2) (bVar 1)) (tC (.int 1))) (tNil)))))))
theorem Store.mono {H H' : Hp} {st : Sto} (h : Store H st) (e : Ex H H') : Store H' st := by
  obtain ⟨ns, i, c, m, t, h1, h2, h3⟩ := h
  exact ⟨ns, i, c, m, t, e _ _ h1, e _ _ h2, h3⟩
theorem r_l_near (A : Ad) : ∀ vs H Q E, P_l_near A vs H Q E → vs.length = 3 ∧ b_l_near A (wE E) (dE Q) (start ["store", "low", "high", "kind"] vs) H := by
  rintro vs H Q E ⟨st, lo, hi, rfl, hS, hl, hz, k⟩
  refine ⟨rfl, ?_⟩
  refine ⟨st, 12, rfl, hS, Sz.small (by decide), fun kind H1 x1 s1 k0 k1 => ?_⟩
  walk_at "go"
  walk_at "br"
  · walk_at "go"
    rename_i hk p H2 x2 n2 h2
    obtain rfl | rfl | rfl | rfl : kind = 0 ∨ kind = 1 ∨ kind = 2 ∨ kind = 3 := by omega
    all_goals
      walk_at "go"
      exact k _ _ (x1.trans (x2.but st)) (s1.mono x2) (by omega) (by omega)
  · walk_at "go"
    refine ⟨st, _, rfl, s1, hz, fun r H2 x2 s2 r0 r1 => ?_⟩
    walk_at "go"
    exact k _ _ (x1.trans x2) s2 (by omega) (by omega)

def isI : Dt → Bool
  | .int _ => true
  | _ => false
def P_l_is_integer (A : Ad) : Sp := fun vs H Q _ => ∃ (m : Addr) (d : Dt) (v : V), vs = [v] ∧ At m H d v ∧ Q (.bl (isI d)) H
def b_l_is_integer (A : Ad) (W : WX) : TS := tRet (bAndV (bIsi .int (bVar 0)) (bNotV (bIsi .bl (bVar 0))))
theorem r_l_is_integer (A : Ad) : ∀ vs H Q E, P_l_is_integer A vs H Q E → vs.length = 1 ∧ b_l_is_integer A (wE E) (dE Q) (start ["given"] vs) H := by
  rintro vs H Q E ⟨m, d, v, rfl, h, k⟩
  refine ⟨rfl, ?_⟩
  cases h <;> walk_at "go" <;> walk_at "br" <;> first | exact k | (walk_at "go"; exact k)

def pairI : Dt → Option (Int × Int)
  | .tup [.int a, .int b] => some (a, b)
  | _ => none
def P_l_is_pair (A : Ad) : Sp := fun vs H Q _ => ∃ (m : Addr) (d : Dt) (v : V), vs = [v] ∧ At m H d v ∧ Q (.bl (pairI d).isSome) H
def b_l_is_pair (A : Ad) (W : WX) : TS := tSeq (bIf (bOr (tNot (bTru (bIsi .tup (bVar 0)))) (bTst (tOp (bNe A.K) (bLen (bVar 0)) (tC (.int 2))))) (tRet (tC (.bl false))) (tNext)) (tRet (bAndV (bCall (P_l_is_integer A) W (tCons (tOp bIx (bVar 0) (tC (.int 0))) (tNil))) (bCall (P_l_is_integer A) W (tCons (tOp bIx (bVar 0) (tC (.int 1))) (tNil)))))
theorem pairI_two (a b : Dt) : (pairI (.tup [a, b])).isSome = (isI a && isI b) := by cases a <;> cases b <;> rfl
theorem pairI_no {ds : List Dt} (h : ds.length ≠ 2) : pairI (.tup ds) = none := by
  match ds, h with
  | [], _ => rfl
  | [a], _ => cases a <;> rfl
  | a :: b :: c :: r, _ => cases a <;> cases b <;> rfl
theorem r_l_is_pair (A : Ad) : ∀ vs H Q E, P_l_is_pair A vs H Q E → vs.length = 1 ∧ b_l_is_pair A (wE E) (dE Q) (start ["given"] vs) H := by
  rintro vs H Q E ⟨m, d, v, rfl, h, k⟩
  refine ⟨rfl, ?_⟩
  cases h with
  | @tup ds xs p n hp l =>
    walk_at "go"
    walk_at "br"
    have hl := l.len
    walk_at "go"
    walk_at "br"
    · rename_i hb
      rw [pairI_no (by omega)] at k
      exact k
    · rename_i hb
      match l, hl with
      | .cons h1 (.cons h2 .nil), _ =>
        rw [pairI_two] at k
        walk_at "go"
        refine ⟨m, _, _, rfl, h1, ?_⟩
        walk_at "br"
        · rename_i e
          walk_at "go"
          refine ⟨m, _, _, rfl, h2, ?_⟩
          rw [e, Bool.true_and] at k
          exact k
        · rename_i e
          rw [e, Bool.false_and] at k
          exact k
      | .nil, _ => simp at hb
      | .cons h1 .nil, _ => simp at hb
      | .cons h1 (.cons h2 (.cons h3 l)), _ => simp at hb; omega
  | _ => walk_at "all" <;> exact k

def P_l_ten (A : Ad) : Sp := fun vs H Q _ => ∃ n : Int, vs = [.int n] ∧ 0 ≤ n ∧ n < 4611686018427387904 ∧ (∀ t : Int, t = 10 ^ n.toNat → Q (.int t) H)
def b_l_ten (A : Ad) (W : WX) : TS := tSeq (tAsg (tC (.int 1)) (gName 1)) (tSeq (bForR (bVar 0) (gName 2) (tAsg (tOp bMul (bVar 1) (tC (.int 10))) (gName 1))) (tRet (bVar 1)))
theorem r_l_ten (A : Ad) : ∀ vs H Q E, P_l_ten A vs H Q E → vs.length = 1 ∧ b_l_ten A (wE E) (dE Q) (start ["digits", "told", "k"] vs) H := by
  rintro vs H Q E ⟨n, rfl, n0, n1, k⟩
  refine ⟨rfl, ?_⟩
  refine ⟨⟨by omega, by omega⟩, ?_⟩
  refine LoopR.mk (fun i σ H' => H' = H ∧ ∃ v, σ = [some (.int n), some (.int (10 ^ i)), v]) ⟨rfl, none, rfl⟩ ?_ ?_
  · rintro i σ H' hi ⟨rfl, v, rfl⟩
    walk_at "go"
    exact ⟨rfl, _, rfl⟩
  · rintro σ H' ⟨rfl, v, rfl⟩
    exact k _ rfl

/-- 10 ^ d in bits -/
theorem ten_lt (d : Nat) : (10 : Int) ^ d < 2 ^ (4 * d + 1) := by
  have h : (10 : Nat) ^ d ≤ 16 ^ d := Nat.pow_le_pow_left (by decide) d
  have h2 : (16 : Nat) ^ d = 2 ^ (4 * d) := by rw [Nat.pow_mul]
  have h3 : (2 : Nat) ^ (4 * d) < 2 ^ (4 * d + 1) := Nat.pow_lt_pow_right (by decide) (by omega)
  have h4 : (10 : Nat) ^ d < 2 ^ (4 * d + 1) := by omega
  exact_mod_cast h4
theorem ten_pos (d : Nat) : 0 < (10 : Int) ^ d := Int.pow_pos (by decide)
theorem pow2c (k : Nat) : (2 : Int) ^ k = ((2 ^ k : Nat) : Int) := by simp
theorem pow2s (k : Nat) : (2 : Nat) ^ (k + 1) = 2 * 2 ^ k := by rw [Nat.pow_succ, Nat.mul_comm]
theorem sz_two {t : Int} {k : Nat} (h0 : 0 < t) (h : t < 2 ^ k) (hk : k ≤ 8990) : Sz (t - 1 - (0 - (t - 1)) + 1) := by
  rw [pow2c] at h
  refine Sz.of (k + 1) ?_ (by omega) (by omega)
  rw [pow2s]
  omega
theorem abs_lt {r t : Int} {k : Nat} (h : t < 2 ^ k) (h1 : 0 - (t - 1) ≤ r) (h2 : r ≤ t - 1) : r.natAbs < 2 ^ k := by
  rw [pow2c] at h
  omega
theorem sm_of {r : Int} {k : Nat} (h : r.natAbs < 128) (hk : 7 ≤ k) : r.natAbs < 2 ^ k := Nat.lt_of_lt_of_le h (Nat.pow_le_pow_right (by decide) hk : 2 ^ 7 ≤ 2 ^ k)
theorem ten_lt2 {d : Nat} {k : Nat} (h : 4 * d + 1 ≤ k) : (10 : Int) ^ d < 2 ^ k := by
  have h1 := ten_lt d
  have h2 : (2 : Nat) ^ (4 * d + 1) ≤ 2 ^ k := Nat.pow_le_pow_right (by decide) h
  rw [pow2c] at h1 ⊢
  omega
def P_l_integer (A : Ad) : Sp := fun vs H Q _ => ∃ (st : Sto) (n : Int), vs = [.ref st, .int n] ∧ Store H st ∧ 0 ≤ n ∧ n ≤ 60 ∧
  ∀ (r : Int) H', ExB st H H' → Store H' st → r.natAbs < 2 ^ 256 → Q (.int r) H'
def b_l_integer (A : Ad) (W : WX) : TS := tSeq (tAsg (bCall (P_l_take A) W (tCons (bVar 0) (tCons (tC (.int 12)) (tNil)))) (gName 2)) (tSeq (bIf (bTst (tOp (bLt) (bVar 2) (tC (.int 4)))) (tRet (tOp bIx (bLst (tCons (tC (.int 0)) (tCons (tC (.int 1)) (tCons (tUn bNeg (tC (.int 1))) (tCons (tC (.int 2)) (tNil)))))) (bVar 2))) (tNext)) (tSeq (bIf (bTst (tOp (bLt) (bVar 2) (tC (.int 8)))) (tRet (tOp bSub (bCall (P_l_take A) W (tCons (bVar 0) (tCons (tC (.int 41)) (tNil)))) (tC (.int 20)))) (tNext)) (tSeq (tAsg (tOp bSub (bCall (P_l_ten A) W (tCons (bMin (bVar 1) (tC (.int 9))) (tNil))) (tC (.int 1))) (gName 3)) (tSeq (bIf (bTst (tOp (bEq A.K) (bVar 2) (tC (.int 10)))) (tAsg (tOp bSub (bCall (P_l_ten A) W (tCons (bMin (bVar 1) (tC (.int 24))) (tNil))) (tC (.int 1))) (gName 3)) (tNext)) (tSeq (bIf (bTst (tOp (bEq A.K) (bVar 2) (tC (.int 11)))) (tAsg (tOp bSub (bCall (P_l_ten A) W (tCons (bVar 1) (tNil))) (tC (.int 1))) (gName 3)) (tNext)) (tRet (bCall (P_l_near A) W (tCons (bVar 0) (tCons (tOp bSub (tC (.int 0)) (bVar 3)) (tCons (bVar 3) (tNil)))))))))))
theorem r_l_integer (A : Ad) : ∀ vs H Q E, P_l_integer A vs H Q E → vs.length = 2 ∧ b_l_integer A (wE E) (dE Q) (start ["store", "digits", "kind", "high"] vs) H := by
  rintro vs H Q E ⟨st, n, rfl, hS, n0, n1, k⟩
  refine ⟨rfl, ?_⟩
  refine ⟨st, 12, rfl, hS, Sz.small (by decide), fun kind H1 x1 s1 k0 k1 => ?_⟩
  have fin : ∀ (e : Nat) (t : Int) (H2 : Hp), e ≤ 60 → t = 10 ^ e → Ex H1 H2 →
      tRet (bCall (P_l_near A) (wE E) (tCons (bVar 0) (tCons (tOp bSub (tC (.int 0)) (bVar 3)) (tCons (bVar 3) (tNil))))) (dE Q) [some (.ref st), some (.int n), some (.int kind), some (.int (t - 1))] H2 := by
    rintro e t H2 he rfl x2
    have hp := ten_pos e
    have hb : (10 : Int) ^ e < 2 ^ 256 := ten_lt2 (by omega)
    refine ⟨st, _, _, rfl, s1.mono x2, by omega, sz_two hp hb (by decide), fun r H3 x3 s3 r0 r1 => ?_⟩
    exact k _ _ (x1.trans ((x2.but st).trans x3)) s3 (abs_lt hb r0 r1)
  walk_at "go"
  walk_at "br"
  · walk_at "go"
    obtain rfl | rfl | rfl | rfl : kind = 0 ∨ kind = 1 ∨ kind = 2 ∨ kind = 3 := by omega
    all_goals
      walk_at "go"
      exact k _ _ (by walk_at "xb") (s1.mono (by walk_at "xe")) (sm_of (by decide) (by decide))
  walk_at "go"
  walk_at "br"
  · walk_at "go"
    refine ⟨st, 41, rfl, s1, Sz.small (by decide), fun r H2 x2 s2 r0 r1 => ?_⟩
    exact k _ _ (x1.trans x2) s2 (sm_of (by omega) (by decide))
  walk_at "go"
  refine ⟨_, rfl, by omega, by omega, fun t ht => ?_⟩
  walk_at "go"
  walk_at "br"
  · walk_at "go"
    refine ⟨_, rfl, by omega, by omega, fun t ht => ?_⟩
    walk_at "go"
    walk_at "br"
    · omega
    · exact fin _ t H1 (by omega) ht (Ex.refl _)
  · walk_at "go"
    walk_at "br"
    · walk_at "go"
      refine ⟨_, rfl, by omega, by omega, fun t ht => ?_⟩
      exact fin _ t H1 (by omega) ht (Ex.refl _)
    · exact fin _ t H1 (by omega) ht (Ex.refl _)
theorem abs_le {a : Int} {j k : Nat} (h : a.natAbs < 2 ^ j) (l : j ≤ k) : a.natAbs < 2 ^ k := sm_lt h l
theorem mul_lt2 {a b : Int} {j k n : Nat} (h1 : a.natAbs < 2 ^ j) (h2 : b.natAbs < 2 ^ k) (hn : j + k ≤ n) : (a * b).natAbs < 2 ^ n := sm_lt (wide_lt h1 h2) hn
theorem lt10 {a : Int} {k : Nat} (h : a.natAbs < 1024) (hk : 10 ≤ k) : a.natAbs < 2 ^ k := Nat.lt_of_lt_of_le h (Nat.pow_le_pow_right (by decide) hk : 2 ^ 10 ≤ 2 ^ k)
theorem add1_lt {a : Int} {k : Nat} (h : a.natAbs < 2 ^ k) : (a + 1).natAbs < 2 ^ (k + 1) := by
  rw [pow2s]; omega
/-- a fraction, in not necessarily lowest terms -/
def P_l_fraction (A : Ad) : Sp := fun vs H Q _ => ∃ (st : Sto) (n : Int), vs = [.ref st, .int n] ∧ Store H st ∧ 4 ≤ n ∧ n ≤ 60 ∧
  ∀ (a b : Int) (v : V) H', ExB st H H' → Store H' st → At st H' (.tup [.int a, .int b]) v → 1 ≤ b → a.natAbs < 2 ^ 270 → b.natAbs < 2 ^ 270 → Q v H'
def b_l_fraction (A : Ad) (W : WX) : TS := tSeq (tAsg (bCall (P_l_integer A) W (tCons (bVar 0) (tCons (tOp bSub (bVar 1) (tC (.int 4))) (tNil)))) (gName 2)) (tSeq (tAsg (bAbs (bCall (P_l_integer A) W (tCons (bVar 0) (tCons (tOp bSub (bVar 1) (tC (.int 4))) (tNil))))) (gName 3)) (tSeq (tAsg (tOp bAdd (bVar 3) (bInt (tOp (bEq A.K) (bVar 3) (tC (.int 0))))) (gName 3)) (tSeq (bIf (bTst (tOp (bEq A.K) (bCall (P_l_take A) W (tCons (bVar 0) (tCons (tC (.int 6)) (tNil)))) (tC (.int 0)))) (tAsg (tOp bMul (bVar 3) (tOp bSub (bCall (P_l_take A) W (tCons (bVar 0) (tCons (tC (.int 7)) (tNil)))) (tC (.int 3)))) (gName 2)) (tNext)) (tSeq (tAsg (tOp bIx (bLst (tCons (tC (.int 1)) (tCons (tC (.int 1)) (tCons (tC (.int 2)) (tCons (tC (.int 999)) (tNil)))))) (bCall (P_l_take A) W (tCons (bVar 0) (tCons (tC (.int 4)) (tNil))))) (gName 4)) (tRet (bTup (tCons (tOp bMul (bVar 2) (bVar 4)) (tCons (tOp bMul (bVar 3) (bVar 4)) (tNil)))))))))
theorem Store.ne {H : Hp} {st : Sto} {p : Addr} (h : Store H st) (n : H p = none) : p ≠ st := by
  obtain ⟨ns, i, c, m, t, h1, _⟩ := h
  exact Ne.symm (ne_of_none h1 n)
theorem Store.some {H : Hp} {st : Sto} (h : Store H st) : H st ≠ none := by
  obtain ⟨ns, i, c, m, t, h1, _⟩ := h
  rw [h1]; intro z; cases z
theorem r_l_fraction (A : Ad) : ∀ vs H Q E, P_l_fraction A vs H Q E → vs.length = 2 ∧ b_l_fraction A (wE E) (dE Q) (start ["store", "digits", "top", "low", "many"] vs) H := by
  rintro vs H Q E ⟨st, n, rfl, hS, n0, n1, k⟩
  refine ⟨rfl, ?_⟩
  refine ⟨st, _, rfl, hS, by omega, by omega, fun top H1 x1 s1 b1 => ?_⟩
  walk_at "go"
  refine ⟨st, _, rfl, s1, by omega, by omega, fun low0 H2 x2 s2 b2 => ?_⟩
  walk_at "go"
  have hlow : 1 ≤ (low0.natAbs : Int) + (if decide ((low0.natAbs : Int) = 0) = true then 1 else 0) ∧ ((low0.natAbs : Int) + (if decide ((low0.natAbs : Int) = 0) = true then 1 else 0)).natAbs < 2 ^ 257 := by
    constructor
    · split <;> rename_i h <;> simp at h <;> omega
    · rw [pow2s 256]
      split <;> rename_i h <;> simp at h <;> omega
  have fin : ∀ (t low : Int) (H3 : Hp), t.natAbs < 2 ^ 260 → 1 ≤ low → low.natAbs < 2 ^ 257 → ExB st H H3 → Store H3 st →
      tSeq (tAsg (tOp bIx (bLst (tCons (tC (.int 1)) (tCons (tC (.int 1)) (tCons (tC (.int 2)) (tCons (tC (.int 999)) (tNil)))))) (bCall (P_l_take A) (wE E) (tCons (bVar 0) (tCons (tC (.int 4)) (tNil))))) (gName 4)) (tRet (bTup (tCons (tOp bMul (bVar 2) (bVar 4)) (tCons (tOp bMul (bVar 3) (bVar 4)) (tNil)))))
        (dE Q) [some (.ref st), some (.int n), some (.int t), some (.int low), none] H3 := by
    intro t low H3 ht l0 l1 x3 s3
    walk_at "go"
    rename_i p H4 x4 n4 h4
    refine ⟨st, 4, rfl, s3.mono x4, Sz.small (by decide), fun kind H5 x5 s5 k0 k1 => ?_⟩
    have hp : p ≠ st := s3.ne n4
    have pick : ∀ w : Int, 1 ≤ w → w < 1000 → tRet (bTup (tCons (tOp bMul (bVar 2) (bVar 4)) (tCons (tOp bMul (bVar 3) (bVar 4)) (tNil)))) (dE Q) [some (.ref st), some (.int n), some (.int t), some (.int low), some (.int w)] H5 := by
      intro w w0 w1
      refine ⟨mulR (by omega) (by omega), mulR (by omega) (by omega), ?_⟩
      refine Alloc.mk fun q H6 x6 n6 h6 => ?_
      refine k (t * w) (low * w) _ _ (x3.trans (ExB.trans (x4.but st) (x5.trans (x6.but st)))) (s5.mono x6) (.tup (s5.ne n6) h6 (.cons (.int _) (.cons (.int _) .nil))) ?_ (mul_lt2 ht (lt10 (k := 10) (by omega) (by decide)) (by decide)) (mul_lt2 l1 (lt10 (k := 10) (by omega) (by decide)) (by decide))
      have : low * 1 ≤ low * w := Int.mul_le_mul_of_nonneg_left w0 (by omega)
      omega
    walk_at "go"
    obtain rfl | rfl | rfl | rfl : kind = 0 ∨ kind = 1 ∨ kind = 2 ∨ kind = 3 := by omega
    · exact AtI.mk _ rfl (pick 1 (by decide) (by decide))
    · exact AtI.mk _ rfl (pick 1 (by decide) (by decide))
    · exact AtI.mk _ rfl (pick 2 (by decide) (by decide))
    · exact AtI.mk _ rfl (pick 999 (by decide) (by decide))
  refine ⟨st, 6, rfl, s2, Sz.small (by decide), fun r H3 x3 s3 r0 r1 => ?_⟩
  walk_at "br"
  · walk_at "go"
    refine ⟨st, 7, rfl, s3, Sz.small (by decide), fun r2 H4 x4 s4 r20 r21 => ?_⟩
    refine ⟨mulR (by omega) (by omega), ?_⟩
    exact fin _ _ H4 (mul_lt2 (k := 3) hlow.2 (by show _ < 8; omega) (by decide)) hlow.1 hlow.2 (x1.trans (x2.trans (x3.trans x4))) s4
  · exact fin top _ H3 (abs_le b1 (by decide)) hlow.1 hlow.2 (x1.trans (x2.trans x3)) s3
inductive Fk where
  | wk | ws | oor
  deriving DecidableEq
def Fk.nm : Fk → String
  | .wk => "WrongKind" | .ws => "WrongSize" | .oor => "OutOfRange"
def fs : Option Fk → String
  | none => ""
  | some k => k.nm
theorem fs_none (f : Option Fk) : (fs f = "") = (f = none) := by
  cases f with
  | none => simp [fs]
  | some k => cases k <;> simp [fs, Fk.nm]
def optV : Option Int → V
  | none => .non
  | some i => .int i
def numF (d : Dt) (lo hi : Option Int) : Option Fk := match d with
  | .int i => if ((lo.elim false fun l => decide (i < l)) || (hi.elim false fun h => decide (h < i))) = true then some .oor else none
  | _ => some .wk
theorem numF_oor {i : Int} {lo hi : Option Int} (h : (∃ l, lo = some l ∧ i < l) ∨ (∃ h, hi = some h ∧ h < i)) : numF (.int i) lo hi = some .oor := by
  unfold numF
  rcases h with ⟨l, rfl, h⟩ | ⟨l, rfl, h⟩ <;> simp [h]
theorem numF_ok {i : Int} {lo hi : Option Int} (h1 : ∀ l, lo = some l → l ≤ i) (h2 : ∀ h, hi = some h → i ≤ h) : numF (.int i) lo hi = none := by
  unfold numF
  cases lo <;> cases hi <;> simp at h1 h2 ⊢ <;> omega
def P_l_number_fault (A : Ad) : Sp := fun vs H Q _ => ∃ (m : Addr) (d : Dt) (v : V) (lo hi : Option Int), vs = [v, optV lo, optV hi] ∧ At m H d v ∧ Q (.str (Str.ofString (fs (numF d lo hi)))) H
def b_l_number_fault (A : Ad) (W : WX) : TS := tSeq (bIf (bOr (tNot (bTru (bIsi .int (bVar 0)))) (bTru (bIsi .bl (bVar 0)))) (tRet (tC (.str "WrongKind"))) (tNext)) (tSeq (bIf (bOr (bAnd (bTst (tOp (bNotN) (bVar 1) (tC .non))) (bTst (tOp (bLt) (bVar 0) (bVar 1)))) (bAnd (bTst (tOp (bNotN) (bVar 2) (tC .non))) (bTst (tOp (bGt) (bVar 0) (bVar 2))))) (tRet (tC (.str "OutOfRange"))) (tNext)) (tRet (tC (.str ""))))
theorem r_l_number_fault (A : Ad) : ∀ vs H Q E, P_l_number_fault A vs H Q E → vs.length = 3 ∧ b_l_number_fault A (wE E) (dE Q) (start ["given", "low", "high"] vs) H := by
  rintro vs H Q E ⟨m, d, v, lo, hi, rfl, h, k⟩
  refine ⟨rfl, ?_⟩
  cases h with
  | int i =>
    cases lo <;> cases hi <;> walk_at "all"
    all_goals first
      | (rw [numF_oor (by first | exact .inl ⟨_, rfl, by omega⟩ | exact .inr ⟨_, rfl, by omega⟩)] at k; exact k)
      | (rw [numF_ok (by intro l e; cases e; try omega) (by intro l e; cases e; try omega)] at k; exact k)
  | _ => walk_at "all" <;> exact k

def fracF (d : Dt) : Option Fk := match d with
  | .tup [a, b] => match numF a none none with
    | some _ => some .wk
    | none => numF b (some 1) none
  | .tup _ => some .ws
  | _ => some .wk
theorem fracF_ws {ds : List Dt} (h : ds.length ≠ 2) : fracF (.tup ds) = some .ws := by
  match ds, h with
  | [], _ => rfl
  | [a], _ => rfl
  | a :: b :: c :: r, _ => rfl
def P_l_fraction_fault (A : Ad) : Sp := fun vs H Q _ => ∃ (m : Addr) (d : Dt) (v : V), vs = [v] ∧ At m H d v ∧ Q (.str (Str.ofString (fs (fracF d)))) H
def b_l_fraction_fault (A : Ad) (W : WX) : TS := tSeq (bIf (tNot (bTru (bIsi .tup (bVar 0)))) (tRet (tC (.str "WrongKind"))) (tNext)) (tSeq (bIf (bTst (tOp (bNe A.K) (bLen (bVar 0)) (tC (.int 2)))) (tRet (tC (.str "WrongSize"))) (tNext)) (tSeq (bIf (bTst (tOp (bNe A.K) (bCall (P_l_number_fault A) W (tCons (tOp bIx (bVar 0) (tC (.int 0))) (tCons (tC .non) (tCons (tC .non) (tNil))))) (tC (.str "")))) (tRet (tC (.str "WrongKind"))) (tNext)) (tRet (bCall (P_l_number_fault A) W (tCons (tOp bIx (bVar 0) (tC (.int 1))) (tCons (tC (.int 1)) (tCons (tC .non) (tNil))))))))
theorem two_of {m : Addr} {H : Hp} {ds : List Dt} {xs : List V} (l : AtL m H ds xs) (h : xs.length = 2) : ∃ a b x y, ds = [a, b] ∧ xs = [x, y] ∧ At m H a x ∧ At m H b y := by
  match l, h with
  | .cons h1 (.cons h2 .nil), _ => exact ⟨_, _, _, _, rfl, rfl, h1, h2⟩
  | .nil, h => simp at h
  | .cons h1 .nil, h => simp at h
  | .cons h1 (.cons h2 (.cons h3 l)), h => simp at h
theorem r_l_fraction_fault (A : Ad) : ∀ vs H Q E, P_l_fraction_fault A vs H Q E → vs.length = 1 ∧ b_l_fraction_fault A (wE E) (dE Q) (start ["given"] vs) H := by
  rintro vs H Q E ⟨m, d, v, rfl, h, k⟩
  refine ⟨rfl, ?_⟩
  cases h with
  | @tup ds xs p n hp l =>
    walk_at "go"
    walk_at "br"
    have hl := l.len
    walk_at "go"
    walk_at "br"
    · rename_i hb
      rw [fracF_ws (by omega)] at k
      exact k
    · rename_i hb
      obtain ⟨a, b, x, y, rfl, rfl, h1, h2⟩ := two_of l (by omega)
      walk_at "go"
      refine ⟨m, a, x, none, none, rfl, h1, ?_⟩
      walk_at "br"
      · rename_i hb
        have e : fracF (.tup [a, b]) = some .wk := by
          cases e : numF a none none with
          | none => rw [e] at hb; exact absurd rfl hb
          | some f => simp only [fracF, e]
        rw [e] at k
        exact k
      · rename_i hb
        rw [fs_none] at hb
        have e : fracF (.tup [a, b]) = numF b (some 1) none := by
          unfold fracF
          simp only [hb]
        rw [e] at k
        walk_at "go"
        exact ⟨m, b, y, some 1, none, rfl, h2, k⟩
  | _ => walk_at "all" <;> exact k

/-- the first one that has a fault -/
def firstF : List (String × Option Fk) → Option (Fk × String)
  | [] => none
  | (n, some k) :: _ => some (k, n)
  | (_, none) :: r => firstF r
def dueD : Option (Fk × String) → Dt
  | none => .non
  | some (k, n) => .tup [.str (Str.ofString k.nm), .str (Str.ofString n)]
def rowD (l : List (String × Option Fk)) : Dt := .lst (l.map fun p => .tup [.str (Str.ofString p.1), .str (Str.ofString (fs p.2))])
def P_l_first_fault (A : Ad) : Sp := fun vs H Q _ => ∃ (m : Addr) (l : List (String × Option Fk)) (v : V), vs = [v] ∧ H m ≠ none ∧ At m H (rowD l) v ∧ ∀ v' H', Ex H H' → At m H' (dueD (firstF l)) v' → Q v' H'
def b_l_first_fault (A : Ad) (W : WX) : TS := tSeq (bForA (bVar 0) (gName 1) (bIf (bTst (tOp (bNe A.K) (tOp bIx (bVar 1) (tC (.int 1))) (tC (.str "")))) (tRet (bTup (tCons (tOp bIx (bVar 1) (tC (.int 1))) (tCons (tOp bIx (bVar 1) (tC (.int 0))) (tNil))))) (tNext))) (tRet (tC .non))
theorem firstF_skip : ∀ {l : List (String × Option Fk)} {i : Nat}, (∀ j p, j < i → l[j]? = some p → p.2 = none) → ∀ {p}, l[i]? = some p → p.2 = none → (∀ j p, j < i + 1 → l[j]? = some p → p.2 = none) := by
  intro l i h p hp e j q hj hq
  by_cases z : j = i
  · subst z; rw [hp] at hq; cases hq; exact e
  · exact h j q (by omega) hq
theorem firstF_at : ∀ {l : List (String × Option Fk)} {i : Nat} {n : String} {k : Fk}, (∀ j p, j < i → l[j]? = some p → p.2 = none) → l[i]? = some (n, some k) → firstF l = some (k, n)
  | [], i, _, _, _, h => by simp at h
  | p :: l, 0, n, k, _, h => by simp at h; subst h; rfl
  | (a, f) :: l, i + 1, n, k, hn, h => by
    have e : f = none := hn 0 (a, f) (by omega) rfl
    subst e
    exact firstF_at (l := l) (i := i) (fun j p hj hp => hn (j + 1) p (by omega) (by simpa using hp)) (by simpa using h)
theorem firstF_none : ∀ {l : List (String × Option Fk)}, (∀ j p, j < l.length → l[j]? = some p → p.2 = none) → firstF l = none
  | [], _ => rfl
  | (a, f) :: l, h => by
    have e : f = none := h 0 (a, f) (by simp) rfl
    subst e
    exact firstF_none (l := l) (fun j p hj hp => h (j + 1) p (by simp; omega) (by simpa using hp))
theorem r_l_first_fault (A : Ad) : ∀ vs H Q E, P_l_first_fault A vs H Q E → vs.length = 1 ∧ b_l_first_fault A (wE E) (dE Q) (start ["pair_row", "item"] vs) H := by
  rintro vs H Q E ⟨m, l, v, rfl, hm, h, k⟩
  refine ⟨rfl, ?_⟩
  obtain ⟨p, xs, rfl, n, hp, al⟩ := at_lst_inv h
  have hl := al.len
  rw [List.length_map] at hl
  refine Get.mk _ hp ?_
  refine LoopL.mk (fun i σ H' => H' = H ∧ (∃ o, σ = [some (.ref p), o]) ∧ (∀ j q, j < i → l[j]? = some q → q.2 = none)) ⟨rfl, ⟨none, rfl⟩, fun j q z => absurd z (Nat.not_lt_zero _)⟩ ?_ ?_ ?_
  · rintro i σ H' _ ⟨rfl, _⟩
    exact .inl hp
  · rintro i x σ H' hx ⟨rfl, ⟨o, rfl⟩, hno⟩
    obtain ⟨d, hd, hat⟩ := al.get hx
    rw [List.getElem?_map] at hd
    cases e : l[i]? with
    | none => rw [e] at hd; cases hd
    | some q =>
      obtain ⟨nm, f⟩ := q
      rw [e] at hd
      cases hd
      obtain ⟨t, ys, rfl, nt, ht, tl⟩ := at_tup_inv hat
      cases tl with
      | cons a1 tl => cases tl with
        | cons a2 tl =>
          cases tl
          cases a1
          cases a2
          walk_at "go"
          walk_at "br"
          · rename_i hb
            cases f with
            | none => exact absurd rfl hb
            | some fk =>
              have e2 := firstF_at hno e
              rw [e2] at k
              walk_at "go"
              exact k _ _ (by walk_at "xe") (.tup (by walk_at "nn") (by walk_at "hg") (.cons (.str _) (.cons (.str _) .nil)))
          · rename_i hb
            rw [fs_none] at hb
            exact ⟨rfl, ⟨_, rfl⟩, firstF_skip hno e hb⟩
  · rintro σ H' ⟨rfl, ⟨o, rfl⟩, hno⟩
    rw [firstF_none (fun j q hj => hno j q (by omega))] at k
    exact k _ _ (Ex.refl _) .non
/-! ### picking one out of a list of data -/
theorem nxt {D : Ends} {σ : Sg} {H : Hp} (h : D.nx σ H) : tNext D σ H := h
theorem ret_pick {m : Addr} {tl ti : TE} {σ : Sg} {H : Hp} {D : Ends} {ds : List Dt} (h : Dv m tl σ H (.lst ds)) (k : ∀ v H1, Ex H H1 → At m H1 (.lst ds) v → ti σ H1 fun i H2 => bIx v i H2 D.rt) : tRet (tOp bIx tl ti) D σ H :=
  h.run k
theorem asg_dv {m : Addr} {tl : TE} {g : TG} {t : TS} {D : Ends} {σ : Sg} {H : Hp} {d : Dt} (h : Dv m tl σ H d) (k : ∀ v H1, Ex H H1 → At m H1 d v → g v σ H1 fun σ2 H2 => t D σ2 H2) : tSeq (tAsg tl g) t D σ H :=
  h.run k
theorem At.pick {m : Addr} {H : Hp} {ds : List Dt} {v : V} {i : Int} {Q : VK} (a : At m H (.lst ds) v) (h0 : 0 ≤ i) (h1 : i < ds.length) (k : ∀ x d, ds[i.toNat]? = some d → At m H d x → Q x H) : bIx v (.int i) H Q := by
  obtain ⟨p, xs, rfl, n, hp, l⟩ := at_lst_inv a
  obtain ⟨x, d, e, hd, ha⟩ := l.ati h0 h1
  exact Get.mk _ hp (AtI.mk _ e (k x d hd ha))
theorem dx_pow {m : Addr} {σ : Sg} {H : Hp} {i j : Int} (h : CPow i j) (h0 : 0 ≤ j) : Dv m (tOp bPow (tC (.int i)) (tC (.int j))) σ H (.int (i ^ j.toNat)) := fun H1 _ Q k => ⟨h, k _ H1 (Ex.refl _) (.int _)⟩
theorem dx_vi {m : Addr} {σ : Sg} {H : Hp} {n : Nat} {i : Int} (e : σ[n]? = some (some (.int i))) : Dv m (bVar n) σ H (.int i) := dx_var e (.int i)
theorem dx_add {m : Addr} {σ : Sg} {H : Hp} {ta tb : TE} {i j : Int} (h1 : Dv m ta σ H (.int i)) (h2 : Dv m tb σ H (.int j)) : Dv m (tOp bAdd ta tb) σ H (.int (i + j)) := fun H1 x Q k =>
  h1 H1 x _ fun v H2 x2 a => h2 H2 (x.trans x2) _ fun w H3 x3 b => by
    cases a; cases b
    exact k _ H3 (x2.trans x3) (.int _)
theorem dx_sub {m : Addr} {σ : Sg} {H : Hp} {ta tb : TE} {i j : Int} (h1 : Dv m ta σ H (.int i)) (h2 : Dv m tb σ H (.int j)) : Dv m (tOp bSub ta tb) σ H (.int (i - j)) := fun H1 x Q k =>
  h1 H1 x _ fun v H2 x2 a => h2 H2 (x.trans x2) _ fun w H3 x3 b => by
    cases a; cases b
    exact k _ H3 (x2.trans x3) (.int _)
theorem dx_lsts {m : Addr} {σ : Sg} {H : Hp} {ta tb : TE} {ds es : List Dt} (hm : H m ≠ none) (h1 : Dv m ta σ H (.lst ds)) (h2 : Dv m tb σ H (.lst es)) (hl : ds.length + es.length ≤ 1000) : Dv m (tOp bAdd ta tb) σ H (.lst (ds ++ es)) := fun H1 x Q k =>
  h1 H1 x _ fun v H2 x2 a => h2 H2 (x.trans x2) _ fun w H3 x3 b => by
    obtain ⟨p, xs, rfl, n, hp, l⟩ := at_lst_inv (a.mono x3)
    obtain ⟨q, ys, rfl, n2, hq, l2⟩ := at_lst_inv b
    refine Get.mk _ hp (Get.mk _ hq ⟨?_, Alloc.mk fun r H4 x4 n4 h4 => ?_⟩)
    · rw [l.len, l2.len]
      exact Nat.le_trans hl (by decide)
    · exact k _ H4 (x2.trans (x3.trans x4)) (at_lst (fun z => hm (((x.trans x2).trans x3).fresh (z ▸ n4))) h4 ((l.append l2).mono x4))
local macro_rules | `(tactic| walk_at "dv") => `(tactic| repeat first
  | exact dx_int _ | exact dx_str _ | exact dx_bl _ | exact dx_non | exact dx_neg _ | exact dx_vi rfl
  | exact dxa_nil | refine dxa_cons ?_ ?_ | refine dx_tup (by assumption) ?_ | refine dx_lst (by assumption) ?_ | exact dx_dct (by assumption) | exact dx_pow (by unfold CPow; decide) (by decide) | refine dx_add ?_ ?_ | refine dx_sub ?_ ?_)

def P_l_odd_number (A : Ad) : Sp := fun vs H Q _ => ∃ (st : Sto) (lo hi : Option Int), vs = [.ref st, optV lo, optV hi] ∧ Store H st ∧ (∀ l, lo = some l → l.natAbs < 2 ^ 64) ∧ (∀ l, hi = some l → l.natAbs < 2 ^ 64) ∧
  ∀ (d : Dt) (v : V) H', ExB st H H' → Store H' st → At st H' d v → d.fit → Q v H'
def b_l_odd_number (A : Ad) (W : WX) : TS := tSeq (tAsg (tC (.int 0)) (gName 3)) (tSeq (bIf (bTst (tOp (bNotN) (bVar 1) (tC .non))) (tAsg (bVar 1) (gName 3)) (tNext)) (tSeq (tAsg (bVar 3) (gName 4)) (tSeq (bIf (bTst (tOp (bNotN) (bVar 2) (tC .non))) (tAsg (bVar 2) (gName 4)) (tNext)) (tSeq (tAsg (bCall (P_l_take A) W (tCons (bVar 0) (tCons (tC (.int 14)) (tNil)))) (gName 5)) (tSeq (bIf (bTst (tOp (bLt) (bVar 5) (tC (.int 8)))) (tRet (tOp bIx (bLst (tCons (tC .non) (tCons (tC (.bl true)) (tCons (tC (.bl false)) (tCons (tC (.str "")) (tCons (tC (.str "1")) (tCons (bLst (tCons (tC (.int 0)) (tNil))) (tCons (bTup (tCons (tC (.int 1)) (tNil))) (tCons (bDct0) (tNil)))))))))) (bVar 5))) (tNext)) (tRet (tOp bIx (bLst (tCons (tOp bSub (bVar 3) (tC (.int 1))) (tCons (tOp bAdd (bVar 4) (tC (.int 1))) (tCons (tOp bSub (bVar 3) (tOp bPow (tC (.int 10)) (tC (.int 40)))) (tCons (tOp bAdd (bVar 4) (tOp bPow (tC (.int 10)) (tC (.int 40)))) (tCons (bVar 3) (tCons (bVar 4) (tNil)))))))) (tOp bSub (bVar 5) (tC (.int 8))))))))))
theorem tail_odd (A : Ad) {Q : VK} {E : XK} {H : Hp} {st : Sto} {v1 v2 : V} {L M : Int} (hS : Store H st) (hL : L.natAbs < 2 ^ 64) (hM : M.natAbs < 2 ^ 64)
    (k : ∀ (d : Dt) (v : V) H', ExB st H H' → Store H' st → At st H' d v → d.fit → Q v H') :
    (tSeq (tAsg (bCall (P_l_take A) (wE E) (tCons (bVar 0) (tCons (tC (.int 14)) (tNil)))) (gName 5)) (tSeq (bIf (bTst (tOp (bLt) (bVar 5) (tC (.int 8)))) (tRet (tOp bIx (bLst (tCons (tC .non) (tCons (tC (.bl true)) (tCons (tC (.bl false)) (tCons (tC (.str "")) (tCons (tC (.str "1")) (tCons (bLst (tCons (tC (.int 0)) (tNil))) (tCons (bTup (tCons (tC (.int 1)) (tNil))) (tCons (bDct0) (tNil)))))))))) (bVar 5))) (tNext)) (tRet (tOp bIx (bLst (tCons (tOp bSub (bVar 3) (tC (.int 1))) (tCons (tOp bAdd (bVar 4) (tC (.int 1))) (tCons (tOp bSub (bVar 3) (tOp bPow (tC (.int 10)) (tC (.int 40)))) (tCons (tOp bAdd (bVar 4) (tOp bPow (tC (.int 10)) (tC (.int 40)))) (tCons (bVar 3) (tCons (bVar 4) (tNil)))))))) (tOp bSub (bVar 5) (tC (.int 8))))))) (dE Q) [some (.ref st), some v1, some v2, some (.int L), some (.int M), none] H := by
  refine ⟨st, 14, rfl, hS, Sz.small (by decide), fun r H1 x1 s1 r0 r1 => ?_⟩
  have hm := s1.some
  walk_at "br"
  · refine ret_pick (m := st) (ds := [.non, .bl true, .bl false, .str "", .str "1", .lst [.int 0], .tup [.int 1], .dct]) (by walk_at "dv") fun v H2 x2 a => ?_
    refine a.pick r0 (by show r < 8; omega) fun x d hd ha => ?_
    exact k d x H2 (x1.trans (x2.but st)) (s1.mono x2) ha ⟨sms_get (k := 140) (by simp [Dt.sms, Dt.sm, Dt.hs]) hd, (by simp [Dt.okN] : ∀ d ∈ _, Dt.okN 4 d) d (List.mem_of_getElem? hd)⟩
  · refine nxt ?_
    dsimp only
    refine ret_pick (m := st) (ds := [.int (L - 1), .int (M + 1), .int (L - 10 ^ 40), .int (M + 10 ^ 40), .int L, .int M]) (by walk_at "dv") fun v H2 x2 a => ?_
    refine a.pick (i := r - 8) (by omega) (by show r - 8 < 6; omega) fun x d hd ha => ?_
    exact k d x H2 (x1.trans (x2.but st)) (s1.mono x2) ha ⟨sms_get (k := 140) (by simp only [Dt.sms, Dt.sm, and_true]; refine ⟨?_, ?_, ?_, ?_, ?_, ?_⟩ <;> omega) hd, (by simp [Dt.okN] : ∀ d ∈ _, Dt.okN 4 d) d (List.mem_of_getElem? hd)⟩
theorem r_l_odd_number (A : Ad) : ∀ vs H Q E, P_l_odd_number A vs H Q E → vs.length = 3 ∧ b_l_odd_number A (wE E) (dE Q) (start ["store", "low", "high", "least", "most", "kind"] vs) H := by
  rintro vs H Q E ⟨st, lo, hi, rfl, hS, h1, h2, k⟩
  refine ⟨rfl, ?_⟩
  cases lo <;> cases hi <;> walk_at "go" <;> walk_at "br" <;> walk_at "go" <;> walk_at "br"
  · exact tail_odd (E := E) A hS (by decide) (by decide) k
  · exact tail_odd (E := E) A hS (by decide) (h2 _ rfl) k
  · exact tail_odd (E := E) A hS (h1 _ rfl) (h1 _ rfl) k
  · exact tail_odd (E := E) A hS (h1 _ rfl) (h2 _ rfl) k

def P_l_odd_fraction (A : Ad) : Sp := fun vs H Q _ => ∃ (st : Sto), vs = [.ref st] ∧ Store H st ∧
  ∀ (d : Dt) (v : V) H', ExB st H H' → Store H' st → At st H' d v → d.fit → Q v H'
def b_l_odd_fraction (A : Ad) (W : WX) : TS := tSeq (tAsg (bLst (tCons (tC .non) (tCons (tC (.int 1)) (tCons (tC (.str "1/2")) (tCons (bLst (tCons (tC (.int 1)) (tCons (tC (.int 2)) (tNil)))) (tCons (bTup (tNil)) (tCons (bTup (tCons (tC (.int 1)) (tNil))) (tCons (bTup (tCons (tC (.int 1)) (tCons (tC (.int 2)) (tCons (tC (.int 3)) (tNil))))) (tCons (bTup (tCons (tC (.bl true)) (tCons (tC (.int 2)) (tNil)))) (tCons (bTup (tCons (tC (.int 1)) (tCons (tC (.bl true)) (tNil)))) (tCons (bTup (tCons (tC (.str "1")) (tCons (tC (.int 2)) (tNil)))) (tCons (bTup (tCons (tC (.int 1)) (tCons (tC .non) (tNil)))) (tCons (bTup (tCons (tC .non) (tCons (tC (.int 0)) (tNil)))) (tNil)))))))))))))) (gName 1)) (tSeq (tAsg (tOp bAdd (bVar 1) (bLst (tCons (bTup (tCons (tC (.int 1)) (tCons (tC (.int 0)) (tNil)))) (tCons (bTup (tCons (tC (.int 1)) (tCons (tUn bNeg (tC (.int 2))) (tNil)))) (tCons (bTup (tCons (tC (.int 0)) (tCons (tC (.int 0)) (tNil)))) (tCons (bTup (tCons (tUn bNeg (tC (.int 1))) (tCons (tUn bNeg (tC (.int 1))) (tNil)))) (tCons (bTup (tCons (tOp bPow (tC (.int 10)) (tC (.int 40))) (tCons (tC (.int 0)) (tNil)))) (tCons (bTup (tCons (tC (.int 0)) (tCons (tC (.int 1)) (tNil)))) (tCons (bTup (tCons (tUn bNeg (tC (.int 6))) (tCons (tC (.int 4)) (tNil)))) (tNil)))))))))) (gName 1)) (tSeq (tAsg (tOp bAdd (bVar 1) (bLst (tCons (bTup (tCons (tC (.str "1")) (tNil))) (tCons (bTup (tCons (tC .non) (tCons (tC (.int 2)) (tCons (tC (.int 3)) (tNil))))) (tCons (bTup (tCons (tC (.int 1)) (tCons (tC (.bl true)) (tCons (tC (.int 2)) (tNil))))) (tCons (bTup (tCons (tC (.int 1)) (tCons (tC (.int 0)) (tCons (tC (.int 3)) (tNil))))) (tCons (bTup (tCons (tC .non) (tNil))) (tCons (bTup (tCons (tC (.int 1)) (tCons (tC (.int 2)) (tCons (tC (.str "3")) (tNil))))) (tCons (bDct0) (tNil)))))))))) (gName 1)) (tRet (tOp bIx (bVar 1) (bCall (P_l_take A) W (tCons (bVar 0) (tCons (bLen (bVar 1)) (tNil))))))))
theorem r_l_odd_fraction (A : Ad) : ∀ vs H Q E, P_l_odd_fraction A vs H Q E → vs.length = 1 ∧ b_l_odd_fraction A (wE E) (dE Q) (start ["store", "menu"] vs) H := by
  rintro vs H Q E ⟨st, rfl, hS, k⟩
  refine ⟨rfl, ?_⟩
  have hm := hS.some
  refine asg_dv (m := st) (d := .lst [.non, .int 1, .str "1/2", .lst [.int 1, .int 2], .tup [], .tup [.int 1], .tup [.int 1, .int 2, .int 3], .tup [.bl true, .int 2], .tup [.int 1, .bl true], .tup [.str "1", .int 2], .tup [.int 1, .non], .tup [.non, .int 0]]) (by walk_at "dv") fun v1 H1 x1 a1 => ?_
  have hm := (hS.mono x1).some
  refine asg_dv (m := st) (d := .lst ([.non, .int 1, .str "1/2", .lst [.int 1, .int 2], .tup [], .tup [.int 1], .tup [.int 1, .int 2, .int 3], .tup [.bl true, .int 2], .tup [.int 1, .bl true], .tup [.str "1", .int 2], .tup [.int 1, .non], .tup [.non, .int 0]] ++ [.tup [.int 1, .int 0], .tup [.int 1, .int (-2)], .tup [.int 0, .int 0], .tup [.int (-1), .int (-1)], .tup [.int (10 ^ 40), .int 0], .tup [.int 0, .int 1], .tup [.int (-6), .int 4]]))
    (dx_lsts hm (dx_var rfl a1) (by walk_at "dv") (by decide)) fun v2 H2 x2 a2 => ?_
  have hm := (hS.mono (x1.trans x2)).some
  refine asg_dv (m := st) (d := .lst (([.non, .int 1, .str "1/2", .lst [.int 1, .int 2], .tup [], .tup [.int 1], .tup [.int 1, .int 2, .int 3], .tup [.bl true, .int 2], .tup [.int 1, .bl true], .tup [.str "1", .int 2], .tup [.int 1, .non], .tup [.non, .int 0]] ++ [.tup [.int 1, .int 0], .tup [.int 1, .int (-2)], .tup [.int 0, .int 0], .tup [.int (-1), .int (-1)], .tup [.int (10 ^ 40), .int 0], .tup [.int 0, .int 1], .tup [.int (-6), .int 4]])
    ++ [.tup [.str "1"], .tup [.non, .int 2, .int 3], .tup [.int 1, .bl true, .int 2], .tup [.int 1, .int 0, .int 3], .tup [.non], .tup [.int 1, .int 2, .str "3"], .dct]))
    (dx_lsts hm (dx_var rfl a2) (by walk_at "dv") (by decide)) fun v3 H3 x3 a3 => ?_
  obtain ⟨p, xs, rfl, n, hp, l⟩ := at_lst_inv a3
  have hl := l.len
  refine Get.mk _ hp ?_
  refine ⟨st, _, rfl, hS.mono (x1.trans (x2.trans x3)), Sz.small (by rw [hl]; decide), fun r H4 x4 s4 r0 r1 => ?_⟩
  have a4 := a3.monoB x4
  have r2 : r < 26 := by
    rw [hl] at r1
    simp only [List.length_append, List.length_cons, List.length_nil] at r1
    omega
  refine a4.pick r0 (by simpa using r2) fun x d hd ha => ?_
  exact k d x H4 (((x1.trans (x2.trans x3)).but st).trans x4) s4 ha ⟨sms_get (k := 140) (by simp [Dt.sms, Dt.sm, Dt.hs]) hd, (by simp [Dt.okN] : ∀ d ∈ _, Dt.okN 4 d) d (List.mem_of_getElem? hd)⟩

def P_l_beside (A : Ad) : Sp := fun vs H Q _ => ∃ (st : Sto) (d : Dt) (v : V), vs = [.ref st, v] ∧ Store H st ∧ At st H d v ∧ d.sm 270 ∧
  ∀ (d : Dt) (v : V) H', ExB st H H' → Store H' st → At st H' d v → d.sm 270 → Q v H'
def b_l_beside (A : Ad) (W : WX) : TS := tSeq (bIf (bTst (tOp (bEq A.K) (bCall (P_l_take A) W (tCons (bVar 0) (tCons (tC (.int 2)) (tNil)))) (tC (.int 0)))) (tRet (bVar 1)) (tNext)) (tRet (bCall (P_l_odd_fraction A) W (tCons (bVar 0) (tNil))))
theorem r_l_beside (A : Ad) : ∀ vs H Q E, P_l_beside A vs H Q E → vs.length = 2 ∧ b_l_beside A (wE E) (dE Q) (start ["store", "item"] vs) H := by
  rintro vs H Q E ⟨st, d, v, rfl, hS, ha, hd, k⟩
  refine ⟨rfl, ?_⟩
  walk_at "go"
  refine ⟨st, 2, rfl, hS, Sz.small (by decide), fun r H1 x1 s1 r0 r1 => ?_⟩
  walk_at "br"
  · exact k d v H1 x1 s1 (ha.monoB x1) hd
  · walk_at "go"
    refine ⟨st, rfl, s1, fun d2 v2 H2 x2 s2 a2 h2 => ?_⟩
    exact k d2 v2 H2 (x1.trans x2) s2 a2 (Dt.sm_mono (by decide) h2.1)

def P_l_base (A : Ad) : Sp := fun vs H Q _ => ∃ (st : Sto) (n : Int), vs = [.ref st, .int n] ∧ Store H st ∧ 0 ≤ n ∧ n ≤ 64 ∧
  ∀ (a b : Int) (v : V) H', ExB st H H' → Store H' st → At st H' (.tup [.int a, .int b]) v → 1 ≤ b → a.natAbs < 2 ^ 68 → b.natAbs < 2 ^ 68 → Q v H'
def b_l_base (A : Ad) (W : WX) : TS := tSeq (tAsg (tOp bSub (bCall (P_l_ten A) W (tCons (bMin (tC (.int 20)) (tOp bFdv (tC (.int 90)) (bMax (tC (.int 1)) (bVar 1)))) (tNil))) (tC (.int 1))) (gName 2)) (tSeq (tAsg (bCall (P_l_near A) W (tCons (bVar 0) (tCons (tC (.int 1)) (tCons (bVar 2) (tNil))))) (gName 3)) (tSeq (bIf (bTst (tOp (bEq A.K) (bCall (P_l_take A) W (tCons (bVar 0) (tCons (tC (.int 4)) (tNil)))) (tC (.int 0)))) (tRet (bTup (tCons (tC (.int 0)) (tCons (bVar 3) (tNil))))) (tNext)) (tRet (bTup (tCons (bCall (P_l_near A) W (tCons (bVar 0) (tCons (tOp bSub (tC (.int 0)) (bVar 2)) (tCons (bVar 2) (tNil))))) (tCons (bVar 3) (tNil)))))))
theorem r_l_base (A : Ad) : ∀ vs H Q E, P_l_base A vs H Q E → vs.length = 2 ∧ b_l_base A (wE E) (dE Q) (start ["store", "many", "high", "low"] vs) H := by
  rintro vs H Q E ⟨st, n, rfl, hS, n0, n1, k⟩
  refine ⟨rfl, ?_⟩
  walk_at "go"
  rename_i q e1 e2
  subst e1
  clear e2
  have hx : (max 1 n : Int) ≠ 0 := by omega
  have hx1 : (1 : Int) ≤ max 1 n := by omega
  have q0 : (1 : Int) ≤ Int.fdiv 90 (max 1 n) := by
    rw [Int.fdiv_eq_ediv_of_nonneg 90 (by omega)]
    exact Int.le_ediv_of_mul_le (by omega) (by omega)
  have q1 : (1 : Int) ≤ min 20 (Int.fdiv 90 (max 1 n)) := by omega
  generalize hg : min 20 (Int.fdiv 90 (max 1 n)) = g at q1
  have g2 : g ≤ 20 := by omega
  refine ⟨g, by rw [hg], by omega, by omega, fun t ht => ?_⟩
  have t0 : 10 ≤ t := by
    obtain ⟨z, hz⟩ : ∃ z, g.toNat = z + 1 := ⟨g.toNat - 1, by omega⟩
    rw [ht, hz, Int.pow_succ]
    have := ten_pos z
    omega
  have t1 : t ≤ 10 ^ 20 := by
    rw [ht]
    exact_mod_cast Nat.pow_le_pow_right (n := 10) (by decide) (by omega : g.toNat ≤ 20)
  walk_at "go"
  refine ⟨st, _, _, rfl, hS, by omega, Sz.of 70 (by omega) (by decide) (by decide), fun b H1 x1 s1 b0 b1 => ?_⟩
  walk_at "go"
  refine ⟨st, 4, rfl, s1, Sz.small (by decide), fun r H2 x2 s2 r0 r1 => ?_⟩
  walk_at "br"
  · walk_at "go"
    exact k 0 b _ _ (x1.trans (x2.trans (ExB.trans ((by assumption : Ex _ _).but st) (Ex.refl _ |>.but st)))) (s2.mono (by assumption)) (.tup (s2.ne (by assumption)) (by walk_at "hg") (.cons (.int _) (.cons (.int _) .nil))) b0 (by decide) (by omega)
  · walk_at "go"
    refine ⟨st, _, _, rfl, s2, by omega, Sz.of 70 (by omega) (by decide) (by decide), fun a H3 x3 s3 a0 a1 => ?_⟩
    walk_at "go"
    exact k a b _ _ (x1.trans (x2.trans (x3.trans ((by assumption : Ex _ _).but st)))) (s3.mono (by assumption)) (.tup (s3.ne (by assumption)) (by walk_at "hg") (.cons (.int _) (.cons (.int _) .nil))) b0 (by omega) (by omega)
/-! ### what the program's checks do -/
def Ad.fk (A : Ad) : Fk → Addr
  | .wk => A.WrongKind | .ws => A.WrongSize | .oor => A.OutOfRange
/-- the error of the class k is raised, naming n -/
def Raises (A : Ad) (H : Hp) (E : XK) (k : Fk) (n : Str) : Prop := ∀ dd H', Ex H H' → H' dd = some (.xd [("argument", .str n)]) → E (.ref (A.fk k)) (some dd) H'
theorem Raises.mono {A : Ad} {H H1 : Hp} {E : XK} {k : Fk} {n : Str} (h : Raises A H E k n) (x : Ex H H1) : Raises A H1 E k n := fun dd H' x' hd => h dd H' (x.trans x') hd
/-- the check of a value with the fault f -/
def Chk (A : Ad) (H : Hp) (Q : VK) (E : XK) (f : Option Fk) (n : Str) : Prop := (f = none → Q .non H) ∧ ∀ k, f = some k → Raises A H E k n
theorem raise_of {A : Ad} {H : Hp} {E : XK} {k : Fk} {n : Str} (h : Raises A H E k n) : NewX H "argument" (.str n) fun d H' => E (.ref (A.fk k)) (some d) H' := NewX.mk fun d H' x _ hd => h d H' x hd
def P_check_integer (A : Ad) : Sp := fun vs H Q E => ∃ (m : Addr) (d : Dt) (v : V) (n : Str), vs = [v, .str n] ∧ At m H d v ∧ Chk A H Q E (numF d none none) n
theorem num_wk {d : Dt} {k : Fk} {lo hi : Option Int} (h : numF d none none = some k) : k = .wk ∧ numF d lo hi = some .wk := by
  cases d <;> simp [numF] at h ⊢ <;> exact h.symm
def P_is_integer (A : Ad) : Sp := fun vs H Q _ => ∃ (m : Addr) (d : Dt) (v : V), vs = [v] ∧ At m H d v ∧ (numF d none none = none → Q (.bl true) H) ∧ (∀ k, numF d none none = some k → Q (.bl false) H)
def b_is_integer (A : Ad) (W : WX) : TS := tRet (bAndV (bIsi .int (bVar 0)) (bNotV (bIsi .bl (bVar 0))))
theorem r_is_integer (A : Ad) : ∀ vs H Q E, P_is_integer A vs H Q E → vs.length = 1 ∧ b_is_integer A (wE E) (dE Q) (start ["value"] vs) H := by
  rintro vs H Q E ⟨m, d, v, rfl, h, k1, k2⟩
  refine ⟨rfl, ?_⟩
  cases h with
  | int i => walk_at "all"; exact k1 rfl
  | _ => walk_at "all" <;> exact k2 .wk rfl
def b_check_integer (A : Ad) (W : WX) : TS := bIf (tNot (bTru (bCall (P_is_integer A) W (tCons (bVar 0) (tNil))))) (bRaise A.WrongKind "argument" W (bVar 1)) (tNext)
theorem r_check_integer (A : Ad) : ∀ vs H Q E, P_check_integer A vs H Q E → vs.length = 2 ∧ b_check_integer A (wE E) (dE Q) (start ["value", "argument"] vs) H := by
  rintro vs H Q E ⟨m, d, v, n, rfl, h, k1, k2⟩
  refine ⟨rfl, ?_⟩
  refine ⟨m, d, v, rfl, h, fun e => ?_, fun k e => ?_⟩
  · walk_at "all"; exact k1 e
  · walk_at "all"; rw [(num_wk (lo := none) (hi := none) e).1] at e; exact raise_of (k := .wk) (k2 .wk e)

def P_check_range (A : Ad) : Sp := fun vs H Q E => ∃ (m : Addr) (d : Dt) (v : V) (lo hi : Int) (n : Str), vs = [v, .int lo, .int hi, .str n] ∧ At m H d v ∧ Chk A H Q E (numF d (some lo) (some hi)) n
def b_check_range (A : Ad) (W : WX) : TS := tSeq (tDrop (bCall (P_check_integer A) W (tCons (bVar 0) (tCons (bVar 3) (tNil))))) (bIf (bOr (bTst (tOp (bLt) (bVar 0) (bVar 1))) (bTst (tOp (bGt) (bVar 0) (bVar 2)))) (bRaise A.OutOfRange "argument" W (bVar 3)) (tNext))
theorem r_check_range (A : Ad) : ∀ vs H Q E, P_check_range A vs H Q E → vs.length = 4 ∧ b_check_range A (wE E) (dE Q) (start ["value", "least", "greatest", "argument"] vs) H := by
  rintro vs H Q E ⟨m, d, v, lo, hi, n, rfl, h, k1, k2⟩
  refine ⟨rfl, ?_⟩
  refine ⟨m, d, v, n, rfl, h, fun e => ?_, fun k e => ?_⟩
  · cases h with
    | int i =>
      walk_at "all"
      · exact raise_of (k := .oor) (k2 .oor (numF_oor (.inl ⟨_, rfl, by assumption⟩)))
      · exact raise_of (k := .oor) (k2 .oor (numF_oor (.inr ⟨_, rfl, by assumption⟩)))
      · exact k1 (numF_ok (by intro l e; cases e; omega) (by intro l e; cases e; omega))
    | _ => cases e
  · cases h with
    | int i => simp [numF] at e
    | _ => cases e; exact k2 .wk rfl

def P_check_fraction (A : Ad) : Sp := fun vs H Q E => ∃ (m : Addr) (d : Dt) (v : V) (n : Str), vs = [v, .str n] ∧ At m H d v ∧ Chk A H Q E (fracF d) n
def b_check_fraction (A : Ad) (W : WX) : TS := tSeq (bIf (tNot (bTru (bIsi .tup (bVar 0)))) (bRaise A.WrongKind "argument" W (bVar 1)) (tNext)) (tSeq (bIf (bTst (tOp (bNe A.K) (bLen (bVar 0)) (tC (.int 2)))) (bRaise A.WrongSize "argument" W (bVar 1)) (tNext)) (tSeq (bForA (bVar 0) (gName 2) (tDrop (bCall (P_check_integer A) W (tCons (bVar 2) (tCons (bVar 1) (tNil)))))) (bIf (bTst (tOp (bLt) (tOp bIx (bVar 0) (tC (.int 1))) (tC (.int 1)))) (bRaise A.OutOfRange "argument" W (bVar 1)) (tNext))))
theorem frac_wk1 {a b : Dt} {k : Fk} (h : numF a none none = some k) : fracF (.tup [a, b]) = some .wk := by simp only [fracF, h]
theorem frac_2 {a b : Dt} (h : numF a none none = none) : fracF (.tup [a, b]) = numF b (some 1) none := by simp only [fracF, h]
theorem num_int {d : Dt} {lo hi : Option Int} (h : numF d lo hi = none) : ∃ i, d = .int i := by
  cases d <;> simp [numF] at h ⊢
theorem frac_some {d : Dt} (h : fracF d = none) : ∃ a b : Int, d = .tup [.int a, .int b] ∧ 1 ≤ b := by
  cases d with
  | tup ds =>
    by_cases e : ds.length = 2
    · match ds, e with
      | [x, y], _ =>
        cases ex : numF x none none with
        | some k => rw [frac_wk1 ex] at h; cases h
        | none =>
          rw [frac_2 ex] at h
          obtain ⟨i, rfl⟩ := num_int ex
          obtain ⟨j, rfl⟩ := num_int h
          refine ⟨i, j, rfl, ?_⟩
          simp [numF] at h
          omega
    · rw [fracF_ws e] at h; cases h
  | _ => simp [fracF] at h
theorem r_check_fraction (A : Ad) : ∀ vs H Q E, P_check_fraction A vs H Q E → vs.length = 2 ∧ b_check_fraction A (wE E) (dE Q) (start ["fraction", "argument", "item"] vs) H := by
  rintro vs H Q E ⟨m, d, v, n, rfl, h, k1, k2⟩
  refine ⟨rfl, ?_⟩
  cases h with
  | @tup ds xs p nm hp l =>
    have hl := l.len
    walk_at "go"
    walk_at "br"
    walk_at "go"
    walk_at "br"
    · exact raise_of (k := .ws) (k2 .ws (fracF_ws (by omega)))
    · rename_i hb
      obtain ⟨a, b, x, y, rfl, rfl, h1, h2⟩ := two_of l (by omega)
      walk_at "go"
      refine LoopT.mk (fun i σ H' => H' = H ∧ (∃ o, σ = [some (.ref p), some (.str n), o]) ∧ (0 < i → numF a none none = none) ∧ (1 < i → numF b none none = none)) ⟨rfl, ⟨none, rfl⟩, fun z => absurd z (by decide), fun z => absurd z (by decide)⟩ ?_ ?_ ?_
      · rintro i σ H' _ ⟨rfl, _⟩
        exact .inl hp
      · rintro i z σ H' hx ⟨rfl, ⟨o, rfl⟩, q1, q2⟩
        walk_at "go"
        match i, hx with
        | 0, hx =>
          cases hx
          refine ⟨m, a, _, n, rfl, h1, fun e => ?_, fun k e => ?_⟩
          · exact ⟨rfl, ⟨_, rfl⟩, fun _ => e, fun z => absurd z (by decide)⟩
          · rw [(num_wk (lo := none) (hi := none) e).1]
            exact k2 .wk (frac_wk1 e)
        | 1, hx =>
          cases hx
          refine ⟨m, b, _, n, rfl, h2, fun e => ?_, fun k e => ?_⟩
          · exact ⟨rfl, ⟨_, rfl⟩, fun _ => q1 (by decide), fun z => e⟩
          · rw [(num_wk (lo := none) (hi := none) e).1]
            exact k2 .wk (by rw [frac_2 (q1 (by decide))]; exact (num_wk e).2)
        | i + 2, hx => simp at hx
      · rintro σ H' ⟨rfl, ⟨o, rfl⟩, q1, q2⟩
        have r1 := q1 (by simp)
        obtain ⟨j, rfl⟩ := num_int (q2 (by simp))
        cases h2
        walk_at "go"
        walk_at "br"
        · exact raise_of (k := .oor) (k2 .oor (by rw [frac_2 r1]; exact numF_oor (.inl ⟨1, rfl, by assumption⟩)))
        · exact k1 (by rw [frac_2 r1]; exact numF_ok (by intro l e; cases e; omega) (by intro l e; cases e))
  | _ => walk_at "all" <;> exact raise_of (k := .wk) (k2 .wk rfl)
def P_check_pair (A : Ad) : Sp := fun vs H Q E => ∃ (m : Addr) (d1 d2 : Dt) (v1 v2 : V), vs = [v1, v2] ∧ At m H d1 v1 ∧ At m H d2 v2 ∧
  (fracF d1 = none → fracF d2 = none → Q .non H) ∧ (∀ k, fracF d1 = some k → Raises A H E k "first") ∧ (fracF d1 = none → ∀ k, fracF d2 = some k → Raises A H E k "second")
def b_check_pair (A : Ad) (W : WX) : TS := tSeq (tDrop (bCall (P_check_fraction A) W (tCons (bVar 0) (tCons (tC (.str "first")) (tNil))))) (tDrop (bCall (P_check_fraction A) W (tCons (bVar 1) (tCons (tC (.str "second")) (tNil)))))
theorem r_check_pair (A : Ad) : ∀ vs H Q E, P_check_pair A vs H Q E → vs.length = 2 ∧ b_check_pair A (wE E) (dE Q) (start ["first", "second"] vs) H := by
  rintro vs H Q E ⟨m, d1, d2, v1, v2, rfl, h1, h2, k0, k1, k2⟩
  refine ⟨rfl, ?_⟩
  refine ⟨m, d1, v1, "first", rfl, h1, fun e1 => ?_, fun k e => k1 k e⟩
  exact ⟨m, d2, v2, "second", rfl, h2, fun e2 => k0 e1 e2, fun k e => k2 e1 k e⟩
/-- p/q is t/b in lowest terms -/
def IsR (t b p q : Int) : Prop := p * b = t * q ∧ 1 ≤ q ∧ Nat.gcd p.natAbs q.natAbs = 1 ∧ p.natAbs ≤ t.natAbs ∧ q.natAbs ≤ b.natAbs
def P_ratio (A : Ad) : Sp := fun vs H Q E => ∃ (m : Addr) (t b : Int), vs = [.int t, .int b] ∧ H m ≠ none ∧ b ≠ 0 ∧ t.natAbs < 2 ^ 8980 ∧ b.natAbs < 2 ^ 8980 ∧
  ∀ (p q : Int) (v : V) H', Ex H H' → At m H' (.tup [.int p, .int q]) v → IsR t b p q → Q v H'
def b_ratio (A : Ad) (W : WX) : TS := tSeq (tDrop (bCall (P_check_integer A) W (tCons (bVar 0) (tCons (tC (.str "top")) (tNil))))) (tSeq (tDrop (bCall (P_check_integer A) W (tCons (bVar 1) (tCons (tC (.str "bottom")) (tNil))))) (tSeq (bIf (bTst (tOp (bEq A.K) (bVar 1) (tC (.int 0)))) (bRaise A.OutOfRange "argument" W (tC (.str "bottom"))) (tNext)) (tSeq (tAsg (bGcd (bVar 0) (bVar 1)) (gName 2)) (tSeq (bIf (bTst (tOp (bLt) (bVar 1) (tC (.int 0)))) (tAsg (tUn bNeg (bVar 2)) (gName 2)) (tNext)) (tRet (bTup (tCons (tOp bFdv (bVar 0) (bVar 2)) (tCons (tOp bFdv (bVar 1) (bVar 2)) (tNil)))))))))
theorem ratio_is {t b g : Int} (hb : b ≠ 0) (hg : g = if b < 0 then -((Nat.gcd t.natAbs b.natAbs : Nat) : Int) else ((Nat.gcd t.natAbs b.natAbs : Nat) : Int)) : g ≠ 0 ∧ g.natAbs ≤ b.natAbs ∧ IsR t b (t.fdiv g) (b.fdiv g) := by
  have hbn : 0 < b.natAbs := Int.natAbs_pos.mpr hb
  have hgp : 0 < Nat.gcd t.natAbs b.natAbs := Nat.gcd_pos_of_pos_right _ hbn
  have ga : g.natAbs = Nat.gcd t.natAbs b.natAbs := by rw [hg]; split <;> omega
  have g0 : g ≠ 0 := by omega
  have dt : g ∣ t := Int.natAbs_dvd_natAbs.mp (by rw [ga]; exact Nat.gcd_dvd_left _ _)
  have db : g ∣ b := Int.natAbs_dvd_natAbs.mp (by rw [ga]; exact Nat.gcd_dvd_right _ _)
  obtain ⟨p, hp⟩ := dt
  obtain ⟨q, hq⟩ := db
  have e1 : t.fdiv g = p := by rw [hp]; exact Int.mul_fdiv_cancel_left p g0
  have e2 : b.fdiv g = q := by rw [hq]; exact Int.mul_fdiv_cancel_left q g0
  refine ⟨g0, by rw [ga]; exact Nat.le_of_dvd hbn (Nat.gcd_dvd_right _ _), ?_⟩
  rw [e1, e2]
  have at' : t.natAbs = g.natAbs * p.natAbs := by rw [hp, Int.natAbs_mul]
  have ab' : b.natAbs = g.natAbs * q.natAbs := by rw [hq, Int.natAbs_mul]
  have gp : 1 ≤ g.natAbs := by omega
  refine ⟨by rw [hp, hq]; ac_rfl, ?_, ?_, ?_, ?_⟩
  · by_cases hs : b < 0
    · have : g < 0 := by rw [hg, if_pos hs]; omega
      by_cases hq0 : 1 ≤ q
      · exact hq0
      exfalso
      have := Int.mul_nonneg_of_nonpos_of_nonpos (a := g) (b := q) (by omega) (by omega)
      omega
    · have : 0 < g := by rw [hg, if_neg hs]; omega
      by_cases hq0 : 1 ≤ q
      · exact hq0
      exfalso
      have := Int.mul_nonpos_of_nonneg_of_nonpos (a := g) (b := q) (by omega) (by omega)
      omega
  · have := Nat.gcd_mul_left g.natAbs p.natAbs q.natAbs
    rw [← at', ← ab', ← ga] at this
    have h1 : g.natAbs * 1 = g.natAbs * Nat.gcd p.natAbs q.natAbs := by omega
    exact (Nat.eq_of_mul_eq_mul_left gp h1).symm
  · rw [at']; exact Nat.le_mul_of_pos_left _ gp
  · rw [ab']; exact Nat.le_mul_of_pos_left _ gp
theorem r_ratio (A : Ad) : ∀ vs H Q E, P_ratio A vs H Q E → vs.length = 2 ∧ b_ratio A (wE E) (dE Q) (start ["top", "bottom", "divisor"] vs) H := by
  rintro vs H Q E ⟨m, t, b, rfl, hm, hb, s1, s2, k⟩
  refine ⟨rfl, ?_⟩
  refine ⟨m, .int t, _, "top", rfl, .int t, fun _ => ?_, fun k e => by cases e⟩
  refine ⟨m, .int b, _, "bottom", rfl, .int b, fun _ => ?_, fun k e => by cases e⟩
  walk_at "br"
  · contradiction
  walk_at "go"
  walk_at "br"
  · rename_i hb1 hb2
    obtain ⟨g0, gs, R⟩ := ratio_is hb (g := -((Nat.gcd t.natAbs b.natAbs : Nat) : Int)) (by rw [if_pos hb2])
    refine ⟨⟨g0, Sz.of 8980 (by omega) (by decide) (by decide)⟩, fun q1 e1 _ => ?_⟩
    refine ⟨⟨g0, Sz.of 8980 (by omega) (by decide) (by decide)⟩, fun q2 e2 _ => ?_⟩
    subst e1; subst e2
    refine Alloc.mk fun p H' x1 n1 h1 => ?_
    exact k _ _ _ H' x1 (.tup (new_ne hm n1) h1 (.cons (.int _) (.cons (.int _) .nil))) R
  · rename_i hb1 hb2
    obtain ⟨g0, gs, R⟩ := ratio_is hb (g := ((Nat.gcd t.natAbs b.natAbs : Nat) : Int)) (by rw [if_neg hb2])
    refine ⟨⟨g0, Sz.of 8980 (by omega) (by decide) (by decide)⟩, fun q1 e1 _ => ?_⟩
    refine ⟨⟨g0, Sz.of 8980 (by omega) (by decide) (by decide)⟩, fun q2 e2 _ => ?_⟩
    subst e1; subst e2
    refine Alloc.mk fun p H' x1 n1 h1 => ?_
    exact k _ _ _ H' x1 (.tup (new_ne hm n1) h1 (.cons (.int _) (.cons (.int _) .nil))) R
/-! ### what is due -/
def secF (w : Nat) (d : Dt) : Option Fk := match fracF d with
  | some k => some k
  | none => match d with
    | .tup [.int a, _] => if w = 3 ∧ a = 0 then some .oor else none
    | _ => none
def dueP (w : Nat) (d1 d2 : Dt) : Option (Fk × String) := if w = 4 then firstF [("base", fracF d1), ("exponent", numF d2 (some 0) (some 64))] else firstF [("first", fracF d1), ("second", secF w d2)]
def crossI (w : Nat) (a b c d : Int) : Int × Int := match w with
  | 0 => (a * d + c * b, b * d)
  | 1 => (a * d - c * b, b * d)
  | 2 => (a * c, b * d)
  | _ => (a * d, b * c)
def crossP (w : Nat) (d1 d2 : Dt) : Int × Int := match d1, d2 with
  | .tup [.int a, .int b], .tup [.int c, .int d] => crossI w a b c d
  | .tup [.int a, .int b], .int e => (a ^ e.toNat, b ^ e.toNat)
  | _, _ => (0, 1)
/-- the powers that are asked for are small enough -/
def Pw (d1 d2 : Dt) : Prop := ∀ a b e : Int, d1 = .tup [.int a, .int b] → d2 = .int e → 1 ≤ b → 0 ≤ e → e ≤ 64 → ∃ k : Nat, a.natAbs < 2 ^ k ∧ b.natAbs < 2 ^ k ∧ k * e.toNat ≤ 4480
def P_op (A : Ad) (w : Nat) : Sp := fun vs H Q E => ∃ (m : Addr) (d1 d2 : Dt) (v1 v2 : V), vs = [v1, v2] ∧ H m ≠ none ∧ At m H d1 v1 ∧ At m H d2 v2 ∧ d1.sm 4480 ∧ d2.sm 4480 ∧ (w = 4 → Pw d1 d2) ∧
  (∀ k n, dueP w d1 d2 = some (k, n) → Raises A H E k (Str.ofString n)) ∧ (dueP w d1 d2 = none → ∀ (p q : Int) (v : V) H', Ex H H' → At m H' (.tup [.int p, .int q]) v → IsR (crossP w d1 d2).1 (crossP w d1 d2).2 p q → Q v H')
theorem due_1 {w : Nat} {d1 d2 : Dt} {k : Fk} (hw : w ≠ 4) (h : fracF d1 = some k) : dueP w d1 d2 = some (k, "first") := by
  unfold dueP; rw [if_neg hw, h]; rfl
theorem due_2 {w : Nat} {d1 d2 : Dt} {k : Fk} (hw : w ≠ 4) (h : fracF d1 = none) (h2 : secF w d2 = some k) : dueP w d1 d2 = some (k, "second") := by
  unfold dueP; rw [if_neg hw, h, h2]; rfl
theorem due_0 {w : Nat} {d1 d2 : Dt} (hw : w ≠ 4) (h : fracF d1 = none) (h2 : secF w d2 = none) : dueP w d1 d2 = none := by
  unfold dueP; rw [if_neg hw, h, h2]; rfl
theorem sec_some {w : Nat} {d : Dt} {k : Fk} (h : fracF d = some k) : secF w d = some k := by unfold secF; rw [h]
theorem frac_none {a b : Int} (h : 1 ≤ b) : fracF (.tup [.int a, .int b]) = none := by
  rw [frac_2 rfl]
  exact numF_ok (by intro l e; cases e; omega) (by intro l e; cases e)
theorem sec_i {w : Nat} {a b : Int} (h : 1 ≤ b) : secF w (.tup [.int a, .int b]) = if w = 3 ∧ a = 0 then some .oor else none := by
  unfold secF; rw [frac_none h]
theorem pow4 {d1 d2 : Dt} {k : Fk} (h : fracF d1 = some k) : dueP 4 d1 d2 = some (k, "base") := by
  unfold dueP; rw [if_pos rfl, h]; rfl
theorem pow4b {d1 d2 : Dt} {k : Fk} (h : fracF d1 = none) (h2 : numF d2 (some 0) (some 64) = some k) : dueP 4 d1 d2 = some (k, "exponent") := by
  unfold dueP; rw [if_pos rfl, h, h2]; rfl
theorem pow4c {d1 d2 : Dt} (h : fracF d1 = none) (h2 : numF d2 (some 0) (some 64) = none) : dueP 4 d1 d2 = none := by
  unfold dueP; rw [if_pos rfl, h, h2]; rfl
theorem sm_pair {k : Nat} {a b : Int} (h : (Dt.tup [.int a, .int b]).sm k) : a.natAbs < 2 ^ k ∧ b.natAbs < 2 ^ k := by
  simp only [Dt.sm, Dt.sms, and_true] at h
  exact h
theorem sz4 {a : Int} (h : a.natAbs < 2 ^ 4480) : Sz a := Sz.of 4480 h (by decide) (by decide)
theorem mul4 {a b : Int} (h1 : a.natAbs < 2 ^ 4480) (h2 : b.natAbs < 2 ^ 4480) : (a * b).natAbs < 2 ^ 8960 := mul_lt2 h1 h2 (by decide)
theorem le8 {n : Nat} (h : n < 2 ^ 8960) : n < 2 ^ 8980 := sm_lt h (by decide)
theorem add8 {a b : Int} (h1 : a.natAbs < 2 ^ 8960) (h2 : b.natAbs < 2 ^ 8960) : (a + b).natAbs < 2 ^ 8980 := by
  have : (a + b).natAbs ≤ a.natAbs + b.natAbs := Int.natAbs_add_le a b
  have e : (2 : Nat) ^ 8961 = 2 * 2 ^ 8960 := pow2s 8960
  refine sm_lt (j := 8961) ?_ (by decide)
  omega
theorem sub8 {a b : Int} (h1 : a.natAbs < 2 ^ 8960) (h2 : b.natAbs < 2 ^ 8960) : (a - b).natAbs < 2 ^ 8980 := by
  have : a - b = a + -b := rfl
  rw [this]
  exact add8 h1 (by rwa [Int.natAbs_neg])
theorem pos_mul {b d : Int} (h1 : 1 ≤ b) (h2 : 1 ≤ d) : b * d ≠ 0 := by
  have := Int.mul_pos (a := b) (b := d) (by omega) (by omega)
  omega
theorem pow_lt {a : Int} {k e : Nat} (h : a.natAbs < 2 ^ k) (l : k * e ≤ 4480) : (a ^ e).natAbs < 2 ^ 4481 := by
  rw [Int.natAbs_pow]
  have h1 : a.natAbs ^ e ≤ (2 ^ k) ^ e := Nat.pow_le_pow_left (Nat.le_of_lt h) e
  rw [← Nat.pow_mul] at h1
  have h2 : (2 : Nat) ^ (k * e) ≤ 2 ^ 4480 := Nat.pow_le_pow_right (by decide) l
  have e : (2 : Nat) ^ 4481 = 2 * 2 ^ 4480 := pow2s 4480
  have : 0 < (2 : Nat) ^ 4480 := Nat.pow_pos (by decide)
  omega
theorem pow_sz {a : Int} {k e : Nat} (h : a.natAbs < 2 ^ k) (l : k * e ≤ 4480) : Sz (a ^ e) := Sz.of 4481 (pow_lt h l) (by decide) (by decide)
def P_ratio_sum (A : Ad) : Sp := P_op A 0
def P_ratio_difference (A : Ad) : Sp := P_op A 1
def P_ratio_product (A : Ad) : Sp := P_op A 2
def P_ratio_quotient (A : Ad) : Sp := P_op A 3
def P_ratio_power (A : Ad) : Sp := P_op A 4
def b_ratio_sum (A : Ad) (W : WX) : TS := tSeq (tDrop (bCall (P_check_pair A) W (tCons (bVar 0) (tCons (bVar 1) (tNil))))) (tRet (bCall (P_ratio A) W (tCons (tOp bAdd (tOp bMul (tOp bIx (bVar 0) (tC (.int 0))) (tOp bIx (bVar 1) (tC (.int 1)))) (tOp bMul (tOp bIx (bVar 1) (tC (.int 0))) (tOp bIx (bVar 0) (tC (.int 1))))) (tCons (tOp bMul (tOp bIx (bVar 0) (tC (.int 1))) (tOp bIx (bVar 1) (tC (.int 1)))) (tNil)))))
def b_ratio_difference (A : Ad) (W : WX) : TS := tSeq (tDrop (bCall (P_check_pair A) W (tCons (bVar 0) (tCons (bVar 1) (tNil))))) (tRet (bCall (P_ratio A) W (tCons (tOp bSub (tOp bMul (tOp bIx (bVar 0) (tC (.int 0))) (tOp bIx (bVar 1) (tC (.int 1)))) (tOp bMul (tOp bIx (bVar 1) (tC (.int 0))) (tOp bIx (bVar 0) (tC (.int 1))))) (tCons (tOp bMul (tOp bIx (bVar 0) (tC (.int 1))) (tOp bIx (bVar 1) (tC (.int 1)))) (tNil)))))
def b_ratio_product (A : Ad) (W : WX) : TS := tSeq (tDrop (bCall (P_check_pair A) W (tCons (bVar 0) (tCons (bVar 1) (tNil))))) (tRet (bCall (P_ratio A) W (tCons (tOp bMul (tOp bIx (bVar 0) (tC (.int 0))) (tOp bIx (bVar 1) (tC (.int 0)))) (tCons (tOp bMul (tOp bIx (bVar 0) (tC (.int 1))) (tOp bIx (bVar 1) (tC (.int 1)))) (tNil)))))
def b_ratio_quotient (A : Ad) (W : WX) : TS := tSeq (tDrop (bCall (P_check_pair A) W (tCons (bVar 0) (tCons (bVar 1) (tNil))))) (tSeq (bIf (bTst (tOp (bEq A.K) (tOp bIx (bVar 1) (tC (.int 0))) (tC (.int 0)))) (bRaise A.OutOfRange "argument" W (tC (.str "second"))) (tNext)) (tRet (bCall (P_ratio A) W (tCons (tOp bMul (tOp bIx (bVar 0) (tC (.int 0))) (tOp bIx (bVar 1) (tC (.int 1)))) (tCons (tOp bMul (tOp bIx (bVar 0) (tC (.int 1))) (tOp bIx (bVar 1) (tC (.int 0)))) (tNil))))))
def b_ratio_power (A : Ad) (W : WX) : TS := tSeq (tDrop (bCall (P_check_fraction A) W (tCons (bVar 0) (tCons (tC (.str "base")) (tNil))))) (tSeq (tDrop (bCall (P_check_range A) W (tCons (bVar 1) (tCons (tC (.int 0)) (tCons (tC (.int 64)) (tCons (tC (.str "exponent")) (tNil))))))) (tSeq (tAsg (tC (.int 1)) (gName 2)) (tSeq (tAsg (tC (.int 1)) (gName 3)) (tSeq (bForR (bVar 1) (gName 4) (tSeq (tAsg (tOp bMul (bVar 2) (tOp bIx (bVar 0) (tC (.int 0)))) (gName 2)) (tAsg (tOp bMul (bVar 3) (tOp bIx (bVar 0) (tC (.int 1)))) (gName 3)))) (tRet (bCall (P_ratio A) W (tCons (bVar 2) (tCons (bVar 3) (tNil)))))))))
theorem r_ratio_sum (A : Ad) : ∀ vs H Q E, P_ratio_sum A vs H Q E → vs.length = 2 ∧ b_ratio_sum A (wE E) (dE Q) (start ["first", "second"] vs) H := by
  rintro vs H Q E ⟨m, d1, d2, v1, v2, rfl, hm, h1, h2, z1, z2, _, kr, kq⟩
  refine ⟨rfl, ?_⟩
  refine ⟨m, d1, d2, v1, v2, rfl, h1, h2, fun e1 e2 => ?_, fun k e => kr k _ (due_1 (by decide) e), fun e1 k e => kr k _ (due_2 (by decide) e1 (sec_some e))⟩
  obtain ⟨a, b, rfl, hb⟩ := frac_some e1
  obtain ⟨c, d, rfl, hd⟩ := frac_some e2
  obtain ⟨t1, xs1, rfl, n1, g1, l1⟩ := at_tup_inv h1
  obtain ⟨x1, r1, rfl, y1, l1⟩ := atl_cons_inv l1
  obtain ⟨x2, r2, rfl, y2, l1⟩ := atl_cons_inv l1
  obtain rfl := atl_nil_inv l1
  obtain rfl := at_int_inv y1
  obtain rfl := at_int_inv y2
  obtain ⟨t2, xs2, rfl, n2, g2, l2⟩ := at_tup_inv h2
  obtain ⟨x3, r3, rfl, y3, l2⟩ := atl_cons_inv l2
  obtain ⟨x4, r4, rfl, y4, l2⟩ := atl_cons_inv l2
  obtain rfl := atl_nil_inv l2
  obtain rfl := at_int_inv y3
  obtain rfl := at_int_inv y4
  obtain ⟨za, zb⟩ := sm_pair z1
  obtain ⟨zc, zd⟩ := sm_pair z2
  have sa := sz4 za
  have sb := sz4 zb
  have sc := sz4 zc
  have sd := sz4 zd
  walk_at "go"
  refine ⟨m, _, _, rfl, hm, pos_mul hb hd, add8 (mul4 za zd) (mul4 zc zb), le8 (mul4 zb zd), fun p q v H' x a R => ?_⟩
  exact kq (due_0 (by decide) e1 (by rw [sec_i hd, if_neg (by simp)])) p q v H' x a R
theorem r_ratio_difference (A : Ad) : ∀ vs H Q E, P_ratio_difference A vs H Q E → vs.length = 2 ∧ b_ratio_difference A (wE E) (dE Q) (start ["first", "second"] vs) H := by
  rintro vs H Q E ⟨m, d1, d2, v1, v2, rfl, hm, h1, h2, z1, z2, _, kr, kq⟩
  refine ⟨rfl, ?_⟩
  refine ⟨m, d1, d2, v1, v2, rfl, h1, h2, fun e1 e2 => ?_, fun k e => kr k _ (due_1 (by decide) e), fun e1 k e => kr k _ (due_2 (by decide) e1 (sec_some e))⟩
  obtain ⟨a, b, rfl, hb⟩ := frac_some e1
  obtain ⟨c, d, rfl, hd⟩ := frac_some e2
  obtain ⟨t1, xs1, rfl, n1, g1, l1⟩ := at_tup_inv h1
  obtain ⟨x1, r1, rfl, y1, l1⟩ := atl_cons_inv l1
  obtain ⟨x2, r2, rfl, y2, l1⟩ := atl_cons_inv l1
  obtain rfl := atl_nil_inv l1
  obtain rfl := at_int_inv y1
  obtain rfl := at_int_inv y2
  obtain ⟨t2, xs2, rfl, n2, g2, l2⟩ := at_tup_inv h2
  obtain ⟨x3, r3, rfl, y3, l2⟩ := atl_cons_inv l2
  obtain ⟨x4, r4, rfl, y4, l2⟩ := atl_cons_inv l2
  obtain rfl := atl_nil_inv l2
  obtain rfl := at_int_inv y3
  obtain rfl := at_int_inv y4
  obtain ⟨za, zb⟩ := sm_pair z1
  obtain ⟨zc, zd⟩ := sm_pair z2
  have sa := sz4 za
  have sb := sz4 zb
  have sc := sz4 zc
  have sd := sz4 zd
  walk_at "go"
  refine ⟨m, _, _, rfl, hm, pos_mul hb hd, sub8 (mul4 za zd) (mul4 zc zb), le8 (mul4 zb zd), fun p q v H' x a R => ?_⟩
  exact kq (due_0 (by decide) e1 (by rw [sec_i hd, if_neg (by simp)])) p q v H' x a R
theorem r_ratio_product (A : Ad) : ∀ vs H Q E, P_ratio_product A vs H Q E → vs.length = 2 ∧ b_ratio_product A (wE E) (dE Q) (start ["first", "second"] vs) H := by
  rintro vs H Q E ⟨m, d1, d2, v1, v2, rfl, hm, h1, h2, z1, z2, _, kr, kq⟩
  refine ⟨rfl, ?_⟩
  refine ⟨m, d1, d2, v1, v2, rfl, h1, h2, fun e1 e2 => ?_, fun k e => kr k _ (due_1 (by decide) e), fun e1 k e => kr k _ (due_2 (by decide) e1 (sec_some e))⟩
  obtain ⟨a, b, rfl, hb⟩ := frac_some e1
  obtain ⟨c, d, rfl, hd⟩ := frac_some e2
  obtain ⟨t1, xs1, rfl, n1, g1, l1⟩ := at_tup_inv h1
  obtain ⟨x1, r1, rfl, y1, l1⟩ := atl_cons_inv l1
  obtain ⟨x2, r2, rfl, y2, l1⟩ := atl_cons_inv l1
  obtain rfl := atl_nil_inv l1
  obtain rfl := at_int_inv y1
  obtain rfl := at_int_inv y2
  obtain ⟨t2, xs2, rfl, n2, g2, l2⟩ := at_tup_inv h2
  obtain ⟨x3, r3, rfl, y3, l2⟩ := atl_cons_inv l2
  obtain ⟨x4, r4, rfl, y4, l2⟩ := atl_cons_inv l2
  obtain rfl := atl_nil_inv l2
  obtain rfl := at_int_inv y3
  obtain rfl := at_int_inv y4
  obtain ⟨za, zb⟩ := sm_pair z1
  obtain ⟨zc, zd⟩ := sm_pair z2
  have sa := sz4 za
  have sb := sz4 zb
  have sc := sz4 zc
  have sd := sz4 zd
  walk_at "go"
  refine ⟨m, _, _, rfl, hm, pos_mul hb hd, le8 (mul4 za zc), le8 (mul4 zb zd), fun p q v H' x a R => ?_⟩
  exact kq (due_0 (by decide) e1 (by rw [sec_i hd, if_neg (by simp)])) p q v H' x a R
theorem r_ratio_quotient (A : Ad) : ∀ vs H Q E, P_ratio_quotient A vs H Q E → vs.length = 2 ∧ b_ratio_quotient A (wE E) (dE Q) (start ["first", "second"] vs) H := by
  rintro vs H Q E ⟨m, d1, d2, v1, v2, rfl, hm, h1, h2, z1, z2, _, kr, kq⟩
  refine ⟨rfl, ?_⟩
  refine ⟨m, d1, d2, v1, v2, rfl, h1, h2, fun e1 e2 => ?_, fun k e => kr k _ (due_1 (by decide) e), fun e1 k e => kr k _ (due_2 (by decide) e1 (sec_some e))⟩
  obtain ⟨a, b, rfl, hb⟩ := frac_some e1
  obtain ⟨c, d, rfl, hd⟩ := frac_some e2
  obtain ⟨t1, xs1, rfl, n1, g1, l1⟩ := at_tup_inv h1
  obtain ⟨x1, r1, rfl, y1, l1⟩ := atl_cons_inv l1
  obtain ⟨x2, r2, rfl, y2, l1⟩ := atl_cons_inv l1
  obtain rfl := atl_nil_inv l1
  obtain rfl := at_int_inv y1
  obtain rfl := at_int_inv y2
  obtain ⟨t2, xs2, rfl, n2, g2, l2⟩ := at_tup_inv h2
  obtain ⟨x3, r3, rfl, y3, l2⟩ := atl_cons_inv l2
  obtain ⟨x4, r4, rfl, y4, l2⟩ := atl_cons_inv l2
  obtain rfl := atl_nil_inv l2
  obtain rfl := at_int_inv y3
  obtain rfl := at_int_inv y4
  obtain ⟨za, zb⟩ := sm_pair z1
  obtain ⟨zc, zd⟩ := sm_pair z2
  have sa := sz4 za
  have sb := sz4 zb
  have sc := sz4 zc
  have sd := sz4 zd
  walk_at "go"
  walk_at "br"
  · rename_i hc
    refine raise_of (k := .oor) (kr _ _ (due_2 (by decide) e1 (by rw [sec_i hd, if_pos ⟨rfl, hc⟩])))
  walk_at "go"
  have hc : c ≠ 0 := by assumption
  refine ⟨m, _, _, rfl, hm, ?_, le8 (mul4 za zd), le8 (mul4 zb zc), fun p q v H' x a R => ?_⟩
  · exact Int.mul_ne_zero (by omega) hc
  · exact kq (due_0 (by decide) e1 (by rw [sec_i hd, if_neg (by omega)])) p q v H' x a R
theorem r_ratio_power (A : Ad) : ∀ vs H Q E, P_ratio_power A vs H Q E → vs.length = 2 ∧ b_ratio_power A (wE E) (dE Q) (start ["base", "exponent", "top", "bottom", "_"] vs) H := by
  rintro vs H Q E ⟨m, d1, d2, v1, v2, rfl, hm, h1, h2, z1, z2, pw, kr, kq⟩
  refine ⟨rfl, ?_⟩
  refine ⟨m, d1, v1, "base", rfl, h1, fun e1 => ?_, fun k e => kr k _ (pow4 e)⟩
  refine ⟨m, d2, v2, 0, 64, "exponent", rfl, h2, fun e2 => ?_, fun k e => kr k _ (pow4b e1 e)⟩
  obtain ⟨a, b, rfl, hb⟩ := frac_some e1
  obtain ⟨e, rfl⟩ := num_int e2
  obtain ⟨he0, he1⟩ : 0 ≤ e ∧ e ≤ 64 := by
    simp [numF] at e2
    omega
  obtain ⟨k, ka, kb, ke⟩ := pw rfl a b e rfl rfl hb he0 he1
  cases h2
  obtain ⟨t1, xs1, rfl, n1, g1, l1⟩ := at_tup_inv h1
  obtain ⟨x1, r1, rfl, y1, l1⟩ := atl_cons_inv l1
  obtain ⟨x2, r2, rfl, y2, l1⟩ := atl_cons_inv l1
  obtain rfl := atl_nil_inv l1
  obtain rfl := at_int_inv y1
  obtain rfl := at_int_inv y2
  obtain ⟨za, zb⟩ := sm_pair z1
  have sa := sz4 za
  have sb := sz4 zb
  refine ⟨⟨by omega, by omega⟩, ?_⟩
  refine LoopR.mk (fun i σ H' => H' = H ∧ ∃ o, σ = [some (.ref t1), some (.int e), some (.int (a ^ i)), some (.int (b ^ i)), o]) ⟨rfl, none, by rw [Int.pow_zero, Int.pow_zero]; rfl⟩ ?_ ?_
  · rintro i σ H' hi ⟨rfl, o, rfl⟩
    have pa := pow_sz ka (Nat.le_trans (Nat.mul_le_mul_left k (by omega : i ≤ e.toNat)) ke)
    have pb := pow_sz kb (Nat.le_trans (Nat.mul_le_mul_left k (by omega : i ≤ e.toNat)) ke)
    walk_at "go"
    exact ⟨rfl, _, by rw [Int.pow_succ, Int.pow_succ]; rfl⟩
  · rintro σ H' ⟨rfl, o, rfl⟩
    have pa := pow_lt ka ke
    have pb := pow_lt kb ke
    refine ⟨m, _, _, rfl, hm, ?_, sm_lt pa (by decide), sm_lt pb (by decide), fun p q v H' x a R => ?_⟩
    · exact Int.pow_ne_zero (by omega)
    · exact kq (pow4c e1 e2) p q v H' x a R
/-- what the written part says of the three classes that these defs raise -/
structure CF (A : Ad) : Prop where
  ex : ∀ k : Fk, ExK A.K (A.fk k)
  no : ∀ k : Fk, PySem.W.findIn A.K (.ref (A.fk k)) "argument" = some none
  i0 : ∀ k : Fk, PySem.W.kitOne A.K (.ref (A.fk k)) (.ref A.WrongKind) = some (decide (k = .wk))
  i1 : ∀ k : Fk, PySem.W.kitOne A.K (.ref (A.fk k)) (.ref A.WrongSize) = some (decide (k = .ws))
  i2 : ∀ k : Fk, PySem.W.kitOne A.K (.ref (A.fk k)) (.ref A.OutOfRange) = some (decide (k = .oor))
  i3 : ∀ k : Fk, PySem.W.kitOne A.K (.ref (A.fk k)) (.ref A.BadText) = some false
  i4 : ∀ k : Fk, PySem.W.kitOne A.K (.ref (A.fk k)) (.ref A.NotATable) = some false
  i5 : ∀ k : Fk, PySem.W.kitOne A.K (.ref (A.fk k)) (.ref A.Spent) = some false
  i6 : ∀ k : Fk, PySem.W.kitOne A.K (.ref (A.fk k)) (.ref A.TooFewPlaces) = some false
  i7 : ∀ k : Fk, PySem.W.kitOne A.K (.ref (A.fk k)) (.ref A.WrongPaper) = some false
  i8 : ∀ k : Fk, PySem.W.kitOne A.K (.ref (A.fk k)) (.ref A.UnknownName) = some false
  i9 : ∀ k : Fk, PySem.W.kitOne A.K (.ref (A.fk k)) (.ref A.NameTaken) = some false
  i10 : ∀ k : Fk, PySem.W.kitOne A.K (.ref (A.fk k)) (.ref A.NothingToUndo) = some false
  i11 : ∀ k : Fk, PySem.W.kitOne A.K (.ref (A.fk k)) (.ref A.BookFull) = some false
  sh : ∀ k : Fk, PySem.W.exmOne A.K (.ref (A.fk k)) (.ref A.ShadeError) = some true
  i12 : ∀ k : Fk, PySem.W.kitOne A.K (.ref (A.fk k)) (.type "ValueError") = some true
def P_l_kinds (A : Ad) (a : Addr) (cls : Value) (d : Option Addr) : Sp := fun vs H Q _ => ∃ (k : Fk) (dd : Addr) (n : Str), vs = [.ref a] ∧ cls = .ref (A.fk k) ∧ d = some dd ∧ H dd = some (.xd [("argument", .str n)]) ∧ CF A ∧
  ∀ p H', Ex H H' → H p = none → H' p = some (.lst [.str (Str.ofString k.nm)]) → Q (.ref p) H'
def b_l_kinds (A : Ad) (a : Addr) (cls : Value) (d : Option Addr) : TS := tSeq (tAsg (bLst (tNil)) (gName 1)) (tSeq (bIf (bTru (bIsX (d := d) A.K a cls (.ref A.WrongKind) (bVar 0))) (tDrop (bApp (bVar 1) (tC (.str "WrongKind")))) (tNext)) (tSeq (bIf (bTru (bIsX (d := d) A.K a cls (.ref A.WrongSize) (bVar 0))) (tDrop (bApp (bVar 1) (tC (.str "WrongSize")))) (tNext)) (tSeq (bIf (bTru (bIsX (d := d) A.K a cls (.ref A.OutOfRange) (bVar 0))) (tDrop (bApp (bVar 1) (tC (.str "OutOfRange")))) (tNext)) (tSeq (bIf (bTru (bIsX (d := d) A.K a cls (.ref A.BadText) (bVar 0))) (tDrop (bApp (bVar 1) (tC (.str "BadText")))) (tNext)) (tSeq (bIf (bTru (bIsX (d := d) A.K a cls (.ref A.NotATable) (bVar 0))) (tDrop (bApp (bVar 1) (tC (.str "NotATable")))) (tNext)) (tSeq (bIf (bTru (bIsX (d := d) A.K a cls (.ref A.Spent) (bVar 0))) (tDrop (bApp (bVar 1) (tC (.str "Spent")))) (tNext)) (tSeq (bIf (bTru (bIsX (d := d) A.K a cls (.ref A.TooFewPlaces) (bVar 0))) (tDrop (bApp (bVar 1) (tC (.str "TooFewPlaces")))) (tNext)) (tSeq (bIf (bTru (bIsX (d := d) A.K a cls (.ref A.WrongPaper) (bVar 0))) (tDrop (bApp (bVar 1) (tC (.str "WrongPaper")))) (tNext)) (tSeq (bIf (bTru (bIsX (d := d) A.K a cls (.ref A.UnknownName) (bVar 0))) (tDrop (bApp (bVar 1) (tC (.str "UnknownName")))) (tNext)) (tSeq (bIf (bTru (bIsX (d := d) A.K a cls (.ref A.NameTaken) (bVar 0))) (tDrop (bApp (bVar 1) (tC (.str "NameTaken")))) (tNext)) (tSeq (bIf (bTru (bIsX (d := d) A.K a cls (.ref A.NothingToUndo) (bVar 0))) (tDrop (bApp (bVar 1) (tC (.str "NothingToUndo")))) (tNext)) (tSeq (bIf (bTru (bIsX (d := d) A.K a cls (.ref A.BookFull) (bVar 0))) (tDrop (bApp (bVar 1) (tC (.str "BookFull")))) (tNext)) (tRet (bVar 1))))))))))))))
theorem xd_some {dd : Addr} {H : Hp} {fs : List (Str × V)} (h : H dd = some (.xd fs)) : ∀ d', some dd = some d' → ∃ fs, H d' = some (.xd fs) := by
  intro d' e
  cases e
  exact ⟨_, h⟩
local macro_rules | `(tactic| walk_at "kx") => `(tactic| refine ⟨rfl, ⟨_, rfl, CF.ex (by assumption) _⟩, xd_some (by walk_at "hg"), _, (by first
  | exact CF.i0 (by assumption) _ | exact CF.i1 (by assumption) _ | exact CF.i2 (by assumption) _ | exact CF.i3 (by assumption) _ | exact CF.i4 (by assumption) _ | exact CF.i5 (by assumption) _ | exact CF.i6 (by assumption) _
  | exact CF.i7 (by assumption) _ | exact CF.i8 (by assumption) _ | exact CF.i9 (by assumption) _ | exact CF.i10 (by assumption) _ | exact CF.i11 (by assumption) _ | exact CF.i12 (by assumption) _), ?_⟩)
local macro_rules | `(tactic| walk_at "kxs") => `(tactic| (walk_at "go"; first | (walk_at "kx"; walk_at "br"; walk_at "kxs") | (walk_at "br"; walk_at "kxs") | skip))
theorem r_l_kinds (A : Ad) : ∀ a cls d vs H Q E, P_l_kinds A a cls d vs H Q E → vs.length = 1 ∧ b_l_kinds A a cls d (dE Q) (start ["caught", "found"] vs) H := by
  rintro a cls d vs H Q E ⟨k, dd, n, rfl, rfl, rfl, h, F, kq⟩
  refine ⟨rfl, ?_⟩
  cases k <;> walk_at "kxs" <;> exact kq _ _ (by walk_at "xe") (by assumption) (by assumption)

def P_l_refusal (A : Ad) (a : Addr) (cls : Value) (d : Option Addr) : Sp := fun vs H Q _ => ∃ (k : Fk) (dd : Addr) (n : Str) (m : Addr), vs = [.ref a] ∧ cls = .ref (A.fk k) ∧ d = some dd ∧ H dd = some (.xd [("argument", .str n)]) ∧ H m ≠ none ∧ CF A ∧
  ∀ v H', Ex H H' → At m H' (.tup [.str (Str.ofString k.nm), .str n]) v → Q v H'
def b_l_refusal (A : Ad) (a : Addr) (cls : Value) (d : Option Addr) : TS := tSeq (tAsg (bCall ((P_l_kinds A) a cls d) (fun _ _ _ _ => False) (tCons (bVar 0) (tNil))) (gName 1)) (tSeq (bIf (bOr (bTst (tOp (bNe A.K) (bLen (bVar 1)) (tC (.int 1)))) (tNot (bTru (bIsX (d := d) A.K a cls (.type "ValueError") (bVar 0))))) (tRet (bTup (tCons (tC (.str "wrong classes")) (tCons (bVar 1) (tNil))))) (tNext)) (tSeq (bIf (bTst (tOp (bIn false) (tOp bIx (bVar 1) (tC (.int 0))) (bLst (tCons (tC (.str "WrongKind")) (tCons (tC (.str "WrongSize")) (tCons (tC (.str "OutOfRange")) (tNil))))))) (tRet (bTup (tCons (tOp bIx (bVar 1) (tC (.int 0))) (tCons (bAtX A.K a cls d "argument" (bVar 0)) (tNil))))) (tNext)) (tSeq (bIf (bTst (tOp (bEq A.K) (tOp bIx (bVar 1) (tC (.int 0))) (tC (.str "BadText")))) (tRet (bTup (tCons (tOp bIx (bVar 1) (tC (.int 0))) (tCons (bAtX A.K a cls d "position" (bVar 0)) (tNil))))) (tNext)) (tSeq (bIf (bTst (tOp (bEq A.K) (tOp bIx (bVar 1) (tC (.int 0))) (tC (.str "Spent")))) (tRet (bTup (tCons (tOp bIx (bVar 1) (tC (.int 0))) (tCons (bAtX A.K a cls d "allowed" (bVar 0)) (tNil))))) (tNext)) (tSeq (bIf (bTst (tOp (bEq A.K) (tOp bIx (bVar 1) (tC (.int 0))) (tC (.str "TooFewPlaces")))) (tNever) (tNext)) (tSeq (bIf (bTst (tOp (bEq A.K) (tOp bIx (bVar 1) (tC (.int 0))) (tC (.str "WrongPaper")))) (tRet (bTup (tCons (tOp bIx (bVar 1) (tC (.int 0))) (tCons (bAtX A.K a cls d "paper_of" (bVar 0)) (tNil))))) (tNext)) (tSeq (bIf (bTst (tOp (bEq A.K) (tOp bIx (bVar 1) (tC (.int 0))) (tC (.str "UnknownName")))) (tRet (bTup (tCons (tOp bIx (bVar 1) (tC (.int 0))) (tCons (bAtX A.K a cls d "missing" (bVar 0)) (tNil))))) (tNext)) (tSeq (bIf (bTst (tOp (bEq A.K) (tOp bIx (bVar 1) (tC (.int 0))) (tC (.str "NameTaken")))) (tRet (bTup (tCons (tOp bIx (bVar 1) (tC (.int 0))) (tCons (bAtX A.K a cls d "taken" (bVar 0)) (tNil))))) (tNext)) (tRet (bTup (tCons (tOp bIx (bVar 1) (tC (.int 0))) (tCons (tC .non) (tNil)))))))))))))
theorem r_l_refusal (A : Ad) : ∀ a cls d vs H Q E, P_l_refusal A a cls d vs H Q E → vs.length = 1 ∧ b_l_refusal A a cls d (dE Q) (start ["caught", "found"] vs) H := by
  rintro a cls d vs H Q E ⟨k, dd, n, m, rfl, rfl, rfl, h, hm, F, kq⟩
  refine ⟨rfl, ?_⟩
  refine ⟨k, dd, n, rfl, rfl, rfl, h, F, fun p H1 x1 n1 hp => ?_⟩
  have h1 := x1 _ _ h
  have hm1 : H1 m ≠ none := fun z => hm (x1.fresh z)
  have np := new_ne hm n1
  have ret : ∀ H2, Ex H1 H2 → bAtX A.K a (.ref (A.fk k)) (some dd) "argument" (bVar 0) [some (.ref a), some (.ref p)] H2 (fun y H3 => Alloc H3 (.tup [.str (Str.ofString k.nm), y]) fun q H4 => Q (.ref q) H4) := by
    intro H2 x2
    refine ⟨rfl, _, dd, _, _, rfl, F.ex k, F.no k, rfl, x2 _ _ h1, (by simp [List.lookup] : List.lookup _ _ = some (V.str n)), ?_⟩
    refine Alloc.mk fun q H4 x4 n4 h4 => ?_
    exact kq _ _ (x1.trans (x2.trans x4)) (.tup (fun z => hm1 (x2.fresh (z ▸ n4))) h4 (.cons (.str _) (.cons (.str _) .nil)))
  cases k <;> walk_at "kxs"
  all_goals first
    | exact ret _ (by walk_at "xe")
    | skip
theorem at_pair_inv {m : Addr} {H : Hp} {d1 d2 : Dt} {v : V} (h : At m H (.tup [d1, d2]) v) : ∃ p x y, v = .ref p ∧ p ≠ m ∧ H p = some (.tup [x, y]) ∧ At m H d1 x ∧ At m H d2 y := by
  obtain ⟨p, xs, rfl, n, hp, l⟩ := at_tup_inv h
  obtain ⟨x, r, rfl, h1, l⟩ := atl_cons_inv l
  obtain ⟨y, r, rfl, h2, l⟩ := atl_cons_inv l
  obtain rfl := atl_nil_inv l
  exact ⟨p, x, y, rfl, n, hp, h1, h2⟩
def P_l_ask (A : Ad) : Sp := fun vs H Q E => ∃ (m : Addr) (w : Nat) (d1 d2 : Dt) (v : V), (vs = [.int w, v] ∨ vs = [.int (w + 20), v]) ∧ w ≤ 4 ∧ H m ≠ none ∧ At m H (.tup [d1, d2]) v ∧ d1.sm 4480 ∧ d2.sm 4480 ∧ (w = 4 → Pw d1 d2) ∧
  (∀ k n, dueP w d1 d2 = some (k, n) → Raises A H E k (Str.ofString n)) ∧ (dueP w d1 d2 = none → ∀ (p q : Int) (v : V) H', Ex H H' → At m H' (.tup [.int p, .int q]) v → IsR (crossP w d1 d2).1 (crossP w d1 d2).2 p q → Q v H')
def b_l_ask (A : Ad) (W : WX) : TS := tSeq (bIf (bTst (tOp (bEq A.K) (bVar 0) (tC (.int 0)))) (tRet (bCall (P_ratio_sum A) W (tCons (tOp bIx (bVar 1) (tC (.int 0))) (tCons (tOp bIx (bVar 1) (tC (.int 1))) (tNil))))) (tNext)) (tSeq (bIf (bTst (tOp (bEq A.K) (bVar 0) (tC (.int 1)))) (tRet (bCall (P_ratio_difference A) W (tCons (tOp bIx (bVar 1) (tC (.int 0))) (tCons (tOp bIx (bVar 1) (tC (.int 1))) (tNil))))) (tNext)) (tSeq (bIf (bTst (tOp (bEq A.K) (bVar 0) (tC (.int 2)))) (tRet (bCall (P_ratio_product A) W (tCons (tOp bIx (bVar 1) (tC (.int 0))) (tCons (tOp bIx (bVar 1) (tC (.int 1))) (tNil))))) (tNext)) (tSeq (bIf (bTst (tOp (bEq A.K) (bVar 0) (tC (.int 3)))) (tRet (bCall (P_ratio_quotient A) W (tCons (tOp bIx (bVar 1) (tC (.int 0))) (tCons (tOp bIx (bVar 1) (tC (.int 1))) (tNil))))) (tNext)) (tSeq (bIf (bTst (tOp (bEq A.K) (bVar 0) (tC (.int 4)))) (tRet (bCall (P_ratio_power A) W (tCons (tOp bIx (bVar 1) (tC (.int 0))) (tCons (tOp bIx (bVar 1) (tC (.int 1))) (tNil))))) (tNext)) (tSeq (bIf (bTst (tOp (bEq A.K) (bVar 0) (tC (.int 20)))) (tRet (bCallK [0, 1] (P_ratio_sum A) W (tCons (tOp bIx (bVar 1) (tC (.int 0))) (tCons (tOp bIx (bVar 1) (tC (.int 1))) (tNil))))) (tNext)) (tSeq (bIf (bTst (tOp (bEq A.K) (bVar 0) (tC (.int 21)))) (tRet (bCallK [1, 0] (P_ratio_difference A) W (tCons (tOp bIx (bVar 1) (tC (.int 1))) (tCons (tOp bIx (bVar 1) (tC (.int 0))) (tNil))))) (tNext)) (tSeq (bIf (bTst (tOp (bEq A.K) (bVar 0) (tC (.int 22)))) (tRet (bCallK [1, 0] (P_ratio_product A) W (tCons (tOp bIx (bVar 1) (tC (.int 1))) (tCons (tOp bIx (bVar 1) (tC (.int 0))) (tNil))))) (tNext)) (tSeq (bIf (bTst (tOp (bEq A.K) (bVar 0) (tC (.int 23)))) (tRet (bCallK [1, 0] (P_ratio_quotient A) W (tCons (tOp bIx (bVar 1) (tC (.int 1))) (tCons (tOp bIx (bVar 1) (tC (.int 0))) (tNil))))) (tNext)) (tRet (bCallK [0, 1] (P_ratio_power A) W (tCons (tOp bIx (bVar 1) (tC (.int 0))) (tCons (tOp bIx (bVar 1) (tC (.int 1))) (tNil)))))))))))))
theorem r_l_ask (A : Ad) : ∀ vs H Q E, P_l_ask A vs H Q E → vs.length = 2 ∧ b_l_ask A (wE E) (dE Q) (start ["which", "given"] vs) H := by
  rintro vs H Q E ⟨m, w, d1, d2, v, hv, hw, hm, ha, z1, z2, pw, kr, kq⟩
  obtain ⟨t, x, y, rfl, nt, ht, h1, h2⟩ := at_pair_inv ha
  obtain rfl | rfl | rfl | rfl | rfl : w = 0 ∨ w = 1 ∨ w = 2 ∨ w = 3 ∨ w = 4 := by omega
  all_goals
    rcases hv with rfl | rfl
    all_goals
      refine ⟨rfl, ?_⟩
      walk_at "all"
      exact ⟨m, d1, d2, x, y, rfl, hm, h1, h2, z1, z2, pw, kr, kq⟩
def P_l_told (A : Ad) : Sp := fun vs H Q _ => ∃ (m : Addr) (w : Nat) (d1 d2 : Dt) (v : V), (vs = [.int w, v] ∨ vs = [.int (w + 20), v]) ∧ w ≤ 4 ∧ H m ≠ none ∧ At m H (.tup [d1, d2]) v ∧ d1.sm 4480 ∧ d2.sm 4480 ∧ (w = 4 → Pw d1 d2) ∧ CF A ∧
  (∀ k n, dueP w d1 d2 = some (k, n) → ∀ v H', Ex H H' → At m H' (.tup [.str "refused", .tup [.str (Str.ofString k.nm), .str (Str.ofString n)]]) v → Q v H') ∧
  (dueP w d1 d2 = none → ∀ (p q : Int) (v : V) H', Ex H H' → At m H' (.tup [.str "answer", .tup [.int p, .int q]]) v → IsR (crossP w d1 d2).1 (crossP w d1 d2).2 p q → Q v H')
def b_l_told (A : Ad) (W : WX) : TS := bTry A.K (.ref A.ShadeError) 2 (fun W' => tRet (bTup (tCons (tC (.str "answer")) (tCons (bCall (P_l_ask A) W' (tCons (bVar 0) (tCons (bVar 1) (tNil)))) (tNil))))) (fun a cls d => tRet (bTup (tCons (tC (.str "refused")) (tCons (bCall ((P_l_refusal A) a cls d) (fun _ _ _ _ => False) (tCons (bVar 2) (tNil))) (tNil))))) W
theorem r_l_told (A : Ad) : ∀ vs H Q E, P_l_told A vs H Q E → vs.length = 2 ∧ b_l_told A (wE E) (dE Q) (start ["which", "given", "caught"] vs) H := by
  rintro vs H Q E ⟨m, w, d1, d2, v, hv, hw, hm, ha, z1, z2, pw, F, kr, kq⟩
  have body : ∀ i : Int, (i = w ∨ i = w + 20) → b_l_told A (wE E) (dE Q) [some (.int i), some v, none] H := by
    intro i hi
    refine ⟨m, w, d1, d2, v, hi.imp (by rintro rfl; rfl) (by rintro rfl; rfl), hw, hm, ha, z1, z2, pw, fun k n e => ?_, fun e p q v2 H' x a R => ?_⟩
    · intro dd H' x hd
      refine ⟨true, F.sh k, fun _ a' ha' => ?_, fun z => by cases z⟩
      refine ⟨k, dd, _, m, rfl, rfl, rfl, hd, fun z => hm (x.fresh z), F, fun v2 H2 x2 a2 => ?_⟩
      refine Alloc.mk fun p H3 x3 n3 h3 => ?_
      exact kr k n e _ _ (x.trans (x2.trans x3)) (.tup (fun z => hm ((x.trans x2).fresh (z ▸ n3))) h3 (.cons (.str _) (.cons (a2.mono x3) .nil)))
    · refine Alloc.mk fun t H3 x3 n3 h3 => ?_
      exact kq e p q _ _ (x.trans x3) (.tup (fun z => hm (x.fresh (z ▸ n3))) h3 (.cons (.str _) (.cons (a.mono x3) .nil))) R
  rcases hv with rfl | rfl
  · exact ⟨rfl, body _ (.inl rfl)⟩
  · exact ⟨rfl, body _ (.inr rfl)⟩
theorem bits_lt (y : Int) : y.natAbs < 2 ^ Builtin.Int.intBits y := by
  unfold Builtin.Int.intBits
  split
  · rename_i h; simp at h; subst h; decide
  · exact Nat.lt_log2_self
theorem half_prod {a b : Nat} (hb : 0 < b) (h : b < a) {c M : Nat} (hc : a * b * c < M) : b * (a % b) * (2 * c) < M := by
  have h2 : 2 * (a % b) ≤ a := by
    have e := Nat.div_add_mod a b
    have l := Nat.mod_lt a hb
    have d : 1 ≤ a / b := Nat.div_pos (Nat.le_of_lt h) hb
    have : b * 1 ≤ b * (a / b) := Nat.mul_le_mul_left b d
    omega
  refine Nat.lt_of_le_of_lt ?_ hc
  have e1 : b * (a % b) * (2 * c) = (2 * (a % b)) * (b * c) := by ac_rfl
  have e2 : a * b * c = a * (b * c) := by ac_rfl
  rw [e1, e2]
  exact Nat.mul_le_mul_right _ h2
def P_l_common (A : Ad) : Sp := fun vs H Q _ => ∃ (x y : Int), vs = [.int x, .int y] ∧ x.natAbs < 2 ^ 8990 ∧ y.natAbs < 2 ^ 8990 ∧ ∀ H', Ex H H' → Q (.int ((Nat.gcd x.natAbs y.natAbs : Nat) : Int)) H'
def b_l_common (A : Ad) (W : WX) : TS := tSeq (tAsg (bLst (tCons (bAbs (bVar 0)) (tCons (bAbs (bVar 1)) (tNil)))) (gName 2)) (tSeq (bForR (tOp bAdd (tOp bMul (tC (.int 2)) (bBits (tOp bIx (bVar 2) (tC (.int 1))))) (tC (.int 3))) (gName 3) (tSeq (bIf (bTst (tOp (bEq A.K) (tOp bIx (bVar 2) (tC (.int 1))) (tC (.int 0)))) (tBreak) (tNext)) (tAsg (bLst (tCons (tOp bIx (bVar 2) (tC (.int 1))) (tCons (tOp bMod (bInt (tOp bIx (bVar 2) (tC (.int 0)))) (tOp bIx (bVar 2) (tC (.int 1)))) (tNil)))) (gName 2)))) (tRet (tOp bIx (bVar 2) (tC (.int 0)))))
theorem r_l_common (A : Ad) : ∀ vs H Q E, P_l_common A vs H Q E → vs.length = 2 ∧ b_l_common A (wE E) (dE Q) (start ["one", "two", "held", "k"] vs) H := by
  rintro vs H Q E ⟨x, y, rfl, hx, hy, k⟩
  refine ⟨rfl, ?_⟩
  walk_at "go"
  rename_i p0 H0 x0 n0 h0
  have sy : Sz ((y.natAbs : Nat) : Int) := Sz.of 8990 (by simpa using hy) (by decide) (by decide)
  have hn := bits_sz sy
  have hbl := bits_lt ((y.natAbs : Nat) : Int)
  generalize hN : Builtin.Int.intBits ((y.natAbs : Nat) : Int) = n at hn hbl
  rw [Int.natAbs_natCast] at hbl
  refine ⟨⟨by omega, by omega⟩, ?_⟩
  refine LoopR.mk (fun i σ H' => Ex H H' ∧ ∃ (p : Addr) (a b : Nat) (o : Option V), σ = [some (.int x), some (.int y), some (.ref p), o] ∧ H' p = some (.lst [.int a, .int b]) ∧ Nat.gcd a b = Nat.gcd x.natAbs y.natAbs ∧ a < 2 ^ 8990 ∧ b < 2 ^ 8990 ∧ (i = 0 → b = y.natAbs) ∧ (1 ≤ i → b < a ∧ a * b * 2 ^ (i - 1) < 2 ^ (2 * n)))
    ⟨x0, p0, _, _, _, rfl, h0, rfl, hx, hy, fun _ => rfl, fun z => absurd z (by decide)⟩ ?_ ?_
  · rintro i σ H' hi ⟨x1, p, a, b, o, rfl, hp, hg, ha, hb, i0, i1⟩
    walk_at "go"
    walk_at "br"
    · rename_i hz
      obtain rfl : b = 0 := by omega
      rw [← hg, Nat.gcd_zero_right] at k
      walk_at "go"
      exact k _ x1
    · rename_i hz
      have bp : 0 < b := by omega
      have sb : Sz (b : Int) := Sz.of 8990 (by simpa using hb) (by decide) (by decide)
      walk_at "go"
      rename_i r er hr q H2 x2 n2 h2
      have er2 : r = ((a % b : Nat) : Int) := by
        rw [er, Int.fmod_eq_emod_of_nonneg _ (by omega)]
        rfl
      subst er2
      have ml := Nat.mod_lt a bp
      refine ⟨x1.trans x2, q, b, a % b, _, rfl, h2, by rw [← hg, Nat.gcd_comm a b, Nat.gcd_rec b a, Nat.gcd_comm], hb, by omega, fun z => absurd z (by omega), fun _ => ⟨ml, ?_⟩⟩
      by_cases e : i = 0
      · subst e
        rw [i0 rfl] at ml bp ⊢
        have h1 : y.natAbs * (a % y.natAbs) < 2 ^ n * 2 ^ n := Nat.mul_lt_mul_of_lt_of_le hbl (by omega) (Nat.pow_pos (by decide))
        rw [← Nat.pow_add] at h1
        simpa [Nat.two_mul] using h1
      · obtain ⟨j, rfl⟩ : ∃ j, i = j + 1 := ⟨i - 1, by omega⟩
        obtain ⟨l, h⟩ := i1 (by omega)
        have := half_prod bp l h
        rw [Nat.add_sub_cancel] at this ⊢
        rw [pow2s]
        exact this
  · rintro σ H' ⟨x1, p, a, b, o, rfl, hp, hg, ha, hb, i0, i1⟩
    have en : (2 * ((n : Nat) : Int) + 3).toNat = 2 * n + 3 := by omega
    obtain ⟨l, h⟩ := i1 (by omega)
    have hb0 : b = 0 := by
      rw [en] at h
      have e2 : 2 * n + 3 - 1 = 2 * n + 2 := rfl
      rw [e2, Nat.pow_add] at h
      apply Classical.byContradiction
      intro hb0
      have : 1 ≤ a * b := Nat.mul_pos (by omega) (by omega)
      have h3 : 1 * (2 ^ (2 * n) * 2 ^ 2) ≤ a * b * (2 ^ (2 * n) * 2 ^ 2) := Nat.mul_le_mul_right _ this
      omega
    subst hb0
    rw [← hg, Nat.gcd_zero_right] at k
    walk_at "go"
    exact k _ x1
def P_l_is_ratio_of (A : Ad) : Sp := fun vs H Q _ => ∃ (m : Addr) (p q t b : Int) (v : V), vs = [v, .int t, .int b] ∧ H m ≠ none ∧ At m H (.tup [.int p, .int q]) v ∧ IsR t b p q ∧ t.natAbs < 2 ^ 8980 ∧ b.natAbs < 2 ^ 8980 ∧ ∀ H', Ex H H' → Q (.bl true) H'
def b_l_is_ratio_of (A : Ad) (W : WX) : TS := tSeq (bIf (bOr (tNot (bTru (bCall (P_l_is_pair A) W (tCons (bVar 0) (tNil))))) (bTst (tOp (bLt) (tOp bIx (bVar 0) (tC (.int 1))) (tC (.int 1))))) (tRet (tC (.bl false))) (tNext)) (tRet (bAndV (tOp (bEq A.K) (tOp bMul (tOp bIx (bVar 0) (tC (.int 0))) (bVar 2)) (tOp bMul (bVar 1) (tOp bIx (bVar 0) (tC (.int 1))))) (tOp (bEq A.K) (bCall (P_l_common A) W (tCons (tOp bIx (bVar 0) (tC (.int 0))) (tCons (tOp bIx (bVar 0) (tC (.int 1))) (tNil)))) (tC (.int 1)))))
theorem r_l_is_ratio_of (A : Ad) : ∀ vs H Q E, P_l_is_ratio_of A vs H Q E → vs.length = 3 ∧ b_l_is_ratio_of A (wE E) (dE Q) (start ["told", "one", "two"] vs) H := by
  rintro vs H Q E ⟨m, p, q, t, b, v, rfl, hm, ha, ⟨e1, q1, g1, lp, lq⟩, st, sb, k⟩
  refine ⟨rfl, ?_⟩
  obtain ⟨tt, x, y, rfl, nt, ht, h1, h2⟩ := at_pair_inv ha
  obtain rfl := at_int_inv h1
  obtain rfl := at_int_inv h2
  refine ⟨m, _, _, rfl, ha, ?_⟩
  have Zt : Sz t := Sz.of 8980 st (by decide) (by decide)
  have Zb : Sz b := Sz.of 8980 sb (by decide) (by decide)
  have Zp : Sz p := Sz.of 8980 (by omega) (by decide) (by decide)
  have Zq : Sz q := Sz.of 8980 (by omega) (by decide) (by decide)
  walk_at "br"
  walk_at "go"
  walk_at "br"
  · omega
  walk_at "go"
  walk_at "br"
  walk_at "go"
  refine ⟨p, q, rfl, sm_lt (j := 8980) (by omega) (by decide), sm_lt (j := 8980) (by omega) (by decide), fun H' x => ?_⟩
  rw [g1]
  exact k H' x
  · contradiction
def P_l_sameN (A : Ad) (n : Nat) : Sp := fun vs H Q _ => ∃ (m : Addr) (d : Dt) (v1 v2 : V), vs = [v1, v2] ∧ At m H d v1 ∧ At m H d v2 ∧ d.okN n ∧ Q (.bl true) H
def P_l_same (A : Ad) : Sp := P_l_sameN A 5
def b_l_sameN (A : Ad) (n : Nat) (W : WX) : TS := tSeq (bIf (bTst (tOp (bIsN) (bVar 1) (tC .non))) (tRet (tOp (bIsN) (bVar 0) (tC .non))) (tNext)) (tSeq (bIf (bTru (bIsi .bl (bVar 1))) (tRet (bAndV (bIsi .bl (bVar 0)) (tOp (bEq A.K) (bVar 0) (bVar 1)))) (tNext)) (tSeq (bIf (bTru (bIsi .int (bVar 1))) (tRet (bAndV (bIsi .int (bVar 0)) (bAndV (bNotV (bIsi .bl (bVar 0))) (tOp (bEq A.K) (bVar 0) (bVar 1))))) (tNext)) (tSeq (bIf (bTru (bIsi .str (bVar 1))) (tRet (bAndV (bIsi .str (bVar 0)) (tOp (bEq A.K) (bVar 0) (bVar 1)))) (tNext)) (tSeq (bIf (bAnd (bTru (bIsi .lst (bVar 1))) (tNot (bTru (bIsi .lst (bVar 0))))) (tRet (tC (.bl false))) (tNext)) (tSeq (bIf (bAnd (bTru (bIsi .tup (bVar 1))) (tNot (bTru (bIsi .tup (bVar 0))))) (tRet (tC (.bl false))) (tNext)) (tSeq (bIf (bTst (tOp (bNe A.K) (bLenD (bVar 0)) (bLenD (bVar 1)))) (tRet (tC (.bl false))) (tNext)) (tSeq (bForR (bLenD (bVar 1)) (gName 2) (bIf (tNot (bTru (bCall (P_l_sameN A n) W (tCons (tOp bIx (bVar 0) (bVar 2)) (tCons (tOp bIx (bVar 1) (bVar 2)) (tNil)))))) (tRet (tC (.bl false))) (tNext))) (tRet (tC (.bl true))))))))))
theorem same_looplst {A : Ad} {n : Nat} {H : Hp} {Q : VK} {E : XK} {m p q : Addr} {ds : List Dt} {xs ys : List V} (hp : H p = some (.lst xs)) (hq : H q = some (.lst ys))
    (l1 : AtL m H ds xs) (l2 : AtL m H ds ys) (ok : ∀ d ∈ ds, d.okN n) (k : Q (.bl true) H) (D : Ends) (hD : D.nx = tRet (tC (.bl true)) (dE Q)) (o : Option V) :
    LoopR 0 (ys.length : Int).toNat (gName 2) (bIf (tNot (bTru (bCall (P_l_sameN A n) (wE E) (tCons (tOp bIx (bVar 0) (bVar 2)) (tCons (tOp bIx (bVar 1) (bVar 2)) (tNil)))))) (tRet (tC (.bl false))) (tNext)) D [some (.ref p), some (.ref q), o] H := by
  refine LoopR.mk (fun i σ H' => H' = H ∧ ∃ o, σ = [some (.ref p), some (.ref q), o]) ⟨rfl, o, rfl⟩ ?_ ?_
  · rintro i σ H' hi ⟨rfl, o, rfl⟩
    have hl := l2.len
    have hi2 : i < ys.length := by simpa using hi
    have e : ds[i]? = some (ds[i]'(by omega)) := List.getElem?_eq_getElem _
    obtain ⟨x, hx, ax⟩ := l1.at e
    obtain ⟨y, hy, ay⟩ := l2.at e
    have ei : (0 : Int) + (i : Int) = ((i : Nat) : Int) := by omega
    rw [ei]
    refine Get.mk _ hp (AtI.mk _ (atI_nat hx) ?_)
    refine Get.mk _ hq (AtI.mk _ (atI_nat hy) ?_)
    refine ⟨m, _, x, y, rfl, ax, ay, ok _ (List.getElem_mem _), ?_⟩
    walk_at "br"
    exact ⟨rfl, _, rfl⟩
  · rintro σ H' ⟨rfl, o, rfl⟩
    rw [hD]
    exact k
theorem same_looptup {A : Ad} {n : Nat} {H : Hp} {Q : VK} {E : XK} {m p q : Addr} {ds : List Dt} {xs ys : List V} (hp : H p = some (.tup xs)) (hq : H q = some (.tup ys))
    (l1 : AtL m H ds xs) (l2 : AtL m H ds ys) (ok : ∀ d ∈ ds, d.okN n) (k : Q (.bl true) H) (D : Ends) (hD : D.nx = tRet (tC (.bl true)) (dE Q)) (o : Option V) :
    LoopR 0 (ys.length : Int).toNat (gName 2) (bIf (tNot (bTru (bCall (P_l_sameN A n) (wE E) (tCons (tOp bIx (bVar 0) (bVar 2)) (tCons (tOp bIx (bVar 1) (bVar 2)) (tNil)))))) (tRet (tC (.bl false))) (tNext)) D [some (.ref p), some (.ref q), o] H := by
  refine LoopR.mk (fun i σ H' => H' = H ∧ ∃ o, σ = [some (.ref p), some (.ref q), o]) ⟨rfl, o, rfl⟩ ?_ ?_
  · rintro i σ H' hi ⟨rfl, o, rfl⟩
    have hl := l2.len
    have hi2 : i < ys.length := by simpa using hi
    have e : ds[i]? = some (ds[i]'(by omega)) := List.getElem?_eq_getElem _
    obtain ⟨x, hx, ax⟩ := l1.at e
    obtain ⟨y, hy, ay⟩ := l2.at e
    have ei : (0 : Int) + (i : Int) = ((i : Nat) : Int) := by omega
    rw [ei]
    refine Get.mk _ hp (AtI.mk _ (atI_nat hx) ?_)
    refine Get.mk _ hq (AtI.mk _ (atI_nat hy) ?_)
    refine ⟨m, _, x, y, rfl, ax, ay, ok _ (List.getElem_mem _), ?_⟩
    walk_at "br"
    exact ⟨rfl, _, rfl⟩
  · rintro σ H' ⟨rfl, o, rfl⟩
    rw [hD]
    exact k
theorem r_l_sameN (A : Ad) (n : Nat) : ∀ vs H Q E, P_l_sameN A (n + 1) vs H Q E → vs.length = 2 ∧ b_l_sameN A n (wE E) (dE Q) (start ["told", "due", "k"] vs) H := by
  rintro vs H Q E ⟨m, d, v1, v2, rfl, h1, h2, ok, k⟩
  refine ⟨rfl, ?_⟩
  have k' : ∀ (p : Prop) [Decidable p], p → Q (.bl (decide p)) H := fun p _ h => by rw [decide_eq_true h]; exact k
  cases h1 with
  | non => cases h2; walk_at "all"; exact k
  | bl b => cases h2; walk_at "all"; exact k' _ rfl
  | int i => cases h2; walk_at "all"; exact k' _ rfl
  | str i => cases h2; walk_at "all"; exact k' _ rfl
  | @dct p n1 hp =>
    obtain ⟨q, rfl, n2, hq⟩ := at_dct_inv h2
    walk_at "all"
    refine LoopR.mk (fun i σ H' => H' = H) rfl (fun i σ H' hi => absurd hi (Nat.not_lt_zero _)) ?_
    rintro σ H' rfl
    exact k
  | @lst ds xs p n1 hp l1 =>
    obtain ⟨q, ys, rfl, n2, hq, l2⟩ := at_lst_inv h2
    have e1 := l1.len
    have e2 := l2.len
    walk_at "all"
    · omega
    have ol : ds.length < 100000 := ok.1
    refine And.intro ⟨?_, ?_⟩ (same_looplst hp hq l1 l2 ok.2 k _ (by rfl) _)
    · omega
    · show (ys.length : Int) < 2 ^ 62
      omega
  | @tup ds xs p n1 hp l1 =>
    obtain ⟨q, ys, rfl, n2, hq, l2⟩ := at_tup_inv h2
    have e1 := l1.len
    have e2 := l2.len
    walk_at "all"
    · omega
    have ol : ds.length < 100000 := ok.1
    refine And.intro ⟨?_, ?_⟩ (same_looptup hp hq l1 l2 ok.2 k _ (by rfl) _)
    · omega
    · show (ys.length : Int) < 2 ^ 62
      omega
theorem fs_oor : fs (some .oor) = "OutOfRange" := rfl
theorem sec_no {w : Nat} {d : Dt} (h : fracF d = none) (hz : ¬ (w = 3 ∧ ∃ b, d = .tup [.int 0, .int b])) : secF w d = none := by
  obtain ⟨a, b, rfl, hb⟩ := frac_some h
  rw [sec_i hb, if_neg]
  rintro ⟨hw, rfl⟩
  exact hz ⟨hw, _, rfl⟩
theorem at_row {m : Addr} {H : Hp} {p t1 t2 : Addr} {n1 n2 : String} {f1 f2 : Option Fk} (hp : H p = some (.lst [.ref t1, .ref t2])) (np : p ≠ m) (h1 : H t1 = some (.tup [.str (Str.ofString n1), .str (Str.ofString (fs f1))])) (m1 : t1 ≠ m)
    (h2 : H t2 = some (.tup [.str (Str.ofString n2), .str (Str.ofString (fs f2))])) (m2 : t2 ≠ m) : At m H (rowD [(n1, f1), (n2, f2)]) (.ref p) :=
  .lst np hp (.cons (.tup m1 h1 (.cons (.str _) (.cons (.str _) .nil))) (.cons (.tup m2 h2 (.cons (.str _) (.cons (.str _) .nil))) .nil))
def P_l_due (A : Ad) : Sp := fun vs H Q _ => ∃ (m : Addr) (w : Nat) (d1 d2 : Dt) (v : V), vs = [.int w, v] ∧ w ≤ 4 ∧ H m ≠ none ∧ At m H (.tup [d1, d2]) v ∧ ∀ v' H', Ex H H' → At m H' (dueD (dueP w d1 d2)) v' → Q v' H'
def b_l_due (A : Ad) (W : WX) : TS := tSeq (bIf (bTst (tOp (bEq A.K) (bVar 0) (tC (.int 4)))) (tSeq (tAsg (bCall (P_l_number_fault A) W (tCons (tOp bIx (bVar 1) (tC (.int 1))) (tCons (tC (.int 0)) (tCons (tC (.int 64)) (tNil))))) (gName 2)) (tRet (bCall (P_l_first_fault A) W (tCons (bLst (tCons (bTup (tCons (tC (.str "base")) (tCons (bCall (P_l_fraction_fault A) W (tCons (tOp bIx (bVar 1) (tC (.int 0))) (tNil))) (tNil)))) (tCons (bTup (tCons (tC (.str "exponent")) (tCons (bVar 2) (tNil)))) (tNil)))) (tNil))))) (tNext)) (tSeq (tAsg (bCall (P_l_fraction_fault A) W (tCons (tOp bIx (bVar 1) (tC (.int 1))) (tNil))) (gName 2)) (tSeq (bIf (bAnd (bTst (tOp (bEq A.K) (bVar 0) (tC (.int 3)))) (bAnd (bTst (tOp (bEq A.K) (bVar 2) (tC (.str "")))) (bTst (tOp (bEq A.K) (tOp bIx (tOp bIx (bVar 1) (tC (.int 1))) (tC (.int 0))) (tC (.int 0)))))) (tAsg (tC (.str "OutOfRange")) (gName 2)) (tNext)) (tRet (bCall (P_l_first_fault A) W (tCons (bLst (tCons (bTup (tCons (tC (.str "first")) (tCons (bCall (P_l_fraction_fault A) W (tCons (tOp bIx (bVar 1) (tC (.int 0))) (tNil))) (tNil)))) (tCons (bTup (tCons (tC (.str "second")) (tCons (bVar 2) (tNil)))) (tNil)))) (tNil))))))
theorem r_l_due (A : Ad) : ∀ vs H Q E, P_l_due A vs H Q E → vs.length = 2 ∧ b_l_due A (wE E) (dE Q) (start ["which", "given", "fault"] vs) H := by
  rintro vs H Q E ⟨m, w, d1, d2, v, rfl, hw, hm, ha, k⟩
  refine ⟨rfl, ?_⟩
  obtain ⟨t, x, y, rfl, nt, ht, h1, h2⟩ := at_pair_inv ha
  by_cases e4 : w = 4
  · subst e4
    walk_at "all"
    refine ⟨m, d2, y, some 0, some 64, rfl, h2, ?_⟩
    walk_at "go"
    refine ⟨m, d1, x, rfl, h1, ?_⟩
    walk_at "go"
    rename_i t1 H1 x1 n1 g1 t2 H2 x2 n2 g2 p H3 x3 n3 g3
    refine ⟨m, [("base", fracF d1), ("exponent", numF d2 (some 0) (some 64))], .ref p, rfl, fun z => hm ((x1.trans (x2.trans x3)).fresh z), at_row g3 (fun z => hm ((x1.trans x2).fresh (z ▸ n3))) (x3 _ _ (x2 _ _ g1)) (new_ne hm n1) (x3 _ _ g2) (fun z => hm (x1.fresh (z ▸ n2))), fun v' H' x' a' => ?_⟩
    exact k v' H' ((x1.trans (x2.trans x3)).trans x') a'
  · have fin : ∀ (f : Option Fk), f = secF w d2 → (tRet (bCall (P_l_first_fault A) (wE E) (tCons (bLst (tCons (bTup (tCons (tC (.str "first")) (tCons (bCall (P_l_fraction_fault A) (wE E) (tCons (tOp bIx (bVar 1) (tC (.int 0))) (tNil))) (tNil)))) (tCons (bTup (tCons (tC (.str "second")) (tCons (bVar 2) (tNil)))) (tNil)))) (tNil)))) (dE Q) [some (.int w), some (.ref t), some (.str (Str.ofString (fs f)))] H := by
      rintro f rfl
      walk_at "go"
      refine ⟨m, d1, x, rfl, h1, ?_⟩
      walk_at "go"
      rename_i t1 H1 x1 n1 g1 t2 H2 x2 n2 g2 p H3 x3 n3 g3
      refine ⟨m, [("first", fracF d1), ("second", secF w d2)], .ref p, rfl, fun z => hm ((x1.trans (x2.trans x3)).fresh z), at_row g3 (fun z => hm ((x1.trans x2).fresh (z ▸ n3))) (x3 _ _ (x2 _ _ g1)) (new_ne hm n1) (x3 _ _ g2) (fun z => hm (x1.fresh (z ▸ n2))), fun v' H' x' a' => ?_⟩
      refine k v' H' ((x1.trans (x2.trans x3)).trans x') ?_
      unfold dueP
      rw [if_neg e4]
      exact a'
    walk_at "br"
    · omega
    walk_at "go"
    refine ⟨m, d2, y, rfl, h2, ?_⟩
    walk_at "br"
    · walk_at "br"
      · rename_i hb1 hb2 hb3
        rw [fs_none] at hb3
        obtain ⟨a, b, rfl, hb⟩ := frac_some hb3
        obtain ⟨t2, x2, y2, rfl, nt2, ht2, i1, i2⟩ := at_pair_inv h2
        obtain rfl := at_int_inv i1
        walk_at "go"
        walk_at "br"
        · refine fin (some .oor) ?_
          rw [sec_i hb, if_pos ⟨by omega, by assumption⟩]
        · refine fin _ ?_
          rw [hb3, sec_i hb, if_neg (by intro z; have := z.2; contradiction)]
      · rename_i hb1 hb2 hb3
        rw [fs_none] at hb3
        walk_at "br"
        refine fin _ ?_
        cases e : fracF d2 with
        | none => exact absurd e hb3
        | some f => exact (sec_some e).symm
    · walk_at "br"
      refine fin _ ?_
      cases e : fracF d2 with
      | none => exact (sec_no e (by rintro ⟨z, _⟩; omega)).symm
      | some f => exact (sec_some e).symm
theorem due_inv {w : Nat} {d1 d2 : Dt} (hw : w ≠ 4) (h : dueP w d1 d2 = none) : fracF d1 = none ∧ secF w d2 = none ∧ fracF d2 = none := by
  cases e1 : fracF d1 with
  | some k => rw [due_1 hw e1] at h; cases h
  | none =>
    cases e2 : secF w d2 with
    | some k => rw [due_2 hw e1 e2] at h; cases h
    | none =>
      refine ⟨rfl, rfl, ?_⟩
      cases e3 : fracF d2 with
      | some k => rw [sec_some e3] at e2; cases e2
      | none => rfl
theorem due_inv4 {d1 d2 : Dt} (h : dueP 4 d1 d2 = none) : fracF d1 = none ∧ numF d2 (some 0) (some 64) = none := by
  cases e1 : fracF d1 with
  | some k => rw [pow4 e1] at h; cases h
  | none =>
    cases e2 : numF d2 (some 0) (some 64) with
    | some k => rw [pow4b e1 e2] at h; cases h
    | none => exact ⟨rfl, rfl⟩
theorem num_064 {e : Int} (h : numF (.int e) (some 0) (some 64) = none) : 0 ≤ e ∧ e ≤ 64 := by
  simp [numF] at h
  omega
def P_l_cross (A : Ad) : Sp := fun vs H Q _ => ∃ (m : Addr) (w : Nat) (d1 d2 : Dt) (v : V), vs = [.int w, v] ∧ w ≤ 4 ∧ H m ≠ none ∧ At m H (.tup [d1, d2]) v ∧ d1.sm 4480 ∧ d2.sm 4480 ∧ (w = 4 → Pw d1 d2) ∧ dueP w d1 d2 = none ∧
  ∀ v' H', Ex H H' → At m H' (.tup [.int (crossP w d1 d2).1, .int (crossP w d1 d2).2]) v' → Q v' H'
def b_l_cross (A : Ad) (W : WX) : TS := tSeq (tAsg (tOp bIx (bVar 1) (tC (.int 0))) (gName 2)) (tSeq (tAsg (tOp bIx (bVar 1) (tC (.int 1))) (gName 3)) (tSeq (bIf (bTst (tOp (bEq A.K) (bVar 0) (tC (.int 0)))) (tRet (bTup (tCons (tOp bAdd (tOp bMul (tOp bIx (bVar 2) (tC (.int 0))) (tOp bIx (bVar 3) (tC (.int 1)))) (tOp bMul (tOp bIx (bVar 3) (tC (.int 0))) (tOp bIx (bVar 2) (tC (.int 1))))) (tCons (tOp bMul (tOp bIx (bVar 2) (tC (.int 1))) (tOp bIx (bVar 3) (tC (.int 1)))) (tNil))))) (tNext)) (tSeq (bIf (bTst (tOp (bEq A.K) (bVar 0) (tC (.int 1)))) (tRet (bTup (tCons (tOp bSub (tOp bMul (tOp bIx (bVar 2) (tC (.int 0))) (tOp bIx (bVar 3) (tC (.int 1)))) (tOp bMul (tOp bIx (bVar 3) (tC (.int 0))) (tOp bIx (bVar 2) (tC (.int 1))))) (tCons (tOp bMul (tOp bIx (bVar 2) (tC (.int 1))) (tOp bIx (bVar 3) (tC (.int 1)))) (tNil))))) (tNext)) (tSeq (bIf (bTst (tOp (bEq A.K) (bVar 0) (tC (.int 2)))) (tRet (bTup (tCons (tOp bMul (tOp bIx (bVar 2) (tC (.int 0))) (tOp bIx (bVar 3) (tC (.int 0)))) (tCons (tOp bMul (tOp bIx (bVar 2) (tC (.int 1))) (tOp bIx (bVar 3) (tC (.int 1)))) (tNil))))) (tNext)) (tSeq (bIf (bTst (tOp (bEq A.K) (bVar 0) (tC (.int 3)))) (tRet (bTup (tCons (tOp bMul (tOp bIx (bVar 2) (tC (.int 0))) (tOp bIx (bVar 3) (tC (.int 1)))) (tCons (tOp bMul (tOp bIx (bVar 2) (tC (.int 1))) (tOp bIx (bVar 3) (tC (.int 0)))) (tNil))))) (tNext)) (tSeq (tAsg (tC (.int 1)) (gName 4)) (tSeq (tAsg (tC (.int 1)) (gName 5)) (tSeq (bForR (bVar 3) (gName 6) (tSeq (tAsg (tOp bMul (bVar 4) (tOp bIx (bVar 2) (tC (.int 0)))) (gName 4)) (tAsg (tOp bMul (bVar 5) (tOp bIx (bVar 2) (tC (.int 1)))) (gName 5)))) (tRet (bTup (tCons (bVar 4) (tCons (bVar 5) (tNil)))))))))))))
theorem r_l_cross (A : Ad) : ∀ vs H Q E, P_l_cross A vs H Q E → vs.length = 2 ∧ b_l_cross A (wE E) (dE Q) (start ["which", "given", "one", "two", "high", "low", "k"] vs) H := by
  rintro vs H Q E ⟨m, w, d1, d2, v, rfl, hw, hm, ha, z1, z2, pw, hd, k⟩
  refine ⟨rfl, ?_⟩
  obtain ⟨t, x, y, rfl, nt, ht, h1, h2⟩ := at_pair_inv ha
  by_cases e4 : w = 4
  · subst e4
    obtain ⟨f1, f2⟩ := due_inv4 hd
    obtain ⟨a, b, rfl, hb⟩ := frac_some f1
    obtain ⟨e, rfl⟩ := num_int f2
    obtain ⟨he0, he1⟩ := num_064 f2
    obtain ⟨k2, ka, kb, ke⟩ := pw rfl a b e rfl rfl hb he0 he1
    obtain rfl := at_int_inv h2
    obtain ⟨t1, x1, y1, rfl, nt1, ht1, i1, i2⟩ := at_pair_inv h1
    obtain rfl := at_int_inv i1
    obtain rfl := at_int_inv i2
    obtain ⟨za, zb⟩ := sm_pair z1
    have sa := sz4 za
    have sb := sz4 zb
    walk_at "all"
    refine LoopR.mk (fun i σ H' => H' = H ∧ ∃ o, σ = [some (.int 4), some (.ref t), some (.ref t1), some (.int e), some (.int (a ^ i)), some (.int (b ^ i)), o]) ⟨rfl, none, by rw [Int.pow_zero, Int.pow_zero]; rfl⟩ ?_ ?_
    · rintro i σ H' hi ⟨rfl, o, rfl⟩
      have pa := pow_sz ka (Nat.le_trans (Nat.mul_le_mul_left k2 (by omega : i ≤ e.toNat)) ke)
      have pb := pow_sz kb (Nat.le_trans (Nat.mul_le_mul_left k2 (by omega : i ≤ e.toNat)) ke)
      walk_at "go"
      exact ⟨rfl, _, by rw [Int.pow_succ, Int.pow_succ]; rfl⟩
    · rintro σ H' ⟨rfl, o, rfl⟩
      walk_at "go"
      rename_i p H1 x1 n1 g1
      exact k _ _ x1 (.tup (new_ne hm n1) g1 (.cons (.int _) (.cons (.int _) .nil)))
  · obtain ⟨f1, _, f2⟩ := due_inv e4 hd
    obtain ⟨a, b, rfl, hb⟩ := frac_some f1
    obtain ⟨c, d, rfl, hb2⟩ := frac_some f2
    obtain ⟨t1, x1, y1, rfl, nt1, ht1, i1, i2⟩ := at_pair_inv h1
    obtain rfl := at_int_inv i1
    obtain rfl := at_int_inv i2
    obtain ⟨t2, x2, y2, rfl, nt2, ht2, j1, j2⟩ := at_pair_inv h2
    obtain rfl := at_int_inv j1
    obtain rfl := at_int_inv j2
    obtain ⟨za, zb⟩ := sm_pair z1
    obtain ⟨zc, zd⟩ := sm_pair z2
    have sa := sz4 za
    have sb := sz4 zb
    have sc := sz4 zc
    have sd := sz4 zd
    obtain rfl | rfl | rfl | rfl : w = 0 ∨ w = 1 ∨ w = 2 ∨ w = 3 := by omega
    all_goals
      walk_at "all"
      rename_i p H1 x1 n1 g1
      exact k _ _ x1 (.tup (new_ne hm n1) g1 (.cons (.int _) (.cons (.int _) .nil)))
theorem cross_sz {w : Nat} {d1 d2 : Dt} (hw : w ≤ 4) (z1 : d1.sm 4480) (z2 : d2.sm 4480) (pw : w = 4 → Pw d1 d2) (hd : dueP w d1 d2 = none) : (crossP w d1 d2).1.natAbs < 2 ^ 8980 ∧ (crossP w d1 d2).2.natAbs < 2 ^ 8980 := by
  by_cases e4 : w = 4
  · subst e4
    obtain ⟨f1, f2⟩ := due_inv4 hd
    obtain ⟨a, b, rfl, hb⟩ := frac_some f1
    obtain ⟨e, rfl⟩ := num_int f2
    obtain ⟨he0, he1⟩ := num_064 f2
    obtain ⟨k2, ka, kb, ke⟩ := pw rfl a b e rfl rfl hb he0 he1
    exact ⟨sm_lt (pow_lt ka ke) (by decide), sm_lt (pow_lt kb ke) (by decide)⟩
  · obtain ⟨f1, _, f2⟩ := due_inv e4 hd
    obtain ⟨a, b, rfl, hb⟩ := frac_some f1
    obtain ⟨c, d, rfl, hb2⟩ := frac_some f2
    obtain ⟨za, zb⟩ := sm_pair z1
    obtain ⟨zc, zd⟩ := sm_pair z2
    obtain rfl | rfl | rfl | rfl : w = 0 ∨ w = 1 ∨ w = 2 ∨ w = 3 := by omega
    · exact ⟨add8 (mul4 za zd) (mul4 zc zb), le8 (mul4 zb zd)⟩
    · exact ⟨sub8 (mul4 za zd) (mul4 zc zb), le8 (mul4 zb zd)⟩
    · exact ⟨le8 (mul4 za zc), le8 (mul4 zb zd)⟩
    · exact ⟨le8 (mul4 za zd), le8 (mul4 zb zc)⟩
def P_l_holds (A : Ad) : Sp := fun vs H Q _ => ∃ (m : Addr) (w : Nat) (d1 d2 : Dt) (v : V), vs = [.int w, v] ∧ w ≤ 4 ∧ H m ≠ none ∧ At m H (.tup [d1, d2]) v ∧ d1.sm 4480 ∧ d2.sm 4480 ∧ (w = 4 → Pw d1 d2) ∧ CF A ∧ ∀ H', Ex H H' → Q (.bl true) H'
def b_l_holds (A : Ad) (W : WX) : TS := tSeq (tAsg (bCall (P_l_due A) W (tCons (bVar 0) (tCons (bVar 1) (tNil)))) (gName 2)) (tSeq (bForA (bLst (tCons (bVar 0) (tCons (tOp bAdd (bVar 0) (tC (.int 20))) (tNil)))) (gName 3) (tSeq (tAsg (bCall (P_l_told A) W (tCons (bVar 3) (tCons (bVar 1) (tNil)))) (gName 4)) (bIf (bTst (tOp (bNotN) (bVar 2) (tC .non))) (bIf (tNot (bTru (bCall (P_l_same A) W (tCons (bVar 4) (tCons (bTup (tCons (tC (.str "refused")) (tCons (bVar 2) (tNil)))) (tNil)))))) (tRet (tC (.bl false))) (tNext)) (tSeq (tAsg (bCall (P_l_cross A) W (tCons (bVar 0) (tCons (bVar 1) (tNil)))) (gName 5)) (bIf (bOr (bTst (tOp (bNe A.K) (tOp bIx (bVar 4) (tC (.int 0))) (tC (.str "answer")))) (tNot (bTru (bCall (P_l_is_ratio_of A) W (tCons (tOp bIx (bVar 4) (tC (.int 1))) (tCons (tOp bIx (bVar 5) (tC (.int 0))) (tCons (tOp bIx (bVar 5) (tC (.int 1))) (tNil)))))))) (tRet (tC (.bl false))) (tNext)))))) (tRet (tC (.bl true))))
theorem ok_ref {x y : Str} : (Dt.tup [.str "refused", .tup [.str x, .str y]]).okN 5 := by
  refine ⟨by simp, ?_⟩
  intro d hd
  simp at hd
  rcases hd with rfl | rfl
  · trivial
  · refine ⟨by simp, ?_⟩
    intro d hd
    simp at hd
    rcases hd with rfl | rfl <;> trivial
theorem r_l_holds (A : Ad) : ∀ vs H Q E, P_l_holds A vs H Q E → vs.length = 2 ∧ b_l_holds A (wE E) (dE Q) (start ["which", "given", "due", "way", "told", "pair"] vs) H := by
  rintro vs H Q E ⟨m, w, d1, d2, v, rfl, hw, hm, ha, z1, z2, pw, F, k⟩
  refine ⟨rfl, ?_⟩
  refine ⟨m, w, d1, d2, v, rfl, hw, hm, ha, fun due H1 x1 a1 => ?_⟩
  walk_at "go"
  rename_i p H2 x2 n2 g2
  refine LoopL.mk (fun i σ H' => Ex H2 H' ∧ ∃ o1 o2 o3, σ = [some (.int w), some v, some due, o1, o2, o3]) ⟨Ex.refl _, _, _, _, rfl⟩ ?_ ?_ ?_
  · rintro i σ H' _ ⟨x, _⟩
    exact .inl (x _ _ g2)
  · rintro i z σ H' hx ⟨x3, o1, o2, o3, rfl⟩
    have x13 := x2.trans x3
    have xH := x1.trans x13
    have hm3 : H' m ≠ none := fun z => hm (xH.fresh z)
    have hz : [z, v] = [V.int w, v] ∨ [z, v] = [V.int (w + 20), v] := by
      match i, hx with
      | 0, hx => cases hx; exact .inl rfl
      | 1, hx => cases hx; exact .inr rfl
      | i + 2, hx => simp at hx
    walk_at "go"
    refine ⟨m, w, d1, d2, v, hz, hw, hm3, ha.mono xH, z1, z2, pw, F, fun k2 n e told H4 x4 a4 => ?_, fun e p2 q2 told H4 x4 a4 R => ?_⟩
    · rw [e] at a1
      have a1' := (a1.mono x13).mono x4
      obtain ⟨pd, xs, rfl, _⟩ := at_tup_inv a1'
      walk_at "go"
      walk_at "br"
      walk_at "go"
      rename_i p5 H5 x5 n5 g5
      refine ⟨m, _, _, _, rfl, a4.mono x5, .tup (fun z => hm3 (x4.fresh (z ▸ n5))) g5 (.cons (.str _) (.cons (a1'.mono x5) .nil)), ok_ref, ?_⟩
      walk_at "br"
      exact ⟨x3.trans (x4.trans x5), _, _, _, rfl⟩
    · rw [e] at a1
      obtain rfl := at_non_inv a1
      obtain ⟨s1, s2⟩ := cross_sz hw z1 z2 pw e
      walk_at "go"
      walk_at "br"
      walk_at "go"
      refine ⟨m, w, d1, d2, v, rfl, hw, fun z => hm3 (x4.fresh z), ha.mono (xH.trans x4), z1, z2, pw, e, fun pr H5 x5 a5 => ?_⟩
      obtain ⟨t4, y1, y2, rfl, nt4, ht4, i1, i2⟩ := at_pair_inv (a4.mono x5)
      obtain rfl := at_str_inv i1
      obtain ⟨t5, w1, w2, rfl, nt5, ht5, j1, j2⟩ := at_pair_inv a5
      obtain rfl := at_int_inv j1
      obtain rfl := at_int_inv j2
      walk_at "go"
      walk_at "br"
      walk_at "go"
      refine ⟨m, p2, q2, _, _, y2, rfl, fun z => hm3 (x4.fresh (x5.fresh z)), i2, R, s1, s2, fun H6 x6 => ?_⟩
      walk_at "br"
      exact ⟨x3.trans (x4.trans (x5.trans x6)), _, _, _, rfl⟩
  · rintro σ H' ⟨x3, o1, o2, o3, rfl⟩
    exact k H' (x1.trans (x2.trans x3))
/-- a question of the law: which one, and the two that are given -/
structure It where
  w : Nat
  a : Dt
  b : Dt
def It.d (i : It) : Dt := .tup [.int i.w, .tup [i.a, i.b]]
def It.ok (i : It) : Prop := i.w ≤ 4 ∧ i.a.sm 4480 ∧ i.b.sm 4480 ∧ (i.w = 4 → Pw i.a i.b)
theorem sm_two {k : Nat} {a b : Int} (h1 : a.natAbs < 2 ^ k) (h2 : b.natAbs < 2 ^ k) : (Dt.tup [.int a, .int b]).sm k := by
  simp only [Dt.sm, Dt.sms, and_true]
  exact ⟨h1, h2⟩
def P_l_great (A : Ad) : Sp := fun vs H Q _ => ∃ (st : Sto) (c d : Int) (v : V), vs = [.ref st, v] ∧ Store H st ∧ At st H (.tup [.int c, .int d]) v ∧ 1 ≤ d ∧ c.natAbs < 2 ^ 270 ∧ d.natAbs < 2 ^ 270 ∧ CF A ∧ ∀ H', ExB st H H' → Store H' st → Q (.bl true) H'
def b_l_great (A : Ad) (W : WX) : TS := tSeq (tAsg (bCall (P_l_ten A) W (tCons (tOp bAdd (tC (.int 100)) (bCall (P_l_take A) W (tCons (bVar 0) (tCons (tC (.int 870)) (tNil))))) (tNil))) (gName 2)) (tSeq (tAsg (tOp bMul (tOp bAdd (bVar 2) (bCall (P_l_take A) W (tCons (bVar 0) (tCons (bVar 2) (tNil))))) (tOp bIx (bLst (tCons (tC (.int 1)) (tCons (tUn bNeg (tC (.int 1))) (tNil)))) (bCall (P_l_take A) W (tCons (bVar 0) (tCons (tC (.int 2)) (tNil)))))) (gName 3)) (tSeq (tAsg (tOp bAdd (tC (.int 1)) (bCall (P_l_take A) W (tCons (bVar 0) (tCons (tC (.int 999)) (tNil))))) (gName 4)) (tSeq (tAsg (bTup (tCons (bVar 3) (tCons (bVar 4) (tNil)))) (gName 5)) (tSeq (tAsg (bTup (tCons (bVar 4) (tCons (bAbs (bVar 3)) (tNil)))) (gName 6)) (tSeq (tAsg (bTup (tCons (tOp bAdd (tOp bPow (tC (.int 10)) (tC (.int 19))) (bCall (P_l_take A) W (tCons (bVar 0) (tCons (tOp bPow (tC (.int 10)) (tC (.int 19))) (tNil))))) (tCons (tOp bAdd (tC (.int 1)) (bCall (P_l_take A) W (tCons (bVar 0) (tCons (tC (.int 9)) (tNil))))) (tNil)))) (gName 7)) (tSeq (tAsg (bLst (tCons (bTup (tCons (tC (.int 0)) (tCons (bTup (tCons (bVar 5) (tCons (bVar 1) (tNil)))) (tNil)))) (tCons (bTup (tCons (tC (.int 1)) (tCons (bTup (tCons (bVar 1) (tCons (bVar 5) (tNil)))) (tNil)))) (tCons (bTup (tCons (tC (.int 2)) (tCons (bTup (tCons (bVar 5) (tCons (bVar 1) (tNil)))) (tNil)))) (tCons (bTup (tCons (tC (.int 2)) (tCons (bTup (tCons (bVar 1) (tCons (bVar 6) (tNil)))) (tNil)))) (tCons (bTup (tCons (tC (.int 3)) (tCons (bTup (tCons (bVar 6) (tCons (bVar 1) (tNil)))) (tNil)))) (tNil))))))) (gName 8)) (tSeq (tAsg (tOp bSub (tC (.int 64)) (bCall (P_l_take A) W (tCons (bVar 0) (tCons (tC (.int 12)) (tNil))))) (gName 2)) (tSeq (bForA (tOp bAdd (bVar 8) (bLst (tCons (bTup (tCons (tC (.int 3)) (tCons (bTup (tCons (bVar 1) (tCons (bVar 5) (tNil)))) (tNil)))) (tCons (bTup (tCons (tC (.int 4)) (tCons (bTup (tCons (bVar 7) (tCons (bVar 2) (tNil)))) (tNil)))) (tNil))))) (gName 9) (bIf (tNot (bTru (bCall (P_l_holds A) W (tCons (tOp bIx (bVar 9) (tC (.int 0))) (tCons (tOp bIx (bVar 9) (tC (.int 1))) (tNil)))))) (tRet (tC (.bl false))) (tNext))) (tSeq (tAsg (bCall (P_ratio_power A) W (tCons (bVar 7) (tCons (bVar 2) (tNil)))) (gName 10)) (tRet (bAndV (bCall (P_l_holds A) W (tCons (tC (.int 0)) (tCons (bTup (tCons (bVar 10) (tCons (bVar 1) (tNil)))) (tNil)))) (bAndV (bCall (P_l_holds A) W (tCons (tC (.int 1)) (tCons (bTup (tCons (bVar 1) (tCons (bVar 10) (tNil)))) (tNil)))) (bCall (P_l_holds A) W (tCons (tC (.int 2)) (tCons (bTup (tCons (bVar 10) (tCons (bVar 1) (tNil)))) (tNil))))))))))))))))
theorem pick2 {r : Int} (h0 : 0 ≤ r) (h1 : r < 2 ∨ r = 0) : ∃ s : Int, (s = 1 ∨ s = -1) ∧ atI [V.int 1, V.int (-1)] r = some (.int s) := by
  obtain rfl | rfl : r = 0 ∨ r = 1 := by omega
  · exact ⟨1, .inl rfl, rfl⟩
  · exact ⟨-1, .inr rfl, rfl⟩
theorem pow_ltk {a : Int} {k e n : Nat} (h : a.natAbs < 2 ^ k) (l : k * e ≤ n) : (a ^ e).natAbs < 2 ^ (n + 1) := by
  rw [Int.natAbs_pow]
  have h1 : a.natAbs ^ e ≤ (2 ^ k) ^ e := Nat.pow_le_pow_left (Nat.le_of_lt h) e
  rw [← Nat.pow_mul] at h1
  have h2 : (2 : Nat) ^ (k * e) ≤ 2 ^ n := Nat.pow_le_pow_right (by decide) l
  have e : (2 : Nat) ^ (n + 1) = 2 * 2 ^ n := pow2s n
  have : 0 < (2 : Nat) ^ n := Nat.pow_pos (by decide)
  omega
theorem ok_q {w : Nat} {a b c d : Int} (hw : w < 4) (h1 : a.natAbs < 2 ^ 4480) (h2 : b.natAbs < 2 ^ 4480) (h3 : c.natAbs < 2 ^ 4480) (h4 : d.natAbs < 2 ^ 4480) : (It.mk w (.tup [.int a, .int b]) (.tup [.int c, .int d])).ok :=
  ⟨Nat.le_of_lt hw, sm_two h1 h2, sm_two h3 h4, fun z => absurd z (Nat.ne_of_lt hw)⟩
theorem gn {i : Nat} {v : V} {σ : Sg} {H : Hp} {K : Sg → Hp → Prop} (h : K (σ.set i (some v)) H) : gName i v σ H K := h
theorem sub_i {i j : Int} {H : Hp} {Q : VK} (h : Q (.int (i - j)) H) : bSub (.int i) (.int j) H Q := h
theorem for_dv {m : Addr} {te : TE} {g : TG} {tb t : TS} {D : Ends} {σ : Sg} {H : Hp} {ds : List Dt} (h : Dv m te σ H (.lst ds)) (k : ∀ p xs H1, Ex H H1 → H1 p = some (.lst xs) → p ≠ m → AtL m H1 ds xs → LoopL p xs g tb { D with nx := t D } σ H1) : tSeq (bForA te g tb) t D σ H :=
  h.run fun v H1 x a => by
    obtain ⟨p, xs, rfl, n, hp, l⟩ := at_lst_inv a
    exact Get.mk _ hp (k p xs H1 x hp n l)
local macro_rules | `(tactic| walk_at "dv") => `(tactic| repeat first
  | exact dx_int _ | exact dx_str _ | exact dx_bl _ | exact dx_non | exact dx_neg _ | exact dx_vi rfl | exact dx_var rfl (by assumption)
  | exact dxa_nil | refine dxa_cons ?_ ?_ | refine dx_tup (by assumption) ?_ | refine dx_lst (by assumption) ?_ | exact dx_dct (by assumption) | exact dx_pow (by unfold CPow; decide) (by decide) | refine dx_add ?_ ?_ | refine dx_sub ?_ ?_)
theorem r_l_great (A : Ad) : ∀ vs H Q E, P_l_great A vs H Q E → vs.length = 2 ∧ b_l_great A (wE E) (dE Q) (start ["store", "two", "many", "top", "low", "above", "under", "base", "asked", "item", "total"] vs) H := by
  rintro vs H Q E ⟨st, c, d, v, rfl, hS, a2, hd, sc, sd, F, k⟩
  refine ⟨rfl, ?_⟩
  walk_at "go"
  refine ⟨st, 870, rfl, hS, Sz.small (by decide), fun r1 H1 x1 s1 r10 r11 => ?_⟩
  replace a2 := a2.monoB x1
  walk_at "go"
  refine ⟨_, rfl, by omega, by omega, fun T hT => ?_⟩
  obtain ⟨n, hn, n0, n1⟩ : ∃ n : Nat, (100 + r1).toNat = n ∧ 100 ≤ n ∧ n ≤ 969 := ⟨_, rfl, by omega, by omega⟩
  rw [hn] at hT
  have T0 := ten_pos n
  have T1 : (10 : Int) ^ n < 2 ^ 3877 := ten_lt2 (by omega)
  rw [← hT] at T0 T1
  clear hT
  walk_at "go"
  refine ⟨st, T, rfl, s1, Sz.of 3877 (by omega) (by decide) (by decide), fun u H2 x2 s2 u0 u1 => ?_⟩
  replace a2 := a2.monoB x2
  walk_at "go"
  rename_i p3 H3 x3 n3 g3
  replace a2 := a2.mono x3
  have s3 := s2.mono x3
  refine ⟨st, 2, rfl, s3, Sz.small (by decide), fun r4 H4 x4 s4 r40 r41 => ?_⟩
  replace a2 := a2.monoB x4
  refine Get.mk _ (x4 _ _ (s2.ne n3) g3) ?_
  obtain ⟨s, hs, es⟩ := pick2 r40 r41
  refine AtI.mk _ es ?_
  refine ⟨mulR (by omega) (by omega), ?_⟩
  have tz : ((T + u) * s).natAbs < 2 ^ 3878 := by
    rw [pow2s 3877]
    rcases hs with rfl | rfl <;> omega
  have t0 : (T + u) * s ≠ 0 := by rcases hs with rfl | rfl <;> omega
  generalize (T + u) * s = top at tz t0
  walk_at "go"
  refine ⟨st, 999, rfl, s4, Sz.small (by decide), fun r5 H5 x5 s5 r50 r51 => ?_⟩
  replace a2 := a2.monoB x5
  have X5 : ExB st H H5 := x1.trans (x2.trans ((x3.but st).trans (x4.trans x5)))
  clear x1 x2 x3 x4 x5 g3 n3 s1 s2 s3 s4 hS
  walk_at "go"
  rename_i p6 H6 x6 n6 g6 p7 H7 x7 n7 g7
  have s7 := (s5.mono x6).mono x7
  have A6 : At st H7 (.tup [.int top, .int (1 + r5)]) (.ref p6) := .tup (s5.ne n6) (x7 _ _ g6) (.cons (.int _) (.cons (.int _) .nil))
  have A7 : At st H7 (.tup [.int (1 + r5), .int top.natAbs]) (.ref p7) := .tup ((s5.mono x6).ne n7) g7 (.cons (.int _) (.cons (.int _) .nil))
  replace a2 := a2.mono (x6.trans x7)
  have X7 := X5.trans ((x6.trans x7).but st)
  clear x6 x7 g6 g7 n6 n7 s5 X5
  have e19 : (10 : Int) ^ (Int.toNat 19) = 10000000000000000000 := by decide
  walk_at "go"
  refine ⟨st, _, rfl, s7, Sz.small (by rw [e19]; decide), fun r8 H8 x8 s8 r80 r81 => ?_⟩
  rw [e19] at r81
  replace a2 := a2.monoB x8
  replace A6 := A6.monoB x8
  replace A7 := A7.monoB x8
  walk_at "go"
  refine ⟨st, 9, rfl, s8, Sz.small (by decide), fun r9 H9 x9 s9 r90 r91 => ?_⟩
  replace a2 := a2.monoB x9
  replace A6 := A6.monoB x9
  replace A7 := A7.monoB x9
  refine Alloc.mk fun p10 H10 x10 n10 g10 => ?_
  have A8 : At st H10 (.tup [.int (10 ^ Int.toNat 19 + r8), .int (1 + r9)]) (.ref p10) := .tup (s9.ne n10) g10 (.cons (.int _) (.cons (.int _) .nil))
  replace a2 := a2.mono x10
  replace A6 := A6.mono x10
  replace A7 := A7.mono x10
  have s10 := s9.mono x10
  have X10 := X7.trans (x8.trans (x9.trans (x10.but st)))
  clear x8 x9 x10 X7 s7 s8 s9 g10 n10
  have hm := s10.some
  refine gn ?_
  try dsimp only
  refine asg_dv (m := st) (d := .lst ([⟨0, .tup [.int top, .int (1 + r5)], .tup [.int c, .int d]⟩, ⟨1, .tup [.int c, .int d], .tup [.int top, .int (1 + r5)]⟩, ⟨2, .tup [.int top, .int (1 + r5)], .tup [.int c, .int d]⟩,
    ⟨2, .tup [.int c, .int d], .tup [.int (1 + r5), .int top.natAbs]⟩, ⟨3, .tup [.int (1 + r5), .int top.natAbs], .tup [.int c, .int d]⟩].map It.d)) (by walk_at "dv") fun asked H11 x11 a11 => ?_
  replace a2 := a2.mono x11
  replace A6 := A6.mono x11
  replace A7 := A7.mono x11
  replace A8 := A8.mono x11
  have s11 := s10.mono x11
  refine gn ?_
  try dsimp only
  refine ⟨st, 12, rfl, s11, Sz.small (by decide), fun r12 H12 x12 s12 r120 r121 => ?_⟩
  replace a2 := a2.monoB x12
  replace A6 := A6.monoB x12
  replace A7 := A7.monoB x12
  replace A8 := A8.monoB x12
  replace a11 := a11.monoB x12
  have X12 := X10.trans ((x11.but st).trans x12)
  clear x11 x12 X10 s10 s11 hm
  have hm := s12.some
  refine sub_i ?_
  refine gn ?_
  try dsimp only
  refine for_dv (m := st) (dx_lsts hm (dx_var rfl a11) (es := [It.mk 3 (.tup [.int c, .int d]) (.tup [.int top, .int (1 + r5)]), It.mk 4 (.tup [.int (10 ^ Int.toNat 19 + r8), .int (1 + r9)]) (.int (64 - r12))].map It.d) (by walk_at "dv") (by simp)) fun p xs H13 x13 g13 n13 l13 => ?_
  rw [← List.map_append] at l13
  have zt : top.natAbs < 2 ^ 4480 := sm_lt tz (by decide)
  have zl : (1 + r5).natAbs < 2 ^ 4480 := sm_lt (j := 10) (by omega) (by decide)
  have zc : c.natAbs < 2 ^ 4480 := sm_lt sc (by decide)
  have zd : d.natAbs < 2 ^ 4480 := sm_lt sd (by decide)
  have zn : ((top.natAbs : Nat) : Int).natAbs < 2 ^ 4480 := by simpa using zt
  have b65 : (10 ^ Int.toNat 19 + r8).natAbs < 2 ^ 65 := by rw [e19]; omega
  have b4 : (1 + r9).natAbs < 2 ^ 65 := by omega
  have pw : Pw (.tup [.int (10 ^ Int.toNat 19 + r8), .int (1 + r9)]) (.int (64 - r12)) := by
    intro a b e e1 e2 hb h0 h1
    cases e1; cases e2
    refine ⟨65, b65, b4, by omega⟩
  have ok4 : (It.mk 4 (.tup [.int (10 ^ Int.toNat 19 + r8), .int (1 + r9)]) (.int (64 - r12))).ok := by
    refine ⟨Nat.le_refl _, sm_two (sm_lt b65 (by decide)) (sm_lt b4 (by decide)), ?_, fun _ => pw⟩
    simp only [Dt.sm]
    exact sm_lt (j := 10) (by omega) (by decide)
  have hok : ∀ it ∈ [⟨0, .tup [.int top, .int (1 + r5)], .tup [.int c, .int d]⟩, ⟨1, .tup [.int c, .int d], .tup [.int top, .int (1 + r5)]⟩, ⟨2, .tup [.int top, .int (1 + r5)], .tup [.int c, .int d]⟩,
    ⟨2, .tup [.int c, .int d], .tup [.int (1 + r5), .int top.natAbs]⟩, ⟨3, .tup [.int (1 + r5), .int top.natAbs], .tup [.int c, .int d]⟩] ++ [It.mk 3 (.tup [.int c, .int d]) (.tup [.int top, .int (1 + r5)]), It.mk 4 (.tup [.int (10 ^ Int.toNat 19 + r8), .int (1 + r9)]) (.int (64 - r12))], it.ok := by
    intro it h
    simp only [List.cons_append, List.nil_append, List.mem_cons, List.not_mem_nil, or_false] at h
    rcases h with rfl | rfl | rfl | rfl | rfl | rfl | rfl
    · exact ok_q (by decide) zt zl zc zd
    · exact ok_q (by decide) zc zd zt zl
    · exact ok_q (by decide) zt zl zc zd
    · exact ok_q (by decide) zc zd zl zn
    · exact ok_q (by decide) zl zn zc zd
    · exact ok_q (by decide) zc zd zt zl
    · exact ok4
  clear tz t0 sc sd
  refine LoopL.mk (fun i σ H' => Ex H13 H' ∧ ∃ o, σ = [some (.ref st), some v, some (.int (64 - r12)), some (.int top), some (.int (1 + r5)), some (.ref p6), some (.ref p7), some (.ref p10), some asked, o, none]) ⟨Ex.refl _, none, rfl⟩ ?_ ?_ ?_
  · rintro i σ H' _ ⟨x, _⟩
    exact .inl (x _ _ g13)
  · rintro i z σ H' hx ⟨x14, o, rfl⟩
    obtain ⟨dd, hdd, hat⟩ := l13.get hx
    rw [List.getElem?_map] at hdd
    generalize hL : [It.mk 0 (.tup [.int top, .int (1 + r5)]) (.tup [.int c, .int d]), ⟨1, .tup [.int c, .int d], .tup [.int top, .int (1 + r5)]⟩, ⟨2, .tup [.int top, .int (1 + r5)], .tup [.int c, .int d]⟩,
    ⟨2, .tup [.int c, .int d], .tup [.int (1 + r5), .int top.natAbs]⟩, ⟨3, .tup [.int (1 + r5), .int top.natAbs], .tup [.int c, .int d]⟩] ++ [It.mk 3 (.tup [.int c, .int d]) (.tup [.int top, .int (1 + r5)]), It.mk 4 (.tup [.int (10 ^ Int.toNat 19 + r8), .int (1 + r9)]) (.int (64 - r12))] = L at hdd hok
    cases e : L[i]? with
    | none => rw [e] at hdd; cases hdd
    | some it =>
      rw [e] at hdd
      cases hdd
      obtain ⟨k1, k2, k3, k4⟩ := hok it (List.mem_of_getElem? e)
      obtain ⟨q, y1, y2, rfl, nq, hq, i1, i2⟩ := at_pair_inv (hat.mono x14)
      obtain rfl := at_int_inv i1
      walk_at "go"
      refine ⟨st, it.w, it.a, it.b, y2, rfl, k1, fun z => (s12.mono (x13.trans x14)).some z, i2, k2, k3, k4, F, fun H15 x15 => ?_⟩
      walk_at "br"
      exact ⟨x14.trans x15, _, rfl⟩
  · rintro σ H14 ⟨x14, o, rfl⟩
    have x2 := x13.trans x14
    have s14 := s12.mono x2
    replace a2 := a2.mono x2
    replace A8 := A8.mono x2
    have X14 := X12.trans (x2.but st)
    have hdue : dueP 4 (.tup [.int (10 ^ Int.toNat 19 + r8), .int (1 + r9)]) (.int (64 - r12)) = none := pow4c (frac_none (by omega)) (numF_ok (by intro l e; cases e; omega) (by intro l e; cases e; omega))
    refine ⟨st, _, _, _, _, rfl, s14.some, A8, .int _, ok4.2.1, ok4.2.2.1, fun _ => pw, (fun k n e => by rw [hdue] at e; cases e), fun _ p q tv H15 x15 a15 R => ?_⟩
    obtain ⟨_, _, _, lp, lq⟩ := R
    have zp : p.natAbs < 2 ^ 4480 := Nat.lt_of_le_of_lt lp (sm_lt (pow_ltk b65 (e := (64 - r12).toNat) (n := 4160) (by omega)) (by decide))
    have zq : q.natAbs < 2 ^ 4480 := Nat.lt_of_le_of_lt lq (sm_lt (pow_ltk b4 (e := (64 - r12).toNat) (n := 4160) (by omega)) (by decide))
    replace a2 := a2.mono x15
    have s15 := s14.mono x15
    walk_at "go"
    rename_i p16 H16 x16 n16 g16
    obtain ⟨k1, k2, k3, k4⟩ := ok_q (w := 0) (by decide) zp zq zc zd
    refine ⟨st, 0, _, _, _, rfl, k1, (s15.mono x16).some, .tup (s15.ne n16) g16 (.cons (a15.mono x16) (.cons (a2.mono x16) .nil)), k2, k3, k4, F, fun H17 x17 => ?_⟩
    walk_at "br"
    walk_at "go"
    rename_i p18 H18 x18 n18 g18
    have s17 := (s15.mono x16).mono x17
    have x57 := x16.trans x17
    refine ⟨st, 1, _, _, _, rfl, by decide, (s17.mono x18).some, .tup (s17.ne n18) g18 (.cons ((a2.mono x57).mono x18) (.cons ((a15.mono x57).mono x18) .nil)), k3, k2, (fun z => by cases z), F, fun H19 x19 => ?_⟩
    walk_at "br"
    walk_at "go"
    rename_i p20 H20 x20 n20 g20
    have s19 := (s17.mono x18).mono x19
    have x59 := (x57.trans x18).trans x19
    refine ⟨st, 2, _, _, _, rfl, by decide, (s19.mono x20).some, .tup (s19.ne n20) g20 (.cons ((a15.mono x59).mono x20) (.cons ((a2.mono x59).mono x20) .nil)), k2, k3, (fun z => by cases z), F, fun H21 x21 => ?_⟩
    exact k H21 (X14.trans ((((x15.trans x59).trans x20).trans x21).but st)) ((s19.mono x20).mono x21)
mutual
theorem At.other {m l : Addr} {k : Nat} {H : Hp} {ys : List V} (hl : H l = some (.lst ys)) (hy : ∀ y, ys.head? = some y → ∃ p, y = .ref p) : ∀ {d : Dt} {v : V}, At m H d v → d.sm k → At l H d v
  | _, _, .non, _ => .non
  | _, _, .bl b, _ => .bl b
  | _, _, .int i, _ => .int i
  | _, _, .str x, _ => .str x
  | _, _, .dct (p := p) n hp, _ => .dct (by rintro rfl; rw [hl] at hp; cases hp) hp
  | _, _, .lst (ds := ds) (xs := xs) (p := p) n hp a, h => by
    rw [Dt.sm] at h
    refine .lst ?_ hp (AtL.other hl hy a h.1)
    rintro rfl
    rw [hl] at hp
    cases hp
    cases a with
    | nil => exact h.2
    | cons h1 _ =>
      obtain ⟨q, e⟩ := hy _ rfl
      cases h1 <;> first | exact h.2 | (cases e; done)
  | _, _, .tup (ds := ds) (xs := xs) (p := p) n hp a, h => by
    rw [Dt.sm] at h
    exact .tup (by rintro rfl; rw [hl] at hp; cases hp) hp (AtL.other hl hy a h)
theorem AtL.other {m l : Addr} {k : Nat} {H : Hp} {ys : List V} (hl : H l = some (.lst ys)) (hy : ∀ y, ys.head? = some y → ∃ p, y = .ref p) : ∀ {ds : List Dt} {xs : List V}, AtL m H ds xs → Dt.sms k ds → AtL l H ds xs
  | _, _, .nil, _ => .nil
  | _, _, .cons h1 a, h => by
    rw [Dt.sms] at h
    exact .cons (At.other hl hy h1 h.1) (AtL.other hl hy a h.2)
end
theorem It.sm {i : It} (h : i.ok) : i.d.sm 4480 := by
  obtain ⟨h1, h2, h3, _⟩ := h
  unfold It.d
  simp only [Dt.sm, Dt.sms, and_true]
  refine ⟨?_, h2, h3⟩
  rw [Int.natAbs_natCast]
  exact Nat.lt_of_le_of_lt h1 (Nat.lt_of_lt_of_le (by decide) (Nat.pow_le_pow_right (n := 2) (by decide) (by decide : 3 ≤ 4480)))
theorem its_sm : ∀ {l : List It}, (∀ i ∈ l, i.ok) → Dt.sms 4480 (l.map It.d)
  | [], _ => by rw [List.map_nil, Dt.sms]; trivial
  | i :: l, h => by
    rw [List.map_cons, Dt.sms]
    exact ⟨It.sm (h i List.mem_cons_self), its_sm fun j hj => h j (List.mem_cons_of_mem _ hj)⟩
/-- the list of the questions asked so far, at pa -/
def As (H : Hp) (st : Sto) (pa : Addr) (n : Nat) : Prop := ∃ (l : List It) (xs : List V), H pa = some (.lst xs) ∧ AtL st H (l.map It.d) xs ∧ (∀ i ∈ l, i.ok) ∧ l.length = n ∧ pa ≠ st.a ∧ pa ≠ st.sl
theorem As.monoB {H H' : Hp} {st : Sto} {pa : Addr} {n : Nat} (h : As H st pa n) (x : ExB st H H') : As H' st pa n := by
  obtain ⟨l, xs, h1, h2, h3, h4, h5, h6⟩ := h
  exact ⟨l, xs, x _ _ h5 h1, h2.monoB x, h3, h4, h5, h6⟩
theorem As.mono {H H' : Hp} {st : Sto} {pa : Addr} {n : Nat} (h : As H st pa n) (x : Ex H H') : As H' st pa n := h.monoB (x.but _)
/-- all small data stay -/
def Kp (st : Sto) (H H' : Hp) : Prop := ∀ (d : Dt) (v : V), d.sm 4480 → At st H d v → At st H' d v
theorem head_ref {m : Addr} {H : Hp} {l : List It} {xs : List V} (a : AtL m H (l.map It.d) xs) : ∀ y, xs.head? = some y → ∃ p, y = .ref p := by
  intro y hy
  cases l with
  | nil => rw [atl_nil_inv a] at hy; cases hy
  | cons i l =>
    obtain ⟨x, r, rfl, h1, _⟩ := atl_cons_inv a
    cases hy
    obtain ⟨p, _, rfl, _⟩ := at_tup_inv h1
    exact ⟨p, rfl⟩
theorem As.push {H H2 : Hp} {st : Sto} {pa : Addr} {n : Nat} {i : It} {v : V} {l : List It} {xs : List V} (hS : Store H st) (hp : H pa = some (.lst xs)) (a : AtL st H (l.map It.d) xs) (ok : ∀ i ∈ l, i.ok) (hn : l.length = n) (n1 : pa ≠ st.a) (n2 : pa ≠ st.sl)
    (av : At st H i.d v) (hi : i.ok) (x : ExB pa H H2) (h2 : H2 pa = some (.lst (xs ++ [v]))) : As H2 st pa (n + 1) ∧ Store H2 st ∧ Kp st H H2 := by
  have hS2 : Store H2 st := by
    obtain ⟨ns, i, c, m, t, g1, g2, g3⟩ := hS
    exact ⟨ns, i, c, m, t, x _ _ (Ne.symm n1) g1, x _ _ (Ne.symm n2) g2, g3⟩
  have hk : Kp st H H2 := by
    intro d w hd hw
    have b1 : At pa H d w := hw.other hp (head_ref a) hd
    have b2 : At pa H2 d w := b1.monoB x
    obtain ⟨ns, i, c, m, t, g1, _⟩ := hS2
    exact b2.other g1 (fun y hy => by cases hy; exact ⟨_, rfl⟩) hd
  refine ⟨⟨l ++ [i], xs ++ [v], h2, ?_, ?_, by simp [hn], n1, n2⟩, hS2, hk⟩
  · have b1 : AtL pa H (l.map It.d) xs := a.other hp (head_ref a) (its_sm ok)
    have b2 : AtL pa H2 (l.map It.d) xs := b1.monoB x
    obtain ⟨ns, i', c, m, t, g1, _⟩ := hS2
    have b3 : AtL st H2 (l.map It.d) xs := b2.other g1 (fun y hy => by cases hy; exact ⟨_, rfl⟩) (its_sm ok)
    rw [List.map_append]
    exact b3.append (.cons (hk _ _ (It.sm hi) av) .nil)
  · intro j hj
    rcases List.mem_append.mp hj with hj | hj
    · exact ok j hj
    · rw [List.mem_singleton.mp hj]; exact hi
theorem app_seq {st : Sto} {pa : Addr} {n : Nat} {te : TE} {t : TS} {D : Ends} {σ : Sg} {H : Hp} {i : It} (e2 : σ[2]? = some (some (.ref pa))) (hA : As H st pa n) (hS : Store H st) (hn : n < 1000) (hd : Dv st te σ H i.d) (hi : i.ok)
    (k : ∀ H', As H' st pa (n + 1) → Store H' st → Kp st H H' → t D σ H') : tSeq (tDrop (bApp (bVar 2) te)) t D σ H := by
  obtain ⟨l, xs, hp, a, ok, hl, n1, n2⟩ := hA
  unfold tSeq tDrop bApp bVar
  rw [e2]
  refine Get.mk _ hp (hd.run fun v H2 x2 av => ?_)
  refine Get.mk _ (x2 _ _ hp) ⟨?_, Put.mk fun H3 x3 h3 => ?_⟩
  · rw [a.len, List.length_map, hl]
    exact Nat.lt_of_lt_of_le hn (by decide)
  · obtain ⟨r1, r2, r3⟩ := As.push (hS.mono x2) (x2 _ _ hp) (a.mono x2) ok hl n1 n2 av hi x3 h3
    exact k H3 r1 r2 fun d w hd hw => r3 d w hd (hw.mono x2)
theorem dx_ix {m : Addr} {σ : Sg} {H : Hp} {te : TE} {ds : List Dt} {j : Nat} {d : Dt} (h : Dv m te σ H (.tup ds)) (e : ds[j]? = some d) : Dv m (tOp bIx te (tC (.int (j : Nat)))) σ H d := fun H1 x Q k =>
  h H1 x _ fun v H2 x2 a => by
    obtain ⟨p, xs, rfl, n, hp, l⟩ := at_tup_inv a
    obtain ⟨y, hy, ay⟩ := l.at e
    exact Get.mk _ hp (AtI.mk _ (atI_nat hy) (k y H2 x2 ay))
theorem add_i {i j : Int} {H : Hp} {Q : VK} (h : Q (.int (i + j)) H) : bAdd (.int i) (.int j) H Q := h
theorem app_one {st : Sto} {pa : Addr} {n : Nat} {te : TE} {D : Ends} {σ : Sg} {H : Hp} {i : It} (e2 : σ[2]? = some (some (.ref pa))) (hA : As H st pa n) (hS : Store H st) (hn : n < 1000) (hd : Dv st te σ H i.d) (hi : i.ok)
    (k : ∀ H', As H' st pa (n + 1) → Store H' st → Kp st H H' → D.nx σ H') : tDrop (bApp (bVar 2) te) D σ H :=
  app_seq (t := tNext) e2 hA hS hn hd hi k
theorem dx_mul {m : Addr} {σ : Sg} {H : Hp} {ta tb : TE} {i j : Int} (h1 : Dv m ta σ H (.int i)) (h2 : Dv m tb σ H (.int j)) (hc : CMulA i j) : Dv m (tOp bMul ta tb) σ H (.int (i * j)) := fun H1 x Q k =>
  h1 H1 x _ fun v H2 x2 a => h2 H2 (x.trans x2) _ fun w H3 x3 b => by
    cases a; cases b
    exact ⟨hc, k _ H3 (x2.trans x3) (.int _)⟩
/-- a fraction of the law's, at v -/
structure Fr (st : Sto) (H : Hp) (a b : Int) (v : V) : Prop where
  at_ : At st H (.tup [.int a, .int b]) v
  pos : 1 ≤ b
  ha : a.natAbs < 2 ^ 270
  hb : b.natAbs < 2 ^ 270
theorem Fr.z1 {st : Sto} {H : Hp} {a b : Int} {v : V} (h : Fr st H a b v) : a.natAbs < 2 ^ 4480 := sm_lt h.ha (by decide)
theorem Fr.z2 {st : Sto} {H : Hp} {a b : Int} {v : V} (h : Fr st H a b v) : b.natAbs < 2 ^ 4480 := sm_lt h.hb (by decide)
theorem Fr.sm {st : Sto} {H : Hp} {a b : Int} {v : V} (h : Fr st H a b v) : (Dt.tup [.int a, .int b]).sm 4480 := sm_two h.z1 h.z2
theorem Fr.kp {st : Sto} {H H' : Hp} {a b : Int} {v : V} (h : Fr st H a b v) (x : Kp st H H') : Fr st H' a b v := ⟨x _ _ h.sm h.at_, h.pos, h.ha, h.hb⟩
theorem Fr.monoB {st : Sto} {H H' : Hp} {a b : Int} {v : V} (h : Fr st H a b v) (x : ExB st H H') : Fr st H' a b v := ⟨h.at_.monoB x, h.pos, h.ha, h.hb⟩
theorem Fr.mono {st : Sto} {H H' : Hp} {a b : Int} {v : V} (h : Fr st H a b v) (x : Ex H H') : Fr st H' a b v := ⟨h.at_.mono x, h.pos, h.ha, h.hb⟩
theorem ok_w {w : Nat} {d1 d2 : Dt} (hw : w < 4) (h1 : d1.sm 4480) (h2 : d2.sm 4480) : (It.mk w d1 d2).ok := ⟨Nat.le_of_lt hw, h1, h2, fun z => absurd z (Nat.ne_of_lt hw)⟩
def P_law (A : Ad) : Sp := fun vs H Q _ => ∃ (a : Addr) (ns : List Int), vs = [.ref a] ∧ SqL A.K H a (ns.map .int) ∧ CF A ∧ ∀ H', Q (.bl true) H'
def b_law (A : Ad) (W : WX) : TS := tSeq (tAsg (bCall (P_l_store A) W (tCons (bVar 0) (tNil))) (gName 1)) (tSeq (tAsg (bLst (tNil)) (gName 2)) (tSeq (bForR (tC (.int 2)) (gName 3) (tSeq (tAsg (bCall (P_l_fraction A) W (tCons (bVar 1) (tCons (tC (.int 24)) (tNil)))) (gName 4)) (tSeq (tAsg (bCall (P_l_fraction A) W (tCons (bVar 1) (tCons (tC (.int 24)) (tNil)))) (gName 5)) (tSeq (tAsg (tOp bAdd (tC (.int 1)) (bCall (P_l_take A) W (tCons (bVar 1) (tCons (tC (.int 999)) (tNil))))) (gName 6)) (tSeq (tAsg (bTup (tCons (tOp bMul (tOp bIx (bVar 5) (tC (.int 0))) (bVar 6)) (tCons (tOp bMul (tOp bIx (bVar 5) (tC (.int 1))) (bVar 6)) (tNil)))) (gName 7)) (tSeq (bForR (tC (.int 4)) (gName 8) (tSeq (tDrop (bApp (bVar 2) (bTup (tCons (bVar 8) (tCons (bTup (tCons (bVar 4) (tCons (bVar 5) (tNil)))) (tNil)))))) (tDrop (bApp (bVar 2) (bTup (tCons (bVar 8) (tCons (bTup (tCons (bVar 4) (tCons (bVar 7) (tNil)))) (tNil)))))))) (tSeq (tDrop (bApp (bVar 2) (bTup (tCons (tC (.int 0)) (tCons (bTup (tCons (bVar 4) (tCons (bTup (tCons (tOp bSub (tC (.int 0)) (tOp bIx (bVar 4) (tC (.int 0)))) (tCons (tOp bIx (bVar 4) (tC (.int 1))) (tNil)))) (tNil)))) (tNil)))))) (tSeq (tDrop (bApp (bVar 2) (bTup (tCons (tC (.int 3)) (tCons (bTup (tCons (bVar 5) (tCons (bVar 4) (tNil)))) (tNil)))))) (tSeq (tAsg (bCall (P_l_near A) W (tCons (bVar 1) (tCons (tC (.int 0)) (tCons (tC (.int 64)) (tNil))))) (gName 9)) (tSeq (tAsg (bCall (P_l_base A) W (tCons (bVar 1) (tCons (bVar 9) (tNil)))) (gName 10)) (tSeq (tDrop (bApp (bVar 2) (bTup (tCons (tC (.int 4)) (tCons (bTup (tCons (bVar 10) (tCons (bVar 9) (tNil)))) (tNil)))))) (tSeq (tAsg (bCall (P_l_beside A) W (tCons (bVar 1) (tCons (bVar 4) (tNil)))) (gName 11)) (tSeq (tDrop (bApp (bVar 2) (bTup (tCons (bCall (P_l_take A) W (tCons (bVar 1) (tCons (tC (.int 4)) (tNil)))) (tCons (bTup (tCons (bVar 11) (tCons (bCall (P_l_beside A) W (tCons (bVar 1) (tCons (bVar 5) (tNil)))) (tNil)))) (tNil)))))) (tSeq (bIf (bTst (tOp (bEq A.K) (bCall (P_l_take A) W (tCons (bVar 1) (tCons (tC (.int 2)) (tNil)))) (tC (.int 0)))) (tAsg (bCall (P_l_odd_number A) W (tCons (bVar 1) (tCons (tC (.int 0)) (tCons (tC (.int 64)) (tNil))))) (gName 9)) (tNext)) (tSeq (bIf (bTst (tOp (bEq A.K) (bCall (P_l_take A) W (tCons (bVar 1) (tCons (tC (.int 2)) (tNil)))) (tC (.int 0)))) (tAsg (bCall (P_l_odd_fraction A) W (tCons (bVar 1) (tNil))) (gName 10)) (tNext)) (tSeq (bIf (bAnd (bTst (tOp (bEq A.K) (bCall (P_l_fraction_fault A) W (tCons (bVar 10) (tNil))) (tC (.str "")))) (bTst (tOp (bEq A.K) (bCall (P_l_number_fault A) W (tCons (bVar 9) (tCons (tC (.int 0)) (tCons (tC (.int 64)) (tNil))))) (tC (.str ""))))) (tAsg (bMin (bVar 9) (tC (.int 2))) (gName 9)) (tNext)) (tDrop (bApp (bVar 2) (bTup (tCons (tC (.int 4)) (tCons (bTup (tCons (bVar 10) (tCons (bVar 9) (tNil)))) (tNil)))))))))))))))))))))) (tSeq (bForA (tOp bAdd (bVar 2) (bLRev (bList (bVar 2)))) (gName 12) (bIf (tNot (bTru (bCall (P_l_holds A) W (tCons (tOp bIx (bVar 12) (tC (.int 0))) (tCons (tOp bIx (bVar 12) (tC (.int 1))) (tNil)))))) (tRet (tC (.bl false))) (tNext))) (tSeq (tAsg (bCall (P_ratio_sum A) W (tCons (bVar 4) (tCons (bVar 5) (tNil)))) (gName 13)) (tSeq (bIf (bOr (tNot (bTru (bCall (P_l_holds A) W (tCons (tC (.int 1)) (tCons (bTup (tCons (bVar 13) (tCons (bVar 5) (tNil)))) (tNil)))))) (tNot (bTru (bCall (P_l_holds A) W (tCons (tC (.int 0)) (tCons (bTup (tCons (bVar 4) (tCons (bVar 13) (tNil)))) (tNil))))))) (tRet (tC (.bl false))) (tNext)) (tSeq (tAsg (bCall (P_ratio_product A) W (tCons (bVar 4) (tCons (bVar 5) (tNil)))) (gName 13)) (tSeq (bIf (bOr (tNot (bTru (bCall (P_l_holds A) W (tCons (tC (.int 3)) (tCons (bTup (tCons (bVar 13) (tCons (bVar 5) (tNil)))) (tNil)))))) (tNot (bTru (bCall (P_l_holds A) W (tCons (tC (.int 3)) (tCons (bTup (tCons (bVar 5) (tCons (bVar 13) (tNil)))) (tNil))))))) (tRet (tC (.bl false))) (tNext)) (tRet (bOrV (tOp (bGt) (bCall (P_l_take A) W (tCons (bVar 1) (tCons (tC (.int 3)) (tNil)))) (tC (.int 0))) (bCall (P_l_great A) W (tCons (bVar 1) (tCons (bVar 5) (tNil)))))))))))))
local macro_rules | `(tactic| walk_at "dv") => `(tactic| repeat first
  | exact dx_int _ | exact dx_str _ | exact dx_bl _ | exact dx_non | exact dx_neg _ | exact dx_vi rfl | exact dx_var rfl (by assumption) | exact dx_var rfl (Fr.at_ (by assumption))
  | exact dx_ix (j := 0) (dx_var rfl (Fr.at_ (by assumption))) rfl | exact dx_ix (j := 1) (dx_var rfl (Fr.at_ (by assumption))) rfl | exact dxa_nil | refine dxa_cons ?_ ?_ | refine dx_tup (by assumption) ?_ | refine dx_lst (by assumption) ?_ | exact dx_dct (by assumption) | exact dx_pow (by unfold CPow; decide) (by decide) | refine dx_add ?_ ?_ | refine dx_sub ?_ ?_)
theorem Kp.of {st : Sto} {H H' : Hp} (x : ExB st H H') : Kp st H H' := fun _ _ _ h => h.monoB x
theorem Kp.trans {st : Sto} {H H1 H' : Hp} (x : Kp st H H1) (y : Kp st H1 H') : Kp st H H' := fun d v hd h => y d v hd (x d v hd h)
theorem num_no {d : Dt} {lo hi : Option Int} {k : Fk} (h : numF d lo hi = some k) : numF d lo hi ≠ none := by rw [h]; intro z; cases z
theorem pw_no {d1 d2 : Dt} (h : ¬ (fracF d1 = none ∧ numF d2 (some 0) (some 64) = none)) : Pw d1 d2 := by
  rintro a b e rfl rfl hb h0 h1
  exact absurd ⟨frac_none hb, numF_ok (by intro l e; cases e; omega) (by intro l e; cases e; omega)⟩ h
theorem law_fin {A : Ad} {E : XK} {st : Sto} {pa : Addr} {n : Nat} {D : Ends} {H : Hp} {o0 o3 o4 o5 o6 o7 o8 o11 : Option V} {v9 v10 : V} {d9 d10 : Dt} (hA : As H st pa n) (hS : Store H st) (hn : n < 1000) (A9 : At st H d9 v9) (A10 : At st H d10 v10) (m9 : d9.sm 140) (m10 : d10.sm 140)
    (K : ∀ H' v9', As H' st pa (n + 1) → Store H' st → Kp st H H' → D.nx [o0, some (.ref st), some (.ref pa), o3, o4, o5, o6, o7, o8, some v9', some v10, o11, none, none] H') :
    (tSeq (bIf (bAnd (bTst (tOp (bEq A.K) (bCall (P_l_fraction_fault A) (wE E) (tCons (bVar 10) (tNil))) (tC (.str "")))) (bTst (tOp (bEq A.K) (bCall (P_l_number_fault A) (wE E) (tCons (bVar 9) (tCons (tC (.int 0)) (tCons (tC (.int 64)) (tNil))))) (tC (.str ""))))) (tAsg (bMin (bVar 9) (tC (.int 2))) (gName 9)) (tNext)) (tDrop (bApp (bVar 2) (bTup (tCons (tC (.int 4)) (tCons (bTup (tCons (bVar 10) (tCons (bVar 9) (tNil)))) (tNil)))))))
      D [o0, some (.ref st), some (.ref pa), o3, o4, o5, o6, o7, o8, some v9, some v10, o11, none, none] H := by
  have hm := hS.some
  have other : ¬ (fracF d10 = none ∧ numF d9 (some 0) (some 64) = none) → tDrop (bApp (bVar 2) (bTup (tCons (tC (.int 4)) (tCons (bTup (tCons (bVar 10) (tCons (bVar 9) (tNil)))) (tNil))))) D [o0, some (.ref st), some (.ref pa), o3, o4, o5, o6, o7, o8, some v9, some v10, o11, none, none] H := by
    intro h
    exact app_one (i := ⟨4, d10, d9⟩) rfl hA hS hn (by unfold It.d; walk_at "dv") ⟨Nat.le_refl _, Dt.sm_mono (by decide) m10, Dt.sm_mono (by decide) m9, fun _ => pw_no h⟩ fun H' a b c => K H' v9 a b c
  refine ⟨st, d10, v10, rfl, A10, ?_⟩
  walk_at "br"
  · rename_i hb1
    rw [fs_none] at hb1
    refine ⟨st, d9, v9, some 0, some 64, rfl, A9, ?_⟩
    walk_at "br"
    · rename_i hb2
      rw [fs_none] at hb2
      obtain ⟨e, rfl⟩ := num_int hb2
      obtain ⟨e0, e1⟩ := num_064 hb2
      cases A9
      refine app_one (i := ⟨4, d10, .int (min e 2)⟩) rfl hA hS hn (by unfold It.d; walk_at "dv") ⟨Nat.le_refl _, Dt.sm_mono (by decide) m10, ?_, fun _ => ?_⟩ fun H' a b c => K H' _ a b c
      · simp only [Dt.sm]
        exact sm_lt (j := 10) (by omega) (by decide)
      · rintro a b e' rfl h2 hb _ _
        cases h2
        obtain ⟨z1, z2⟩ := sm_pair m10
        exact ⟨140, z1, z2, by omega⟩
    · rename_i hb2
      rw [fs_none] at hb2
      exact other fun z => hb2 z.2
  · rename_i hb1
    rw [fs_none] at hb1
    walk_at "br"
    exact other fun z => hb1 z.1
theorem law_mid {A : Ad} {E : XK} {st : Sto} {pa : Addr} {n : Nat} {D : Ends} {H : Hp} {o0 o3 o4 o5 o6 o7 o8 o11 : Option V} {v9 v10 : V} {d9 d10 : Dt} (hA : As H st pa n) (hS : Store H st) (hn : n < 1000) (A9 : At st H d9 v9) (A10 : At st H d10 v10) (m9 : d9.sm 140) (m10 : d10.sm 140)
    (K : ∀ H' v9' v10', As H' st pa (n + 1) → Store H' st → Kp st H H' → D.nx [o0, some (.ref st), some (.ref pa), o3, o4, o5, o6, o7, o8, some v9', some v10', o11, none, none] H') :
    (tSeq (bIf (bTst (tOp (bEq A.K) (bCall (P_l_take A) (wE E) (tCons (bVar 1) (tCons (tC (.int 2)) (tNil)))) (tC (.int 0)))) (tAsg (bCall (P_l_odd_fraction A) (wE E) (tCons (bVar 1) (tNil))) (gName 10)) (tNext)) (tSeq (bIf (bAnd (bTst (tOp (bEq A.K) (bCall (P_l_fraction_fault A) (wE E) (tCons (bVar 10) (tNil))) (tC (.str "")))) (bTst (tOp (bEq A.K) (bCall (P_l_number_fault A) (wE E) (tCons (bVar 9) (tCons (tC (.int 0)) (tCons (tC (.int 64)) (tNil))))) (tC (.str ""))))) (tAsg (bMin (bVar 9) (tC (.int 2))) (gName 9)) (tNext)) (tDrop (bApp (bVar 2) (bTup (tCons (tC (.int 4)) (tCons (bTup (tCons (bVar 10) (tCons (bVar 9) (tNil)))) (tNil))))))))
      D [o0, some (.ref st), some (.ref pa), o3, o4, o5, o6, o7, o8, some v9, some v10, o11, none, none] H := by
  refine ⟨st, 2, rfl, hS, Sz.small (by decide), fun r H1 x1 s1 r0 r1 => ?_⟩
  walk_at "br"
  · refine ⟨st, rfl, s1, fun dF vF H2 x2 s2 aF mF => ?_⟩
    exact law_fin ((hA.monoB x1).monoB x2) s2 hn ((A9.monoB x1).monoB x2) aF m9 mF.1 fun H' v a b c => K H' v _ a b ((Kp.of (x1.trans x2)).trans c)
  · exact law_fin (hA.monoB x1) s1 hn (A9.monoB x1) (A10.monoB x1) m9 m10 fun H' v a b c => K H' v _ a b ((Kp.of x1).trans c)
theorem law_top {A : Ad} {E : XK} {st : Sto} {pa : Addr} {n : Nat} {D : Ends} {H : Hp} {o0 o3 o4 o5 o6 o7 o8 o11 : Option V} {v9 v10 : V} {d9 d10 : Dt} (hA : As H st pa n) (hS : Store H st) (hn : n < 1000) (A9 : At st H d9 v9) (A10 : At st H d10 v10) (m9 : d9.sm 140) (m10 : d10.sm 140)
    (K : ∀ H' v9' v10', As H' st pa (n + 1) → Store H' st → Kp st H H' → D.nx [o0, some (.ref st), some (.ref pa), o3, o4, o5, o6, o7, o8, some v9', some v10', o11, none, none] H') :
    (tSeq (bIf (bTst (tOp (bEq A.K) (bCall (P_l_take A) (wE E) (tCons (bVar 1) (tCons (tC (.int 2)) (tNil)))) (tC (.int 0)))) (tAsg (bCall (P_l_odd_number A) (wE E) (tCons (bVar 1) (tCons (tC (.int 0)) (tCons (tC (.int 64)) (tNil))))) (gName 9)) (tNext)) (tSeq (bIf (bTst (tOp (bEq A.K) (bCall (P_l_take A) (wE E) (tCons (bVar 1) (tCons (tC (.int 2)) (tNil)))) (tC (.int 0)))) (tAsg (bCall (P_l_odd_fraction A) (wE E) (tCons (bVar 1) (tNil))) (gName 10)) (tNext)) (tSeq (bIf (bAnd (bTst (tOp (bEq A.K) (bCall (P_l_fraction_fault A) (wE E) (tCons (bVar 10) (tNil))) (tC (.str "")))) (bTst (tOp (bEq A.K) (bCall (P_l_number_fault A) (wE E) (tCons (bVar 9) (tCons (tC (.int 0)) (tCons (tC (.int 64)) (tNil))))) (tC (.str ""))))) (tAsg (bMin (bVar 9) (tC (.int 2))) (gName 9)) (tNext)) (tDrop (bApp (bVar 2) (bTup (tCons (tC (.int 4)) (tCons (bTup (tCons (bVar 10) (tCons (bVar 9) (tNil)))) (tNil)))))))))
      D [o0, some (.ref st), some (.ref pa), o3, o4, o5, o6, o7, o8, some v9, some v10, o11, none, none] H := by
  refine ⟨st, 2, rfl, hS, Sz.small (by decide), fun r H1 x1 s1 r0 r1 => ?_⟩
  walk_at "br"
  · refine ⟨st, some 0, some 64, rfl, s1, (by intro l e; cases e; decide), (by intro l e; cases e; decide), fun dF vF H2 x2 s2 aF mF => ?_⟩
    exact law_mid ((hA.monoB x1).monoB x2) s2 hn aF ((A10.monoB x1).monoB x2) mF.1 m10 fun H' v w a b c => K H' v w a b ((Kp.of (x1.trans x2)).trans c)
  · exact law_mid (hA.monoB x1) s1 hn (A9.monoB x1) (A10.monoB x1) m9 m10 fun H' v w a b c => K H' v w a b ((Kp.of x1).trans c)
theorem dx_list {m : Addr} {σ : Sg} {H : Hp} {te : TE} {ds : List Dt} (hm : H m ≠ none) (h : Dv m te σ H (.lst ds)) : Dv m (bList te) σ H (.lst ds) := fun H1 x Q k =>
  h H1 x _ fun v H2 x2 a => by
    obtain ⟨p, xs, rfl, n, hp, l⟩ := at_lst_inv a
    exact Get.mk _ hp (Alloc.mk fun q H3 x3 n3 h3 => k _ H3 (x2.trans x3) (at_lst (fun z => hm ((x.trans x2).fresh (z ▸ n3))) h3 (l.mono x3)))
theorem dx_lrev {m : Addr} {σ : Sg} {H : Hp} {te : TE} {ds : List Dt} (hm : H m ≠ none) (h : Dv m te σ H (.lst ds)) : Dv m (bLRev te) σ H (.lst ds.reverse) := fun H1 x Q k =>
  h H1 x _ fun v H2 x2 a => by
    obtain ⟨p, xs, rfl, n, hp, l⟩ := at_lst_inv a
    exact Get.mk _ hp (Alloc.mk fun q H3 x3 n3 h3 => k _ H3 (x2.trans x3) (at_lst (fun z => hm ((x.trans x2).fresh (z ▸ n3))) h3 (l.rev.mono x3)))
theorem addk {a b : Int} {k : Nat} (h1 : a.natAbs < 2 ^ k) (h2 : b.natAbs < 2 ^ k) : (a + b).natAbs < 2 ^ (k + 1) := by
  have := Int.natAbs_add_le a b
  rw [pow2s]
  omega
theorem nxt2 {D : Ends} {t : TS} {σ : Sg} {H : Hp} (h : t D σ H) : t D σ H := h
theorem r_law (A : Ad) : ∀ vs H Q E, P_law A vs H Q E → vs.length = 1 ∧ b_law A (wE E) (dE Q) (start ["script", "store", "asked", "k", "one", "two", "many", "above", "which", "raised", "small", "bent", "item", "total"] vs) H := by
  rintro vs H Q E ⟨a, ns, rfl, hq, F, k⟩
  refine ⟨rfl, ?_⟩
  refine ⟨a, ns, rfl, hq, fun st H1 x1 n1 s1 => ?_⟩
  walk_at "go"
  rename_i pa H2 x2 n2 h2
  have s2 := s1.mono x2
  have npa : pa ≠ st.a := s1.ne n2
  have npl : pa ≠ st.sl := by
    obtain ⟨ns', i, c, m, t, g1, g2, _⟩ := s1
    exact Ne.symm (ne_of_none g2 n2)
  have A0 : As H2 st pa 0 := ⟨[], [], h2, .nil, by simp, rfl, npa, npl⟩
  refine LoopR.mk (fun i σ H' => ∃ o3 o4 o5 o6 o7 o8 o9 o10 o11, σ = [some (.ref a), some (.ref st), some (.ref pa), o3, o4, o5, o6, o7, o8, o9, o10, o11, none, none] ∧ As H' st pa (13 * i) ∧ Store H' st ∧
    (1 ≤ i → ∃ v1 v2 a1 b1 a2 b2, o4 = some v1 ∧ o5 = some v2 ∧ Fr st H' a1 b1 v1 ∧ Fr st H' a2 b2 v2)) ⟨_, _, _, _, _, _, _, _, _, rfl, A0, s2, fun z => absurd z (by decide)⟩ ?_ ?_
  · rintro i σ H3 hi ⟨o3, o4, o5, o6, o7, o8, o9, o10, o11, rfl, A3, s3, _⟩
    have hi : i < 2 := hi
    clear A0 s2 h2 x2 n2 s1 n1 x1 hq k npa npl
    refine gn ?_
    try dsimp only
    refine ⟨st, 24, rfl, s3, by decide, by decide, fun a1 b1 v1 H4 x4 s4 A1 q1 z1 y1 => ?_⟩
    replace A3 := A3.monoB x4
    have F1 : Fr st H4 a1 b1 v1 := ⟨A1, q1, z1, y1⟩
    refine gn ?_
    try dsimp only
    refine ⟨st, 24, rfl, s4, by decide, by decide, fun a2 b2 v2 H5 x5 s5 A2 q2 z2 y2 => ?_⟩
    replace A3 := A3.monoB x5
    replace F1 := F1.monoB x5
    have F2 : Fr st H5 a2 b2 v2 := ⟨A2, q2, z2, y2⟩
    clear A1 A2 s3 s4 x4 x5
    refine gn ?_
    try dsimp only
    refine ⟨st, 999, rfl, s5, Sz.small (by decide), fun r6 H6 x6 s6 r60 r61 => ?_⟩
    replace A3 := A3.monoB x6
    replace F1 := F1.monoB x6
    replace F2 := F2.monoB x6
    clear x6 s5
    refine add_i ?_
    refine gn ?_
    try dsimp only
    have hm := s6.some
    refine asg_dv (m := st) (d := .tup [.int (a2 * (1 + r6)), .int (b2 * (1 + r6))]) (dx_tup hm (dxa_cons (dx_mul (dx_ix (j := 0) (dx_var rfl F2.at_) rfl) (dx_vi rfl) (mulR (by omega) (by omega))) (dxa_cons (dx_mul (dx_ix (j := 1) (dx_var rfl F2.at_) rfl) (dx_vi rfl) (mulR (by omega) (by omega))) dxa_nil))) fun v7 H7 x7 A7 => ?_
    replace A3 := A3.mono x7
    replace F1 := F1.mono x7
    replace F2 := F2.mono x7
    have s7 := s6.mono x7
    have m7 : (Dt.tup [.int (a2 * (1 + r6)), .int (b2 * (1 + r6))]).sm 4480 := sm_two (mul_lt2 F2.ha (lt10 (k := 10) (by omega) (by decide)) (by decide)) (mul_lt2 F2.hb (lt10 (k := 10) (by omega) (by decide)) (by decide))
    clear x7 s6 hm
    refine gn ?_
    try dsimp only
    refine ⟨⟨by decide, by decide⟩, ?_⟩
    refine LoopR.mk (fun j σ H' => ∃ o8, σ = [some (.ref a), some (.ref st), some (.ref pa), some (.int (0 + i)), some v1, some v2, some (.int (1 + r6)), some v7, o8, o9, o10, o11, none, none] ∧ As H' st pa (13 * i + 2 * j) ∧ Store H' st ∧ Fr st H' a1 b1 v1 ∧ Fr st H' a2 b2 v2 ∧ At st H' (.tup [.int (a2 * (1 + r6)), .int (b2 * (1 + r6))]) v7) ⟨_, rfl, A3, s7, F1, F2, A7⟩ ?_ ?_
    · rintro j σ H8 hj ⟨o8, rfl, A8, s8, F1, F2, A7⟩
      have hj : j < 4 := hj
      have ej : (0 : Int) + (j : Int) = ((j : Nat) : Int) := Int.zero_add _
      rw [ej]
      refine gn ?_
      try dsimp only
      have hm := s8.some
      refine app_seq (i := ⟨j, .tup [.int a1, .int b1], .tup [.int a2, .int b2]⟩) rfl A8 s8 (by omega) (by unfold It.d; walk_at "dv") (ok_w hj F1.sm F2.sm) fun H9 A9 s9 k9 => ?_
      replace F1 := F1.kp k9
      replace F2 := F2.kp k9
      replace A7 := k9 _ _ m7 A7
      have hm := s9.some
      refine app_one (i := ⟨j, .tup [.int a1, .int b1], .tup [.int (a2 * (1 + r6)), .int (b2 * (1 + r6))]⟩) rfl A9 s9 (by omega) (by unfold It.d; walk_at "dv") (ok_w hj F1.sm m7) fun H10 A10 s10 k10 => ?_
      exact ⟨_, rfl, A10, s10, F1.kp k10, F2.kp k10, k10 _ _ m7 A7⟩
    rintro σ H8 ⟨o8, rfl, A8, s8, F1, F2, A7⟩
    clear A7 m7 A3 s7
    have hm := s8.some
    try dsimp only
    refine nxt2 ?_
    try dsimp only
    refine app_seq (i := ⟨0, .tup [.int a1, .int b1], .tup [.int (0 - a1), .int b1]⟩) rfl A8 s8 (by show 13 * i + 2 * 4 < 1000; omega) (by unfold It.d; walk_at "dv") (ok_w (by decide) F1.sm (sm_two (by have := F1.z1; omega) F1.z2)) fun H9 A9 s9 k9 => ?_
    replace F1 := F1.kp k9
    replace F2 := F2.kp k9
    clear k9 A8 s8
    have hm := s9.some
    refine app_seq (i := ⟨3, .tup [.int a2, .int b2], .tup [.int a1, .int b1]⟩) rfl A9 s9 (by show 13 * i + 2 * 4 + 1 < 1000; omega) (by unfold It.d; walk_at "dv") (ok_w (by decide) F2.sm F1.sm) fun H10 A10 s10 k10 => ?_
    replace F1 := F1.kp k10
    replace F2 := F2.kp k10
    clear k10 A9 s9 hm
    refine ⟨st, 0, 64, rfl, s10, by decide, Sz.small (by decide), fun e H11 x11 s11 e0 e1 => ?_⟩
    replace A10 := A10.monoB x11
    replace F1 := F1.monoB x11
    replace F2 := F2.monoB x11
    refine gn ?_
    try dsimp only
    refine ⟨st, e, rfl, s11, e0, e1, fun c1 c2 w H12 x12 s12 B1 d1 y3 y4 => ?_⟩
    replace A10 := A10.monoB x12
    replace F1 := F1.monoB x12
    replace F2 := F2.monoB x12
    clear x11 x12 s10 s11
    refine gn ?_
    try dsimp only
    have hm := s12.some
    have mw : (Dt.tup [.int c1, .int c2]).sm 4480 := sm_two (sm_lt y3 (by decide)) (sm_lt y4 (by decide))
    have me : (Dt.int e).sm 4480 := by
      simp only [Dt.sm]
      exact sm_lt (j := 10) (by omega) (by decide)
    refine app_seq (i := ⟨4, .tup [.int c1, .int c2], .int e⟩) rfl A10 s12 (by show 13 * i + 2 * 4 + 1 + 1 < 1000; omega) (by unfold It.d; walk_at "dv") ⟨Nat.le_refl _, mw, me, fun _ => by
      intro a' b' e' h1 h2 _ _ _
      cases h1; cases h2
      exact ⟨68, y3, y4, by omega⟩⟩ fun H13 A13 s13 k13 => ?_
    replace F1 := F1.kp k13
    replace F2 := F2.kp k13
    have B1 := k13 _ _ mw B1
    clear k13 hm s12 A10
    refine ⟨st, _, v1, rfl, s13, F1.at_, sm_two F1.ha F1.hb, fun dB vB H14 x14 s14 BB mB => ?_⟩
    replace A13 := A13.monoB x14
    replace F1 := F1.monoB x14
    replace F2 := F2.monoB x14
    replace B1 := B1.monoB x14
    clear x14 s13
    refine gn ?_
    try dsimp only
    obtain ⟨l, xs, hp, al, ok, hl, n1, n2⟩ := A13
    refine Get.mk _ hp ?_
    refine ⟨st, 4, rfl, s14, Sz.small (by decide), fun r H15 x15 s15 r0 r1 => ?_⟩
    have BB := BB.monoB x15
    refine ⟨st, _, v2, rfl, s15, (F2.monoB x15).at_, sm_two F2.ha F2.hb, fun dC vC H16 x16 s16 BC mC => ?_⟩
    have BB := BB.monoB x16
    refine Alloc.mk fun p1 H17 x17 n17 h17 => ?_
    refine Alloc.mk fun p2 H18 x18 n18 h18 => ?_
    have x418 : ExB st H14 H18 := x15.trans (x16.trans ((x17.trans x18).but st))
    have s18 := (s16.mono x17).mono x18
    have hp2 := x418 _ _ n1 hp
    refine Get.mk _ hp2 ⟨?_, Put.mk fun H19 x19 h19 => ?_⟩
    · rw [al.len, List.length_map, hl]
      exact Nat.lt_of_lt_of_le (by omega : 13 * i + 2 * 4 + 1 + 1 + 1 < 1000) (by decide)
    have er : ((r.toNat : Nat) : Int) = r := by omega
    have iw : r.toNat < 4 := by omega
    have ai : At st H18 (It.mk r.toNat dB dC).d (.ref p2) := by
      unfold It.d
      refine .tup ((s16.mono x17).ne n18) h18 (.cons ?_ (.cons (.tup (s16.ne n17) (x18 _ _ h17) (.cons ((BB.mono x17).mono x18) (.cons ((BC.mono x17).mono x18) .nil))) .nil))
      rw [er]
      exact .int r
    obtain ⟨A19, s19, k19⟩ := As.push s18 hp2 (al.monoB x418) ok hl n1 n2 ai (ok_w iw (Dt.sm_mono (by decide) mB) (Dt.sm_mono (by decide) mC)) x19 h19
    replace F1 := (F1.monoB x418).kp k19
    replace F2 := (F2.monoB x418).kp k19
    have B1 := k19 _ _ mw (B1.monoB x418)
    refine law_top (o0 := some (.ref a)) (o3 := some (.int (0 + i))) (o4 := some v1) (o5 := some v2) (o6 := some (.int (1 + r6))) (o7 := some v7) (o8 := o8) (o11 := some vB) A19 s19 (by omega) (.int e) B1 ?_ (sm_two (sm_lt y3 (by decide)) (sm_lt y4 (by decide))) fun H' v9 v10 a1' a2' a3' => ?_
    · simp only [Dt.sm]
      exact sm_lt (j := 10) (by omega) (by decide)
    · refine ⟨_, _, _, _, _, _, _, _, _, rfl, ?_, a2', fun _ => ⟨v1, v2, a1, b1, a2, b2, rfl, rfl, F1.kp a3', F2.kp a3'⟩⟩
      have en : 13 * (i + 1) = 13 * i + 2 * 4 + 1 + 1 + 1 + 1 + 1 := by omega
      rw [en]
      exact a1'
  · rintro σ H3 ⟨o3, o4, o5, o6, o7, o8, o9, o10, o11, rfl, A3, s3, hf⟩
    obtain ⟨v1, v2, a1, b1, a2, b2, rfl, rfl, F1, F2⟩ := hf (by decide)
    obtain ⟨l, xs, hp, al, ok, hl, m1, m2⟩ := A3
    have hl : l.length = 26 := hl
    have hm := s3.some
    have apa : At st H3 (.lst (l.map It.d)) (.ref pa) := .lst m1 hp al
    try dsimp only
    refine nxt2 ?_
    try dsimp only
    refine for_dv (m := st) (dx_lsts hm (dx_var rfl apa) (dx_lrev hm (dx_list hm (dx_var rfl apa))) (by simp [hl])) fun p ys H4 x4 g4 n4 l4 => ?_
    rw [← List.map_reverse, ← List.map_append] at l4
    have hok : ∀ it ∈ l ++ l.reverse, it.ok := by
      intro it h
      rcases List.mem_append.mp h with h | h
      · exact ok it h
      · exact ok it (List.mem_reverse.mp h)
    generalize l ++ l.reverse = L at l4 hok
    have s4 := s3.mono x4
    replace F1 := F1.mono x4
    replace F2 := F2.mono x4
    clear apa x4 hl al ok hp s3 hf hm
    refine LoopL.mk (fun i σ H' => Ex H4 H' ∧ ∃ o12, σ = [some (.ref a), some (.ref st), some (.ref pa), o3, some v1, some v2, o6, o7, o8, o9, o10, o11, o12, none]) ⟨Ex.refl _, none, rfl⟩ ?_ ?_ ?_
    · rintro i σ H' _ ⟨x, _⟩
      exact .inl (x _ _ g4)
    · rintro i z σ H' hx ⟨x14, o, rfl⟩
      obtain ⟨dd, hdd, hat⟩ := l4.get hx
      rw [List.getElem?_map] at hdd
      cases e : L[i]? with
      | none => rw [e] at hdd; cases hdd
      | some it =>
        rw [e] at hdd
        cases hdd
        obtain ⟨k1, k2, k3, k4⟩ := hok it (List.mem_of_getElem? e)
        obtain ⟨q, y1, y2, rfl, nq, hq, i1, i2⟩ := at_pair_inv (hat.mono x14)
        obtain rfl := at_int_inv i1
        walk_at "go"
        refine ⟨st, it.w, it.a, it.b, y2, rfl, k1, fun z => s4.some (x14.fresh z), i2, k2, k3, k4, F, fun H15 x15 => ?_⟩
        walk_at "br"
        exact ⟨x14.trans x15, _, rfl⟩
    rintro σ H5 ⟨x5, o12, rfl⟩
    have s5 := s4.mono x5
    replace F1 := F1.mono x5
    replace F2 := F2.mono x5
    clear s4 x5 g4 l4 hok
    have du0 : ∀ w, w < 3 → dueP w (.tup [.int a1, .int b1]) (.tup [.int a2, .int b2]) = none := fun w hw => due_0 (by omega) (frac_none F1.pos) (by rw [sec_i F2.pos, if_neg (by omega)])
    refine ⟨st, _, _, v1, v2, rfl, s5.some, F1.at_, F2.at_, F1.sm, F2.sm, (fun z => by cases z), (fun k n e => by rw [du0 0 (by decide)] at e; cases e), fun _ p q tv H6 x6 a6 R => ?_⟩
    obtain ⟨_, _, _, lp, lq⟩ := R
    have zp : p.natAbs < 2 ^ 4480 := Nat.lt_of_le_of_lt lp (sm_lt (addk (mul_lt2 (n := 540) F1.ha F2.hb (by decide)) (mul_lt2 (n := 540) F2.ha F1.hb (by decide))) (by decide))
    have zq : q.natAbs < 2 ^ 4480 := Nat.lt_of_le_of_lt lq (sm_lt (mul_lt2 (n := 540) F1.hb F2.hb (by decide)) (by decide))
    have s6 := s5.mono x6
    replace F1 := F1.mono x6
    replace F2 := F2.mono x6
    clear lp lq s5 x6
    walk_at "go"
    rename_i p7 H7 x7 n7 g7
    obtain ⟨k1, k2, k3, k4⟩ := ok_q (w := 1) (by decide) zp zq F2.z1 F2.z2
    refine ⟨st, 1, _, _, _, rfl, k1, (s6.mono x7).some, .tup (s6.ne n7) g7 (.cons (a6.mono x7) (.cons (F2.at_.mono x7) .nil)), k2, k3, k4, F, fun H8 x8 => ?_⟩
    walk_at "br"
    walk_at "go"
    rename_i p9 H9 x9 n9 g9
    have x78 := x7.trans x8
    have s8 := s6.mono x78
    obtain ⟨k1, k2, k3, k4⟩ := ok_q (w := 0) (by decide) F1.z1 F1.z2 zp zq
    refine ⟨st, 0, _, _, _, rfl, k1, (s8.mono x9).some, .tup (s8.ne n9) g9 (.cons ((F1.at_.mono x78).mono x9) (.cons ((a6.mono x78).mono x9) .nil)), k2, k3, k4, F, fun H10 x10 => ?_⟩
    walk_at "br"
    have x70 := (x78.trans x9).trans x10
    have s10 := s6.mono x70
    replace F1 := F1.mono x70
    replace F2 := F2.mono x70
    clear x7 x8 x9 x10 x78 x70 s6 s8 a6 g7 g9 zp zq k1 k2 k3 k4
    refine ⟨st, _, _, v1, v2, rfl, s10.some, F1.at_, F2.at_, F1.sm, F2.sm, (fun z => by cases z), (fun k n e => by rw [du0 2 (by decide)] at e; cases e), fun _ p' q' tv' H6 x6 a6 R => ?_⟩
    obtain ⟨_, _, _, lp, lq⟩ := R
    have zp : p'.natAbs < 2 ^ 4480 := Nat.lt_of_le_of_lt lp (sm_lt (mul_lt2 (n := 540) F1.ha F2.ha (by decide)) (by decide))
    have zq : q'.natAbs < 2 ^ 4480 := Nat.lt_of_le_of_lt lq (sm_lt (mul_lt2 (n := 540) F1.hb F2.hb (by decide)) (by decide))
    have s6 := s10.mono x6
    replace F1 := F1.mono x6
    replace F2 := F2.mono x6
    clear lp lq s10 x6
    walk_at "go"
    rename_i p7 H7 x7 n7 g7
    obtain ⟨k1, k2, k3, k4⟩ := ok_q (w := 3) (by decide) zp zq F2.z1 F2.z2
    refine ⟨st, 3, _, _, _, rfl, k1, (s6.mono x7).some, .tup (s6.ne n7) g7 (.cons (a6.mono x7) (.cons (F2.at_.mono x7) .nil)), k2, k3, k4, F, fun H8 x8 => ?_⟩
    walk_at "br"
    walk_at "go"
    rename_i p9 H9 x9 n9 g9
    have x78 := x7.trans x8
    have s8 := s6.mono x78
    obtain ⟨k1, k2, k3, k4⟩ := ok_q (w := 3) (by decide) F2.z1 F2.z2 zp zq
    refine ⟨st, 3, _, _, _, rfl, k1, (s8.mono x9).some, .tup (s8.ne n9) g9 (.cons ((F2.at_.mono x78).mono x9) (.cons ((a6.mono x78).mono x9) .nil)), k2, k3, k4, F, fun H10 x10 => ?_⟩
    walk_at "br"
    have x70 := (x78.trans x9).trans x10
    have s10 := s6.mono x70
    replace F2 := F2.mono x70
    refine ⟨st, 3, rfl, s10, Sz.small (by decide), fun r H11 x11 s11 r0 r1 => ?_⟩
    walk_at "br"
    · exact k _
    · exact ⟨st, a2, b2, v2, rfl, s11, F2.at_.monoB x11, F2.pos, F2.ha, F2.hb, F, fun H' _ _ => k H'⟩
def top (i : Nat) : Stmt := PySem.Challenge.pw_bitshades_k01_sums_and_products_of_fract.main.body.getD i (.Pass ⟨0, 0, 0, 0⟩)
structure ExN (mg : Str → Option Value) (x : Str) (C : Addr) : Prop where
  at_ : mg x = some (.ref C)
/-- what the module's names stand for -/
structure Tx (P : Program) (w : World) (mg : Str → Option Value) (base : Heap) (A : Ad) : Prop where
  b_ValueError : mg "ValueError" = none
  b_abs : mg "abs" = none
  b_bool : mg "bool" = none
  b_int : mg "int" = none
  b_isinstance : mg "isinstance" = none
  b_len : mg "len" = none
  b_list : mg "list" = none
  b_max : mg "max" = none
  b_min : mg "min" = none
  b_range : mg "range" = none
  b_reversed : mg "reversed" = none
  b_str : mg "str" = none
  b_tuple : mg "tuple" = none
  gcd : mg "gcd" = some (.builtin "math.gcd")
  se : mg "ShadeError" = some (.ref A.ShadeError)
  x_WrongKind : ExM P w A.K mg base "WrongKind" A.WrongKind "argument"
  x_WrongSize : ExM P w A.K mg base "WrongSize" A.WrongSize "argument"
  x_OutOfRange : ExM P w A.K mg base "OutOfRange" A.OutOfRange "argument"
  x_BadText : ExN mg "BadText" A.BadText
  x_NotATable : ExN mg "NotATable" A.NotATable
  x_Spent : ExN mg "Spent" A.Spent
  x_TooFewPlaces : ExN mg "TooFewPlaces" A.TooFewPlaces
  x_WrongPaper : ExN mg "WrongPaper" A.WrongPaper
  x_UnknownName : ExN mg "UnknownName" A.UnknownName
  x_NameTaken : ExN mg "NameTaken" A.NameTaken
  x_NothingToUndo : ExN mg "NothingToUndo" A.NothingToUndo
  x_BookFull : ExN mg "BookFull" A.BookFull
  g_MOST_EXPONENT : ∃ t, mg "MOST_EXPONENT" = some (.int 64 t)
section
variable {P : Program} {w : World} {mg : Str → Option Value} {base : Heap} (A : Ad) {f : Addr} {fd : FuncData}
theorem sc_is_integer : FnScope ["value"] ["value"] (defScope (top 16)) := ⟨rfl, rfl, rfl, by decide +kernel, rfl, by decide +kernel, by decide +kernel⟩
theorem ok_is_integer (T : Tx P w mg base A) (F : Fun A.K "is_integer" "is_integer" (top 16) f fd)  : FnOk P w A.K mg base (L2N.CX P w) 1 f fd ["value"] (P_is_integer A) := by
  have S := sc_is_integer
  refine fn_ok F S (r_is_integer A) fun cdv B outer s H E hr tk po => ?_
  have hq := hr.units
  exact pss_one (ps_ret (be_and (be_isi .int T.b_isinstance (be_var 0) (be_ty _ T.b_int)) (be_one (be_not (be_isi .bl T.b_isinstance (be_var 0) (be_ty _ T.b_bool))))))
theorem sc_check_integer : FnScope ["value", "argument"] ["value", "argument"] (defScope (top 17)) := ⟨rfl, rfl, rfl, by decide +kernel, rfl, by decide +kernel, by decide +kernel⟩
theorem ok_check_integer (T : Tx P w mg base A) (F : Fun A.K "check_integer" "check_integer" (top 17) f fd) (c_is_integer : Fn P w A.K mg base 1 "is_integer" ["value"] (P_is_integer A)) : FnOk P w A.K mg base (L2N.CX P w) 3 f fd ["value", "argument"] (P_check_integer A) := by
  have S := sc_check_integer
  refine fn_ok F S (r_check_integer A) fun cdv B outer s H E hr tk po => ?_
  have hq := hr.units
  exact pss_one (bs_if (bt_not (bt_tru (be_call c_is_integer (hr.mono (by decide)) tk (ba_cons (be_var 0) (ba_nil))))) (pss_one (bs_raise T.x_WrongKind (hr.mono (by decide)) rfl tk (be_var 1))) (pss_nil))
theorem sc_check_range : FnScope ["value", "least", "greatest", "argument"] ["value", "least", "greatest", "argument"] (defScope (top 18)) := ⟨rfl, rfl, rfl, by decide +kernel, rfl, by decide +kernel, by decide +kernel⟩
theorem ok_check_range (T : Tx P w mg base A) (F : Fun A.K "check_range" "check_range" (top 18) f fd) (c_check_integer : Fn P w A.K mg base 3 "check_integer" ["value", "argument"] (P_check_integer A)) : FnOk P w A.K mg base (L2N.CX P w) 4 f fd ["value", "least", "greatest", "argument"] (P_check_range A) := by
  have S := sc_check_range
  refine fn_ok F S (r_check_range A) fun cdv B outer s H E hr tk po => ?_
  have hq := hr.units
  exact pss_cons (ps_expr (be_call c_check_integer (hr.mono (by decide)) tk (ba_cons (be_var 0) (ba_cons (be_var 3) (ba_nil))))) (pss_one (bs_if (PW.pt (bt_or (bt_cmp ob_lt (be_var 0) (be_var 1)) (bt_or1 (bt_cmp ob_gt (be_var 0) (be_var 2))))) (pss_one (bs_raise T.x_OutOfRange (hr.mono (by decide)) rfl tk (be_var 3))) (pss_nil)))
theorem sc_check_fraction : FnScope ["fraction", "argument", "item"] ["fraction", "argument"] (defScope (top 19)) := ⟨rfl, rfl, rfl, by decide +kernel, rfl, by decide +kernel, by decide +kernel⟩
theorem ok_check_fraction (T : Tx P w mg base A) (F : Fun A.K "check_fraction" "check_fraction" (top 19) f fd) (c_check_integer : Fn P w A.K mg base 3 "check_integer" ["value", "argument"] (P_check_integer A)) : FnOk P w A.K mg base (L2N.CX P w) 4 f fd ["fraction", "argument"] (P_check_fraction A) := by
  have S := sc_check_fraction
  refine fn_ok F S (r_check_fraction A) fun cdv B outer s H E hr tk po => ?_
  have hq := hr.units
  exact pss_cons (bs_if (bt_not (bt_tru (be_isi .tup T.b_isinstance (be_var 0) (be_ty _ T.b_tuple)))) (pss_one (bs_raise T.x_WrongKind (hr.mono (by decide)) rfl tk (be_var 1))) (pss_nil)) (pss_cons (bs_if (bt_cmp (ob_ne hq) (be_len T.b_len (be_var 0)) (pe_int)) (pss_one (bs_raise T.x_WrongSize (hr.mono (by decide)) rfl tk (be_var 1))) (pss_nil)) (pss_cons (bs_forA po rfl (be_var 0) (pg_name (i := 2) S.nd rfl (.inl rfl)) (pss_one (ps_expr (be_call c_check_integer (hr.mono (by decide)) tk (ba_cons (be_var 2) (ba_cons (be_var 1) (ba_nil))))))) (pss_one (bs_if (bt_cmp ob_lt (be_ix (be_var 0) (pe_int)) (pe_int)) (pss_one (bs_raise T.x_OutOfRange (hr.mono (by decide)) rfl tk (be_var 1))) (pss_nil)))))
theorem sc_ratio : FnScope ["top", "bottom", "divisor"] ["top", "bottom"] (defScope (top 22)) := ⟨rfl, rfl, rfl, by decide +kernel, rfl, by decide +kernel, by decide +kernel⟩
theorem ok_ratio (T : Tx P w mg base A) (F : Fun A.K "ratio" "ratio" (top 22) f fd) (c_check_integer : Fn P w A.K mg base 3 "check_integer" ["value", "argument"] (P_check_integer A)) : FnOk P w A.K mg base (L2N.CX P w) 4 f fd ["top", "bottom"] (P_ratio A) := by
  have S := sc_ratio
  refine fn_ok F S (r_ratio A) fun cdv B outer s H E hr tk po => ?_
  have hq := hr.units
  exact pss_cons (ps_expr (be_call c_check_integer (hr.mono (by decide)) tk (ba_cons (be_var 0) (ba_cons (pe_str) (ba_nil))))) (pss_cons (ps_expr (be_call c_check_integer (hr.mono (by decide)) tk (ba_cons (be_var 1) (ba_cons (pe_str) (ba_nil))))) (pss_cons (bs_if (bt_cmp (ob_eq hq) (be_var 1) (pe_int)) (pss_one (bs_raise T.x_OutOfRange (hr.mono (by decide)) rfl tk (pe_str))) (pss_nil)) (pss_cons (ps_set (i := 2) S.nd rfl (.inl rfl) (be_gcd T.gcd (be_var 0) (be_var 1))) (pss_cons (bs_if (bt_cmp ob_lt (be_var 1) (pe_int)) (pss_one (ps_set (i := 2) S.nd rfl (.inl rfl) (be_un ob_neg (be_var 2)))) (pss_nil)) (pss_one (ps_ret (be_tup (ba_cons (be_bin ob_fdv (be_var 0) (be_var 2)) (ba_cons (be_bin ob_fdv (be_var 1) (be_var 2)) (ba_nil))))))))))
theorem sc_check_pair : FnScope ["first", "second"] ["first", "second"] (defScope (top 23)) := ⟨rfl, rfl, rfl, by decide +kernel, rfl, by decide +kernel, by decide +kernel⟩
theorem ok_check_pair (T : Tx P w mg base A) (F : Fun A.K "check_pair" "check_pair" (top 23) f fd) (c_check_fraction : Fn P w A.K mg base 4 "check_fraction" ["fraction", "argument"] (P_check_fraction A)) : FnOk P w A.K mg base (L2N.CX P w) 5 f fd ["first", "second"] (P_check_pair A) := by
  have S := sc_check_pair
  refine fn_ok F S (r_check_pair A) fun cdv B outer s H E hr tk po => ?_
  have hq := hr.units
  exact pss_cons (ps_expr (be_call c_check_fraction (hr.mono (by decide)) tk (ba_cons (be_var 0) (ba_cons (pe_str) (ba_nil))))) (pss_one (ps_expr (be_call c_check_fraction (hr.mono (by decide)) tk (ba_cons (be_var 1) (ba_cons (pe_str) (ba_nil))))))
theorem sc_ratio_sum : FnScope ["first", "second"] ["first", "second"] (defScope (top 24)) := ⟨rfl, rfl, rfl, by decide +kernel, rfl, by decide +kernel, by decide +kernel⟩
theorem ok_ratio_sum (T : Tx P w mg base A) (F : Fun A.K "ratio_sum" "ratio_sum" (top 24) f fd) (c_check_pair : Fn P w A.K mg base 5 "check_pair" ["first", "second"] (P_check_pair A)) (c_ratio : Fn P w A.K mg base 4 "ratio" ["top", "bottom"] (P_ratio A)) : FnOk P w A.K mg base (L2N.CX P w) 6 f fd ["first", "second"] (P_ratio_sum A) := by
  have S := sc_ratio_sum
  refine fn_ok F S (r_ratio_sum A) fun cdv B outer s H E hr tk po => ?_
  have hq := hr.units
  exact pss_cons (ps_expr (be_call c_check_pair (hr.mono (by decide)) tk (ba_cons (be_var 0) (ba_cons (be_var 1) (ba_nil))))) (pss_one (ps_ret (be_call c_ratio (hr.mono (by decide)) tk (ba_cons (be_bin ob_add (be_bin ob_mul (be_ix (be_var 0) (pe_int)) (be_ix (be_var 1) (pe_int))) (be_bin ob_mul (be_ix (be_var 1) (pe_int)) (be_ix (be_var 0) (pe_int)))) (ba_cons (be_bin ob_mul (be_ix (be_var 0) (pe_int)) (be_ix (be_var 1) (pe_int))) (ba_nil))))))
theorem sc_ratio_difference : FnScope ["first", "second"] ["first", "second"] (defScope (top 25)) := ⟨rfl, rfl, rfl, by decide +kernel, rfl, by decide +kernel, by decide +kernel⟩
theorem ok_ratio_difference (T : Tx P w mg base A) (F : Fun A.K "ratio_difference" "ratio_difference" (top 25) f fd) (c_check_pair : Fn P w A.K mg base 5 "check_pair" ["first", "second"] (P_check_pair A)) (c_ratio : Fn P w A.K mg base 4 "ratio" ["top", "bottom"] (P_ratio A)) : FnOk P w A.K mg base (L2N.CX P w) 6 f fd ["first", "second"] (P_ratio_difference A) := by
  have S := sc_ratio_difference
  refine fn_ok F S (r_ratio_difference A) fun cdv B outer s H E hr tk po => ?_
  have hq := hr.units
  exact pss_cons (ps_expr (be_call c_check_pair (hr.mono (by decide)) tk (ba_cons (be_var 0) (ba_cons (be_var 1) (ba_nil))))) (pss_one (ps_ret (be_call c_ratio (hr.mono (by decide)) tk (ba_cons (be_bin ob_sub (be_bin ob_mul (be_ix (be_var 0) (pe_int)) (be_ix (be_var 1) (pe_int))) (be_bin ob_mul (be_ix (be_var 1) (pe_int)) (be_ix (be_var 0) (pe_int)))) (ba_cons (be_bin ob_mul (be_ix (be_var 0) (pe_int)) (be_ix (be_var 1) (pe_int))) (ba_nil))))))
theorem sc_ratio_product : FnScope ["first", "second"] ["first", "second"] (defScope (top 26)) := ⟨rfl, rfl, rfl, by decide +kernel, rfl, by decide +kernel, by decide +kernel⟩
theorem ok_ratio_product (T : Tx P w mg base A) (F : Fun A.K "ratio_product" "ratio_product" (top 26) f fd) (c_check_pair : Fn P w A.K mg base 5 "check_pair" ["first", "second"] (P_check_pair A)) (c_ratio : Fn P w A.K mg base 4 "ratio" ["top", "bottom"] (P_ratio A)) : FnOk P w A.K mg base (L2N.CX P w) 6 f fd ["first", "second"] (P_ratio_product A) := by
  have S := sc_ratio_product
  refine fn_ok F S (r_ratio_product A) fun cdv B outer s H E hr tk po => ?_
  have hq := hr.units
  exact pss_cons (ps_expr (be_call c_check_pair (hr.mono (by decide)) tk (ba_cons (be_var 0) (ba_cons (be_var 1) (ba_nil))))) (pss_one (ps_ret (be_call c_ratio (hr.mono (by decide)) tk (ba_cons (be_bin ob_mul (be_ix (be_var 0) (pe_int)) (be_ix (be_var 1) (pe_int))) (ba_cons (be_bin ob_mul (be_ix (be_var 0) (pe_int)) (be_ix (be_var 1) (pe_int))) (ba_nil))))))
theorem sc_ratio_quotient : FnScope ["first", "second"] ["first", "second"] (defScope (top 27)) := ⟨rfl, rfl, rfl, by decide +kernel, rfl, by decide +kernel, by decide +kernel⟩
theorem ok_ratio_quotient (T : Tx P w mg base A) (F : Fun A.K "ratio_quotient" "ratio_quotient" (top 27) f fd) (c_check_pair : Fn P w A.K mg base 5 "check_pair" ["first", "second"] (P_check_pair A)) (c_ratio : Fn P w A.K mg base 4 "ratio" ["top", "bottom"] (P_ratio A)) : FnOk P w A.K mg base (L2N.CX P w) 6 f fd ["first", "second"] (P_ratio_quotient A) := by
  have S := sc_ratio_quotient
  refine fn_ok F S (r_ratio_quotient A) fun cdv B outer s H E hr tk po => ?_
  have hq := hr.units
  exact pss_cons (ps_expr (be_call c_check_pair (hr.mono (by decide)) tk (ba_cons (be_var 0) (ba_cons (be_var 1) (ba_nil))))) (pss_cons (bs_if (bt_cmp (ob_eq hq) (be_ix (be_var 1) (pe_int)) (pe_int)) (pss_one (bs_raise T.x_OutOfRange (hr.mono (by decide)) rfl tk (pe_str))) (pss_nil)) (pss_one (ps_ret (be_call c_ratio (hr.mono (by decide)) tk (ba_cons (be_bin ob_mul (be_ix (be_var 0) (pe_int)) (be_ix (be_var 1) (pe_int))) (ba_cons (be_bin ob_mul (be_ix (be_var 0) (pe_int)) (be_ix (be_var 1) (pe_int))) (ba_nil)))))))
theorem sc_ratio_power : FnScope ["base", "exponent", "top", "bottom", "_"] ["base", "exponent"] (defScope (top 28)) := ⟨rfl, rfl, rfl, by decide +kernel, rfl, by decide +kernel, by decide +kernel⟩
theorem ok_ratio_power (T : Tx P w mg base A) (F : Fun A.K "ratio_power" "ratio_power" (top 28) f fd) (c_check_fraction : Fn P w A.K mg base 4 "check_fraction" ["fraction", "argument"] (P_check_fraction A)) (c_check_range : Fn P w A.K mg base 4 "check_range" ["value", "least", "greatest", "argument"] (P_check_range A)) (c_ratio : Fn P w A.K mg base 4 "ratio" ["top", "bottom"] (P_ratio A)) : FnOk P w A.K mg base (L2N.CX P w) 5 f fd ["base", "exponent"] (P_ratio_power A) := by
  have S := sc_ratio_power
  refine fn_ok F S (r_ratio_power A) fun cdv B outer s H E hr tk po => ?_
  have hq := hr.units
  exact pss_cons (ps_expr (be_call c_check_fraction (hr.mono (by decide)) tk (ba_cons (be_var 0) (ba_cons (pe_str) (ba_nil))))) (pss_cons (ps_expr (be_call c_check_range (hr.mono (by decide)) tk (ba_cons (be_var 1) (ba_cons (pe_int) (ba_cons (pe_glob rfl T.g_MOST_EXPONENT.choose_spec ⟨_, rfl⟩) (ba_cons (pe_str) (ba_nil))))))) (pss_cons (ps_set (i := 2) S.nd rfl (.inl rfl) (pe_int)) (pss_cons (ps_set (i := 3) S.nd rfl (.inl rfl) (pe_int)) (pss_cons (bs_forR T.b_range po rfl (be_var 1) (pg_name (i := 4) S.nd rfl (.inl rfl)) (pss_cons (ps_set (i := 2) S.nd rfl (.inl rfl) (be_bin ob_mul (be_var 2) (be_ix (be_var 0) (pe_int)))) (pss_one (ps_set (i := 3) S.nd rfl (.inl rfl) (be_bin ob_mul (be_var 3) (be_ix (be_var 0) (pe_int))))))) (pss_one (ps_ret (be_call c_ratio (hr.mono (by decide)) tk (ba_cons (be_var 2) (ba_cons (be_var 3) (ba_nil))))))))))
theorem sc_l_mixed : FnScope ["cell", "nth", "low", "high"] ["cell", "nth"] (defScope (top 30)) := ⟨rfl, rfl, rfl, by decide +kernel, rfl, by decide +kernel, by decide +kernel⟩
theorem ok_l_mixed (T : Tx P w mg base A) (F : Fun A.K "_law_mixed" "_law_mixed" (top 30) f fd)  : FnOk P w A.K mg base (L2N.CX P w) 1 f fd ["cell", "nth"] (P_l_mixed A) := by
  have S := sc_l_mixed
  refine fn_ok F S (r_l_mixed A) fun cdv B outer s H E hr tk po => ?_
  have hq := hr.units
  exact pss_cons (ps_set (i := 2) S.nd rfl (.inl rfl) (be_bin ob_mod (be_int T.b_int (be_bin ob_add (be_bin ob_add (be_bin ob_mul (be_bin ob_mod (be_int T.b_int (be_var 0)) (pe_int)) (pe_int)) (be_bin ob_mul (be_var 1) (pe_int))) (pe_int))) (pe_int))) (pss_cons (ps_set (i := 3) S.nd rfl (.inl rfl) (be_bin ob_mod (be_int T.b_int (be_bin ob_add (be_bin ob_add (be_bin ob_mul (be_var 2) (be_var 2)) (be_bin ob_mul (be_var 1) (pe_int))) (pe_int))) (pe_int))) (pss_one (ps_ret (be_bin ob_mod (be_int T.b_int (be_bin ob_add (be_bin ob_add (be_bin ob_mul (be_bin ob_fdv (be_var 3) (pe_int)) (pe_int)) (be_bin ob_mul (be_bin ob_mod (be_int T.b_int (be_var 3)) (pe_int)) (pe_int))) (be_bin ob_mod (be_int T.b_int (be_var 2)) (pe_int)))) (pe_int)))))
theorem sc_l_wide : FnScope ["cell", "nth", "many", "told", "k"] ["cell", "nth", "many"] (defScope (top 31)) := ⟨rfl, rfl, rfl, by decide +kernel, rfl, by decide +kernel, by decide +kernel⟩
theorem ok_l_wide (T : Tx P w mg base A) (F : Fun A.K "_law_wide" "_law_wide" (top 31) f fd) (c_l_mixed : Fn P w A.K mg base 1 "_law_mixed" ["cell", "nth"] (P_l_mixed A)) : FnOk P w A.K mg base (L2N.CX P w) 2 f fd ["cell", "nth", "many"] (P_l_wide A) := by
  have S := sc_l_wide
  refine fn_ok F S (r_l_wide A) fun cdv B outer s H E hr tk po => ?_
  have hq := hr.units
  exact pss_cons (ps_set (i := 3) S.nd rfl (.inl rfl) (be_call c_l_mixed (hr.mono (by decide)) tk (ba_cons (be_var 0) (ba_cons (be_var 1) (ba_nil))))) (pss_cons (bs_forR T.b_range po rfl (be_bin ob_fdv (be_bits (be_var 2)) (pe_int)) (pg_name (i := 4) S.nd rfl (.inl rfl)) (pss_one (ps_set (i := 3) S.nd rfl (.inl rfl) (be_bin ob_add (be_bin ob_mul (be_var 3) (pe_int)) (be_call c_l_mixed (hr.mono (by decide)) tk (ba_cons (be_var 0) (ba_cons (be_bin ob_add (be_var 1) (be_bin ob_mul (pe_int) (be_bin ob_add (be_var 4) (pe_int)))) (ba_nil)))))))) (pss_one (ps_ret (be_bin ob_mod (be_int T.b_int (be_var 3)) (be_var 2)))))
theorem sc_l_store : FnScope ["script", "mixture", "cell"] ["script"] (defScope (top 32)) := ⟨rfl, rfl, rfl, by decide +kernel, rfl, by decide +kernel, by decide +kernel⟩
theorem ok_l_store (T : Tx P w mg base A) (F : Fun A.K "_law_store" "_law_store" (top 32) f fd)  : FnOk P w A.K mg base (L2N.CX P w) 1 f fd ["script"] (P_l_store A) := by
  have S := sc_l_store
  refine fn_ok F S (r_l_store A) fun cdv B outer s H E hr tk po => ?_
  have hq := hr.units
  exact pss_cons (ps_set (i := 1) S.nd rfl (.inl rfl) (pe_int)) (pss_cons (bs_forS po rfl (be_var 0) (pg_name (i := 2) S.nd rfl (.inl rfl)) (pss_one (ps_set (i := 1) S.nd rfl (.inl rfl) (be_bin ob_mod (be_int T.b_int (be_bin ob_add (be_bin ob_add (be_bin ob_mul (be_var 1) (pe_int)) (be_bin ob_mod (be_int T.b_int (be_var 2)) (pe_int))) (pe_int))) (pe_int))))) (pss_one (ps_ret (be_lst (ba_cons (be_listS T.b_list (be_var 0)) (ba_cons (pe_int) (ba_cons (pe_int) (ba_cons (be_var 1) (ba_cons (pe_int) (ba_nil))))))))))
theorem sc_l_take : FnScope ["store", "many", "cell", "told"] ["store", "many"] (defScope (top 33)) := ⟨rfl, rfl, rfl, by decide +kernel, rfl, by decide +kernel, by decide +kernel⟩
theorem ok_l_take (T : Tx P w mg base A) (F : Fun A.K "_law_take" "_law_take" (top 33) f fd) (c_l_wide : Fn P w A.K mg base 2 "_law_wide" ["cell", "nth", "many"] (P_l_wide A)) : FnOk P w A.K mg base (L2N.CX P w) 3 f fd ["store", "many"] (P_l_take A) := by
  have S := sc_l_take
  refine fn_ok F S (r_l_take A) fun cdv B outer s H E hr tk po => ?_
  have hq := hr.units
  exact pss_cons (bs_if (bt_cmp ob_lt (be_var 1) (pe_int)) (pss_one (ps_ret (pe_int))) (pss_nil)) (pss_cons (ps_asg (be_bin ob_add (be_ix (be_var 0) (pe_int)) (pe_int)) (pg_sub (be_var 0) (pe_int) ob_set)) (pss_cons (bs_if (PW.pt (bt_and (bt_cmp (ob_eq hq) (be_ix (be_var 0) (pe_int)) (pe_int)) (bt_and1 (bt_cmp ob_lt (be_ix (be_var 0) (pe_int)) (be_len T.b_len (be_ix (be_var 0) (pe_int))))))) (pss_cons (ps_set (i := 2) S.nd rfl (.inl rfl) (be_int T.b_int (be_ix (be_ix (be_var 0) (pe_int)) (be_ix (be_var 0) (pe_int))))) (pss_cons (ps_asg (be_bin ob_add (be_ix (be_var 0) (pe_int)) (pe_int)) (pg_sub (be_var 0) (pe_int) ob_set)) (pss_cons (bs_if (bt_cmp ob_lt (be_var 2) (be_bin ob_pow (pe_int) (pe_int))) (pss_one (ps_ret (be_call c_l_wide (hr.mono (by decide)) tk (ba_cons (be_var 2) (ba_cons (be_ix (be_var 0) (pe_int)) (ba_cons (be_var 1) (ba_nil))))))) (pss_nil)) (pss_one (ps_asg (be_var 2) (pg_sub (be_var 0) (pe_int) ob_set)))))) (pss_nil)) (pss_cons (bs_if (bt_cmp ob_gt (be_ix (be_var 0) (pe_int)) (pe_int)) (pss_cons (ps_set (i := 3) S.nd rfl (.inl rfl) (be_bin ob_mod (be_int T.b_int (be_ix (be_var 0) (pe_int))) (be_var 1))) (pss_cons (ps_asg (be_bin ob_fdv (be_int T.b_int (be_ix (be_var 0) (pe_int))) (be_var 1)) (pg_sub (be_var 0) (pe_int) ob_set)) (pss_one (ps_ret (be_var 3))))) (pss_nil)) (pss_one (ps_ret (be_call c_l_wide (hr.mono (by decide)) tk (ba_cons (be_ix (be_var 0) (pe_int)) (ba_cons (be_ix (be_var 0) (pe_int)) (ba_cons (be_var 1) (ba_nil))))))))))
theorem sc_l_near : FnScope ["store", "low", "high", "kind"] ["store", "low", "high"] (defScope (top 34)) := ⟨rfl, rfl, rfl, by decide +kernel, rfl, by decide +kernel, by decide +kernel⟩
theorem ok_l_near (T : Tx P w mg base A) (F : Fun A.K "_law_near" "_law_near" (top 34) f fd) (c_l_take : Fn P w A.K mg base 3 "_law_take" ["store", "many"] (P_l_take A)) : FnOk P w A.K mg base (L2N.CX P w) 4 f fd ["store", "low", "high"] (P_l_near A) := by
  have S := sc_l_near
  refine fn_ok F S (r_l_near A) fun cdv B outer s H E hr tk po => ?_
  have hq := hr.units
  exact pss_cons (ps_set (i := 3) S.nd rfl (.inl rfl) (be_call c_l_take (hr.mono (by decide)) tk (ba_cons (be_var 0) (ba_cons (pe_int) (ba_nil))))) (pss_cons (bs_if (bt_cmp ob_lt (be_var 3) (pe_int)) (pss_one (ps_ret (be_ix (be_lst (ba_cons (be_var 1) (ba_cons (be_var 2) (ba_cons (be_min T.b_min rfl (be_bin ob_add (be_var 1) (pe_int)) (be_var 2)) (ba_cons (be_max T.b_max rfl (be_bin ob_sub (be_var 2) (pe_int)) (be_var 1)) (ba_nil)))))) (be_var 3)))) (pss_nil)) (pss_one (ps_ret (be_bin ob_add (be_var 1) (be_call c_l_take (hr.mono (by decide)) tk (ba_cons (be_var 0) (ba_cons (be_bin ob_add (be_bin ob_sub (be_var 2) (be_var 1)) (pe_int)) (ba_nil))))))))
theorem sc_l_is_integer : FnScope ["given"] ["given"] (defScope (top 35)) := ⟨rfl, rfl, rfl, by decide +kernel, rfl, by decide +kernel, by decide +kernel⟩
theorem ok_l_is_integer (T : Tx P w mg base A) (F : Fun A.K "_law_is_integer" "_law_is_integer" (top 35) f fd)  : FnOk P w A.K mg base (L2N.CX P w) 1 f fd ["given"] (P_l_is_integer A) := by
  have S := sc_l_is_integer
  refine fn_ok F S (r_l_is_integer A) fun cdv B outer s H E hr tk po => ?_
  have hq := hr.units
  exact pss_one (ps_ret (be_and (be_isi .int T.b_isinstance (be_var 0) (be_ty _ T.b_int)) (be_one (be_not (be_isi .bl T.b_isinstance (be_var 0) (be_ty _ T.b_bool))))))
theorem sc_l_is_pair : FnScope ["given"] ["given"] (defScope (top 36)) := ⟨rfl, rfl, rfl, by decide +kernel, rfl, by decide +kernel, by decide +kernel⟩
theorem ok_l_is_pair (T : Tx P w mg base A) (F : Fun A.K "_law_is_pair" "_law_is_pair" (top 36) f fd) (c_l_is_integer : Fn P w A.K mg base 1 "_law_is_integer" ["given"] (P_l_is_integer A)) : FnOk P w A.K mg base (L2N.CX P w) 2 f fd ["given"] (P_l_is_pair A) := by
  have S := sc_l_is_pair
  refine fn_ok F S (r_l_is_pair A) fun cdv B outer s H E hr tk po => ?_
  have hq := hr.units
  exact pss_cons (bs_if (PW.pt (bt_or (bt_not (bt_tru (be_isi .tup T.b_isinstance (be_var 0) (be_ty _ T.b_tuple)))) (bt_or1 (bt_cmp (ob_ne hq) (be_len T.b_len (be_var 0)) (pe_int))))) (pss_one (ps_ret (pe_bl))) (pss_nil)) (pss_one (ps_ret (be_and (be_call c_l_is_integer (hr.mono (by decide)) tk (ba_cons (be_ix (be_var 0) (pe_int)) (ba_nil))) (be_one (be_call c_l_is_integer (hr.mono (by decide)) tk (ba_cons (be_ix (be_var 0) (pe_int)) (ba_nil)))))))
theorem sc_l_same : FnScope ["told", "due", "k"] ["told", "due"] (defScope (top 37)) := ⟨rfl, rfl, rfl, by decide +kernel, rfl, by decide +kernel, by decide +kernel⟩
theorem ok_l_same (n : Nat) (T : Tx P w mg base A) (F : Fun A.K "_law_same" "_law_same" (top 37) f fd) (c_l_same : Fn P w A.K mg base n "_law_same" ["told", "due"] (P_l_sameN A n)) : FnOk P w A.K mg base (L2N.CX P w) (n + 1) f fd ["told", "due"] (P_l_sameN A (n + 1)) := by
  have S := sc_l_same
  refine fn_ok F S (r_l_sameN A n) fun cdv B outer s H E hr tk po => ?_
  have hq := hr.units
  exact pss_cons (bs_if (bt_cmp ob_isN (be_var 1) (pe_non)) (pss_one (ps_ret (be_cmp ob_isN (be_var 0) (pe_non)))) (pss_nil)) (pss_cons (bs_if (bt_tru (be_isi .bl T.b_isinstance (be_var 1) (be_ty _ T.b_bool))) (pss_one (ps_ret (be_and (be_isi .bl T.b_isinstance (be_var 0) (be_ty _ T.b_bool)) (be_one (be_cmp (ob_eq hq) (be_var 0) (be_var 1)))))) (pss_nil)) (pss_cons (bs_if (bt_tru (be_isi .int T.b_isinstance (be_var 1) (be_ty _ T.b_int))) (pss_one (ps_ret (be_and (be_isi .int T.b_isinstance (be_var 0) (be_ty _ T.b_int)) (be_and (be_not (be_isi .bl T.b_isinstance (be_var 0) (be_ty _ T.b_bool))) (be_one (be_cmp (ob_eq hq) (be_var 0) (be_var 1))))))) (pss_nil)) (pss_cons (bs_if (bt_tru (be_isi .str T.b_isinstance (be_var 1) (be_ty _ T.b_str))) (pss_one (ps_ret (be_and (be_isi .str T.b_isinstance (be_var 0) (be_ty _ T.b_str)) (be_one (be_cmp (ob_eq hq) (be_var 0) (be_var 1)))))) (pss_nil)) (pss_cons (bs_if (PW.pt (bt_and (bt_tru (be_isi .lst T.b_isinstance (be_var 1) (be_ty _ T.b_list))) (bt_and1 (bt_not (bt_tru (be_isi .lst T.b_isinstance (be_var 0) (be_ty _ T.b_list))))))) (pss_one (ps_ret (pe_bl))) (pss_nil)) (pss_cons (bs_if (PW.pt (bt_and (bt_tru (be_isi .tup T.b_isinstance (be_var 1) (be_ty _ T.b_tuple))) (bt_and1 (bt_not (bt_tru (be_isi .tup T.b_isinstance (be_var 0) (be_ty _ T.b_tuple))))))) (pss_one (ps_ret (pe_bl))) (pss_nil)) (pss_cons (bs_if (bt_cmp (ob_ne hq) (be_lenD T.b_len (be_var 0)) (be_lenD T.b_len (be_var 1))) (pss_one (ps_ret (pe_bl))) (pss_nil)) (pss_cons (bs_forR T.b_range po rfl (be_lenD T.b_len (be_var 1)) (pg_name (i := 2) S.nd rfl (.inl rfl)) (pss_one (bs_if (bt_not (bt_tru (be_call c_l_same (hr.mono (Nat.le_refl _)) tk (ba_cons (be_ix (be_var 0) (be_var 2)) (ba_cons (be_ix (be_var 1) (be_var 2)) (ba_nil)))))) (pss_one (ps_ret (pe_bl))) (pss_nil)))) (pss_one (ps_ret (pe_bl))))))))))
theorem sc_l_ten : FnScope ["digits", "told", "k"] ["digits"] (defScope (top 39)) := ⟨rfl, rfl, rfl, by decide +kernel, rfl, by decide +kernel, by decide +kernel⟩
theorem ok_l_ten (T : Tx P w mg base A) (F : Fun A.K "_law_ten" "_law_ten" (top 39) f fd)  : FnOk P w A.K mg base (L2N.CX P w) 1 f fd ["digits"] (P_l_ten A) := by
  have S := sc_l_ten
  refine fn_ok F S (r_l_ten A) fun cdv B outer s H E hr tk po => ?_
  have hq := hr.units
  exact pss_cons (ps_set (i := 1) S.nd rfl (.inl rfl) (pe_int)) (pss_cons (bs_forR T.b_range po rfl (be_var 0) (pg_name (i := 2) S.nd rfl (.inl rfl)) (pss_one (ps_set (i := 1) S.nd rfl (.inl rfl) (be_bin ob_mul (be_var 1) (pe_int))))) (pss_one (ps_ret (be_var 1))))
theorem sc_l_integer : FnScope ["store", "digits", "kind", "high"] ["store", "digits"] (defScope (top 40)) := ⟨rfl, rfl, rfl, by decide +kernel, rfl, by decide +kernel, by decide +kernel⟩
theorem ok_l_integer (T : Tx P w mg base A) (F : Fun A.K "_law_integer" "_law_integer" (top 40) f fd) (c_l_take : Fn P w A.K mg base 3 "_law_take" ["store", "many"] (P_l_take A)) (c_l_ten : Fn P w A.K mg base 1 "_law_ten" ["digits"] (P_l_ten A)) (c_l_near : Fn P w A.K mg base 4 "_law_near" ["store", "low", "high"] (P_l_near A)) : FnOk P w A.K mg base (L2N.CX P w) 5 f fd ["store", "digits"] (P_l_integer A) := by
  have S := sc_l_integer
  refine fn_ok F S (r_l_integer A) fun cdv B outer s H E hr tk po => ?_
  have hq := hr.units
  exact pss_cons (ps_set (i := 2) S.nd rfl (.inl rfl) (be_call c_l_take (hr.mono (by decide)) tk (ba_cons (be_var 0) (ba_cons (pe_int) (ba_nil))))) (pss_cons (bs_if (bt_cmp ob_lt (be_var 2) (pe_int)) (pss_one (ps_ret (be_ix (be_lst (ba_cons (pe_int) (ba_cons (pe_int) (ba_cons (be_un ob_neg (pe_int)) (ba_cons (pe_int) (ba_nil)))))) (be_var 2)))) (pss_nil)) (pss_cons (bs_if (bt_cmp ob_lt (be_var 2) (pe_int)) (pss_one (ps_ret (be_bin ob_sub (be_call c_l_take (hr.mono (by decide)) tk (ba_cons (be_var 0) (ba_cons (pe_int) (ba_nil)))) (pe_int)))) (pss_nil)) (pss_cons (ps_set (i := 3) S.nd rfl (.inl rfl) (be_bin ob_sub (be_call c_l_ten (hr.mono (by decide)) tk (ba_cons (be_min T.b_min rfl (be_var 1) (pe_int)) (ba_nil))) (pe_int))) (pss_cons (bs_if (bt_cmp (ob_eq hq) (be_var 2) (pe_int)) (pss_one (ps_set (i := 3) S.nd rfl (.inl rfl) (be_bin ob_sub (be_call c_l_ten (hr.mono (by decide)) tk (ba_cons (be_min T.b_min rfl (be_var 1) (pe_int)) (ba_nil))) (pe_int)))) (pss_nil)) (pss_cons (bs_if (bt_cmp (ob_eq hq) (be_var 2) (pe_int)) (pss_one (ps_set (i := 3) S.nd rfl (.inl rfl) (be_bin ob_sub (be_call c_l_ten (hr.mono (by decide)) tk (ba_cons (be_var 1) (ba_nil))) (pe_int)))) (pss_nil)) (pss_one (ps_ret (be_call c_l_near (hr.mono (by decide)) tk (ba_cons (be_var 0) (ba_cons (be_bin ob_sub (pe_int) (be_var 3)) (ba_cons (be_var 3) (ba_nil))))))))))))
theorem sc_l_fraction : FnScope ["store", "digits", "top", "low", "many"] ["store", "digits"] (defScope (top 41)) := ⟨rfl, rfl, rfl, by decide +kernel, rfl, by decide +kernel, by decide +kernel⟩
theorem ok_l_fraction (T : Tx P w mg base A) (F : Fun A.K "_law_fraction" "_law_fraction" (top 41) f fd) (c_l_integer : Fn P w A.K mg base 5 "_law_integer" ["store", "digits"] (P_l_integer A)) (c_l_take : Fn P w A.K mg base 3 "_law_take" ["store", "many"] (P_l_take A)) : FnOk P w A.K mg base (L2N.CX P w) 6 f fd ["store", "digits"] (P_l_fraction A) := by
  have S := sc_l_fraction
  refine fn_ok F S (r_l_fraction A) fun cdv B outer s H E hr tk po => ?_
  have hq := hr.units
  exact pss_cons (ps_set (i := 2) S.nd rfl (.inl rfl) (be_call c_l_integer (hr.mono (by decide)) tk (ba_cons (be_var 0) (ba_cons (be_bin ob_sub (be_var 1) (pe_int)) (ba_nil))))) (pss_cons (ps_set (i := 3) S.nd rfl (.inl rfl) (be_abs T.b_abs (be_call c_l_integer (hr.mono (by decide)) tk (ba_cons (be_var 0) (ba_cons (be_bin ob_sub (be_var 1) (pe_int)) (ba_nil)))))) (pss_cons (ps_set (i := 3) S.nd rfl (.inl rfl) (be_bin ob_add (be_var 3) (be_int T.b_int (be_cmp (ob_eq hq) (be_var 3) (pe_int))))) (pss_cons (bs_if (bt_cmp (ob_eq hq) (be_call c_l_take (hr.mono (by decide)) tk (ba_cons (be_var 0) (ba_cons (pe_int) (ba_nil)))) (pe_int)) (pss_one (ps_set (i := 2) S.nd rfl (.inl rfl) (be_bin ob_mul (be_var 3) (be_bin ob_sub (be_call c_l_take (hr.mono (by decide)) tk (ba_cons (be_var 0) (ba_cons (pe_int) (ba_nil)))) (pe_int))))) (pss_nil)) (pss_cons (ps_set (i := 4) S.nd rfl (.inl rfl) (be_ix (be_lst (ba_cons (pe_int) (ba_cons (pe_int) (ba_cons (pe_int) (ba_cons (pe_int) (ba_nil)))))) (be_call c_l_take (hr.mono (by decide)) tk (ba_cons (be_var 0) (ba_cons (pe_int) (ba_nil)))))) (pss_one (ps_ret (be_tup (ba_cons (be_bin ob_mul (be_var 2) (be_var 4)) (ba_cons (be_bin ob_mul (be_var 3) (be_var 4)) (ba_nil))))))))))
theorem sc_l_number_fault : FnScope ["given", "low", "high"] ["given", "low", "high"] (defScope (top 42)) := ⟨rfl, rfl, rfl, by decide +kernel, rfl, by decide +kernel, by decide +kernel⟩
theorem ok_l_number_fault (T : Tx P w mg base A) (F : Fun A.K "_law_number_fault" "_law_number_fault" (top 42) f fd)  : FnOk P w A.K mg base (L2N.CX P w) 1 f fd ["given", "low", "high"] (P_l_number_fault A) := by
  have S := sc_l_number_fault
  refine fn_ok F S (r_l_number_fault A) fun cdv B outer s H E hr tk po => ?_
  have hq := hr.units
  exact pss_cons (bs_if (PW.pt (bt_or (bt_not (bt_tru (be_isi .int T.b_isinstance (be_var 0) (be_ty _ T.b_int)))) (bt_or1 (bt_tru (be_isi .bl T.b_isinstance (be_var 0) (be_ty _ T.b_bool)))))) (pss_one (ps_ret (pe_str))) (pss_nil)) (pss_cons (bs_if (PW.pt (bt_or (PW.pt (bt_and (bt_cmp ob_notN (be_var 1) (pe_non)) (bt_and1 (bt_cmp ob_lt (be_var 0) (be_var 1))))) (bt_or1 (PW.pt (bt_and (bt_cmp ob_notN (be_var 2) (pe_non)) (bt_and1 (bt_cmp ob_gt (be_var 0) (be_var 2)))))))) (pss_one (ps_ret (pe_str))) (pss_nil)) (pss_one (ps_ret (pe_str))))
theorem sc_l_fraction_fault : FnScope ["given"] ["given"] (defScope (top 43)) := ⟨rfl, rfl, rfl, by decide +kernel, rfl, by decide +kernel, by decide +kernel⟩
theorem ok_l_fraction_fault (T : Tx P w mg base A) (F : Fun A.K "_law_fraction_fault" "_law_fraction_fault" (top 43) f fd) (c_l_number_fault : Fn P w A.K mg base 1 "_law_number_fault" ["given", "low", "high"] (P_l_number_fault A)) : FnOk P w A.K mg base (L2N.CX P w) 2 f fd ["given"] (P_l_fraction_fault A) := by
  have S := sc_l_fraction_fault
  refine fn_ok F S (r_l_fraction_fault A) fun cdv B outer s H E hr tk po => ?_
  have hq := hr.units
  exact pss_cons (bs_if (bt_not (bt_tru (be_isi .tup T.b_isinstance (be_var 0) (be_ty _ T.b_tuple)))) (pss_one (ps_ret (pe_str))) (pss_nil)) (pss_cons (bs_if (bt_cmp (ob_ne hq) (be_len T.b_len (be_var 0)) (pe_int)) (pss_one (ps_ret (pe_str))) (pss_nil)) (pss_cons (bs_if (bt_cmp (ob_ne hq) (be_call c_l_number_fault (hr.mono (by decide)) tk (ba_cons (be_ix (be_var 0) (pe_int)) (ba_cons (pe_non) (ba_cons (pe_non) (ba_nil))))) (pe_str)) (pss_one (ps_ret (pe_str))) (pss_nil)) (pss_one (ps_ret (be_call c_l_number_fault (hr.mono (by decide)) tk (ba_cons (be_ix (be_var 0) (pe_int)) (ba_cons (pe_int) (ba_cons (pe_non) (ba_nil)))))))))
theorem sc_l_first_fault : FnScope ["pair_row", "item"] ["pair_row"] (defScope (top 44)) := ⟨rfl, rfl, rfl, by decide +kernel, rfl, by decide +kernel, by decide +kernel⟩
theorem ok_l_first_fault (T : Tx P w mg base A) (F : Fun A.K "_law_first_fault" "_law_first_fault" (top 44) f fd)  : FnOk P w A.K mg base (L2N.CX P w) 1 f fd ["pair_row"] (P_l_first_fault A) := by
  have S := sc_l_first_fault
  refine fn_ok F S (r_l_first_fault A) fun cdv B outer s H E hr tk po => ?_
  have hq := hr.units
  exact pss_cons (bs_forA po rfl (be_var 0) (pg_name (i := 1) S.nd rfl (.inl rfl)) (pss_one (bs_if (bt_cmp (ob_ne hq) (be_ix (be_var 1) (pe_int)) (pe_str)) (pss_one (ps_ret (be_tup (ba_cons (be_ix (be_var 1) (pe_int)) (ba_cons (be_ix (be_var 1) (pe_int)) (ba_nil)))))) (pss_nil)))) (pss_one (ps_ret (pe_non)))
theorem sc_l_odd_number : FnScope ["store", "low", "high", "least", "most", "kind"] ["store", "low", "high"] (defScope (top 45)) := ⟨rfl, rfl, rfl, by decide +kernel, rfl, by decide +kernel, by decide +kernel⟩
theorem ok_l_odd_number (T : Tx P w mg base A) (F : Fun A.K "_law_odd_number" "_law_odd_number" (top 45) f fd) (c_l_take : Fn P w A.K mg base 3 "_law_take" ["store", "many"] (P_l_take A)) : FnOk P w A.K mg base (L2N.CX P w) 4 f fd ["store", "low", "high"] (P_l_odd_number A) := by
  have S := sc_l_odd_number
  refine fn_ok F S (r_l_odd_number A) fun cdv B outer s H E hr tk po => ?_
  have hq := hr.units
  exact pss_cons (ps_set (i := 3) S.nd rfl (.inl rfl) (pe_int)) (pss_cons (bs_if (bt_cmp ob_notN (be_var 1) (pe_non)) (pss_one (ps_set (i := 3) S.nd rfl (.inl rfl) (be_var 1))) (pss_nil)) (pss_cons (ps_set (i := 4) S.nd rfl (.inl rfl) (be_var 3)) (pss_cons (bs_if (bt_cmp ob_notN (be_var 2) (pe_non)) (pss_one (ps_set (i := 4) S.nd rfl (.inl rfl) (be_var 2))) (pss_nil)) (pss_cons (ps_set (i := 5) S.nd rfl (.inl rfl) (be_call c_l_take (hr.mono (by decide)) tk (ba_cons (be_var 0) (ba_cons (pe_int) (ba_nil))))) (pss_cons (bs_if (bt_cmp ob_lt (be_var 5) (pe_int)) (pss_one (ps_ret (be_ix (be_lst (ba_cons (pe_non) (ba_cons (pe_bl) (ba_cons (pe_bl) (ba_cons (pe_str) (ba_cons (pe_str) (ba_cons (be_lst (ba_cons (pe_int) (ba_nil))) (ba_cons (be_tup (ba_cons (pe_int) (ba_nil))) (ba_cons (be_dct0) (ba_nil)))))))))) (be_var 5)))) (pss_nil)) (pss_one (ps_ret (be_ix (be_lst (ba_cons (be_bin ob_sub (be_var 3) (pe_int)) (ba_cons (be_bin ob_add (be_var 4) (pe_int)) (ba_cons (be_bin ob_sub (be_var 3) (be_bin ob_pow (pe_int) (pe_int))) (ba_cons (be_bin ob_add (be_var 4) (be_bin ob_pow (pe_int) (pe_int))) (ba_cons (be_var 3) (ba_cons (be_var 4) (ba_nil)))))))) (be_bin ob_sub (be_var 5) (pe_int))))))))))
theorem sc_l_odd_fraction : FnScope ["store", "menu"] ["store"] (defScope (top 46)) := ⟨rfl, rfl, rfl, by decide +kernel, rfl, by decide +kernel, by decide +kernel⟩
theorem ok_l_odd_fraction (T : Tx P w mg base A) (F : Fun A.K "_law_odd_fraction" "_law_odd_fraction" (top 46) f fd) (c_l_take : Fn P w A.K mg base 3 "_law_take" ["store", "many"] (P_l_take A)) : FnOk P w A.K mg base (L2N.CX P w) 4 f fd ["store"] (P_l_odd_fraction A) := by
  have S := sc_l_odd_fraction
  refine fn_ok F S (r_l_odd_fraction A) fun cdv B outer s H E hr tk po => ?_
  have hq := hr.units
  exact pss_cons (ps_set (i := 1) S.nd rfl (.inl rfl) (be_lst (ba_cons (pe_non) (ba_cons (pe_int) (ba_cons (pe_str) (ba_cons (be_lst (ba_cons (pe_int) (ba_cons (pe_int) (ba_nil)))) (ba_cons (be_tup (ba_nil)) (ba_cons (be_tup (ba_cons (pe_int) (ba_nil))) (ba_cons (be_tup (ba_cons (pe_int) (ba_cons (pe_int) (ba_cons (pe_int) (ba_nil))))) (ba_cons (be_tup (ba_cons (pe_bl) (ba_cons (pe_int) (ba_nil)))) (ba_cons (be_tup (ba_cons (pe_int) (ba_cons (pe_bl) (ba_nil)))) (ba_cons (be_tup (ba_cons (pe_str) (ba_cons (pe_int) (ba_nil)))) (ba_cons (be_tup (ba_cons (pe_int) (ba_cons (pe_non) (ba_nil)))) (ba_cons (be_tup (ba_cons (pe_non) (ba_cons (pe_int) (ba_nil)))) (ba_nil))))))))))))))) (pss_cons (ps_set (i := 1) S.nd rfl (.inl rfl) (be_bin ob_add (be_var 1) (be_lst (ba_cons (be_tup (ba_cons (pe_int) (ba_cons (pe_int) (ba_nil)))) (ba_cons (be_tup (ba_cons (pe_int) (ba_cons (be_un ob_neg (pe_int)) (ba_nil)))) (ba_cons (be_tup (ba_cons (pe_int) (ba_cons (pe_int) (ba_nil)))) (ba_cons (be_tup (ba_cons (be_un ob_neg (pe_int)) (ba_cons (be_un ob_neg (pe_int)) (ba_nil)))) (ba_cons (be_tup (ba_cons (be_bin ob_pow (pe_int) (pe_int)) (ba_cons (pe_int) (ba_nil)))) (ba_cons (be_tup (ba_cons (pe_int) (ba_cons (pe_int) (ba_nil)))) (ba_cons (be_tup (ba_cons (be_un ob_neg (pe_int)) (ba_cons (pe_int) (ba_nil)))) (ba_nil))))))))))) (pss_cons (ps_set (i := 1) S.nd rfl (.inl rfl) (be_bin ob_add (be_var 1) (be_lst (ba_cons (be_tup (ba_cons (pe_str) (ba_nil))) (ba_cons (be_tup (ba_cons (pe_non) (ba_cons (pe_int) (ba_cons (pe_int) (ba_nil))))) (ba_cons (be_tup (ba_cons (pe_int) (ba_cons (pe_bl) (ba_cons (pe_int) (ba_nil))))) (ba_cons (be_tup (ba_cons (pe_int) (ba_cons (pe_int) (ba_cons (pe_int) (ba_nil))))) (ba_cons (be_tup (ba_cons (pe_non) (ba_nil))) (ba_cons (be_tup (ba_cons (pe_int) (ba_cons (pe_int) (ba_cons (pe_str) (ba_nil))))) (ba_cons (be_dct0) (ba_nil))))))))))) (pss_one (ps_ret (be_ix (be_var 1) (be_call c_l_take (hr.mono (by decide)) tk (ba_cons (be_var 0) (ba_cons (be_len T.b_len (be_var 1)) (ba_nil)))))))))
theorem sc_l_kinds : FnScope ["caught", "found"] ["caught"] (defScope (top 47)) := ⟨rfl, rfl, rfl, by decide +kernel, rfl, by decide +kernel, by decide +kernel⟩
theorem ok_l_kinds (T : Tx P w mg base A) (F : Fun A.K "_law_kinds" "_law_kinds" (top 47) f fd)  : FnXOk P w A.K mg base 2 f fd ["caught"] (P_l_kinds A) := by
  have S := sc_l_kinds
  refine fnx_ok F S (r_l_kinds A) fun cdv B outer s H E p cls d hr hx => ?_
  have hq : (B.deeper (envOfC "_law_kinds" (defScope (top 47)) s.heap.objs.size f cdv)).units + 64 < cLine := by have := hr.un; omega
  exact pss_cons (ps_set (i := 1) S.nd rfl (.inl rfl) (be_lst (ba_nil))) (pss_cons (bs_if (bt_tru (be_isX (d := d) (v := (.ref A.WrongKind)) hx T.b_isinstance (be_var 0) (pe_glob rfl T.x_WrongKind.at_ rfl) (fun _ z => z))) (pss_one (ps_expr (be_app (be_var 1) (pe_str)))) (pss_nil)) (pss_cons (bs_if (bt_tru (be_isX (d := d) (v := (.ref A.WrongSize)) hx T.b_isinstance (be_var 0) (pe_glob rfl T.x_WrongSize.at_ rfl) (fun _ z => z))) (pss_one (ps_expr (be_app (be_var 1) (pe_str)))) (pss_nil)) (pss_cons (bs_if (bt_tru (be_isX (d := d) (v := (.ref A.OutOfRange)) hx T.b_isinstance (be_var 0) (pe_glob rfl T.x_OutOfRange.at_ rfl) (fun _ z => z))) (pss_one (ps_expr (be_app (be_var 1) (pe_str)))) (pss_nil)) (pss_cons (bs_if (bt_tru (be_isX (d := d) (v := (.ref A.BadText)) hx T.b_isinstance (be_var 0) (pe_glob rfl T.x_BadText.at_ rfl) (fun _ z => z))) (pss_one (ps_expr (be_app (be_var 1) (pe_str)))) (pss_nil)) (pss_cons (bs_if (bt_tru (be_isX (d := d) (v := (.ref A.NotATable)) hx T.b_isinstance (be_var 0) (pe_glob rfl T.x_NotATable.at_ rfl) (fun _ z => z))) (pss_one (ps_expr (be_app (be_var 1) (pe_str)))) (pss_nil)) (pss_cons (bs_if (bt_tru (be_isX (d := d) (v := (.ref A.Spent)) hx T.b_isinstance (be_var 0) (pe_glob rfl T.x_Spent.at_ rfl) (fun _ z => z))) (pss_one (ps_expr (be_app (be_var 1) (pe_str)))) (pss_nil)) (pss_cons (bs_if (bt_tru (be_isX (d := d) (v := (.ref A.TooFewPlaces)) hx T.b_isinstance (be_var 0) (pe_glob rfl T.x_TooFewPlaces.at_ rfl) (fun _ z => z))) (pss_one (ps_expr (be_app (be_var 1) (pe_str)))) (pss_nil)) (pss_cons (bs_if (bt_tru (be_isX (d := d) (v := (.ref A.WrongPaper)) hx T.b_isinstance (be_var 0) (pe_glob rfl T.x_WrongPaper.at_ rfl) (fun _ z => z))) (pss_one (ps_expr (be_app (be_var 1) (pe_str)))) (pss_nil)) (pss_cons (bs_if (bt_tru (be_isX (d := d) (v := (.ref A.UnknownName)) hx T.b_isinstance (be_var 0) (pe_glob rfl T.x_UnknownName.at_ rfl) (fun _ z => z))) (pss_one (ps_expr (be_app (be_var 1) (pe_str)))) (pss_nil)) (pss_cons (bs_if (bt_tru (be_isX (d := d) (v := (.ref A.NameTaken)) hx T.b_isinstance (be_var 0) (pe_glob rfl T.x_NameTaken.at_ rfl) (fun _ z => z))) (pss_one (ps_expr (be_app (be_var 1) (pe_str)))) (pss_nil)) (pss_cons (bs_if (bt_tru (be_isX (d := d) (v := (.ref A.NothingToUndo)) hx T.b_isinstance (be_var 0) (pe_glob rfl T.x_NothingToUndo.at_ rfl) (fun _ z => z))) (pss_one (ps_expr (be_app (be_var 1) (pe_str)))) (pss_nil)) (pss_cons (bs_if (bt_tru (be_isX (d := d) (v := (.ref A.BookFull)) hx T.b_isinstance (be_var 0) (pe_glob rfl T.x_BookFull.at_ rfl) (fun _ z => z))) (pss_one (ps_expr (be_app (be_var 1) (pe_str)))) (pss_nil)) (pss_one (ps_ret (be_var 1)))))))))))))))
theorem sc_l_refusal : FnScope ["caught", "found"] ["caught"] (defScope (top 48)) := ⟨rfl, rfl, rfl, by decide +kernel, rfl, by decide +kernel, by decide +kernel⟩
theorem ok_l_refusal (T : Tx P w mg base A) (F : Fun A.K "_law_refusal" "_law_refusal" (top 48) f fd) (c_l_kinds : FnX P w A.K mg base 2 "_law_kinds" ["caught"] (P_l_kinds A)) : FnXOk P w A.K mg base 4 f fd ["caught"] (P_l_refusal A) := by
  have S := sc_l_refusal
  refine fnx_ok F S (r_l_refusal A) fun cdv B outer s H E p cls d hr hx => ?_
  have hq : (B.deeper (envOfC "_law_refusal" (defScope (top 48)) s.heap.objs.size f cdv)).units + 64 < cLine := by have := hr.un; omega
  exact pss_cons (ps_set (i := 1) S.nd rfl (.inl rfl) (be_callX c_l_kinds (hr.mono (by decide)) hx takesF (ba_cons (be_var 0) (ba_nil)))) (pss_cons (bs_if (PW.pt (bt_or (bt_cmp (ob_ne hq) (be_len T.b_len (be_var 1)) (pe_int)) (bt_or1 (bt_not (bt_tru (be_isX (d := d) (v := (.ty "ValueError")) hx T.b_isinstance (be_var 0) (be_ty _ T.b_ValueError) (fun _ z => z))))))) (pss_one (ps_ret (be_tup (ba_cons (pe_str) (ba_cons (be_var 1) (ba_nil)))))) (pss_nil)) (pss_cons (bs_if (bt_cmp ob_in (be_ix (be_var 1) (pe_int)) (be_lst (ba_cons (pe_str) (ba_cons (pe_str) (ba_cons (pe_str) (ba_nil)))))) (pss_one (ps_ret (be_tup (ba_cons (be_ix (be_var 1) (pe_int)) (ba_cons (be_atX hx (be_var 0)) (ba_nil)))))) (pss_nil)) (pss_cons (bs_if (bt_cmp (ob_eq hq) (be_ix (be_var 1) (pe_int)) (pe_str)) (pss_one (ps_ret (be_tup (ba_cons (be_ix (be_var 1) (pe_int)) (ba_cons (be_atX hx (be_var 0)) (ba_nil)))))) (pss_nil)) (pss_cons (bs_if (bt_cmp (ob_eq hq) (be_ix (be_var 1) (pe_int)) (pe_str)) (pss_one (ps_ret (be_tup (ba_cons (be_ix (be_var 1) (pe_int)) (ba_cons (be_atX hx (be_var 0)) (ba_nil)))))) (pss_nil)) (pss_cons (bs_if (bt_cmp (ob_eq hq) (be_ix (be_var 1) (pe_int)) (pe_str)) (pss_one (ps_never)) (pss_nil)) (pss_cons (bs_if (bt_cmp (ob_eq hq) (be_ix (be_var 1) (pe_int)) (pe_str)) (pss_one (ps_ret (be_tup (ba_cons (be_ix (be_var 1) (pe_int)) (ba_cons (be_atX hx (be_var 0)) (ba_nil)))))) (pss_nil)) (pss_cons (bs_if (bt_cmp (ob_eq hq) (be_ix (be_var 1) (pe_int)) (pe_str)) (pss_one (ps_ret (be_tup (ba_cons (be_ix (be_var 1) (pe_int)) (ba_cons (be_atX hx (be_var 0)) (ba_nil)))))) (pss_nil)) (pss_cons (bs_if (bt_cmp (ob_eq hq) (be_ix (be_var 1) (pe_int)) (pe_str)) (pss_one (ps_ret (be_tup (ba_cons (be_ix (be_var 1) (pe_int)) (ba_cons (be_atX hx (be_var 0)) (ba_nil)))))) (pss_nil)) (pss_one (ps_ret (be_tup (ba_cons (be_ix (be_var 1) (pe_int)) (ba_cons (pe_non) (ba_nil))))))))))))))
theorem sc_l_told : FnScope ["which", "given", "caught"] ["which", "given"] (defScope (top 49)) := ⟨rfl, rfl, rfl, by decide +kernel, rfl, by decide +kernel, by decide +kernel⟩
theorem ok_l_told (T : Tx P w mg base A) (F : Fun A.K "_law_told" "_law_told" (top 49) f fd) (c_l_ask : Fn P w A.K mg base 7 "_law_ask" ["which", "given"] (P_l_ask A)) (c_l_refusal : FnX P w A.K mg base 4 "_law_refusal" ["caught"] (P_l_refusal A)) : FnOk P w A.K mg base (L2N.CX P w) 9 f fd ["which", "given"] (P_l_told A) := by
  have S := sc_l_told
  refine fn_ok F S (r_l_told A) fun cdv B outer s H E hr tk po => ?_
  have hq := hr.units
  exact pss_one (bs_try (i := 2) rfl rfl S.nd rfl rfl ⟨rfl, by decide, .inl T.se⟩ tk (fun W' pn xe tk' po' => pss_one (ps_ret (be_tup (ba_cons (pe_str) (ba_cons (be_call c_l_ask (hr.mono (by decide)) tk' (ba_cons (be_var 0) (ba_cons (be_var 1) (ba_nil)))) (ba_nil)))))) (fun a oe cls d pn hx => pss_one (ps_ret (be_tup (ba_cons (pe_str) (ba_cons (be_callX c_l_refusal (L2H.roomH_mark (hr.mono (by decide)) _) hx takesF (ba_cons (be_var 2) (ba_nil))) (ba_nil)))))))
theorem sc_l_common : FnScope ["one", "two", "held", "k"] ["one", "two"] (defScope (top 50)) := ⟨rfl, rfl, rfl, by decide +kernel, rfl, by decide +kernel, by decide +kernel⟩
theorem ok_l_common (T : Tx P w mg base A) (F : Fun A.K "_law_common" "_law_common" (top 50) f fd)  : FnOk P w A.K mg base (L2N.CX P w) 1 f fd ["one", "two"] (P_l_common A) := by
  have S := sc_l_common
  refine fn_ok F S (r_l_common A) fun cdv B outer s H E hr tk po => ?_
  have hq := hr.units
  exact pss_cons (ps_set (i := 2) S.nd rfl (.inl rfl) (be_lst (ba_cons (be_abs T.b_abs (be_var 0)) (ba_cons (be_abs T.b_abs (be_var 1)) (ba_nil))))) (pss_cons (bs_forR T.b_range po rfl (be_bin ob_add (be_bin ob_mul (pe_int) (be_bits (be_ix (be_var 2) (pe_int)))) (pe_int)) (pg_name (i := 3) S.nd rfl (.inl rfl)) (pss_cons (bs_if (bt_cmp (ob_eq hq) (be_ix (be_var 2) (pe_int)) (pe_int)) (pss_one (ps_break)) (pss_nil)) (pss_one (ps_set (i := 2) S.nd rfl (.inl rfl) (be_lst (ba_cons (be_ix (be_var 2) (pe_int)) (ba_cons (be_bin ob_mod (be_int T.b_int (be_ix (be_var 2) (pe_int))) (be_ix (be_var 2) (pe_int))) (ba_nil)))))))) (pss_one (ps_ret (be_ix (be_var 2) (pe_int)))))
theorem sc_l_is_ratio_of : FnScope ["told", "one", "two"] ["told", "one", "two"] (defScope (top 51)) := ⟨rfl, rfl, rfl, by decide +kernel, rfl, by decide +kernel, by decide +kernel⟩
theorem ok_l_is_ratio_of (T : Tx P w mg base A) (F : Fun A.K "_law_is_ratio_of" "_law_is_ratio_of" (top 51) f fd) (c_l_is_pair : Fn P w A.K mg base 2 "_law_is_pair" ["given"] (P_l_is_pair A)) (c_l_common : Fn P w A.K mg base 1 "_law_common" ["one", "two"] (P_l_common A)) : FnOk P w A.K mg base (L2N.CX P w) 3 f fd ["told", "one", "two"] (P_l_is_ratio_of A) := by
  have S := sc_l_is_ratio_of
  refine fn_ok F S (r_l_is_ratio_of A) fun cdv B outer s H E hr tk po => ?_
  have hq := hr.units
  exact pss_cons (bs_if (PW.pt (bt_or (bt_not (bt_tru (be_call c_l_is_pair (hr.mono (by decide)) tk (ba_cons (be_var 0) (ba_nil))))) (bt_or1 (bt_cmp ob_lt (be_ix (be_var 0) (pe_int)) (pe_int))))) (pss_one (ps_ret (pe_bl))) (pss_nil)) (pss_one (ps_ret (be_and (be_cmp (ob_eq hq) (be_bin ob_mul (be_ix (be_var 0) (pe_int)) (be_var 2)) (be_bin ob_mul (be_var 1) (be_ix (be_var 0) (pe_int)))) (be_one (be_cmp (ob_eq hq) (be_call c_l_common (hr.mono (by decide)) tk (ba_cons (be_ix (be_var 0) (pe_int)) (ba_cons (be_ix (be_var 0) (pe_int)) (ba_nil)))) (pe_int))))))
theorem sc_l_ask : FnScope ["which", "given"] ["which", "given"] (defScope (top 52)) := ⟨rfl, rfl, rfl, by decide +kernel, rfl, by decide +kernel, by decide +kernel⟩
theorem ok_l_ask (T : Tx P w mg base A) (F : Fun A.K "_law_ask" "_law_ask" (top 52) f fd) (c_ratio_sum : Fn P w A.K mg base 6 "ratio_sum" ["first", "second"] (P_ratio_sum A)) (c_ratio_difference : Fn P w A.K mg base 6 "ratio_difference" ["first", "second"] (P_ratio_difference A)) (c_ratio_product : Fn P w A.K mg base 6 "ratio_product" ["first", "second"] (P_ratio_product A)) (c_ratio_quotient : Fn P w A.K mg base 6 "ratio_quotient" ["first", "second"] (P_ratio_quotient A)) (c_ratio_power : Fn P w A.K mg base 5 "ratio_power" ["base", "exponent"] (P_ratio_power A)) (ck_ratio_sum_first_second : FnK P w A.K mg base 6 "ratio_sum" ["first", "second"] ["first", "second"] [0, 1] (P_ratio_sum A)) (ck_ratio_difference_second_first : FnK P w A.K mg base 6 "ratio_difference" ["first", "second"] ["second", "first"] [1, 0] (P_ratio_difference A)) (ck_ratio_product_second_first : FnK P w A.K mg base 6 "ratio_product" ["first", "second"] ["second", "first"] [1, 0] (P_ratio_product A)) (ck_ratio_quotient_second_first : FnK P w A.K mg base 6 "ratio_quotient" ["first", "second"] ["second", "first"] [1, 0] (P_ratio_quotient A)) (ck_ratio_power_base_exponent : FnK P w A.K mg base 5 "ratio_power" ["base", "exponent"] ["base", "exponent"] [0, 1] (P_ratio_power A)) : FnOk P w A.K mg base (L2N.CX P w) 7 f fd ["which", "given"] (P_l_ask A) := by
  have S := sc_l_ask
  refine fn_ok F S (r_l_ask A) fun cdv B outer s H E hr tk po => ?_
  have hq := hr.units
  exact pss_cons (bs_if (bt_cmp (ob_eq hq) (be_var 0) (pe_int)) (pss_one (ps_ret (be_call c_ratio_sum (hr.mono (by decide)) tk (ba_cons (be_ix (be_var 1) (pe_int)) (ba_cons (be_ix (be_var 1) (pe_int)) (ba_nil)))))) (pss_nil)) (pss_cons (bs_if (bt_cmp (ob_eq hq) (be_var 0) (pe_int)) (pss_one (ps_ret (be_call c_ratio_difference (hr.mono (by decide)) tk (ba_cons (be_ix (be_var 1) (pe_int)) (ba_cons (be_ix (be_var 1) (pe_int)) (ba_nil)))))) (pss_nil)) (pss_cons (bs_if (bt_cmp (ob_eq hq) (be_var 0) (pe_int)) (pss_one (ps_ret (be_call c_ratio_product (hr.mono (by decide)) tk (ba_cons (be_ix (be_var 1) (pe_int)) (ba_cons (be_ix (be_var 1) (pe_int)) (ba_nil)))))) (pss_nil)) (pss_cons (bs_if (bt_cmp (ob_eq hq) (be_var 0) (pe_int)) (pss_one (ps_ret (be_call c_ratio_quotient (hr.mono (by decide)) tk (ba_cons (be_ix (be_var 1) (pe_int)) (ba_cons (be_ix (be_var 1) (pe_int)) (ba_nil)))))) (pss_nil)) (pss_cons (bs_if (bt_cmp (ob_eq hq) (be_var 0) (pe_int)) (pss_one (ps_ret (be_call c_ratio_power (hr.mono (by decide)) tk (ba_cons (be_ix (be_var 1) (pe_int)) (ba_cons (be_ix (be_var 1) (pe_int)) (ba_nil)))))) (pss_nil)) (pss_cons (bs_if (bt_cmp (ob_eq hq) (be_var 0) (pe_int)) (pss_one (ps_ret (be_callK ck_ratio_sum_first_second (hr.mono (by decide)) tk (bk_cons (be_ix (be_var 1) (pe_int)) (bk_cons (be_ix (be_var 1) (pe_int)) (bk_nil)))))) (pss_nil)) (pss_cons (bs_if (bt_cmp (ob_eq hq) (be_var 0) (pe_int)) (pss_one (ps_ret (be_callK ck_ratio_difference_second_first (hr.mono (by decide)) tk (bk_cons (be_ix (be_var 1) (pe_int)) (bk_cons (be_ix (be_var 1) (pe_int)) (bk_nil)))))) (pss_nil)) (pss_cons (bs_if (bt_cmp (ob_eq hq) (be_var 0) (pe_int)) (pss_one (ps_ret (be_callK ck_ratio_product_second_first (hr.mono (by decide)) tk (bk_cons (be_ix (be_var 1) (pe_int)) (bk_cons (be_ix (be_var 1) (pe_int)) (bk_nil)))))) (pss_nil)) (pss_cons (bs_if (bt_cmp (ob_eq hq) (be_var 0) (pe_int)) (pss_one (ps_ret (be_callK ck_ratio_quotient_second_first (hr.mono (by decide)) tk (bk_cons (be_ix (be_var 1) (pe_int)) (bk_cons (be_ix (be_var 1) (pe_int)) (bk_nil)))))) (pss_nil)) (pss_one (ps_ret (be_callK ck_ratio_power_base_exponent (hr.mono (by decide)) tk (bk_cons (be_ix (be_var 1) (pe_int)) (bk_cons (be_ix (be_var 1) (pe_int)) (bk_nil))))))))))))))
theorem sc_l_due : FnScope ["which", "given", "fault"] ["which", "given"] (defScope (top 53)) := ⟨rfl, rfl, rfl, by decide +kernel, rfl, by decide +kernel, by decide +kernel⟩
theorem ok_l_due (T : Tx P w mg base A) (F : Fun A.K "_law_due" "_law_due" (top 53) f fd) (c_l_number_fault : Fn P w A.K mg base 1 "_law_number_fault" ["given", "low", "high"] (P_l_number_fault A)) (c_l_first_fault : Fn P w A.K mg base 1 "_law_first_fault" ["pair_row"] (P_l_first_fault A)) (c_l_fraction_fault : Fn P w A.K mg base 2 "_law_fraction_fault" ["given"] (P_l_fraction_fault A)) : FnOk P w A.K mg base (L2N.CX P w) 3 f fd ["which", "given"] (P_l_due A) := by
  have S := sc_l_due
  refine fn_ok F S (r_l_due A) fun cdv B outer s H E hr tk po => ?_
  have hq := hr.units
  exact pss_cons (bs_if (bt_cmp (ob_eq hq) (be_var 0) (pe_int)) (pss_cons (ps_set (i := 2) S.nd rfl (.inl rfl) (be_call c_l_number_fault (hr.mono (by decide)) tk (ba_cons (be_ix (be_var 1) (pe_int)) (ba_cons (pe_int) (ba_cons (pe_int) (ba_nil)))))) (pss_one (ps_ret (be_call c_l_first_fault (hr.mono (by decide)) tk (ba_cons (be_lst (ba_cons (be_tup (ba_cons (pe_str) (ba_cons (be_call c_l_fraction_fault (hr.mono (by decide)) tk (ba_cons (be_ix (be_var 1) (pe_int)) (ba_nil))) (ba_nil)))) (ba_cons (be_tup (ba_cons (pe_str) (ba_cons (be_var 2) (ba_nil)))) (ba_nil)))) (ba_nil)))))) (pss_nil)) (pss_cons (ps_set (i := 2) S.nd rfl (.inl rfl) (be_call c_l_fraction_fault (hr.mono (by decide)) tk (ba_cons (be_ix (be_var 1) (pe_int)) (ba_nil)))) (pss_cons (bs_if (PW.pt (bt_and (bt_cmp (ob_eq hq) (be_var 0) (pe_int)) (bt_and (bt_cmp (ob_eq hq) (be_var 2) (pe_str)) (bt_and1 (bt_cmp (ob_eq hq) (be_ix (be_ix (be_var 1) (pe_int)) (pe_int)) (pe_int)))))) (pss_one (ps_set (i := 2) S.nd rfl (.inl rfl) (pe_str))) (pss_nil)) (pss_one (ps_ret (be_call c_l_first_fault (hr.mono (by decide)) tk (ba_cons (be_lst (ba_cons (be_tup (ba_cons (pe_str) (ba_cons (be_call c_l_fraction_fault (hr.mono (by decide)) tk (ba_cons (be_ix (be_var 1) (pe_int)) (ba_nil))) (ba_nil)))) (ba_cons (be_tup (ba_cons (pe_str) (ba_cons (be_var 2) (ba_nil)))) (ba_nil)))) (ba_nil)))))))
theorem sc_l_cross : FnScope ["which", "given", "one", "two", "high", "low", "k"] ["which", "given"] (defScope (top 54)) := ⟨rfl, rfl, rfl, by decide +kernel, rfl, by decide +kernel, by decide +kernel⟩
theorem ok_l_cross (T : Tx P w mg base A) (F : Fun A.K "_law_cross" "_law_cross" (top 54) f fd)  : FnOk P w A.K mg base (L2N.CX P w) 1 f fd ["which", "given"] (P_l_cross A) := by
  have S := sc_l_cross
  refine fn_ok F S (r_l_cross A) fun cdv B outer s H E hr tk po => ?_
  have hq := hr.units
  exact pss_cons (ps_set (i := 2) S.nd rfl (.inl rfl) (be_ix (be_var 1) (pe_int))) (pss_cons (ps_set (i := 3) S.nd rfl (.inl rfl) (be_ix (be_var 1) (pe_int))) (pss_cons (bs_if (bt_cmp (ob_eq hq) (be_var 0) (pe_int)) (pss_one (ps_ret (be_tup (ba_cons (be_bin ob_add (be_bin ob_mul (be_ix (be_var 2) (pe_int)) (be_ix (be_var 3) (pe_int))) (be_bin ob_mul (be_ix (be_var 3) (pe_int)) (be_ix (be_var 2) (pe_int)))) (ba_cons (be_bin ob_mul (be_ix (be_var 2) (pe_int)) (be_ix (be_var 3) (pe_int))) (ba_nil)))))) (pss_nil)) (pss_cons (bs_if (bt_cmp (ob_eq hq) (be_var 0) (pe_int)) (pss_one (ps_ret (be_tup (ba_cons (be_bin ob_sub (be_bin ob_mul (be_ix (be_var 2) (pe_int)) (be_ix (be_var 3) (pe_int))) (be_bin ob_mul (be_ix (be_var 3) (pe_int)) (be_ix (be_var 2) (pe_int)))) (ba_cons (be_bin ob_mul (be_ix (be_var 2) (pe_int)) (be_ix (be_var 3) (pe_int))) (ba_nil)))))) (pss_nil)) (pss_cons (bs_if (bt_cmp (ob_eq hq) (be_var 0) (pe_int)) (pss_one (ps_ret (be_tup (ba_cons (be_bin ob_mul (be_ix (be_var 2) (pe_int)) (be_ix (be_var 3) (pe_int))) (ba_cons (be_bin ob_mul (be_ix (be_var 2) (pe_int)) (be_ix (be_var 3) (pe_int))) (ba_nil)))))) (pss_nil)) (pss_cons (bs_if (bt_cmp (ob_eq hq) (be_var 0) (pe_int)) (pss_one (ps_ret (be_tup (ba_cons (be_bin ob_mul (be_ix (be_var 2) (pe_int)) (be_ix (be_var 3) (pe_int))) (ba_cons (be_bin ob_mul (be_ix (be_var 2) (pe_int)) (be_ix (be_var 3) (pe_int))) (ba_nil)))))) (pss_nil)) (pss_cons (ps_set (i := 4) S.nd rfl (.inl rfl) (pe_int)) (pss_cons (ps_set (i := 5) S.nd rfl (.inl rfl) (pe_int)) (pss_cons (bs_forR T.b_range po rfl (be_var 3) (pg_name (i := 6) S.nd rfl (.inl rfl)) (pss_cons (ps_set (i := 4) S.nd rfl (.inl rfl) (be_bin ob_mul (be_var 4) (be_ix (be_var 2) (pe_int)))) (pss_one (ps_set (i := 5) S.nd rfl (.inl rfl) (be_bin ob_mul (be_var 5) (be_ix (be_var 2) (pe_int))))))) (pss_one (ps_ret (be_tup (ba_cons (be_var 4) (ba_cons (be_var 5) (ba_nil))))))))))))))
theorem sc_l_holds : FnScope ["which", "given", "due", "way", "told", "pair"] ["which", "given"] (defScope (top 55)) := ⟨rfl, rfl, rfl, by decide +kernel, rfl, by decide +kernel, by decide +kernel⟩
theorem ok_l_holds (T : Tx P w mg base A) (F : Fun A.K "_law_holds" "_law_holds" (top 55) f fd) (c_l_due : Fn P w A.K mg base 3 "_law_due" ["which", "given"] (P_l_due A)) (c_l_told : Fn P w A.K mg base 9 "_law_told" ["which", "given"] (P_l_told A)) (c_l_same : Fn P w A.K mg base 6 "_law_same" ["told", "due"] (P_l_same A)) (c_l_cross : Fn P w A.K mg base 1 "_law_cross" ["which", "given"] (P_l_cross A)) (c_l_is_ratio_of : Fn P w A.K mg base 3 "_law_is_ratio_of" ["told", "one", "two"] (P_l_is_ratio_of A)) : FnOk P w A.K mg base (L2N.CX P w) 10 f fd ["which", "given"] (P_l_holds A) := by
  have S := sc_l_holds
  refine fn_ok F S (r_l_holds A) fun cdv B outer s H E hr tk po => ?_
  have hq := hr.units
  exact pss_cons (ps_set (i := 2) S.nd rfl (.inl rfl) (be_call c_l_due (hr.mono (by decide)) tk (ba_cons (be_var 0) (ba_cons (be_var 1) (ba_nil))))) (pss_cons (bs_forA po rfl (be_lst (ba_cons (be_var 0) (ba_cons (be_bin ob_add (be_var 0) (pe_int)) (ba_nil)))) (pg_name (i := 3) S.nd rfl (.inl rfl)) (pss_cons (ps_set (i := 4) S.nd rfl (.inl rfl) (be_call c_l_told (hr.mono (by decide)) tk (ba_cons (be_var 3) (ba_cons (be_var 1) (ba_nil))))) (pss_one (bs_if (bt_cmp ob_notN (be_var 2) (pe_non)) (pss_one (bs_if (bt_not (bt_tru (be_call c_l_same (hr.mono (by decide)) tk (ba_cons (be_var 4) (ba_cons (be_tup (ba_cons (pe_str) (ba_cons (be_var 2) (ba_nil)))) (ba_nil)))))) (pss_one (ps_ret (pe_bl))) (pss_nil))) (pss_cons (ps_set (i := 5) S.nd rfl (.inl rfl) (be_call c_l_cross (hr.mono (by decide)) tk (ba_cons (be_var 0) (ba_cons (be_var 1) (ba_nil))))) (pss_one (bs_if (PW.pt (bt_or (bt_cmp (ob_ne hq) (be_ix (be_var 4) (pe_int)) (pe_str)) (bt_or1 (bt_not (bt_tru (be_call c_l_is_ratio_of (hr.mono (by decide)) tk (ba_cons (be_ix (be_var 4) (pe_int)) (ba_cons (be_ix (be_var 5) (pe_int)) (ba_cons (be_ix (be_var 5) (pe_int)) (ba_nil)))))))))) (pss_one (ps_ret (pe_bl))) (pss_nil)))))))) (pss_one (ps_ret (pe_bl))))
theorem sc_l_base : FnScope ["store", "many", "high", "low"] ["store", "many"] (defScope (top 56)) := ⟨rfl, rfl, rfl, by decide +kernel, rfl, by decide +kernel, by decide +kernel⟩
theorem ok_l_base (T : Tx P w mg base A) (F : Fun A.K "_law_base" "_law_base" (top 56) f fd) (c_l_ten : Fn P w A.K mg base 1 "_law_ten" ["digits"] (P_l_ten A)) (c_l_near : Fn P w A.K mg base 4 "_law_near" ["store", "low", "high"] (P_l_near A)) (c_l_take : Fn P w A.K mg base 3 "_law_take" ["store", "many"] (P_l_take A)) : FnOk P w A.K mg base (L2N.CX P w) 5 f fd ["store", "many"] (P_l_base A) := by
  have S := sc_l_base
  refine fn_ok F S (r_l_base A) fun cdv B outer s H E hr tk po => ?_
  have hq := hr.units
  exact pss_cons (ps_set (i := 2) S.nd rfl (.inl rfl) (be_bin ob_sub (be_call c_l_ten (hr.mono (by decide)) tk (ba_cons (be_min T.b_min rfl (pe_int) (be_bin ob_fdv (pe_int) (be_max T.b_max rfl (pe_int) (be_var 1)))) (ba_nil))) (pe_int))) (pss_cons (ps_set (i := 3) S.nd rfl (.inl rfl) (be_call c_l_near (hr.mono (by decide)) tk (ba_cons (be_var 0) (ba_cons (pe_int) (ba_cons (be_var 2) (ba_nil)))))) (pss_cons (bs_if (bt_cmp (ob_eq hq) (be_call c_l_take (hr.mono (by decide)) tk (ba_cons (be_var 0) (ba_cons (pe_int) (ba_nil)))) (pe_int)) (pss_one (ps_ret (be_tup (ba_cons (pe_int) (ba_cons (be_var 3) (ba_nil)))))) (pss_nil)) (pss_one (ps_ret (be_tup (ba_cons (be_call c_l_near (hr.mono (by decide)) tk (ba_cons (be_var 0) (ba_cons (be_bin ob_sub (pe_int) (be_var 2)) (ba_cons (be_var 2) (ba_nil))))) (ba_cons (be_var 3) (ba_nil))))))))
theorem sc_l_beside : FnScope ["store", "item"] ["store", "item"] (defScope (top 57)) := ⟨rfl, rfl, rfl, by decide +kernel, rfl, by decide +kernel, by decide +kernel⟩
theorem ok_l_beside (T : Tx P w mg base A) (F : Fun A.K "_law_beside" "_law_beside" (top 57) f fd) (c_l_take : Fn P w A.K mg base 3 "_law_take" ["store", "many"] (P_l_take A)) (c_l_odd_fraction : Fn P w A.K mg base 4 "_law_odd_fraction" ["store"] (P_l_odd_fraction A)) : FnOk P w A.K mg base (L2N.CX P w) 5 f fd ["store", "item"] (P_l_beside A) := by
  have S := sc_l_beside
  refine fn_ok F S (r_l_beside A) fun cdv B outer s H E hr tk po => ?_
  have hq := hr.units
  exact pss_cons (bs_if (bt_cmp (ob_eq hq) (be_call c_l_take (hr.mono (by decide)) tk (ba_cons (be_var 0) (ba_cons (pe_int) (ba_nil)))) (pe_int)) (pss_one (ps_ret (be_var 1))) (pss_nil)) (pss_one (ps_ret (be_call c_l_odd_fraction (hr.mono (by decide)) tk (ba_cons (be_var 0) (ba_nil)))))
theorem sc_l_great : FnScope ["store", "two", "many", "top", "low", "above", "under", "base", "asked", "item", "total"] ["store", "two"] (defScope (top 58)) := ⟨rfl, rfl, rfl, by decide +kernel, rfl, by decide +kernel, by decide +kernel⟩
theorem ok_l_great (T : Tx P w mg base A) (F : Fun A.K "_law_great" "_law_great" (top 58) f fd) (c_l_ten : Fn P w A.K mg base 1 "_law_ten" ["digits"] (P_l_ten A)) (c_l_take : Fn P w A.K mg base 3 "_law_take" ["store", "many"] (P_l_take A)) (c_l_holds : Fn P w A.K mg base 10 "_law_holds" ["which", "given"] (P_l_holds A)) (c_ratio_power : Fn P w A.K mg base 5 "ratio_power" ["base", "exponent"] (P_ratio_power A)) : FnOk P w A.K mg base (L2N.CX P w) 11 f fd ["store", "two"] (P_l_great A) := by
  have S := sc_l_great
  refine fn_ok F S (r_l_great A) fun cdv B outer s H E hr tk po => ?_
  have hq := hr.units
  exact pss_cons (ps_set (i := 2) S.nd rfl (.inl rfl) (be_call c_l_ten (hr.mono (by decide)) tk (ba_cons (be_bin ob_add (pe_int) (be_call c_l_take (hr.mono (by decide)) tk (ba_cons (be_var 0) (ba_cons (pe_int) (ba_nil))))) (ba_nil)))) (pss_cons (ps_set (i := 3) S.nd rfl (.inl rfl) (be_bin ob_mul (be_bin ob_add (be_var 2) (be_call c_l_take (hr.mono (by decide)) tk (ba_cons (be_var 0) (ba_cons (be_var 2) (ba_nil))))) (be_ix (be_lst (ba_cons (pe_int) (ba_cons (be_un ob_neg (pe_int)) (ba_nil)))) (be_call c_l_take (hr.mono (by decide)) tk (ba_cons (be_var 0) (ba_cons (pe_int) (ba_nil))))))) (pss_cons (ps_set (i := 4) S.nd rfl (.inl rfl) (be_bin ob_add (pe_int) (be_call c_l_take (hr.mono (by decide)) tk (ba_cons (be_var 0) (ba_cons (pe_int) (ba_nil)))))) (pss_cons (ps_set (i := 5) S.nd rfl (.inl rfl) (be_tup (ba_cons (be_var 3) (ba_cons (be_var 4) (ba_nil))))) (pss_cons (ps_set (i := 6) S.nd rfl (.inl rfl) (be_tup (ba_cons (be_var 4) (ba_cons (be_abs T.b_abs (be_var 3)) (ba_nil))))) (pss_cons (ps_set (i := 7) S.nd rfl (.inl rfl) (be_tup (ba_cons (be_bin ob_add (be_bin ob_pow (pe_int) (pe_int)) (be_call c_l_take (hr.mono (by decide)) tk (ba_cons (be_var 0) (ba_cons (be_bin ob_pow (pe_int) (pe_int)) (ba_nil))))) (ba_cons (be_bin ob_add (pe_int) (be_call c_l_take (hr.mono (by decide)) tk (ba_cons (be_var 0) (ba_cons (pe_int) (ba_nil))))) (ba_nil))))) (pss_cons (ps_set (i := 8) S.nd rfl (.inl rfl) (be_lst (ba_cons (be_tup (ba_cons (pe_int) (ba_cons (be_tup (ba_cons (be_var 5) (ba_cons (be_var 1) (ba_nil)))) (ba_nil)))) (ba_cons (be_tup (ba_cons (pe_int) (ba_cons (be_tup (ba_cons (be_var 1) (ba_cons (be_var 5) (ba_nil)))) (ba_nil)))) (ba_cons (be_tup (ba_cons (pe_int) (ba_cons (be_tup (ba_cons (be_var 5) (ba_cons (be_var 1) (ba_nil)))) (ba_nil)))) (ba_cons (be_tup (ba_cons (pe_int) (ba_cons (be_tup (ba_cons (be_var 1) (ba_cons (be_var 6) (ba_nil)))) (ba_nil)))) (ba_cons (be_tup (ba_cons (pe_int) (ba_cons (be_tup (ba_cons (be_var 6) (ba_cons (be_var 1) (ba_nil)))) (ba_nil)))) (ba_nil)))))))) (pss_cons (ps_set (i := 2) S.nd rfl (.inl rfl) (be_bin ob_sub (pe_int) (be_call c_l_take (hr.mono (by decide)) tk (ba_cons (be_var 0) (ba_cons (pe_int) (ba_nil)))))) (pss_cons (bs_forA po rfl (be_bin ob_add (be_var 8) (be_lst (ba_cons (be_tup (ba_cons (pe_int) (ba_cons (be_tup (ba_cons (be_var 1) (ba_cons (be_var 5) (ba_nil)))) (ba_nil)))) (ba_cons (be_tup (ba_cons (pe_int) (ba_cons (be_tup (ba_cons (be_var 7) (ba_cons (be_var 2) (ba_nil)))) (ba_nil)))) (ba_nil))))) (pg_name (i := 9) S.nd rfl (.inl rfl)) (pss_one (bs_if (bt_not (bt_tru (be_call c_l_holds (hr.mono (by decide)) tk (ba_cons (be_ix (be_var 9) (pe_int)) (ba_cons (be_ix (be_var 9) (pe_int)) (ba_nil)))))) (pss_one (ps_ret (pe_bl))) (pss_nil)))) (pss_cons (ps_set (i := 10) S.nd rfl (.inl rfl) (be_call c_ratio_power (hr.mono (by decide)) tk (ba_cons (be_var 7) (ba_cons (be_var 2) (ba_nil))))) (pss_one (ps_ret (be_and (be_call c_l_holds (hr.mono (by decide)) tk (ba_cons (pe_int) (ba_cons (be_tup (ba_cons (be_var 10) (ba_cons (be_var 1) (ba_nil)))) (ba_nil)))) (be_and (be_call c_l_holds (hr.mono (by decide)) tk (ba_cons (pe_int) (ba_cons (be_tup (ba_cons (be_var 1) (ba_cons (be_var 10) (ba_nil)))) (ba_nil)))) (be_one (be_call c_l_holds (hr.mono (by decide)) tk (ba_cons (pe_int) (ba_cons (be_tup (ba_cons (be_var 10) (ba_cons (be_var 1) (ba_nil)))) (ba_nil))))))))))))))))))
theorem sc_law : FnScope ["script", "store", "asked", "k", "one", "two", "many", "above", "which", "raised", "small", "bent", "item", "total"] ["script"] (defScope (top 59)) := ⟨rfl, rfl, rfl, by decide +kernel, rfl, by decide +kernel, by decide +kernel⟩
theorem ok_law (T : Tx P w mg base A) (F : Fun A.K "law" "law" (top 59) f fd) (c_l_store : Fn P w A.K mg base 1 "_law_store" ["script"] (P_l_store A)) (c_l_fraction : Fn P w A.K mg base 6 "_law_fraction" ["store", "digits"] (P_l_fraction A)) (c_l_take : Fn P w A.K mg base 3 "_law_take" ["store", "many"] (P_l_take A)) (c_l_near : Fn P w A.K mg base 4 "_law_near" ["store", "low", "high"] (P_l_near A)) (c_l_base : Fn P w A.K mg base 5 "_law_base" ["store", "many"] (P_l_base A)) (c_l_beside : Fn P w A.K mg base 5 "_law_beside" ["store", "item"] (P_l_beside A)) (c_l_odd_number : Fn P w A.K mg base 4 "_law_odd_number" ["store", "low", "high"] (P_l_odd_number A)) (c_l_odd_fraction : Fn P w A.K mg base 4 "_law_odd_fraction" ["store"] (P_l_odd_fraction A)) (c_l_fraction_fault : Fn P w A.K mg base 2 "_law_fraction_fault" ["given"] (P_l_fraction_fault A)) (c_l_number_fault : Fn P w A.K mg base 1 "_law_number_fault" ["given", "low", "high"] (P_l_number_fault A)) (c_l_holds : Fn P w A.K mg base 10 "_law_holds" ["which", "given"] (P_l_holds A)) (c_ratio_sum : Fn P w A.K mg base 6 "ratio_sum" ["first", "second"] (P_ratio_sum A)) (c_ratio_product : Fn P w A.K mg base 6 "ratio_product" ["first", "second"] (P_ratio_product A)) (c_l_great : Fn P w A.K mg base 11 "_law_great" ["store", "two"] (P_l_great A)) : FnOk P w A.K mg base (L2N.CX P w) 12 f fd ["script"] (P_law A) := by
  have S := sc_law
  refine fn_ok F S (r_law A) fun cdv B outer s H E hr tk po => ?_
  have hq := hr.units
  exact pss_cons (ps_set (i := 1) S.nd rfl (.inl rfl) (be_call c_l_store (hr.mono (by decide)) tk (ba_cons (be_var 0) (ba_nil)))) (pss_cons (ps_set (i := 2) S.nd rfl (.inl rfl) (be_lst (ba_nil))) (pss_cons (bs_forR T.b_range po rfl (pe_int) (pg_name (i := 3) S.nd rfl (.inl rfl)) (pss_cons (ps_set (i := 4) S.nd rfl (.inl rfl) (be_call c_l_fraction (hr.mono (by decide)) tk (ba_cons (be_var 1) (ba_cons (pe_int) (ba_nil))))) (pss_cons (ps_set (i := 5) S.nd rfl (.inl rfl) (be_call c_l_fraction (hr.mono (by decide)) tk (ba_cons (be_var 1) (ba_cons (pe_int) (ba_nil))))) (pss_cons (ps_set (i := 6) S.nd rfl (.inl rfl) (be_bin ob_add (pe_int) (be_call c_l_take (hr.mono (by decide)) tk (ba_cons (be_var 1) (ba_cons (pe_int) (ba_nil)))))) (pss_cons (ps_set (i := 7) S.nd rfl (.inl rfl) (be_tup (ba_cons (be_bin ob_mul (be_ix (be_var 5) (pe_int)) (be_var 6)) (ba_cons (be_bin ob_mul (be_ix (be_var 5) (pe_int)) (be_var 6)) (ba_nil))))) (pss_cons (bs_forR T.b_range po rfl (pe_int) (pg_name (i := 8) S.nd rfl (.inl rfl)) (pss_cons (ps_expr (be_app (be_var 2) (be_tup (ba_cons (be_var 8) (ba_cons (be_tup (ba_cons (be_var 4) (ba_cons (be_var 5) (ba_nil)))) (ba_nil)))))) (pss_one (ps_expr (be_app (be_var 2) (be_tup (ba_cons (be_var 8) (ba_cons (be_tup (ba_cons (be_var 4) (ba_cons (be_var 7) (ba_nil)))) (ba_nil))))))))) (pss_cons (ps_expr (be_app (be_var 2) (be_tup (ba_cons (pe_int) (ba_cons (be_tup (ba_cons (be_var 4) (ba_cons (be_tup (ba_cons (be_bin ob_sub (pe_int) (be_ix (be_var 4) (pe_int))) (ba_cons (be_ix (be_var 4) (pe_int)) (ba_nil)))) (ba_nil)))) (ba_nil)))))) (pss_cons (ps_expr (be_app (be_var 2) (be_tup (ba_cons (pe_int) (ba_cons (be_tup (ba_cons (be_var 5) (ba_cons (be_var 4) (ba_nil)))) (ba_nil)))))) (pss_cons (ps_set (i := 9) S.nd rfl (.inl rfl) (be_call c_l_near (hr.mono (by decide)) tk (ba_cons (be_var 1) (ba_cons (pe_int) (ba_cons (pe_int) (ba_nil)))))) (pss_cons (ps_set (i := 10) S.nd rfl (.inl rfl) (be_call c_l_base (hr.mono (by decide)) tk (ba_cons (be_var 1) (ba_cons (be_var 9) (ba_nil))))) (pss_cons (ps_expr (be_app (be_var 2) (be_tup (ba_cons (pe_int) (ba_cons (be_tup (ba_cons (be_var 10) (ba_cons (be_var 9) (ba_nil)))) (ba_nil)))))) (pss_cons (ps_set (i := 11) S.nd rfl (.inl rfl) (be_call c_l_beside (hr.mono (by decide)) tk (ba_cons (be_var 1) (ba_cons (be_var 4) (ba_nil))))) (pss_cons (ps_expr (be_app (be_var 2) (be_tup (ba_cons (be_call c_l_take (hr.mono (by decide)) tk (ba_cons (be_var 1) (ba_cons (pe_int) (ba_nil)))) (ba_cons (be_tup (ba_cons (be_var 11) (ba_cons (be_call c_l_beside (hr.mono (by decide)) tk (ba_cons (be_var 1) (ba_cons (be_var 5) (ba_nil)))) (ba_nil)))) (ba_nil)))))) (pss_cons (bs_if (bt_cmp (ob_eq hq) (be_call c_l_take (hr.mono (by decide)) tk (ba_cons (be_var 1) (ba_cons (pe_int) (ba_nil)))) (pe_int)) (pss_one (ps_set (i := 9) S.nd rfl (.inl rfl) (be_call c_l_odd_number (hr.mono (by decide)) tk (ba_cons (be_var 1) (ba_cons (pe_int) (ba_cons (pe_int) (ba_nil))))))) (pss_nil)) (pss_cons (bs_if (bt_cmp (ob_eq hq) (be_call c_l_take (hr.mono (by decide)) tk (ba_cons (be_var 1) (ba_cons (pe_int) (ba_nil)))) (pe_int)) (pss_one (ps_set (i := 10) S.nd rfl (.inl rfl) (be_call c_l_odd_fraction (hr.mono (by decide)) tk (ba_cons (be_var 1) (ba_nil))))) (pss_nil)) (pss_cons (bs_if (PW.pt (bt_and (bt_cmp (ob_eq hq) (be_call c_l_fraction_fault (hr.mono (by decide)) tk (ba_cons (be_var 10) (ba_nil))) (pe_str)) (bt_and1 (bt_cmp (ob_eq hq) (be_call c_l_number_fault (hr.mono (by decide)) tk (ba_cons (be_var 9) (ba_cons (pe_int) (ba_cons (pe_int) (ba_nil))))) (pe_str))))) (pss_one (ps_set (i := 9) S.nd rfl (.inl rfl) (be_min T.b_min rfl (be_var 9) (pe_int)))) (pss_nil)) (pss_one (ps_expr (be_app (be_var 2) (be_tup (ba_cons (pe_int) (ba_cons (be_tup (ba_cons (be_var 10) (ba_cons (be_var 9) (ba_nil)))) (ba_nil))))))))))))))))))))))) (pss_cons (bs_forA po rfl (be_bin ob_add (be_var 2) (be_lrev rfl T.b_list T.b_reversed (be_list T.b_list (be_var 2)))) (pg_name (i := 12) S.nd rfl (.inl rfl)) (pss_one (bs_if (bt_not (bt_tru (be_call c_l_holds (hr.mono (by decide)) tk (ba_cons (be_ix (be_var 12) (pe_int)) (ba_cons (be_ix (be_var 12) (pe_int)) (ba_nil)))))) (pss_one (ps_ret (pe_bl))) (pss_nil)))) (pss_cons (ps_set (i := 13) S.nd rfl (.inl rfl) (be_call c_ratio_sum (hr.mono (by decide)) tk (ba_cons (be_var 4) (ba_cons (be_var 5) (ba_nil))))) (pss_cons (bs_if (PW.pt (bt_or (bt_not (bt_tru (be_call c_l_holds (hr.mono (by decide)) tk (ba_cons (pe_int) (ba_cons (be_tup (ba_cons (be_var 13) (ba_cons (be_var 5) (ba_nil)))) (ba_nil)))))) (bt_or1 (bt_not (bt_tru (be_call c_l_holds (hr.mono (by decide)) tk (ba_cons (pe_int) (ba_cons (be_tup (ba_cons (be_var 4) (ba_cons (be_var 13) (ba_nil)))) (ba_nil))))))))) (pss_one (ps_ret (pe_bl))) (pss_nil)) (pss_cons (ps_set (i := 13) S.nd rfl (.inl rfl) (be_call c_ratio_product (hr.mono (by decide)) tk (ba_cons (be_var 4) (ba_cons (be_var 5) (ba_nil))))) (pss_cons (bs_if (PW.pt (bt_or (bt_not (bt_tru (be_call c_l_holds (hr.mono (by decide)) tk (ba_cons (pe_int) (ba_cons (be_tup (ba_cons (be_var 13) (ba_cons (be_var 5) (ba_nil)))) (ba_nil)))))) (bt_or1 (bt_not (bt_tru (be_call c_l_holds (hr.mono (by decide)) tk (ba_cons (pe_int) (ba_cons (be_tup (ba_cons (be_var 5) (ba_cons (be_var 13) (ba_nil)))) (ba_nil))))))))) (pss_one (ps_ret (pe_bl))) (pss_nil)) (pss_one (ps_ret (be_or (be_cmp ob_gt (be_call c_l_take (hr.mono (by decide)) tk (ba_cons (be_var 1) (ba_cons (pe_int) (ba_nil)))) (pe_int)) (be_one (be_call c_l_great (hr.mono (by decide)) tk (ba_cons (be_var 1) (ba_cons (be_var 5) (ba_nil)))))))))))))))
end
/-- a def of the module -/
def Dn (K : PySem.W.Frag) (x : Str) (st : Stmt) : Prop := ∃ (f : Addr) (fd : FuncData), PySem.W.nsIn K mainGlobals x = some (some (.ref f)) ∧ Fun K x x st f fd
theorem dn_mk {K : PySem.W.Frag} {x : Str} {st : Stmt} {f : Addr} {oc : Value} {od an : Option Addr} {osl : Array (Option Value)} {kV doc pm cdv ct : Value} (a : PySem.W.nsIn K mainGlobals x = some (some (.ref f))) (l : K.lookup f = some ⟨oc, od, .func (PySem.W.fnOf x x (defArgs st) (defBody st) (defScope st) .none kV doc pm an cdv ct), osl⟩)
    (c : PySem.W.codeIn K cdv x = true) (k : PySem.W.keepIn K (.ref f) = true) : Dn K x st := ⟨f, _, a, fun_mk l c k⟩
/-- what the written part says of a class that these defs raise -/
structure Xf (K : PySem.W.Frag) (q : Str) (st : Stmt) (C S : Addr) : Prop where
  cls : ∃ nm q N bs sn sub ab col dd k0 k1 k2 k3 k5, K.lookup C = some (excClassObj nm q C N bs [.ref S, .type "ValueError", .type "Exception", .type "BaseException", .type "object"] true sn sub ab col dd k0 k1 k2 k3 k5 "ValueError.__new__")
  sa : PySem.W.findIn K (.ref C) "__setattr__" = some (some (.builtin "object.__setattr__"))
  exC : PySem.W.subIn K (.ref C) (.type "BaseException") = some true
  tyC : PySem.W.typeIn K (.ref C) = some (.type "type")
  kC : PySem.W.keepIn K (.ref C) = true
  ga : PySem.W.findIn K (.ref C) "__getattribute__" = some (some (.builtin "BaseException.__getattribute__"))
  gg : PySem.W.findIn K (.ref C) "__getattr__" = some none
  hd : PySem.W.hasDictIn K C = true
  ca : PySem.W.findIn K (.ref C) "__class__" = some (some (.builtin "object.__class__"))
  cm : PySem.W.mroIn K C (.type "object") = some true
  no : PySem.W.findIn K (.ref C) "argument" = some none
  ini : ∃ (f : Addr) (fd : FuncData), PySem.W.findIn K (.ref C) "__init__" = some (some (.ref f)) ∧ PySem.W.typeIn K (.ref f) = some (.type "function") ∧ Fun K "__init__" q st f fd
theorem xf_mk {K : PySem.W.Frag} {q : Str} {st : Stmt} {C S : Addr} {nm q2 : Str} {N : Addr} {bs : List Value} {sn : List Str} {sub : List Value} {ab : Bool} {col : Option Bool} {dd : Option Addr} {m0 m1 m2 m3 m5 : Option Value} {f : Addr} {oc : Value} {od an : Option Addr} {osl : Array (Option Value)} {kV doc pm cdv ct : Value}
    (xL : K.lookup C = some (excClassObj nm q2 C N bs [.ref S, .type "ValueError", .type "Exception", .type "BaseException", .type "object"] true sn sub ab col dd m0 m1 m2 m3 m5 "ValueError.__new__"))
    (sa : PySem.W.findIn K (.ref C) "__setattr__" = some (some (.builtin "object.__setattr__"))) (exC : PySem.W.subIn K (.ref C) (.type "BaseException") = some true) (tyC : PySem.W.typeIn K (.ref C) = some (.type "type")) (kC : PySem.W.keepIn K (.ref C) = true)
    (ga : PySem.W.findIn K (.ref C) "__getattribute__" = some (some (.builtin "BaseException.__getattribute__"))) (gg : PySem.W.findIn K (.ref C) "__getattr__" = some none) (hd : PySem.W.hasDictIn K C = true) (ca : PySem.W.findIn K (.ref C) "__class__" = some (some (.builtin "object.__class__")))
    (cm : PySem.W.mroIn K C (.type "object") = some true) (no : PySem.W.findIn K (.ref C) "argument" = some none) (ai : PySem.W.findIn K (.ref C) "__init__" = some (some (.ref f))) (ti : PySem.W.typeIn K (.ref f) = some (.type "function"))
    (l : K.lookup f = some ⟨oc, od, .func (PySem.W.fnOf "__init__" q (defArgs st) (defBody st) (defScope st) .none kV doc pm an cdv ct), osl⟩) (c : PySem.W.codeIn K cdv q = true) (k : PySem.W.keepIn K (.ref f) = true) : Xf K q st C S :=
  ⟨⟨_, _, _, _, _, _, _, _, _, _, _, _, _, _, xL⟩, sa, exC, tyC, kC, ga, gg, hd, ca, cm, no, f, _, ai, ti, fun_mk l c k⟩
theorem Xf.oex {K : PySem.W.Frag} {q : Str} {st : Stmt} {C S : Addr} (h : Xf K q st C S) : OexC K C := by
  obtain ⟨nm, q, N, bs, sn, sub, ab, col, dd, k0, k1, k2, k3, k5, e⟩ := h.cls
  exact ⟨⟨_, _, _, _, _, _, _, _, _, _, _, _, _, _, _, e, rfl⟩, h.sa, h.exC, h.tyC, h.kC⟩
theorem Xf.exk {K : PySem.W.Frag} {q : Str} {st : Stmt} {C S : Addr} (h : Xf K q st C S) (cn : PySem.W.specialIn K (.builtin "object.__class__") "__get__" = some (some (.builtin "getset_descriptor.__get__"))) (ct : PySem.W.takesIn K (.builtin "object.__class__") = some true) : ExK K C :=
  ⟨h.oex, h.ga, h.gg, h.hd, h.ca, cn, ct, h.cm⟩
theorem in_WrongKind {P : Program} {w : World} {K : PySem.W.Frag} {mg : Str → Option Value} {base : Heap} {C S : Addr} (h : Xf K "WrongKind.__init__" (inClass (top 3) 0) C S) (cn : PySem.W.specialIn K (.builtin "object.__class__") "__get__" = some (some (.builtin "getset_descriptor.__get__"))) (ct : PySem.W.takesIn K (.builtin "object.__class__") = some true) (at_ : mg "WrongKind" = some (.ref C)) : ExM P w K mg base "WrongKind" C "argument" := by
  obtain ⟨f, fd, a, t, F⟩ := h.ini
  have S : FnScope ["self", "argument"] ["self", "argument"] (defScope (inClass (top 3) 0)) := ⟨rfl, rfl, rfl, by decide +kernel, rfl, by decide +kernel, by decide +kernel⟩
  exact ⟨h.exk cn ct, at_, h.no, f, fd, a, t, init_ok F S rfl h.oex h.no rfl rfl (by decide) (by decide), F.binds fun _ _ _ _ _ _ us hl => match us, hl with | [_, _], _ => rfl⟩
theorem in_WrongSize {P : Program} {w : World} {K : PySem.W.Frag} {mg : Str → Option Value} {base : Heap} {C S : Addr} (h : Xf K "WrongSize.__init__" (inClass (top 4) 0) C S) (cn : PySem.W.specialIn K (.builtin "object.__class__") "__get__" = some (some (.builtin "getset_descriptor.__get__"))) (ct : PySem.W.takesIn K (.builtin "object.__class__") = some true) (at_ : mg "WrongSize" = some (.ref C)) : ExM P w K mg base "WrongSize" C "argument" := by
  obtain ⟨f, fd, a, t, F⟩ := h.ini
  have S : FnScope ["self", "argument"] ["self", "argument"] (defScope (inClass (top 4) 0)) := ⟨rfl, rfl, rfl, by decide +kernel, rfl, by decide +kernel, by decide +kernel⟩
  exact ⟨h.exk cn ct, at_, h.no, f, fd, a, t, init_ok F S rfl h.oex h.no rfl rfl (by decide) (by decide), F.binds fun _ _ _ _ _ _ us hl => match us, hl with | [_, _], _ => rfl⟩
theorem in_OutOfRange {P : Program} {w : World} {K : PySem.W.Frag} {mg : Str → Option Value} {base : Heap} {C S : Addr} (h : Xf K "OutOfRange.__init__" (inClass (top 5) 0) C S) (cn : PySem.W.specialIn K (.builtin "object.__class__") "__get__" = some (some (.builtin "getset_descriptor.__get__"))) (ct : PySem.W.takesIn K (.builtin "object.__class__") = some true) (at_ : mg "OutOfRange" = some (.ref C)) : ExM P w K mg base "OutOfRange" C "argument" := by
  obtain ⟨f, fd, a, t, F⟩ := h.ini
  have S : FnScope ["self", "argument"] ["self", "argument"] (defScope (inClass (top 5) 0)) := ⟨rfl, rfl, rfl, by decide +kernel, rfl, by decide +kernel, by decide +kernel⟩
  exact ⟨h.exk cn ct, at_, h.no, f, fd, a, t, init_ok F S rfl h.oex h.no rfl rfl (by decide) (by decide), F.binds fun _ _ _ _ _ _ us hl => match us, hl with | [_, _], _ => rfl⟩
theorem same_all {P : Program} {w : World} {mg : Str → Option Value} {base : Heap} (A : Ad) {f : Addr} {fd : FuncData} (T : Tx P w mg base A) (F : Fun A.K "_law_same" "_law_same" (top 37) f fd) (g : mg "_law_same" = some (.ref f)) (b : Binds A.K fd ["told", "due"] []) : ∀ n : Nat, FnOk P w A.K mg base (L2N.CX P w) n f fd ["told", "due"] (P_l_sameN A n)
  | 0 => by
    have no : ∀ vs H Q E, ¬ P_l_sameN A 0 vs H Q E := fun vs H Q E h => by
      obtain ⟨_, d, _, _, _, _, _, h, _⟩ := h
      cases d <;> exact h
    exact ⟨fun vs H Q E h => absurd h (no vs H Q E), fun A outer s H args us vs Q E _ _ _ _ h => absurd h (no vs H Q E)⟩
  | n + 1 => ok_l_same A n T F ⟨f, fd, same_all A T F g b n, g, F.kp, b⟩
def spL (K : PySem.W.Frag) : Sp := fun vs H Q _ => ∃ (a : Addr) (ns : List Int), vs = [.ref a] ∧ SqL K H a (ns.map V.int) ∧ ∀ H1, Q (.bl true) H1
theorem all_mk {P : Program} {w : World} {K : PySem.W.Frag} {h : Heap} {mg : Str → Option Value} {fa : Addr} {cS c0 c1 c2 c3 c4 c5 c6 c7 c8 c9 c10 c11 : Addr} {tm : Tok}
    (X : K.In h) (G : h.Ns mainGlobals mg) (hfa : mg "law" = some (.ref fa))
    (aS : PySem.W.nsIn K mainGlobals "ShadeError" = some (some (.ref cS)))
    (a0 : PySem.W.nsIn K mainGlobals "WrongKind" = some (some (.ref c0)))
    (a1 : PySem.W.nsIn K mainGlobals "WrongSize" = some (some (.ref c1)))
    (a2 : PySem.W.nsIn K mainGlobals "OutOfRange" = some (some (.ref c2)))
    (a3 : PySem.W.nsIn K mainGlobals "BadText" = some (some (.ref c3)))
    (a4 : PySem.W.nsIn K mainGlobals "NotATable" = some (some (.ref c4)))
    (a5 : PySem.W.nsIn K mainGlobals "Spent" = some (some (.ref c5)))
    (a6 : PySem.W.nsIn K mainGlobals "TooFewPlaces" = some (some (.ref c6)))
    (a7 : PySem.W.nsIn K mainGlobals "WrongPaper" = some (some (.ref c7)))
    (a8 : PySem.W.nsIn K mainGlobals "UnknownName" = some (some (.ref c8)))
    (a9 : PySem.W.nsIn K mainGlobals "NameTaken" = some (some (.ref c9)))
    (a10 : PySem.W.nsIn K mainGlobals "NothingToUndo" = some (some (.ref c10)))
    (a11 : PySem.W.nsIn K mainGlobals "BookFull" = some (some (.ref c11)))
    (x0 : Xf K "WrongKind.__init__" (inClass (top 3) 0) c0 cS)
    (x1 : Xf K "WrongSize.__init__" (inClass (top 4) 0) c1 cS)
    (x2 : Xf K "OutOfRange.__init__" (inClass (top 5) 0) c2 cS)
    (cn : PySem.W.specialIn K (.builtin "object.__class__") "__get__" = some (some (.builtin "getset_descriptor.__get__"))) (ct : PySem.W.takesIn K (.builtin "object.__class__") = some true)
    (k0_0 : PySem.W.kitOne K (.ref c0) (.ref c0) = some true)
    (k0_1 : PySem.W.kitOne K (.ref c0) (.ref c1) = some false)
    (k0_2 : PySem.W.kitOne K (.ref c0) (.ref c2) = some false)
    (k0_3 : PySem.W.kitOne K (.ref c0) (.ref c3) = some false)
    (k0_4 : PySem.W.kitOne K (.ref c0) (.ref c4) = some false)
    (k0_5 : PySem.W.kitOne K (.ref c0) (.ref c5) = some false)
    (k0_6 : PySem.W.kitOne K (.ref c0) (.ref c6) = some false)
    (k0_7 : PySem.W.kitOne K (.ref c0) (.ref c7) = some false)
    (k0_8 : PySem.W.kitOne K (.ref c0) (.ref c8) = some false)
    (k0_9 : PySem.W.kitOne K (.ref c0) (.ref c9) = some false)
    (k0_10 : PySem.W.kitOne K (.ref c0) (.ref c10) = some false)
    (k0_11 : PySem.W.kitOne K (.ref c0) (.ref c11) = some false)
    (k0_v : PySem.W.kitOne K (.ref c0) (.type "ValueError") = some true) (k0_s : PySem.W.exmOne K (.ref c0) (.ref cS) = some true)
    (k1_0 : PySem.W.kitOne K (.ref c1) (.ref c0) = some false)
    (k1_1 : PySem.W.kitOne K (.ref c1) (.ref c1) = some true)
    (k1_2 : PySem.W.kitOne K (.ref c1) (.ref c2) = some false)
    (k1_3 : PySem.W.kitOne K (.ref c1) (.ref c3) = some false)
    (k1_4 : PySem.W.kitOne K (.ref c1) (.ref c4) = some false)
    (k1_5 : PySem.W.kitOne K (.ref c1) (.ref c5) = some false)
    (k1_6 : PySem.W.kitOne K (.ref c1) (.ref c6) = some false)
    (k1_7 : PySem.W.kitOne K (.ref c1) (.ref c7) = some false)
    (k1_8 : PySem.W.kitOne K (.ref c1) (.ref c8) = some false)
    (k1_9 : PySem.W.kitOne K (.ref c1) (.ref c9) = some false)
    (k1_10 : PySem.W.kitOne K (.ref c1) (.ref c10) = some false)
    (k1_11 : PySem.W.kitOne K (.ref c1) (.ref c11) = some false)
    (k1_v : PySem.W.kitOne K (.ref c1) (.type "ValueError") = some true) (k1_s : PySem.W.exmOne K (.ref c1) (.ref cS) = some true)
    (k2_0 : PySem.W.kitOne K (.ref c2) (.ref c0) = some false)
    (k2_1 : PySem.W.kitOne K (.ref c2) (.ref c1) = some false)
    (k2_2 : PySem.W.kitOne K (.ref c2) (.ref c2) = some true)
    (k2_3 : PySem.W.kitOne K (.ref c2) (.ref c3) = some false)
    (k2_4 : PySem.W.kitOne K (.ref c2) (.ref c4) = some false)
    (k2_5 : PySem.W.kitOne K (.ref c2) (.ref c5) = some false)
    (k2_6 : PySem.W.kitOne K (.ref c2) (.ref c6) = some false)
    (k2_7 : PySem.W.kitOne K (.ref c2) (.ref c7) = some false)
    (k2_8 : PySem.W.kitOne K (.ref c2) (.ref c8) = some false)
    (k2_9 : PySem.W.kitOne K (.ref c2) (.ref c9) = some false)
    (k2_10 : PySem.W.kitOne K (.ref c2) (.ref c10) = some false)
    (k2_11 : PySem.W.kitOne K (.ref c2) (.ref c11) = some false)
    (k2_v : PySem.W.kitOne K (.ref c2) (.type "ValueError") = some true) (k2_s : PySem.W.exmOne K (.ref c2) (.ref cS) = some true)
    (z_ValueError : PySem.W.nsIn K mainGlobals "ValueError" = some none)
    (z_abs : PySem.W.nsIn K mainGlobals "abs" = some none)
    (z_bool : PySem.W.nsIn K mainGlobals "bool" = some none)
    (z_int : PySem.W.nsIn K mainGlobals "int" = some none)
    (z_isinstance : PySem.W.nsIn K mainGlobals "isinstance" = some none)
    (z_len : PySem.W.nsIn K mainGlobals "len" = some none)
    (z_list : PySem.W.nsIn K mainGlobals "list" = some none)
    (z_max : PySem.W.nsIn K mainGlobals "max" = some none)
    (z_min : PySem.W.nsIn K mainGlobals "min" = some none)
    (z_range : PySem.W.nsIn K mainGlobals "range" = some none)
    (z_reversed : PySem.W.nsIn K mainGlobals "reversed" = some none)
    (z_str : PySem.W.nsIn K mainGlobals "str" = some none)
    (z_tuple : PySem.W.nsIn K mainGlobals "tuple" = some none)
    (z_gcd : PySem.W.nsIn K mainGlobals "gcd" = some (some (.builtin "math.gcd")))
    (z_MOST_EXPONENT : PySem.W.nsIn K mainGlobals "MOST_EXPONENT" = some (some (.int 64 tm)))
    (d_is_integer : Dn K "is_integer" (top 16))
    (d_check_integer : Dn K "check_integer" (top 17))
    (d_check_range : Dn K "check_range" (top 18))
    (d_check_fraction : Dn K "check_fraction" (top 19))
    (d_ratio : Dn K "ratio" (top 22))
    (d_check_pair : Dn K "check_pair" (top 23))
    (d_ratio_sum : Dn K "ratio_sum" (top 24))
    (d_ratio_difference : Dn K "ratio_difference" (top 25))
    (d_ratio_product : Dn K "ratio_product" (top 26))
    (d_ratio_quotient : Dn K "ratio_quotient" (top 27))
    (d_ratio_power : Dn K "ratio_power" (top 28))
    (d_l_mixed : Dn K "_law_mixed" (top 30))
    (d_l_wide : Dn K "_law_wide" (top 31))
    (d_l_store : Dn K "_law_store" (top 32))
    (d_l_take : Dn K "_law_take" (top 33))
    (d_l_near : Dn K "_law_near" (top 34))
    (d_l_is_integer : Dn K "_law_is_integer" (top 35))
    (d_l_is_pair : Dn K "_law_is_pair" (top 36))
    (d_l_same : Dn K "_law_same" (top 37))
    (d_l_ten : Dn K "_law_ten" (top 39))
    (d_l_integer : Dn K "_law_integer" (top 40))
    (d_l_fraction : Dn K "_law_fraction" (top 41))
    (d_l_number_fault : Dn K "_law_number_fault" (top 42))
    (d_l_fraction_fault : Dn K "_law_fraction_fault" (top 43))
    (d_l_first_fault : Dn K "_law_first_fault" (top 44))
    (d_l_odd_number : Dn K "_law_odd_number" (top 45))
    (d_l_odd_fraction : Dn K "_law_odd_fraction" (top 46))
    (d_l_kinds : Dn K "_law_kinds" (top 47))
    (d_l_refusal : Dn K "_law_refusal" (top 48))
    (d_l_told : Dn K "_law_told" (top 49))
    (d_l_common : Dn K "_law_common" (top 50))
    (d_l_is_ratio_of : Dn K "_law_is_ratio_of" (top 51))
    (d_l_ask : Dn K "_law_ask" (top 52))
    (d_l_due : Dn K "_law_due" (top 53))
    (d_l_cross : Dn K "_law_cross" (top 54))
    (d_l_holds : Dn K "_law_holds" (top 55))
    (d_l_base : Dn K "_law_base" (top 56))
    (d_l_beside : Dn K "_law_beside" (top 57))
    (d_l_great : Dn K "_law_great" (top 58))
    (d_law : Dn K "law" (top 59)) :
    ∃ fd : FuncData, (∀ (s : Shared) (u : Value), BindsTo s fd ⟨[u], []⟩ [("script", u)]) ∧ ∀ base : Heap, K.In base → base.Ns mainGlobals mg → FnOk P w K mg base (L2N.CX P w) 12 fa fd ["script"] (spL K) := by
  let A : Ad := ⟨K, cS, c0, c1, c2, c3, c4, c5, c6, c7, c8, c9, c10, c11⟩
  have mo : ∀ {x : Str} {v : Value}, PySem.W.nsIn K mainGlobals x = some (some v) → mg x = some v := fun a => PySem.W.mg_of X G a
  have CFA : CF A := { ex := (fun k => match k with | .wk => x0.exk cn ct | .ws => x1.exk cn ct | .oor => x2.exk cn ct), no := (fun k => match k with | .wk => x0.no | .ws => x1.no | .oor => x2.no), i0 := (fun k => match k with | .wk => k0_0 | .ws => k1_0 | .oor => k2_0), i1 := (fun k => match k with | .wk => k0_1 | .ws => k1_1 | .oor => k2_1), i2 := (fun k => match k with | .wk => k0_2 | .ws => k1_2 | .oor => k2_2), i3 := (fun k => match k with | .wk => k0_3 | .ws => k1_3 | .oor => k2_3), i4 := (fun k => match k with | .wk => k0_4 | .ws => k1_4 | .oor => k2_4), i5 := (fun k => match k with | .wk => k0_5 | .ws => k1_5 | .oor => k2_5), i6 := (fun k => match k with | .wk => k0_6 | .ws => k1_6 | .oor => k2_6), i7 := (fun k => match k with | .wk => k0_7 | .ws => k1_7 | .oor => k2_7), i8 := (fun k => match k with | .wk => k0_8 | .ws => k1_8 | .oor => k2_8), i9 := (fun k => match k with | .wk => k0_9 | .ws => k1_9 | .oor => k2_9), i10 := (fun k => match k with | .wk => k0_10 | .ws => k1_10 | .oor => k2_10), i11 := (fun k => match k with | .wk => k0_11 | .ws => k1_11 | .oor => k2_11), i12 := (fun k => match k with | .wk => k0_v | .ws => k1_v | .oor => k2_v), sh := (fun k => match k with | .wk => k0_s | .ws => k1_s | .oor => k2_s) }
  obtain ⟨f_is_integer, fd_is_integer, a_is_integer, F_is_integer⟩ := d_is_integer
  obtain ⟨f_check_integer, fd_check_integer, a_check_integer, F_check_integer⟩ := d_check_integer
  obtain ⟨f_check_range, fd_check_range, a_check_range, F_check_range⟩ := d_check_range
  obtain ⟨f_check_fraction, fd_check_fraction, a_check_fraction, F_check_fraction⟩ := d_check_fraction
  obtain ⟨f_ratio, fd_ratio, a_ratio, F_ratio⟩ := d_ratio
  obtain ⟨f_check_pair, fd_check_pair, a_check_pair, F_check_pair⟩ := d_check_pair
  obtain ⟨f_ratio_sum, fd_ratio_sum, a_ratio_sum, F_ratio_sum⟩ := d_ratio_sum
  obtain ⟨f_ratio_difference, fd_ratio_difference, a_ratio_difference, F_ratio_difference⟩ := d_ratio_difference
  obtain ⟨f_ratio_product, fd_ratio_product, a_ratio_product, F_ratio_product⟩ := d_ratio_product
  obtain ⟨f_ratio_quotient, fd_ratio_quotient, a_ratio_quotient, F_ratio_quotient⟩ := d_ratio_quotient
  obtain ⟨f_ratio_power, fd_ratio_power, a_ratio_power, F_ratio_power⟩ := d_ratio_power
  obtain ⟨f_l_mixed, fd_l_mixed, a_l_mixed, F_l_mixed⟩ := d_l_mixed
  obtain ⟨f_l_wide, fd_l_wide, a_l_wide, F_l_wide⟩ := d_l_wide
  obtain ⟨f_l_store, fd_l_store, a_l_store, F_l_store⟩ := d_l_store
  obtain ⟨f_l_take, fd_l_take, a_l_take, F_l_take⟩ := d_l_take
  obtain ⟨f_l_near, fd_l_near, a_l_near, F_l_near⟩ := d_l_near
  obtain ⟨f_l_is_integer, fd_l_is_integer, a_l_is_integer, F_l_is_integer⟩ := d_l_is_integer
  obtain ⟨f_l_is_pair, fd_l_is_pair, a_l_is_pair, F_l_is_pair⟩ := d_l_is_pair
  obtain ⟨f_l_same, fd_l_same, a_l_same, F_l_same⟩ := d_l_same
  obtain ⟨f_l_ten, fd_l_ten, a_l_ten, F_l_ten⟩ := d_l_ten
  obtain ⟨f_l_integer, fd_l_integer, a_l_integer, F_l_integer⟩ := d_l_integer
  obtain ⟨f_l_fraction, fd_l_fraction, a_l_fraction, F_l_fraction⟩ := d_l_fraction
  obtain ⟨f_l_number_fault, fd_l_number_fault, a_l_number_fault, F_l_number_fault⟩ := d_l_number_fault
  obtain ⟨f_l_fraction_fault, fd_l_fraction_fault, a_l_fraction_fault, F_l_fraction_fault⟩ := d_l_fraction_fault
  obtain ⟨f_l_first_fault, fd_l_first_fault, a_l_first_fault, F_l_first_fault⟩ := d_l_first_fault
  obtain ⟨f_l_odd_number, fd_l_odd_number, a_l_odd_number, F_l_odd_number⟩ := d_l_odd_number
  obtain ⟨f_l_odd_fraction, fd_l_odd_fraction, a_l_odd_fraction, F_l_odd_fraction⟩ := d_l_odd_fraction
  obtain ⟨f_l_kinds, fd_l_kinds, a_l_kinds, F_l_kinds⟩ := d_l_kinds
  obtain ⟨f_l_refusal, fd_l_refusal, a_l_refusal, F_l_refusal⟩ := d_l_refusal
  obtain ⟨f_l_told, fd_l_told, a_l_told, F_l_told⟩ := d_l_told
  obtain ⟨f_l_common, fd_l_common, a_l_common, F_l_common⟩ := d_l_common
  obtain ⟨f_l_is_ratio_of, fd_l_is_ratio_of, a_l_is_ratio_of, F_l_is_ratio_of⟩ := d_l_is_ratio_of
  obtain ⟨f_l_ask, fd_l_ask, a_l_ask, F_l_ask⟩ := d_l_ask
  obtain ⟨f_l_due, fd_l_due, a_l_due, F_l_due⟩ := d_l_due
  obtain ⟨f_l_cross, fd_l_cross, a_l_cross, F_l_cross⟩ := d_l_cross
  obtain ⟨f_l_holds, fd_l_holds, a_l_holds, F_l_holds⟩ := d_l_holds
  obtain ⟨f_l_base, fd_l_base, a_l_base, F_l_base⟩ := d_l_base
  obtain ⟨f_l_beside, fd_l_beside, a_l_beside, F_l_beside⟩ := d_l_beside
  obtain ⟨f_l_great, fd_l_great, a_l_great, F_l_great⟩ := d_l_great
  obtain ⟨f_law, fd_law, a_law, F_law⟩ := d_law
  have e := hfa.symm.trans (mo a_law)
  cases e
  have b_is_integer := F_is_integer.binds (ps := ["value"]) fun _ _ _ _ _ _ us hl => match us, hl with | [_], _ => rfl
  have b_check_integer := F_check_integer.binds (ps := ["value", "argument"]) fun _ _ _ _ _ _ us hl => match us, hl with | [_, _], _ => rfl
  have b_check_range := F_check_range.binds (ps := ["value", "least", "greatest", "argument"]) fun _ _ _ _ _ _ us hl => match us, hl with | [_, _, _, _], _ => rfl
  have b_check_fraction := F_check_fraction.binds (ps := ["fraction", "argument"]) fun _ _ _ _ _ _ us hl => match us, hl with | [_, _], _ => rfl
  have b_ratio := F_ratio.binds (ps := ["top", "bottom"]) fun _ _ _ _ _ _ us hl => match us, hl with | [_, _], _ => rfl
  have b_check_pair := F_check_pair.binds (ps := ["first", "second"]) fun _ _ _ _ _ _ us hl => match us, hl with | [_, _], _ => rfl
  have b_ratio_sum := F_ratio_sum.binds (ps := ["first", "second"]) fun _ _ _ _ _ _ us hl => match us, hl with | [_, _], _ => rfl
  have b_ratio_difference := F_ratio_difference.binds (ps := ["first", "second"]) fun _ _ _ _ _ _ us hl => match us, hl with | [_, _], _ => rfl
  have b_ratio_product := F_ratio_product.binds (ps := ["first", "second"]) fun _ _ _ _ _ _ us hl => match us, hl with | [_, _], _ => rfl
  have b_ratio_quotient := F_ratio_quotient.binds (ps := ["first", "second"]) fun _ _ _ _ _ _ us hl => match us, hl with | [_, _], _ => rfl
  have b_ratio_power := F_ratio_power.binds (ps := ["base", "exponent"]) fun _ _ _ _ _ _ us hl => match us, hl with | [_, _], _ => rfl
  have b_l_mixed := F_l_mixed.binds (ps := ["cell", "nth"]) fun _ _ _ _ _ _ us hl => match us, hl with | [_, _], _ => rfl
  have b_l_wide := F_l_wide.binds (ps := ["cell", "nth", "many"]) fun _ _ _ _ _ _ us hl => match us, hl with | [_, _, _], _ => rfl
  have b_l_store := F_l_store.binds (ps := ["script"]) fun _ _ _ _ _ _ us hl => match us, hl with | [_], _ => rfl
  have b_l_take := F_l_take.binds (ps := ["store", "many"]) fun _ _ _ _ _ _ us hl => match us, hl with | [_, _], _ => rfl
  have b_l_near := F_l_near.binds (ps := ["store", "low", "high"]) fun _ _ _ _ _ _ us hl => match us, hl with | [_, _, _], _ => rfl
  have b_l_is_integer := F_l_is_integer.binds (ps := ["given"]) fun _ _ _ _ _ _ us hl => match us, hl with | [_], _ => rfl
  have b_l_is_pair := F_l_is_pair.binds (ps := ["given"]) fun _ _ _ _ _ _ us hl => match us, hl with | [_], _ => rfl
  have b_l_same := F_l_same.binds (ps := ["told", "due"]) fun _ _ _ _ _ _ us hl => match us, hl with | [_, _], _ => rfl
  have b_l_ten := F_l_ten.binds (ps := ["digits"]) fun _ _ _ _ _ _ us hl => match us, hl with | [_], _ => rfl
  have b_l_integer := F_l_integer.binds (ps := ["store", "digits"]) fun _ _ _ _ _ _ us hl => match us, hl with | [_, _], _ => rfl
  have b_l_fraction := F_l_fraction.binds (ps := ["store", "digits"]) fun _ _ _ _ _ _ us hl => match us, hl with | [_, _], _ => rfl
  have b_l_number_fault := F_l_number_fault.binds (ps := ["given", "low", "high"]) fun _ _ _ _ _ _ us hl => match us, hl with | [_, _, _], _ => rfl
  have b_l_fraction_fault := F_l_fraction_fault.binds (ps := ["given"]) fun _ _ _ _ _ _ us hl => match us, hl with | [_], _ => rfl
  have b_l_first_fault := F_l_first_fault.binds (ps := ["pair_row"]) fun _ _ _ _ _ _ us hl => match us, hl with | [_], _ => rfl
  have b_l_odd_number := F_l_odd_number.binds (ps := ["store", "low", "high"]) fun _ _ _ _ _ _ us hl => match us, hl with | [_, _, _], _ => rfl
  have b_l_odd_fraction := F_l_odd_fraction.binds (ps := ["store"]) fun _ _ _ _ _ _ us hl => match us, hl with | [_], _ => rfl
  have b_l_kinds := F_l_kinds.binds (ps := ["caught"]) fun _ _ _ _ _ _ us hl => match us, hl with | [_], _ => rfl
  have b_l_refusal := F_l_refusal.binds (ps := ["caught"]) fun _ _ _ _ _ _ us hl => match us, hl with | [_], _ => rfl
  have b_l_told := F_l_told.binds (ps := ["which", "given"]) fun _ _ _ _ _ _ us hl => match us, hl with | [_, _], _ => rfl
  have b_l_common := F_l_common.binds (ps := ["one", "two"]) fun _ _ _ _ _ _ us hl => match us, hl with | [_, _], _ => rfl
  have b_l_is_ratio_of := F_l_is_ratio_of.binds (ps := ["told", "one", "two"]) fun _ _ _ _ _ _ us hl => match us, hl with | [_, _, _], _ => rfl
  have b_l_ask := F_l_ask.binds (ps := ["which", "given"]) fun _ _ _ _ _ _ us hl => match us, hl with | [_, _], _ => rfl
  have b_l_due := F_l_due.binds (ps := ["which", "given"]) fun _ _ _ _ _ _ us hl => match us, hl with | [_, _], _ => rfl
  have b_l_cross := F_l_cross.binds (ps := ["which", "given"]) fun _ _ _ _ _ _ us hl => match us, hl with | [_, _], _ => rfl
  have b_l_holds := F_l_holds.binds (ps := ["which", "given"]) fun _ _ _ _ _ _ us hl => match us, hl with | [_, _], _ => rfl
  have b_l_base := F_l_base.binds (ps := ["store", "many"]) fun _ _ _ _ _ _ us hl => match us, hl with | [_, _], _ => rfl
  have b_l_beside := F_l_beside.binds (ps := ["store", "item"]) fun _ _ _ _ _ _ us hl => match us, hl with | [_, _], _ => rfl
  have b_l_great := F_l_great.binds (ps := ["store", "two"]) fun _ _ _ _ _ _ us hl => match us, hl with | [_, _], _ => rfl
  refine ⟨fd_law, ?_, fun base hb hn => ?_⟩
  · obtain ⟨_, _, _, _, _, _, _, _, _, e, _⟩ := F_law.ex
    subst e
    exact fun s v => .of_eq rfl
  have T : Tx P w mg base A := { b_ValueError := PySem.W.mg_none_of X G z_ValueError, b_abs := PySem.W.mg_none_of X G z_abs, b_bool := PySem.W.mg_none_of X G z_bool, b_int := PySem.W.mg_none_of X G z_int, b_isinstance := PySem.W.mg_none_of X G z_isinstance, b_len := PySem.W.mg_none_of X G z_len, b_list := PySem.W.mg_none_of X G z_list, b_max := PySem.W.mg_none_of X G z_max, b_min := PySem.W.mg_none_of X G z_min, b_range := PySem.W.mg_none_of X G z_range, b_reversed := PySem.W.mg_none_of X G z_reversed, b_str := PySem.W.mg_none_of X G z_str, b_tuple := PySem.W.mg_none_of X G z_tuple, gcd := mo z_gcd, se := mo aS, x_WrongKind := in_WrongKind x0 cn ct (mo a0), x_WrongSize := in_WrongSize x1 cn ct (mo a1), x_OutOfRange := in_OutOfRange x2 cn ct (mo a2), x_BadText := ⟨mo a3⟩, x_NotATable := ⟨mo a4⟩, x_Spent := ⟨mo a5⟩, x_TooFewPlaces := ⟨mo a6⟩, x_WrongPaper := ⟨mo a7⟩, x_UnknownName := ⟨mo a8⟩, x_NameTaken := ⟨mo a9⟩, x_NothingToUndo := ⟨mo a10⟩, x_BookFull := ⟨mo a11⟩, g_MOST_EXPONENT := ⟨tm, mo z_MOST_EXPONENT⟩ }
  have o_l_store := ok_l_store A (base := base) T F_l_store 
  have c_l_store : Fn P w A.K mg base 1 "_law_store" ["script"] (P_l_store A) := ⟨f_l_store, fd_l_store, o_l_store, mo a_l_store, F_l_store.kp, b_l_store⟩
  have o_l_mixed := ok_l_mixed A (base := base) T F_l_mixed 
  have c_l_mixed : Fn P w A.K mg base 1 "_law_mixed" ["cell", "nth"] (P_l_mixed A) := ⟨f_l_mixed, fd_l_mixed, o_l_mixed, mo a_l_mixed, F_l_mixed.kp, b_l_mixed⟩
  have o_l_wide := ok_l_wide A (base := base) T F_l_wide c_l_mixed
  have c_l_wide : Fn P w A.K mg base 2 "_law_wide" ["cell", "nth", "many"] (P_l_wide A) := ⟨f_l_wide, fd_l_wide, o_l_wide, mo a_l_wide, F_l_wide.kp, b_l_wide⟩
  have o_l_take := ok_l_take A (base := base) T F_l_take c_l_wide
  have c_l_take : Fn P w A.K mg base 3 "_law_take" ["store", "many"] (P_l_take A) := ⟨f_l_take, fd_l_take, o_l_take, mo a_l_take, F_l_take.kp, b_l_take⟩
  have o_l_ten := ok_l_ten A (base := base) T F_l_ten 
  have c_l_ten : Fn P w A.K mg base 1 "_law_ten" ["digits"] (P_l_ten A) := ⟨f_l_ten, fd_l_ten, o_l_ten, mo a_l_ten, F_l_ten.kp, b_l_ten⟩
  have o_l_near := ok_l_near A (base := base) T F_l_near c_l_take
  have c_l_near : Fn P w A.K mg base 4 "_law_near" ["store", "low", "high"] (P_l_near A) := ⟨f_l_near, fd_l_near, o_l_near, mo a_l_near, F_l_near.kp, b_l_near⟩
  have o_l_integer := ok_l_integer A (base := base) T F_l_integer c_l_take c_l_ten c_l_near
  have c_l_integer : Fn P w A.K mg base 5 "_law_integer" ["store", "digits"] (P_l_integer A) := ⟨f_l_integer, fd_l_integer, o_l_integer, mo a_l_integer, F_l_integer.kp, b_l_integer⟩
  have o_l_fraction := ok_l_fraction A (base := base) T F_l_fraction c_l_integer c_l_take
  have c_l_fraction : Fn P w A.K mg base 6 "_law_fraction" ["store", "digits"] (P_l_fraction A) := ⟨f_l_fraction, fd_l_fraction, o_l_fraction, mo a_l_fraction, F_l_fraction.kp, b_l_fraction⟩
  have o_l_base := ok_l_base A (base := base) T F_l_base c_l_ten c_l_near c_l_take
  have c_l_base : Fn P w A.K mg base 5 "_law_base" ["store", "many"] (P_l_base A) := ⟨f_l_base, fd_l_base, o_l_base, mo a_l_base, F_l_base.kp, b_l_base⟩
  have o_l_odd_fraction := ok_l_odd_fraction A (base := base) T F_l_odd_fraction c_l_take
  have c_l_odd_fraction : Fn P w A.K mg base 4 "_law_odd_fraction" ["store"] (P_l_odd_fraction A) := ⟨f_l_odd_fraction, fd_l_odd_fraction, o_l_odd_fraction, mo a_l_odd_fraction, F_l_odd_fraction.kp, b_l_odd_fraction⟩
  have o_l_beside := ok_l_beside A (base := base) T F_l_beside c_l_take c_l_odd_fraction
  have c_l_beside : Fn P w A.K mg base 5 "_law_beside" ["store", "item"] (P_l_beside A) := ⟨f_l_beside, fd_l_beside, o_l_beside, mo a_l_beside, F_l_beside.kp, b_l_beside⟩
  have o_l_odd_number := ok_l_odd_number A (base := base) T F_l_odd_number c_l_take
  have c_l_odd_number : Fn P w A.K mg base 4 "_law_odd_number" ["store", "low", "high"] (P_l_odd_number A) := ⟨f_l_odd_number, fd_l_odd_number, o_l_odd_number, mo a_l_odd_number, F_l_odd_number.kp, b_l_odd_number⟩
  have o_l_number_fault := ok_l_number_fault A (base := base) T F_l_number_fault 
  have c_l_number_fault : Fn P w A.K mg base 1 "_law_number_fault" ["given", "low", "high"] (P_l_number_fault A) := ⟨f_l_number_fault, fd_l_number_fault, o_l_number_fault, mo a_l_number_fault, F_l_number_fault.kp, b_l_number_fault⟩
  have o_l_fraction_fault := ok_l_fraction_fault A (base := base) T F_l_fraction_fault c_l_number_fault
  have c_l_fraction_fault : Fn P w A.K mg base 2 "_law_fraction_fault" ["given"] (P_l_fraction_fault A) := ⟨f_l_fraction_fault, fd_l_fraction_fault, o_l_fraction_fault, mo a_l_fraction_fault, F_l_fraction_fault.kp, b_l_fraction_fault⟩
  have o_l_first_fault := ok_l_first_fault A (base := base) T F_l_first_fault 
  have c_l_first_fault : Fn P w A.K mg base 1 "_law_first_fault" ["pair_row"] (P_l_first_fault A) := ⟨f_l_first_fault, fd_l_first_fault, o_l_first_fault, mo a_l_first_fault, F_l_first_fault.kp, b_l_first_fault⟩
  have o_l_due := ok_l_due A (base := base) T F_l_due c_l_number_fault c_l_first_fault c_l_fraction_fault
  have c_l_due : Fn P w A.K mg base 3 "_law_due" ["which", "given"] (P_l_due A) := ⟨f_l_due, fd_l_due, o_l_due, mo a_l_due, F_l_due.kp, b_l_due⟩
  have o_is_integer := ok_is_integer A (base := base) T F_is_integer 
  have c_is_integer : Fn P w A.K mg base 1 "is_integer" ["value"] (P_is_integer A) := ⟨f_is_integer, fd_is_integer, o_is_integer, mo a_is_integer, F_is_integer.kp, b_is_integer⟩
  have o_check_integer := ok_check_integer A (base := base) T F_check_integer c_is_integer
  have c_check_integer : Fn P w A.K mg base 3 "check_integer" ["value", "argument"] (P_check_integer A) := ⟨f_check_integer, fd_check_integer, o_check_integer, mo a_check_integer, F_check_integer.kp, b_check_integer⟩
  have o_check_fraction := ok_check_fraction A (base := base) T F_check_fraction c_check_integer
  have c_check_fraction : Fn P w A.K mg base 4 "check_fraction" ["fraction", "argument"] (P_check_fraction A) := ⟨f_check_fraction, fd_check_fraction, o_check_fraction, mo a_check_fraction, F_check_fraction.kp, b_check_fraction⟩
  have o_check_pair := ok_check_pair A (base := base) T F_check_pair c_check_fraction
  have c_check_pair : Fn P w A.K mg base 5 "check_pair" ["first", "second"] (P_check_pair A) := ⟨f_check_pair, fd_check_pair, o_check_pair, mo a_check_pair, F_check_pair.kp, b_check_pair⟩
  have o_ratio := ok_ratio A (base := base) T F_ratio c_check_integer
  have c_ratio : Fn P w A.K mg base 4 "ratio" ["top", "bottom"] (P_ratio A) := ⟨f_ratio, fd_ratio, o_ratio, mo a_ratio, F_ratio.kp, b_ratio⟩
  have o_ratio_sum := ok_ratio_sum A (base := base) T F_ratio_sum c_check_pair c_ratio
  have c_ratio_sum : Fn P w A.K mg base 6 "ratio_sum" ["first", "second"] (P_ratio_sum A) := ⟨f_ratio_sum, fd_ratio_sum, o_ratio_sum, mo a_ratio_sum, F_ratio_sum.kp, b_ratio_sum⟩
  have o_ratio_difference := ok_ratio_difference A (base := base) T F_ratio_difference c_check_pair c_ratio
  have c_ratio_difference : Fn P w A.K mg base 6 "ratio_difference" ["first", "second"] (P_ratio_difference A) := ⟨f_ratio_difference, fd_ratio_difference, o_ratio_difference, mo a_ratio_difference, F_ratio_difference.kp, b_ratio_difference⟩
  have o_ratio_product := ok_ratio_product A (base := base) T F_ratio_product c_check_pair c_ratio
  have c_ratio_product : Fn P w A.K mg base 6 "ratio_product" ["first", "second"] (P_ratio_product A) := ⟨f_ratio_product, fd_ratio_product, o_ratio_product, mo a_ratio_product, F_ratio_product.kp, b_ratio_product⟩
  have o_ratio_quotient := ok_ratio_quotient A (base := base) T F_ratio_quotient c_check_pair c_ratio
  have c_ratio_quotient : Fn P w A.K mg base 6 "ratio_quotient" ["first", "second"] (P_ratio_quotient A) := ⟨f_ratio_quotient, fd_ratio_quotient, o_ratio_quotient, mo a_ratio_quotient, F_ratio_quotient.kp, b_ratio_quotient⟩
  have o_check_range := ok_check_range A (base := base) T F_check_range c_check_integer
  have c_check_range : Fn P w A.K mg base 4 "check_range" ["value", "least", "greatest", "argument"] (P_check_range A) := ⟨f_check_range, fd_check_range, o_check_range, mo a_check_range, F_check_range.kp, b_check_range⟩
  have o_ratio_power := ok_ratio_power A (base := base) T F_ratio_power c_check_fraction c_check_range c_ratio
  have c_ratio_power : Fn P w A.K mg base 5 "ratio_power" ["base", "exponent"] (P_ratio_power A) := ⟨f_ratio_power, fd_ratio_power, o_ratio_power, mo a_ratio_power, F_ratio_power.kp, b_ratio_power⟩
  have ck_ratio_sum_first_second : FnK P w A.K mg base 6 "ratio_sum" ["first", "second"] ["first", "second"] [0, 1] (P_ratio_sum A) := ⟨f_ratio_sum, fd_ratio_sum, o_ratio_sum, mo a_ratio_sum, F_ratio_sum.kp, by
    obtain ⟨_, _, _, _, _, _, _, _, _, e, _⟩ := F_ratio_sum.ex
    subst e
    exact fun s ws _ hl => match ws, hl with | [_, _], _ => .of_eq rfl⟩
  have ck_ratio_difference_second_first : FnK P w A.K mg base 6 "ratio_difference" ["first", "second"] ["second", "first"] [1, 0] (P_ratio_difference A) := ⟨f_ratio_difference, fd_ratio_difference, o_ratio_difference, mo a_ratio_difference, F_ratio_difference.kp, by
    obtain ⟨_, _, _, _, _, _, _, _, _, e, _⟩ := F_ratio_difference.ex
    subst e
    exact fun s ws _ hl => match ws, hl with | [_, _], _ => .of_eq rfl⟩
  have ck_ratio_product_second_first : FnK P w A.K mg base 6 "ratio_product" ["first", "second"] ["second", "first"] [1, 0] (P_ratio_product A) := ⟨f_ratio_product, fd_ratio_product, o_ratio_product, mo a_ratio_product, F_ratio_product.kp, by
    obtain ⟨_, _, _, _, _, _, _, _, _, e, _⟩ := F_ratio_product.ex
    subst e
    exact fun s ws _ hl => match ws, hl with | [_, _], _ => .of_eq rfl⟩
  have ck_ratio_quotient_second_first : FnK P w A.K mg base 6 "ratio_quotient" ["first", "second"] ["second", "first"] [1, 0] (P_ratio_quotient A) := ⟨f_ratio_quotient, fd_ratio_quotient, o_ratio_quotient, mo a_ratio_quotient, F_ratio_quotient.kp, by
    obtain ⟨_, _, _, _, _, _, _, _, _, e, _⟩ := F_ratio_quotient.ex
    subst e
    exact fun s ws _ hl => match ws, hl with | [_, _], _ => .of_eq rfl⟩
  have ck_ratio_power_base_exponent : FnK P w A.K mg base 5 "ratio_power" ["base", "exponent"] ["base", "exponent"] [0, 1] (P_ratio_power A) := ⟨f_ratio_power, fd_ratio_power, o_ratio_power, mo a_ratio_power, F_ratio_power.kp, by
    obtain ⟨_, _, _, _, _, _, _, _, _, e, _⟩ := F_ratio_power.ex
    subst e
    exact fun s ws _ hl => match ws, hl with | [_, _], _ => .of_eq rfl⟩
  have o_l_ask := ok_l_ask A (base := base) T F_l_ask c_ratio_sum c_ratio_difference c_ratio_product c_ratio_quotient c_ratio_power ck_ratio_sum_first_second ck_ratio_difference_second_first ck_ratio_product_second_first ck_ratio_quotient_second_first ck_ratio_power_base_exponent
  have c_l_ask : Fn P w A.K mg base 7 "_law_ask" ["which", "given"] (P_l_ask A) := ⟨f_l_ask, fd_l_ask, o_l_ask, mo a_l_ask, F_l_ask.kp, b_l_ask⟩
  have o_l_kinds := ok_l_kinds A T F_l_kinds 
  have c_l_kinds : FnX P w A.K mg base 2 "_law_kinds" ["caught"] (P_l_kinds A) := ⟨f_l_kinds, fd_l_kinds, o_l_kinds, mo a_l_kinds, F_l_kinds.kp, b_l_kinds⟩
  have o_l_refusal := ok_l_refusal A T F_l_refusal c_l_kinds
  have c_l_refusal : FnX P w A.K mg base 4 "_law_refusal" ["caught"] (P_l_refusal A) := ⟨f_l_refusal, fd_l_refusal, o_l_refusal, mo a_l_refusal, F_l_refusal.kp, b_l_refusal⟩
  have o_l_told := ok_l_told A (base := base) T F_l_told c_l_ask c_l_refusal
  have c_l_told : Fn P w A.K mg base 9 "_law_told" ["which", "given"] (P_l_told A) := ⟨f_l_told, fd_l_told, o_l_told, mo a_l_told, F_l_told.kp, b_l_told⟩
  have o_l_same : FnOk P w A.K mg base (L2N.CX P w) 6 f_l_same fd_l_same ["told", "due"] (P_l_same A) := (same_all A T F_l_same (mo a_l_same) b_l_same 5).mono (by decide)
  have c_l_same : Fn P w A.K mg base 6 "_law_same" ["told", "due"] (P_l_same A) := ⟨f_l_same, fd_l_same, o_l_same, mo a_l_same, F_l_same.kp, b_l_same⟩
  have o_l_cross := ok_l_cross A (base := base) T F_l_cross 
  have c_l_cross : Fn P w A.K mg base 1 "_law_cross" ["which", "given"] (P_l_cross A) := ⟨f_l_cross, fd_l_cross, o_l_cross, mo a_l_cross, F_l_cross.kp, b_l_cross⟩
  have o_l_is_integer := ok_l_is_integer A (base := base) T F_l_is_integer 
  have c_l_is_integer : Fn P w A.K mg base 1 "_law_is_integer" ["given"] (P_l_is_integer A) := ⟨f_l_is_integer, fd_l_is_integer, o_l_is_integer, mo a_l_is_integer, F_l_is_integer.kp, b_l_is_integer⟩
  have o_l_is_pair := ok_l_is_pair A (base := base) T F_l_is_pair c_l_is_integer
  have c_l_is_pair : Fn P w A.K mg base 2 "_law_is_pair" ["given"] (P_l_is_pair A) := ⟨f_l_is_pair, fd_l_is_pair, o_l_is_pair, mo a_l_is_pair, F_l_is_pair.kp, b_l_is_pair⟩
  have o_l_common := ok_l_common A (base := base) T F_l_common 
  have c_l_common : Fn P w A.K mg base 1 "_law_common" ["one", "two"] (P_l_common A) := ⟨f_l_common, fd_l_common, o_l_common, mo a_l_common, F_l_common.kp, b_l_common⟩
  have o_l_is_ratio_of := ok_l_is_ratio_of A (base := base) T F_l_is_ratio_of c_l_is_pair c_l_common
  have c_l_is_ratio_of : Fn P w A.K mg base 3 "_law_is_ratio_of" ["told", "one", "two"] (P_l_is_ratio_of A) := ⟨f_l_is_ratio_of, fd_l_is_ratio_of, o_l_is_ratio_of, mo a_l_is_ratio_of, F_l_is_ratio_of.kp, b_l_is_ratio_of⟩
  have o_l_holds := ok_l_holds A (base := base) T F_l_holds c_l_due c_l_told c_l_same c_l_cross c_l_is_ratio_of
  have c_l_holds : Fn P w A.K mg base 10 "_law_holds" ["which", "given"] (P_l_holds A) := ⟨f_l_holds, fd_l_holds, o_l_holds, mo a_l_holds, F_l_holds.kp, b_l_holds⟩
  have o_l_great := ok_l_great A (base := base) T F_l_great c_l_ten c_l_take c_l_holds c_ratio_power
  have c_l_great : Fn P w A.K mg base 11 "_law_great" ["store", "two"] (P_l_great A) := ⟨f_l_great, fd_l_great, o_l_great, mo a_l_great, F_l_great.kp, b_l_great⟩
  have o_law := ok_law A (base := base) T F_law c_l_store c_l_fraction c_l_take c_l_near c_l_base c_l_beside c_l_odd_number c_l_odd_fraction c_l_fraction_fault c_l_number_fault c_l_holds c_ratio_sum c_ratio_product c_l_great
  exact o_law.imp fun vs H Q E z => by
    obtain ⟨a, ns, e1, e2, e3⟩ := z
    exact ⟨a, ns, e1, e2, CFA, e3⟩
theorem walk {l : PySem.W.OpenLaw} {q : Program} {loose : List Str} {XP : (Str → Option Value) → Heap → Prop} {YP : World → Heap → Prop} {d : DefRec} {K : Params → PySem.W.Frag} (hn : l.most = some 63) (hdf : d.params.defaults = [])
    (hY : ∀ (w : World) (h : Heap), YP w h → (K w.params).In h)
    (F : ∀ (w : World) (mg : Str → Option Value) (fa : Addr) (h : Heap), (K w.params).In h → h.Ns mainGlobals mg → mg d.name = some (.ref fa) →
      ∃ fd : FuncData, (∀ (s : Shared) (u : Value), BindsTo s fd ⟨[u], []⟩ [("script", u)]) ∧ ∀ base : Heap, (K w.params).In base → base.Ns mainGlobals mg → FnOk l.prog w (K w.params) mg base (L2N.CX l.prog w) 12 fa fd ["script"] (spL (K w.params))) :
    PySem.W.WalkO q loose XP YP l.row.toRowW d [] (fun f vs => PySem.call f vs) :=
  L2.walk_of (n := 63) (k := 12) (x := "script") (CX := fun w => L2N.CX l.prog w) (sp := fun w => spL (K w.params)) hn (by decide) hdf ⟨rfl, by decide, by decide⟩ hY F (fun _ _ a ns _ _ hS => ⟨a, ns, rfl, hS, fun _ => rfl⟩) fun _ H s e s' z => by
    obtain ⟨_, _, _, _, _, _, _, _, _, _, _, _, _, _, _, _, z⟩ := z
end Bv
open PySem PySem.W PyProof.Rows in
set_option maxRecDepth 100000 in
set_option maxHeartbeats 0 in
theorem PySem.Challenge.cw_bitshades_k01_sums_and_products_of_fract_holds : PySem.Challenge.rw_bitshades_k01_sums_and_products_of_fract.Holds := by
  w_on; o_law; k_head; (case hw => w_witness2)
  k_fill
  refine Bv.walk (l := PySem.Challenge.rw_bitshades_k01_sums_and_products_of_fract) rfl rfl (fun w h Y => PySem.W.kIn_of Y) ?F
  case F =>
    intro w mg fa h KX G hmg
    refine' Bv.all_mk KX G hmg ?aS ?a0 ?a1 ?a2 ?a3 ?a4 ?a5 ?a6 ?a7 ?a8 ?a9 ?a10 ?a11 ?x0 ?x1 ?x2 ?cn ?ct ?k0_0 ?k0_1 ?k0_2 ?k0_3 ?k0_4 ?k0_5 ?k0_6 ?k0_7 ?k0_8 ?k0_9 ?k0_10 ?k0_11 ?k0_v ?k0_s ?k1_0 ?k1_1 ?k1_2 ?k1_3 ?k1_4 ?k1_5 ?k1_6 ?k1_7 ?k1_8 ?k1_9 ?k1_10 ?k1_11 ?k1_v ?k1_s ?k2_0 ?k2_1 ?k2_2 ?k2_3 ?k2_4 ?k2_5 ?k2_6 ?k2_7 ?k2_8 ?k2_9 ?k2_10 ?k2_11 ?k2_v ?k2_s ?z_ValueError ?z_abs ?z_bool ?z_int ?z_isinstance ?z_len ?z_list ?z_max ?z_min ?z_range ?z_reversed ?z_str ?z_tuple ?z_gcd ?z_MOST_EXPONENT ?d_is_integer ?d_check_integer ?d_check_range ?d_check_fraction ?d_ratio ?d_check_pair ?d_ratio_sum ?d_ratio_difference ?d_ratio_product ?d_ratio_quotient ?d_ratio_power ?d_l_mixed ?d_l_wide ?d_l_store ?d_l_take ?d_l_near ?d_l_is_integer ?d_l_is_pair ?d_l_same ?d_l_ten ?d_l_integer ?d_l_fraction ?d_l_number_fault ?d_l_fraction_fault ?d_l_first_fault ?d_l_odd_number ?d_l_odd_fraction ?d_l_kinds ?d_l_refusal ?d_l_told ?d_l_common ?d_l_is_ratio_of ?d_l_ask ?d_l_due ?d_l_cross ?d_l_holds ?d_l_base ?d_l_beside ?d_l_great ?d_law
    (case aS => first | k_is | kernel_rfl)
    (case a0 => first | k_is | kernel_rfl)
    (case a1 => first | k_is | kernel_rfl)
    (case a2 => first | k_is | kernel_rfl)
    (case a3 => first | k_is | kernel_rfl)
    (case a4 => first | k_is | kernel_rfl)
    (case a5 => first | k_is | kernel_rfl)
    (case a6 => first | k_is | kernel_rfl)
    (case a7 => first | k_is | kernel_rfl)
    (case a8 => first | k_is | kernel_rfl)
    (case a9 => first | k_is | kernel_rfl)
    (case a10 => first | k_is | kernel_rfl)
    (case a11 => first | k_is | kernel_rfl)
    (case x0 => refine' Bv.xf_mk ?xL ?sa ?exC ?tyC ?kC ?ga ?gg ?hd ?ca ?cm ?no ?ai ?ti ?l ?c ?k; (case xL => k_is); (case sa => k_is); (case exC => k_is); (case tyC => k_is); (case kC => k_is); (case ga => k_is); (case gg => k_is); (case hd => k_is); (case ca => k_is); (case cm => k_is); (case no => k_is); (case ai => k_is); (case ti => k_is); (case l => k_is); (case c => k_is); (case k => k_is))
    (case x1 => refine' Bv.xf_mk ?xL ?sa ?exC ?tyC ?kC ?ga ?gg ?hd ?ca ?cm ?no ?ai ?ti ?l ?c ?k; (case xL => k_is); (case sa => k_is); (case exC => k_is); (case tyC => k_is); (case kC => k_is); (case ga => k_is); (case gg => k_is); (case hd => k_is); (case ca => k_is); (case cm => k_is); (case no => k_is); (case ai => k_is); (case ti => k_is); (case l => k_is); (case c => k_is); (case k => k_is))
    (case x2 => refine' Bv.xf_mk ?xL ?sa ?exC ?tyC ?kC ?ga ?gg ?hd ?ca ?cm ?no ?ai ?ti ?l ?c ?k; (case xL => k_is); (case sa => k_is); (case exC => k_is); (case tyC => k_is); (case kC => k_is); (case ga => k_is); (case gg => k_is); (case hd => k_is); (case ca => k_is); (case cm => k_is); (case no => k_is); (case ai => k_is); (case ti => k_is); (case l => k_is); (case c => k_is); (case k => k_is))
    (case cn => first | k_is | kernel_rfl)
    (case ct => first | k_is | kernel_rfl)
    (case k0_0 => first | k_is | kit_is | kernel_rfl)
    (case k0_1 => first | k_is | kit_is | kernel_rfl)
    (case k0_2 => first | k_is | kit_is | kernel_rfl)
    (case k0_3 => first | k_is | kit_is | kernel_rfl)
    (case k0_4 => first | k_is | kit_is | kernel_rfl)
    (case k0_5 => first | k_is | kit_is | kernel_rfl)
    (case k0_6 => first | k_is | kit_is | kernel_rfl)
    (case k0_7 => first | k_is | kit_is | kernel_rfl)
    (case k0_8 => first | k_is | kit_is | kernel_rfl)
    (case k0_9 => first | k_is | kit_is | kernel_rfl)
    (case k0_10 => first | k_is | kit_is | kernel_rfl)
    (case k0_11 => first | k_is | kit_is | kernel_rfl)
    (case k0_v => first | k_is | kit_is | kernel_rfl)
    (case k0_s => first | k_is | kit_is | kernel_rfl)
    (case k1_0 => first | k_is | kit_is | kernel_rfl)
    (case k1_1 => first | k_is | kit_is | kernel_rfl)
    (case k1_2 => first | k_is | kit_is | kernel_rfl)
    (case k1_3 => first | k_is | kit_is | kernel_rfl)
    (case k1_4 => first | k_is | kit_is | kernel_rfl)
    (case k1_5 => first | k_is | kit_is | kernel_rfl)
    (case k1_6 => first | k_is | kit_is | kernel_rfl)
    (case k1_7 => first | k_is | kit_is | kernel_rfl)
    (case k1_8 => first | k_is | kit_is | kernel_rfl)
    (case k1_9 => first | k_is | kit_is | kernel_rfl)
    (case k1_10 => first | k_is | kit_is | kernel_rfl)
    (case k1_11 => first | k_is | kit_is | kernel_rfl)
    (case k1_v => first | k_is | kit_is | kernel_rfl)
    (case k1_s => first | k_is | kit_is | kernel_rfl)
    (case k2_0 => first | k_is | kit_is | kernel_rfl)
    (case k2_1 => first | k_is | kit_is | kernel_rfl)
    (case k2_2 => first | k_is | kit_is | kernel_rfl)
    (case k2_3 => first | k_is | kit_is | kernel_rfl)
    (case k2_4 => first | k_is | kit_is | kernel_rfl)
    (case k2_5 => first | k_is | kit_is | kernel_rfl)
    (case k2_6 => first | k_is | kit_is | kernel_rfl)
    (case k2_7 => first | k_is | kit_is | kernel_rfl)
    (case k2_8 => first | k_is | kit_is | kernel_rfl)
    (case k2_9 => first | k_is | kit_is | kernel_rfl)
    (case k2_10 => first | k_is | kit_is | kernel_rfl)
    (case k2_11 => first | k_is | kit_is | kernel_rfl)
    (case k2_v => first | k_is | kit_is | kernel_rfl)
    (case k2_s => first | k_is | kit_is | kernel_rfl)
    (case z_ValueError => first | k_is | kernel_rfl)
    (case z_abs => first | k_is | kernel_rfl)
    (case z_bool => first | k_is | kernel_rfl)
    (case z_int => first | k_is | kernel_rfl)
    (case z_isinstance => first | k_is | kernel_rfl)
    (case z_len => first | k_is | kernel_rfl)
    (case z_list => first | k_is | kernel_rfl)
    (case z_max => first | k_is | kernel_rfl)
    (case z_min => first | k_is | kernel_rfl)
    (case z_range => first | k_is | kernel_rfl)
    (case z_reversed => first | k_is | kernel_rfl)
    (case z_str => first | k_is | kernel_rfl)
    (case z_tuple => first | k_is | kernel_rfl)
    (case z_gcd => first | k_is | kernel_rfl)
    (case z_MOST_EXPONENT => first | k_is | kernel_rfl)
    (case d_is_integer => refine' Bv.dn_mk ?a ?l ?c ?k; (case a => k_is); (case l => k_is); (case c => k_is); (case k => k_is))
    (case d_check_integer => refine' Bv.dn_mk ?a ?l ?c ?k; (case a => k_is); (case l => k_is); (case c => k_is); (case k => k_is))
    (case d_check_range => refine' Bv.dn_mk ?a ?l ?c ?k; (case a => k_is); (case l => k_is); (case c => k_is); (case k => k_is))
    (case d_check_fraction => refine' Bv.dn_mk ?a ?l ?c ?k; (case a => k_is); (case l => k_is); (case c => k_is); (case k => k_is))
    (case d_ratio => refine' Bv.dn_mk ?a ?l ?c ?k; (case a => k_is); (case l => k_is); (case c => k_is); (case k => k_is))
    (case d_check_pair => refine' Bv.dn_mk ?a ?l ?c ?k; (case a => k_is); (case l => k_is); (case c => k_is); (case k => k_is))
    (case d_ratio_sum => refine' Bv.dn_mk ?a ?l ?c ?k; (case a => k_is); (case l => k_is); (case c => k_is); (case k => k_is))
    (case d_ratio_difference => refine' Bv.dn_mk ?a ?l ?c ?k; (case a => k_is); (case l => k_is); (case c => k_is); (case k => k_is))
    (case d_ratio_product => refine' Bv.dn_mk ?a ?l ?c ?k; (case a => k_is); (case l => k_is); (case c => k_is); (case k => k_is))
    (case d_ratio_quotient => refine' Bv.dn_mk ?a ?l ?c ?k; (case a => k_is); (case l => k_is); (case c => k_is); (case k => k_is))
    (case d_ratio_power => refine' Bv.dn_mk ?a ?l ?c ?k; (case a => k_is); (case l => k_is); (case c => k_is); (case k => k_is))
    (case d_l_mixed => refine' Bv.dn_mk ?a ?l ?c ?k; (case a => k_is); (case l => k_is); (case c => k_is); (case k => k_is))
    (case d_l_wide => refine' Bv.dn_mk ?a ?l ?c ?k; (case a => k_is); (case l => k_is); (case c => k_is); (case k => k_is))
    (case d_l_store => refine' Bv.dn_mk ?a ?l ?c ?k; (case a => k_is); (case l => k_is); (case c => k_is); (case k => k_is))
    (case d_l_take => refine' Bv.dn_mk ?a ?l ?c ?k; (case a => k_is); (case l => k_is); (case c => k_is); (case k => k_is))
    (case d_l_near => refine' Bv.dn_mk ?a ?l ?c ?k; (case a => k_is); (case l => k_is); (case c => k_is); (case k => k_is))
    (case d_l_is_integer => refine' Bv.dn_mk ?a ?l ?c ?k; (case a => k_is); (case l => k_is); (case c => k_is); (case k => k_is))
    (case d_l_is_pair => refine' Bv.dn_mk ?a ?l ?c ?k; (case a => k_is); (case l => k_is); (case c => k_is); (case k => k_is))
    (case d_l_same => refine' Bv.dn_mk ?a ?l ?c ?k; (case a => k_is); (case l => k_is); (case c => k_is); (case k => k_is))
    (case d_l_ten => refine' Bv.dn_mk ?a ?l ?c ?k; (case a => k_is); (case l => k_is); (case c => k_is); (case k => k_is))
    (case d_l_integer => refine' Bv.dn_mk ?a ?l ?c ?k; (case a => k_is); (case l => k_is); (case c => k_is); (case k => k_is))
    (case d_l_fraction => refine' Bv.dn_mk ?a ?l ?c ?k; (case a => k_is); (case l => k_is); (case c => k_is); (case k => k_is))
    (case d_l_number_fault => refine' Bv.dn_mk ?a ?l ?c ?k; (case a => k_is); (case l => k_is); (case c => k_is); (case k => k_is))
    (case d_l_fraction_fault => refine' Bv.dn_mk ?a ?l ?c ?k; (case a => k_is); (case l => k_is); (case c => k_is); (case k => k_is))
    (case d_l_first_fault => refine' Bv.dn_mk ?a ?l ?c ?k; (case a => k_is); (case l => k_is); (case c => k_is); (case k => k_is))
    (case d_l_odd_number => refine' Bv.dn_mk ?a ?l ?c ?k; (case a => k_is); (case l => k_is); (case c => k_is); (case k => k_is))
    (case d_l_odd_fraction => refine' Bv.dn_mk ?a ?l ?c ?k; (case a => k_is); (case l => k_is); (case c => k_is); (case k => k_is))
    (case d_l_kinds => refine' Bv.dn_mk ?a ?l ?c ?k; (case a => k_is); (case l => k_is); (case c => k_is); (case k => k_is))
    (case d_l_refusal => refine' Bv.dn_mk ?a ?l ?c ?k; (case a => k_is); (case l => k_is); (case c => k_is); (case k => k_is))
    (case d_l_told => refine' Bv.dn_mk ?a ?l ?c ?k; (case a => k_is); (case l => k_is); (case c => k_is); (case k => k_is))
    (case d_l_common => refine' Bv.dn_mk ?a ?l ?c ?k; (case a => k_is); (case l => k_is); (case c => k_is); (case k => k_is))
    (case d_l_is_ratio_of => refine' Bv.dn_mk ?a ?l ?c ?k; (case a => k_is); (case l => k_is); (case c => k_is); (case k => k_is))
    (case d_l_ask => refine' Bv.dn_mk ?a ?l ?c ?k; (case a => k_is); (case l => k_is); (case c => k_is); (case k => k_is))
    (case d_l_due => refine' Bv.dn_mk ?a ?l ?c ?k; (case a => k_is); (case l => k_is); (case c => k_is); (case k => k_is))
    (case d_l_cross => refine' Bv.dn_mk ?a ?l ?c ?k; (case a => k_is); (case l => k_is); (case c => k_is); (case k => k_is))
    (case d_l_holds => refine' Bv.dn_mk ?a ?l ?c ?k; (case a => k_is); (case l => k_is); (case c => k_is); (case k => k_is))
    (case d_l_base => refine' Bv.dn_mk ?a ?l ?c ?k; (case a => k_is); (case l => k_is); (case c => k_is); (case k => k_is))
    (case d_l_beside => refine' Bv.dn_mk ?a ?l ?c ?k; (case a => k_is); (case l => k_is); (case c => k_is); (case k => k_is))
    (case d_l_great => refine' Bv.dn_mk ?a ?l ?c ?k; (case a => k_is); (case l => k_is); (case c => k_is); (case k => k_is))
    (case d_law => refine' Bv.dn_mk ?a ?l ?c ?k; (case a => k_is); (case l => k_is); (case c => k_is); (case k => k_is))
