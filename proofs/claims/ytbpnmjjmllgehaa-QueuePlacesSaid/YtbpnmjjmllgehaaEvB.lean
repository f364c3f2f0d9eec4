/- The evaluator: whether two pieces of code are the same. No condition. -/
import Derived.Test.YtbpnmjjmllgehaaEvZ
namespace Go.Proofs.Ytbpnmjjmllgehaa
open Go Go.RowKit
namespace Ev
def valEq : Value → Value → Bool
  | .int k a, .int k' b => Nat.beq (kn k) (kn k') && a == b
  | .bool a, .bool b => a == b
  | .nilFunc, .nilFunc => true
  | .nilIface, .nilIface => true
  | .pointer none, .pointer none => true
  | .slice none 0 0, .slice none 0 0 => true
  | .map none, .map none => true
  | _, _ => false
theorem valEq_eq {a b : Value} (h : valEq a b = true) : a = b := by
  unfold valEq at h
  split at h
  · simp only [Bool.and_eq_true, beq_iff_eq] at h
    rw [kn_inj h.1, h.2]
  · simp only [beq_iff_eq] at h; rw [h]
  · rfl
  · rfl
  · rfl
  · rfl
  · rfl
  · cases h
def opdEq : Operand → Operand → Bool
  | .tmp a, .tmp b => Nat.beq a b
  | .const a, .const b => valEq a b
  | .global a, .global b => Nat.beq a b
  | .func a, .func b => Nat.beq a b
  | _, _ => false
theorem opdEq_eq {a b : Operand} (h : opdEq a b = true) : a = b := by
  unfold opdEq at h
  split at h
  · rw [Nat.eq_of_beq_eq_true h]
  · rw [valEq_eq h]
  · rw [Nat.eq_of_beq_eq_true h]
  · rw [Nat.eq_of_beq_eq_true h]
  · cases h
def lstEq {A : Type} (f : A → A → Bool) : List A → List A → Bool
  | [], [] => true
  | x :: l, y :: m => f x y && lstEq f l m
  | _, _ => false
theorem lstEq_eq {A : Type} {f : A → A → Bool} (hf : ∀ a b, f a b = true → a = b) : ∀ {l m : List A}, lstEq f l m = true → l = m
  | [], [], _ => rfl
  | x :: l, y :: m, h => by
    simp only [lstEq, Bool.and_eq_true] at h
    rw [hf x y h.1, lstEq_eq hf h.2]
  | [], _ :: _, h => by cases h
  | _ :: _, [], h => by cases h
def arrEq {A : Type} (f : A → A → Bool) (a b : Array A) : Bool := lstEq f a.toList b.toList
theorem arrEq_eq {A : Type} {f : A → A → Bool} (hf : ∀ a b, f a b = true → a = b) {a b : Array A} (h : arrEq f a b = true) : a = b := Array.toList_inj.1 (lstEq_eq hf h)
def optEq {A : Type} (f : A → A → Bool) : Option A → Option A → Bool
  | none, none => true
  | some a, some b => f a b
  | _, _ => false
theorem optEq_eq {A : Type} {f : A → A → Bool} (hf : ∀ a b, f a b = true → a = b) {a b : Option A} (h : optEq f a b = true) : a = b := by
  cases a <;> cases b <;> simp only [optEq] at h <;> first | rfl | (rw [hf _ _ h]) | cases h
theorem natB {a b : Nat} (h : Nat.beq a b = true) : a = b := Nat.eq_of_beq_eq_true h
def ceeEq : Callee → Callee → Bool
  | .value a, .value b => opdEq a b
  | .builtin a, .builtin b => a == b
  | .invoke a s, .invoke b t => opdEq a b && s == t
  | _, _ => false
theorem ceeEq_eq {a b : Callee} (h : ceeEq a b = true) : a = b := by
  unfold ceeEq at h
  split at h
  · rw [opdEq_eq h]
  · simp only [beq_iff_eq] at h; rw [h]
  · simp only [Bool.and_eq_true, beq_iff_eq] at h; rw [opdEq_eq h.1, h.2]
  · cases h
def callEq (a b : Call) : Bool := ceeEq a.callee b.callee && (arrEq opdEq a.args b.args && arrEq Nat.beq a.argTypes b.argTypes)
theorem callEq_eq {a b : Call} (h : callEq a b = true) : a = b := by
  obtain ⟨a1, a2, a3⟩ := a
  obtain ⟨b1, b2, b3⟩ := b
  simp only [callEq, Bool.and_eq_true] at h
  rw [ceeEq_eq h.1, arrEq_eq (fun _ _ => opdEq_eq) h.2.1, arrEq_eq (fun _ _ => natB) h.2.2]
def opEq (a b : Op) : Bool := match a, b with
  | .move x, .move y => opdEq x y
  | .assign x, .assign y => opdEq x y
  | .pick x1 x2 x3, .pick y1 y2 y3 => opdEq x1 y1 && (opdEq x2 y2 && opdEq x3 y3)
  | .alloc t, .alloc u => Nat.beq t u
  | .box t x, .box u y => Nat.beq t u && opdEq x y
  | .load t x, .load u y => Nat.beq t u && opdEq x y
  | .store t x z, .store u y v => Nat.beq t u && (opdEq x y && opdEq z v)
  | .nilCheck x, .nilCheck y => opdEq x y
  | .binOp o t x z t', .binOp p u y v u' => o == p && (Nat.beq t u && (opdEq x y && (opdEq z v && Nat.beq t' u')))
  | .unOp o t x, .unOp p u y => o == p && (Nat.beq t u && opdEq x y)
  | .convert t t' x, .convert u u' y => Nat.beq t u && (Nat.beq t' u' && opdEq x y)
  | .makeInterface t x, .makeInterface u y => Nat.beq t u && opdEq x y
  | .fieldAddr t x i, .fieldAddr u y j => Nat.beq t u && (opdEq x y && Nat.beq i j)
  | .field t x i, .field u y j => Nat.beq t u && (opdEq x y && Nat.beq i j)
  | .indexAddr t x z, .indexAddr u y v => Nat.beq t u && (opdEq x y && opdEq z v)
  | .index t x z, .index u y v => Nat.beq t u && (opdEq x y && opdEq z v)
  | .extract x i, .extract y j => opdEq x y && Nat.beq i j
  | .call c, .call d => callEq c d
  | .panic x, .panic y => opdEq x y
  | .build t x, .build u y => Nat.beq t u && arrEq (fun p q => Nat.beq p.1 q.1 && opdEq p.2 q.2) x y
  | .buildSlice t n x, .buildSlice u m y => Nat.beq t u && (Nat.beq n m && arrEq (fun p q => Nat.beq p.1 q.1 && opdEq p.2 q.2) x y)
  | .lookup t x z k, .lookup u y v l => Nat.beq t u && (opdEq x y && (opdEq z v && k == l))
  | .mapUpdate t x z k, .mapUpdate u y v l => Nat.beq t u && (opdEq x y && (opdEq z v && opdEq k l))
  | .slice t x a b c, .slice u y d e f => Nat.beq t u && (opdEq x y && (optEq opdEq a d && (optEq opdEq b e && optEq opdEq c f)))
  | .makeSlice t x z, .makeSlice u y v => Nat.beq t u && (opdEq x y && opdEq z v)
  | _, _ => false
theorem partEq {x y : Array (Nat × Operand)} (h : arrEq (fun p q => Nat.beq p.1 q.1 && opdEq p.2 q.2) x y = true) : x = y := arrEq_eq (fun a b h => by
  simp only [Bool.and_eq_true] at h
  exact Prod.ext (natB h.1) (opdEq_eq h.2)) h
theorem opEq_eq {a b : Op} (h : opEq a b = true) : a = b := by
  unfold opEq at h
  split at h
  all_goals (try simp only [Bool.and_eq_true, beq_iff_eq] at h)
  · rw [opdEq_eq h]
  · rw [opdEq_eq h]
  · rw [opdEq_eq h.1, opdEq_eq h.2.1, opdEq_eq h.2.2]
  · rw [natB h]
  · rw [natB h.1, opdEq_eq h.2]
  · rw [natB h.1, opdEq_eq h.2]
  · rw [natB h.1, opdEq_eq h.2.1, opdEq_eq h.2.2]
  · rw [opdEq_eq h]
  · rw [h.1, natB h.2.1, opdEq_eq h.2.2.1, opdEq_eq h.2.2.2.1, natB h.2.2.2.2]
  · rw [h.1, natB h.2.1, opdEq_eq h.2.2]
  · rw [natB h.1, natB h.2.1, opdEq_eq h.2.2]
  · rw [natB h.1, opdEq_eq h.2]
  · rw [natB h.1, opdEq_eq h.2.1, natB h.2.2]
  · rw [natB h.1, opdEq_eq h.2.1, natB h.2.2]
  · rw [natB h.1, opdEq_eq h.2.1, opdEq_eq h.2.2]
  · rw [natB h.1, opdEq_eq h.2.1, opdEq_eq h.2.2]
  · rw [opdEq_eq h.1, natB h.2]
  · rw [callEq_eq h]
  · rw [opdEq_eq h]
  · rw [natB h.1, partEq h.2]
  · rw [natB h.1, natB h.2.1, partEq h.2.2]
  · rw [natB h.1, opdEq_eq h.2.1, opdEq_eq h.2.2.1, h.2.2.2]
  · rw [natB h.1, opdEq_eq h.2.1, opdEq_eq h.2.2.1, opdEq_eq h.2.2.2]
  · rw [natB h.1, opdEq_eq h.2.1, optEq_eq (fun _ _ => opdEq_eq) h.2.2.1, optEq_eq (fun _ _ => opdEq_eq) h.2.2.2.1, optEq_eq (fun _ _ => opdEq_eq) h.2.2.2.2]
  · rw [natB h.1, opdEq_eq h.2.1, opdEq_eq h.2.2]
  · cases h
def operEq (a b : Oper) : Bool := optEq Nat.beq a.dst b.dst && (opEq a.op b.op && (Nat.beq a.type b.type && (a.pos == b.pos && (arrEq (fun x y => Nat.beq x.on y.on && x.ground == y.ground) a.after b.after && optEq (fun x y => Nat.beq x.1 y.1 && x.2 == y.2) a.guard b.guard))))
theorem operEq_eq {a b : Oper} (h : operEq a b = true) : a = b := by
  obtain ⟨a1, a2, a3, a4, a5, a6⟩ := a
  obtain ⟨b1, b2, b3, b4, b5, b6⟩ := b
  simp only [operEq, Bool.and_eq_true, beq_iff_eq] at h
  obtain ⟨h1, h2, h3, h4, h5, h6⟩ := h
  rw [optEq_eq (fun _ _ => natB) h1, opEq_eq h2, natB h3, h4, arrEq_eq (fun x y h => by
    obtain ⟨x1, x2⟩ := x
    obtain ⟨y1, y2⟩ := y
    simp only [Bool.and_eq_true, beq_iff_eq] at h
    rw [natB h.1, h.2]) h5, optEq_eq (fun x y h => by
    obtain ⟨x1, x2⟩ := x
    obtain ⟨y1, y2⟩ := y
    simp only [Bool.and_eq_true, beq_iff_eq] at h
    rw [natB h.1, h.2]) h6]
def codeEq : Code → Code → Bool
  | .skip, .skip => true
  | .ret, .ret => true
  | .region i o d, .region j p e => Nat.beq i j && (arrEq operEq o p && d == e)
  | .seq a b, .seq c d => codeEq a c && codeEq b d
  | .cond x a b, .cond y c d => opdEq x y && (codeEq a c && codeEq b d)
  | .block i a, .block j b => Nat.beq i j && codeEq a b
  | .loop a, .loop b => codeEq a b
  | .exit i, .exit j => Nat.beq i j
  | .label i, .label j => Nat.beq i j
  | _, _ => false
theorem codeEq_eq : ∀ {a b : Code}, codeEq a b = true → a = b
  | .skip, b, h => by cases b <;> first | rfl | cases h
  | .ret, b, h => by cases b <;> first | rfl | cases h
  | .region i o d, b, h => by
    cases b with
    | region j p e =>
      simp only [codeEq, Bool.and_eq_true, beq_iff_eq] at h
      rw [natB h.1, arrEq_eq (fun _ _ => operEq_eq) h.2.1, h.2.2]
    | _ => cases h
  | .seq a b, c, h => by
    cases c with
    | seq c d =>
      simp only [codeEq, Bool.and_eq_true] at h
      rw [codeEq_eq h.1, codeEq_eq h.2]
    | _ => cases h
  | .cond x a b, c, h => by
    cases c with
    | cond y c d =>
      simp only [codeEq, Bool.and_eq_true] at h
      rw [opdEq_eq h.1, codeEq_eq h.2.1, codeEq_eq h.2.2]
    | _ => cases h
  | .block i a, c, h => by
    cases c with
    | block j b =>
      simp only [codeEq, Bool.and_eq_true] at h
      rw [natB h.1, codeEq_eq h.2]
    | _ => cases h
  | .loop a, c, h => by
    cases c with
    | loop b => simp only [codeEq] at h; rw [codeEq_eq h]
    | _ => cases h
  | .exit i, c, h => by
    cases c with
    | exit j => simp only [codeEq] at h; rw [natB h]
    | _ => cases h
  | .label i, c, h => by
    cases c with
    | label j => simp only [codeEq] at h; rw [natB h]
    | _ => cases h
  | .rangeFunc _ _ _ _, c, h => by cases c <;> cases h
  | .scope _, c, h => by cases c <;> cases h
  | .goto _, c, h => by cases c <;> cases h
  | .refuse _, c, h => by cases c <;> cases h
/-- the ranges over functions of a piece of code -/
def rangesOf : Code → List (Code × Code)
  | .seq a b => rangesOf a ++ rangesOf b
  | .cond _ a b => rangesOf a ++ rangesOf b
  | .block _ a => rangesOf a
  | .loop a => rangesOf a
  | .rangeFunc _ _ a b => [(a, b)]
  | _ => []
def rangeAt (c : Code) (i : Nat) : Code × Code := (rangesOf c).getD i (.skip, .skip)
def grd : Bool → Option Unit
  | true => some ()
  | false => none
theorem grd_eq {b : Bool} {u : Unit} (h : grd b = some u) : b = true := by cases b <;> first | rfl | cases h
theorem bN_inj {a b : Bool} (h : bN a = bN b) : a = b := by cases a <;> cases b <;> first | rfl | cases h
theorem w64 {x : Int} (h1 : -9223372036854775808 ≤ x) (h2 : x ≤ 9223372036854775807) : IntKind.wrap .i64 x = x := by
  simp only [IntKind.wrap, IntKind.bits, IntKind.signed]
  simp
  omega
/-- what is said of a call: numbers that must be the same, conditions, the value -/
structure GS where
  cl : List (Nat × Nat)
  pre : List Bool
  h : Value
  v : Value
def genK (st : St) (r : Sup) : Option GS → Tree VR
  | some s => clm s.cl (ites s.pre (.leaf (s.h, s.v, st, r)))
  | none => .fail 45
/-- a function of values and rows -/
def genS (g : St → List (Value × Value) → Option GS) : SumF := fun a1 a2 st r => match Nat.beq a1.length a2.length with
  | true => genK st r (g st (a1.zip a2))
  | false => .fail 44
theorem genS_ok {P : Program} {f : FuncId} {g : St → List (Value × Value) → Option GS} (h : ∀ st xs s, g st xs = some s → (∀ x ∈ s.cl, x.1 = x.2) → (∀ b ∈ s.pre, b = true) → ∀ w N w0, Rel N w0 st w → Calls P f (xs.map Prod.snd).toArray w fun e w' => e = .returned s.v ∧ Below w.heap.size w w') (N : Nat → Prop) (w0 : World) : SumOk1 P N w0 f (genS g) := by
  intro a1 a2 st Q K w hq hr
  unfold genS at hq
  cases hl : Nat.beq a1.length a2.length with
  | false => rw [hl] at hq; exact (hq r0).elim
  | true =>
    rw [hl] at hq
    have hq' : ∀ r, (genK st r (g st (a1.zip a2))).good Q K := hq
    cases hg : g st (a1.zip a2) with
    | none => rw [hg] at hq'; exact (hq' r0).elim
    | some s =>
      rw [hg] at hq'
      have h1 : ∀ r, (∀ x ∈ s.cl, x.1 = x.2) ∧ (∀ b ∈ s.pre, b = true) ∧ (Tree.leaf (s.h, s.v, st, r)).good Q K := fun r => let ⟨x, y⟩ := clm_good (hq' r); ⟨x, ites_good y⟩
      have := h st _ s hg (h1 r0).1 (h1 r0).2.1 w N w0 hr
      rw [(zip_fst (Nat.eq_of_beq_eq_true hl)).2] at this
      exact this.mono fun e w' ⟨he, hb⟩ => .inl ⟨_, _, st, he, fun r => (h1 r).2.2, rel_below hr hb⟩
end Ev
end Go.Proofs.Ytbpnmjjmllgehaa
