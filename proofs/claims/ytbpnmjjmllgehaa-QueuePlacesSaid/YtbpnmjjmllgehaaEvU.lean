/- The evaluator: how contracts are read off. No condition. -/
import Derived.Test.YtbpnmjjmllgehaaEvJ
namespace Go.Proofs.Ytbpnmjjmllgehaa
open Go Go.RowKit
namespace Ev
def Tree.lhs {R : Type} : Tree R → List Nat
  | .leaf _ => []
  | .ite _ t e => t.lhs ++ e.lhs
  | .claim x _ t => x :: t.lhs
  | .fail _ => []
  | .stop _ _ _ _ => []
def Tree.rhs {R : Type} : Tree R → List Nat
  | .leaf _ => []
  | .ite _ t e => t.rhs ++ e.rhs
  | .claim _ y t => y :: t.rhs
  | .fail _ => []
  | .stop _ _ _ _ => []
/-- the values alone -/
def Tree.val : Tree VR → Tree Value
  | .leaf x => .leaf x.2.1
  | .ite b t e => .ite b t.val e.val
  | .claim _ _ t => t.val
  | .fail n => .fail n
  | .stop _ _ _ _ => .fail 80
theorem len_lr {R : Type} : ∀ t : Tree R, t.lhs.length = t.rhs.length
  | .leaf _ => rfl
  | .ite _ t e => by simp only [Tree.lhs, Tree.rhs, List.length_append, len_lr t, len_lr e]
  | .claim _ _ t => by simp only [Tree.lhs, Tree.rhs, List.length_cons, len_lr t]
  | .fail _ => rfl
  | .stop _ _ _ _ => rfl
theorem val_good {Q : Value → Prop} : ∀ t : Tree VR, t.lhs = t.rhs → t.val.good Q → t.good fun x => Q x.2.1
  | .leaf _, _, h => h
  | .ite b t e, hl, h => by
    obtain ⟨h1, h2⟩ := List.append_inj hl (len_lr t)
    exact ⟨fun hb => val_good t h1 (h.1 hb), fun hb => val_good e h2 (h.2 hb)⟩
  | .claim x y t, hl, h => by
    simp only [Tree.lhs, Tree.rhs, List.cons.injEq] at hl
    exact ⟨hl.1, val_good t hl.2 h⟩
  | .fail _, _, h => h
  | .stop _ _ _ _, _, h => h.elim
/-- a number, a bool, a string -/
inductive Lf where
  | i (k : IntKind) (z : Int)
  | b (v : Bool)
  | s (x : ByteArray)
def lfV : Lf → Value
  | .i k z => .int k z
  | .b v => .bool v
  | .s x => .string x
def toLf : Value → Option Lf
  | .int k z => some (.i k z)
  | .bool v => some (.b v)
  | .string x => some (.s x)
  | _ => none
def consO : Option Lf → Option (List Lf) → Option (List Lf)
  | some x, some l => some (x :: l)
  | _, _ => none
def lfs : List Value → Option (List Lf)
  | [] => some []
  | v :: l => consO (toLf v) (lfs l)
def aggLf : Value → Option (List Lf)
  | .agg cs => lfs cs.toList
  | _ => none
theorem toLf_eq {v : Value} {x : Lf} (h : toLf v = some x) : v = lfV x := by
  cases v <;> simp only [toLf, Option.some.injEq] at h <;> first | (subst h; rfl) | cases h
theorem lfs_eq : ∀ {l : List Value} {m : List Lf}, lfs l = some m → l = m.map lfV
  | [], m, h => by simp only [lfs, Option.some.injEq] at h; subst h; rfl
  | v :: l, m, h => by
    simp only [lfs] at h
    cases hv : toLf v with
    | none => rw [hv] at h; cases h
    | some x =>
      cases hl : lfs l with
      | none => rw [hv, hl] at h; cases h
      | some n =>
        rw [hv, hl] at h
        simp only [consO, Option.some.injEq] at h
        subst h
        rw [toLf_eq hv, lfs_eq hl]
        rfl
theorem aggLf_eq {v : Value} {m : List Lf} (h : aggLf v = some m) : v = .agg (m.map lfV).toArray := by
  cases v with
  | agg cs =>
    have := lfs_eq (show lfs cs.toList = some m from h)
    rw [← this, Array.toArray_toList]
  | _ => cases h
section
variable {P : Program} {G : Sum}
theorem rel_below {N : Nat → Prop} {w0 w w' : World} {st : St} (h : Rel N w0 st w) (hb : Below w.heap.size w w') : Rel N w0 st w' := by
  obtain ⟨F, hs, hB, hk⟩ := h
  exact .close hs hk (hB.grown ⟨hb.os, hb.tape, hb.output, hb.size, fun k hk _ => hb.block k hk⟩)
/-- a block of the call's surroundings, of which cells are known -/
def ext (tag b : Nat) (lit cur : List Value) : Ent := ⟨tag, b, .cells lit.toArray 0, .cells cur.toArray 0, false, false, none, none⟩
def ExtOk (w : World) (M : List Ent) : Prop := ∀ e ∈ M, e.rw = false ∧ (e.b < w.heap.size ∧ e.own = false ∧ e.Holds w ∨ e.Void)
theorem ExtOk.nil (w : World) : ExtOk w [] := fun e he => by cases he
theorem rel_start {w : World} {M : List Ent} (h : ExtOk w M) (nt : Nat) : Rel (· < w.heap.size) w ⟨M, nt⟩ w := by
  refine .of ?_
  refine ⟨fun e he => ?_, ?_, Keep.refl _ _, fun k hk => hk⟩
  · obtain ⟨h1, h2⟩ := h e he
    rcases h2 with ⟨h2, _, h3⟩ | h2
    · exact ⟨h3, fun hr => (by rw [h1] at hr; cases hr), fun _ => .inl h2⟩
    · exact ⟨h2.holds w, fun hr => (by rw [h1] at hr; cases hr), fun _ => .inr h2⟩
  · exact List.pairwise_of_forall_mem_list fun e he f _ hr => by rw [(h e he).1] at hr; cases hr
theorem ExtOk.cons {w : World} {e : Ent} {M : List Ent} (h1 : e.rw = false) (h2 : e.b < w.heap.size ∧ e.own = false ∧ e.Holds w ∨ e.Void) (h : ExtOk w M) : ExtOk w (e :: M) := by
  intro x hx
  rcases List.mem_cons.1 hx with rfl | hx
  · exact ⟨h1, h2⟩
  · exact h x hx
theorem ExtOk.append {w : World} {M M' : List Ent} (h : ExtOk w M) (h' : ExtOk w M') : ExtOk w (M ++ M') := fun x hx => (List.mem_append.1 hx).elim (h x) (h' x)
noncomputable def evalF (P : Program) (G : Sum) (n : Nat) (f : FuncId) (a1 a2 : List Value) (M : List Ent) (r : Sup) : Tree VR := callE P G (evalR P G n) (.fn f) a1 a2 ⟨M, 1000000⟩ r
theorem ret_val {Q : Value → Prop} {e : Ending} {w w' : World} (h : RetOk (· < w.heap.size) w (fun x => Q x.2.1) noK e w') : ∃ v, e = .returned v ∧ Q v ∧ Below w.heap.size w w' := by
  rcases h with ⟨v1, v2, st', he, hq, hr⟩ | ⟨v1, v2, st', he, hq, hr⟩
  · exact ⟨v2, he, hq r0, hr.low.below⟩
  · exact (hq r0).elim
/-- **a contract, read off the evaluator's answer** -/
theorem contract (hG : ∀ N w0, SumOk P N w0 G) (n : Nat) {f : FuncId} {a1 a2 : List Value} {M : List Ent} {T : Tree Value} {Q : Value → Prop} {w : World} (hM : ExtOk w M)
    (hl : ∀ r, (evalF P G n f a1 a2 M r).lhs = (evalF P G n f a1 a2 M r).rhs) (hT : ∀ r, (evalF P G n f a1 a2 M r).val = T) (hg : T.good Q) :
    Calls P f a2.toArray w fun e w' => ∃ v, e = .returned v ∧ Q v ∧ Below w.heap.size w w' := by
  have hc := call_ok hG n (· < w.heap.size) w (.fn f) a1 a2 ⟨M, 1000000⟩ (fun x => Q x.2.1) noK w (fun r => ?_) (rel_start hM _)
  · exact Calls.mono hc fun e w' h => ret_val h
  have h1 := val_good (Q := Q) _ (hl r) (by rw [hT r]; exact hg)
  exact h1
/-- one value -/
theorem contract1 (hG : ∀ N w0, SumOk P N w0 G) (n : Nat) {f : FuncId} {a1 a2 : List Value} {M : List Ent} {T : Tree Value} {v : Value} {w : World} (hM : ExtOk w M)
    (hl : ∀ r, (evalF P G n f a1 a2 M r).lhs = (evalF P G n f a1 a2 M r).rhs) (hT : ∀ r, (evalF P G n f a1 a2 M r).val = T) (hg : T.good (· = v)) :
    Calls P f a2.toArray w fun e w' => e = .returned v ∧ Below w.heap.size w w' :=
  (contract hG n hM hl hT hg).mono fun e w' ⟨u, he, hu, hb⟩ => ⟨by rw [he, hu], hb⟩
def noS : Sum := fun _ => none
theorem noS_ok : ∀ N w0, SumOk P N w0 noS := fun N w0 f s h => by cases h
def hintO (v : Value) : Option Value → Value
  | some x => x
  | none => pois v
def pureK (h : Option Value) (st : St) (r : Sup) : Option Value → Tree VR
  | some v => .leaf (hintO v h, v, st, r)
  | none => .fail 45
/-- a function of values alone; where the arguments are known, its value is -/
def pureS (g : List Value → Option Value) : SumF := fun a1 a2 st r => pureK (g a1) st r (g a2)
theorem pureS_ok {f : FuncId} {g : List Value → Option Value} (h : ∀ a v, g a = some v → ∀ w, Calls P f a.toArray w fun e w' => e = .returned v ∧ Below w.heap.size w w') (N : Nat → Prop) (w0 : World) : SumOk1 P N w0 f (pureS g) := by
  intro a1 a2 st Q K w hq hr
  unfold pureS at hq
  cases hg : g a2 with
  | none => rw [hg] at hq; exact (hq r0).elim
  | some v =>
    rw [hg] at hq
    exact (h a2 v hg w).mono fun e w' ⟨he, hb⟩ => .inl ⟨_, v, st, he, hq, rel_below hr hb⟩
/-- one function more -/
def addS (f : FuncId) (s : SumF) (G : Sum) : Sum := fun x => match Nat.beq x f with
  | true => some s
  | false => G x
theorem addS_ok {f : FuncId} {s : SumF} (h : ∀ N w0, SumOk1 P N w0 f s) (hG : ∀ N w0, SumOk P N w0 G) : ∀ N w0, SumOk P N w0 (addS f s G) := by
  intro N w0 x t ht
  unfold addS at ht
  cases hb : Nat.beq x f with
  | true =>
    rw [hb] at ht
    simp only [Option.some.injEq] at ht
    subst ht
    rw [Nat.eq_of_beq_eq_true hb]
    exact h N w0
  | false => rw [hb] at ht; exact hG N w0 x t ht
/-- what a call comes to: it returns, or it panics -/
def Tree.out : Tree VR → Tree Value
  | .leaf x => .leaf (.tuple #[.bool true, x.2.1])
  | .ite b t e => .ite b t.out e.out
  | .claim _ _ t => t.out
  | .fail n => .fail n
  | .stop _ v _ _ => .leaf (.tuple #[.bool false, v])
theorem out_good {Q : Value → Prop} : ∀ t : Tree VR, t.lhs = t.rhs → t.out.good Q → t.good (fun x => Q (.tuple #[.bool true, x.2.1])) fun _ v _ _ => Q (.tuple #[.bool false, v])
  | .leaf _, _, h => h
  | .ite b t e, hl, h => by
    obtain ⟨h1, h2⟩ := List.append_inj hl (len_lr t)
    exact ⟨fun hb => out_good t h1 (h.1 hb), fun hb => out_good e h2 (h.2 hb)⟩
  | .claim x y t, hl, h => by
    simp only [Tree.lhs, Tree.rhs, List.cons.injEq] at hl
    exact ⟨hl.1, out_good t hl.2 h⟩
  | .fail _, _, h => h
  | .stop _ _ _ _, _, h => h
/-- a call returns v, or panics with p -/
def Ends (v p : Value) (b : Bool) (w : World) (e : Ending) (w' : World) : Prop :=
  (b = true ∧ e = .returned v ∨ b = false ∧ e = .panicked [{ v := p, recovered := false }]) ∧ Below w.heap.size w w'
theorem contractP (hG : ∀ N w0, SumOk P N w0 G) (n : Nat) {f : FuncId} {a1 a2 : List Value} {M : List Ent} {T : Tree Value} {v p : Value} {b : Bool} {w : World} (hM : ExtOk w M)
    (hl : ∀ r, (evalF P G n f a1 a2 M r).lhs = (evalF P G n f a1 a2 M r).rhs) (hT : ∀ r, (evalF P G n f a1 a2 M r).out = T) (hg : T.good fun x => x = .tuple #[.bool b, cond b v p]) :
    Calls P f a2.toArray w (Ends v p b w) := by
  have hc := call_ok hG n (· < w.heap.size) w (.fn f) a1 a2 ⟨M, 1000000⟩ (fun x => Value.tuple #[.bool true, x.2.1] = .tuple #[.bool b, cond b v p]) (fun _ u _ _ => Value.tuple #[.bool false, u] = .tuple #[.bool b, cond b v p]) w (fun r => ?_) (rel_start hM _)
  · refine Calls.mono hc fun e w' h => ?_
    rcases h with ⟨v1, v2, st', he, hq, hr⟩ | ⟨v1, v2, st', he, hq, hr⟩
    · have q := hq r0
      simp only [Value.tuple.injEq, Array.mk.injEq, List.cons.injEq, Value.bool.injEq, and_true] at q
      obtain ⟨q1, q2⟩ := q
      subst q1
      have q2 : v2 = v := q2
      exact ⟨.inl ⟨rfl, by rw [he, q2]⟩, hr.low.below⟩
    · have q := hq r0
      simp only [Value.tuple.injEq, Array.mk.injEq, List.cons.injEq, Value.bool.injEq, and_true] at q
      obtain ⟨q1, q2⟩ := q
      subst q1
      have q2 : v2 = p := q2
      exact ⟨.inr ⟨rfl, by rw [he, q2]⟩, hr.low.below⟩
  · have h1 := out_good (Q := fun x => x = .tuple #[.bool b, cond b v p]) _ (hl r) (by rw [hT r]; exact hg)
    exact h1
def endK (h : Option (Value × Value × Bool)) (st : St) (r : Sup) : Option (Value × Value × Bool) → Tree VR
  | some (v, p, b) => .ite b (.leaf (hintO v (h.map fun x => x.1), v, st, r)) (.stop (match p with | .iface t _ => .iface t undef | _ => undef) p st r)
  | none => .fail 45
/-- a function of values alone, that may panic -/
def endS (g : List Value → Option (Value × Value × Bool)) : SumF := fun a1 a2 st r => endK (g a1) st r (g a2)
theorem endS_ok {f : FuncId} {g : List Value → Option (Value × Value × Bool)} (h : ∀ a v p b, g a = some (v, p, b) → ∀ w, Calls P f a.toArray w (Ends v p b w)) (N : Nat → Prop) (w0 : World) : SumOk1 P N w0 f (endS g) := by
  intro a1 a2 st Q K w hq hr
  unfold endS at hq
  cases hg : g a2 with
  | none => rw [hg] at hq; exact (hq r0).elim
  | some x =>
    obtain ⟨v, p, b⟩ := x
    rw [hg] at hq
    refine (h a2 v p b hg w).mono fun e w' ⟨he, hb⟩ => ?_
    rcases he with ⟨rfl, he⟩ | ⟨rfl, he⟩
    · exact .inl ⟨_, v, st, he, fun r => (hq r).1 rfl, rel_below hr hb⟩
    · exact .inr ⟨_, p, st, he, fun r => (hq r).2 rfl, rel_below hr hb⟩
end
theorem ite_good {R : Type} {Q : R → Prop} {b : Bool} {t e : Tree R} (ht : b = true → t.good Q) (he : b = false → e.good Q) : (Tree.ite b t e).good Q := ⟨ht, he⟩
end Ev
end Go.Proofs.Ytbpnmjjmllgehaa
