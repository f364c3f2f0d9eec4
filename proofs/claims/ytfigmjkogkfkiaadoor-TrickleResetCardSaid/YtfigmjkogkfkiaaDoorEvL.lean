/- The evaluator: loops by what is said of them. No condition. -/
import Derived.Test.YtfigmjkogkfkiaaDoorEvU
namespace Go.Proofs.YtfigmjkogkfkiaaDoor
open Go Go.RowKit
namespace Ev
def Tree.noC {R : Type} : Tree R → Tree R
  | .leaf x => .leaf x
  | .ite b t e => .ite b t.noC e.noC
  | .claim _ _ t => t.noC
  | .fail n => .fail n
theorem noC_good {R : Type} {Q : R → Prop} : ∀ t : Tree R, t.lhs = t.rhs → t.noC.good Q → t.good Q
  | .leaf _, _, h => h
  | .ite b t e, hl, h => by
    obtain ⟨h1, h2⟩ := List.append_inj hl (len_lr t)
    exact ⟨fun hb => noC_good t h1 (h.1 hb), fun hb => noC_good e h2 (h.2 hb)⟩
  | .claim x y t, hl, h => by
    simp only [Tree.lhs, Tree.rhs, List.cons.injEq] at hl
    exact ⟨hl.1, noC_good t hl.2 h⟩
  | .fail _, _, h => h
def Tree.mapT {R S : Type} (f : R → S) : Tree R → Tree S
  | .leaf x => .leaf (f x)
  | .ite b t e => .ite b (t.mapT f) (e.mapT f)
  | .claim x y t => .claim x y (t.mapT f)
  | .fail n => .fail n
theorem mapT_good {R S : Type} {Q : S → Prop} (f : R → S) : ∀ t : Tree R, (t.mapT f).good Q ↔ t.good fun x => Q (f x)
  | .leaf _ => Iff.rfl
  | .ite b t e => by
    show (_ ∧ _) ↔ (_ ∧ _)
    exact and_congr (imp_congr_right fun _ => mapT_good f t) (imp_congr_right fun _ => mapT_good f e)
  | .claim x y t => by
    show (_ ∧ _) ↔ (_ ∧ _)
    exact and_congr_right fun _ => mapT_good f t
  | .fail _ => Iff.rfl
theorem good_mono {R : Type} {Q Q' : R → Prop} (h : ∀ x, Q x → Q' x) : ∀ t : Tree R, t.good Q → t.good Q'
  | .leaf x, g => h x g
  | .ite _ t e, g => ⟨fun hb => good_mono h t (g.1 hb), fun hb => good_mono h e (g.2 hb)⟩
  | .claim _ _ t, g => ⟨g.1, good_mono h t g.2⟩
  | .fail _, g => g
/-- the blocks of a piece of code, with their numbers -/
def blocks : Code → List (Nat × Code)
  | .seq a b => blocks a ++ blocks b
  | .cond _ a b => blocks a ++ blocks b
  | .block id a => (id, a) :: blocks a
  | .loop a => blocks a
  | _ => []
abbrev LT := Nat → Option EC
def noL : LT := fun _ => none
def oneL (i : Nat) (e : EC) (L : LT) : LT := fun id => match Nat.beq id i with
  | true => some e
  | false => L id
noncomputable def blkS (id : Nat) (a : EC) : Option EC → EC
  | some e => e
  | none => cBlock id a
noncomputable def codeL (P : Program) (G : Sum) (L : LT) (m : Nat) (ec : Code → EC) (c : Code) : EC :=
  Code.casesOn (motive := fun _ => EC) c (cEnd .normal) (fun _ ops d => cRegion P G (evalC P G m) ops d) (fun a b => cSeq (ec a) (ec b)) (fun c a b => cCond c (ec a) (ec b)) (fun id a => blkS id (ec a) (L id)) (fun a => cSeq (ec a) (ec (.loop a)))
    (fun _ _ _ _ => cFail 52) (fun id => cEnd (.exit id)) (fun _ => cFail 53) (fun _ => cEnd .normal) (fun _ => cFail 54) (cEnd .ret) (fun _ => cFail 55)
noncomputable def evalL (P : Program) (G : Sum) (L : LT) (m n : Nat) : Code → EC :=
  Nat.rec (motive := fun _ => Code → EC) (fun _ => cFail 50) (fun _ ec => codeL P G L m ec) n
/-- what is said of the blocks of that code is so -/
def LOk (P : Program) (N : Nat → Prop) (w0 : World) (L : LT) (c0 : Code) : Prop := ∀ id b e, (id, b) ∈ blocks c0 → L id = some e → CodeOk P N w0 (.block id b) e
theorem noL_ok (P : Program) (N : Nat → Prop) (w0 : World) (c0 : Code) : LOk P N w0 noL c0 := fun _ _ _ _ h => by cases h
theorem oneL_ok {P : Program} {N : Nat → Prop} {w0 : World} {L : LT} {c0 : Code} {i : Nat} {e : EC} {b0 : Code} (hu : (blocks c0).filter (fun x => Nat.beq x.1 i) = [(i, b0)]) (h : CodeOk P N w0 (.block i b0) e) (hL : LOk P N w0 L c0) : LOk P N w0 (oneL i e L) c0 := by
  intro id b e' hm he
  unfold oneL at he
  cases hb : Nat.beq id i with
  | true =>
    rw [hb] at he
    simp only [Option.some.injEq] at he
    subst he
    have hid := Nat.eq_of_beq_eq_true hb
    subst hid
    have : (id, b) ∈ (blocks c0).filter (fun x => Nat.beq x.1 id) := List.mem_filter.2 ⟨hm, hb⟩
    rw [hu, List.mem_singleton, Prod.mk.injEq] at this
    rw [this.2]
    exact h
  | false => rw [hb] at he; exact hL id b e' hm he
/-- the body of the loop of that number -/
def loopOf (i : Nat) (c : Code) : Code := match (blocks c).filter fun x => Nat.beq x.1 i with
  | (_, .loop b) :: _ => b
  | _ => .skip
def bodyOf (fn : Func) : Code := match fn.body with
  | some c => c
  | none => .skip
section
variable {P : Program} {N : Nat → Prop} {w0 w : World} {G : Sum} {L : LT} {c0 : Code}
theorem evalL_sound (hG : ∀ N w0, SumOk P N w0 G) (hL : LOk P N w0 L c0) (m : Nat) : ∀ n, (∀ c, (∀ x ∈ blocks c, x ∈ blocks c0) → CodeOk P N w0 c (evalL P G L m n c)) ∧ ∀ c, (∀ x ∈ blocks c, x ∈ blocks c0) → RoundsOk P N w0 n c (evalL P G L m n (.loop c))
  | 0 => ⟨fun c _ => code_fail c 50, fun c _ fr st a w Q Qx h => (h r0).elim⟩
  | n + 1 => by
    obtain ⟨ih1, ih2⟩ := evalL_sound hG hL m n
    have hcall : ∀ N w0, CallOk P N w0 (callE P G (evalC P G m)) := fun N w0 => callE_sound (hG N w0) ((evalC_sound hG m).1 N w0)
    have hround : ∀ c, (∀ x ∈ blocks c, x ∈ blocks c0) → RoundsOk P N w0 (n + 1) c (evalL P G L m (n + 1) (.loop c)) := by
      intro c hs fr st a w Q Qx h hf hr hn
      have h' : ∀ r, (cSeq (evalL P G L m n c) (evalL P G L m n (.loop c)) fr st r).good Q := h
      rw [rounds_succ]
      refine ih1 c hs fr st a w _ _ (fun r => (good_bind _ _).1 (h' r)) hf hr ?_
      intro e fr st a w hq hf hr
      cases e with
      | normal => exact ih2 c hs fr st a w Q Qx hq hf hr hn
      | exit id => exact hn (.exit id) fr st a w hq hf hr
      | ret => exact hn .ret fr st a w hq hf hr
    refine ⟨fun c hs => ?_, hround⟩
    cases c with
    | skip => exact code_end _ .normal fun Q a w h => wp_skip h
    | region id ops d =>
      cases d with
      | false => exact region_seq (hcall N w0) id
      | true => exact region_draw hcall id
    | seq a b => exact code_seq (ih1 a fun x hx => hs x (List.mem_append_left _ hx)) (ih1 b fun x hx => hs x (List.mem_append_right _ hx))
    | cond c a b => exact code_cond (ih1 a fun x hx => hs x (List.mem_append_left _ hx)) (ih1 b fun x hx => hs x (List.mem_append_right _ hx))
    | block id a =>
      intro fr st act w Q Qx h hf hr hn
      have h' : ∀ r, (blkS id (evalL P G L m n a) (L id) fr st r).good Q := h
      cases hl : L id with
      | some e => rw [hl] at h'; exact hL id a e (hs _ (List.mem_cons_self ..)) hl fr st act w Q Qx h' hf hr hn
      | none => rw [hl] at h'; exact code_block (ih1 a fun x hx => hs x (List.mem_cons_of_mem _ hx)) fr st act w Q Qx h' hf hr hn
    | loop a =>
      intro fr st act w Q Qx h hf hr hn
      exact wp_loop_rounds (n + 1) (hround a hs fr st act w Q Qx h hf hr hn)
    | rangeFunc _ _ _ _ => exact code_fail _ 52
    | exit id => exact code_end _ (.exit id) fun Q a w h => wp_exit h
    | scope _ => exact code_fail _ 53
    | label l => exact code_end _ .normal fun Q a w h => wp_label h
    | goto _ => exact code_fail _ 54
    | ret => exact code_end _ .ret fun Q a w h => wp_ret h
    | refuse _ => exact code_fail _ 55
theorem callF_sound {ec : Code → EC} {f : FuncId} {fn : Func} {c : Code} (hfn : P.funcs[f]? = some fn) (hb : fn.body = some c) (hec : CodeOk P N w0 c (ec c)) {a1 a2 : List Value} {st : St} {Q : VQ}
    (h : ∀ r, (callF P ec a1 a2 st r P.funcs[f]?).good Q) (hr : Rel N w0 st w) : Calls P f a2.toArray w fun e w' => ∃ v1 v2 st', e = .returned v2 ∧ (∀ r, Q (v1, v2, st', r)) ∧ Rel N w0 st' w' := by
  simp only [hfn, callF, hb, callB] at h
  cases hl : (Nat.ble a2.length fn.ntmps && Nat.beq a1.length a2.length) with
  | false => simp only [hl, callL] at h; exact (h r0).elim
  | true =>
    simp only [hl, callL] at h
    simp only [Bool.and_eq_true] at hl
    have h1 : a1.length = a2.length := Nat.eq_of_beq_eq_true hl.2
    have h2 : a2.length ≤ fn.ntmps := Nat.le_of_ble_eq_true hl.1
    refine calls_of_wp hfn hb ?_
    refine hec _ st _ w _ _ (fun r => (good_bind _ _).1 (h r)) (frOk_args h1 h2) hr ?_
    intro ex fr st' a w' hq hf hr'
    have fin : (∀ r, ((rsAll P fr fn.results.toList st' r).bind resK).good Q) → a.defers = [] ∧ ∃ v, (results fn a.tmps).run P w' = .ok v w' ∧ ∃ v1 v2 st'', Ending.returned v = .returned v2 ∧ (∀ r, Q (v1, v2, st'', r)) ∧ Rel N w0 st'' w' := by
      intro hq
      obtain ⟨l1, l2, hrun, hq2⟩ := rsAll_sound (P := P) hf hr' fn.results.toList _ (fun r => (good_bind _ _).1 (hq r))
      refine ⟨hf.defers, mkRes l2, ?_, mkRes l1, mkRes l2, st', rfl, hq2, hr'⟩
      rw [run_results, hrun]
      rfl
    cases ex with
    | normal => exact fin hq
    | ret => exact fin hq
    | exit id => exact (hq r0).elim
noncomputable def evalFL (P : Program) (G : Sum) (L : LT) (m : Nat) (f : FuncId) (a1 a2 : List Value) (M : List Ent) (r : Sup) : Tree VR := callF P (evalL P G L m m) a1 a2 ⟨M, 1000000⟩ r P.funcs[f]?
/-- **a contract of a function with loops, read off the evaluator's answer** -/
theorem contractL (hG : ∀ N w0, SumOk P N w0 G) (m : Nat) {f : FuncId} {fn : Func} {c : Code} (hfn : P.funcs[f]? = some fn) (hb : fn.body = some c) {a1 a2 : List Value} {M : List Ent} {T : Tree Value} {Q : Value → Prop} {w : World} (hL : LOk P (· < w.heap.size) w L c) (hM : ExtOk w M)
    (hl : ∀ r, (evalFL P G L m f a1 a2 M r).lhs = (evalFL P G L m f a1 a2 M r).rhs) (hT : ∀ r, (evalFL P G L m f a1 a2 M r).val = T) (hg : T.good Q) :
    Calls P f a2.toArray w fun e w' => ∃ v, e = .returned v ∧ Q v ∧ Below w.heap.size w w' := by
  refine (callF_sound (N := (· < w.heap.size)) (w0 := w) (ec := evalL P G L m m) hfn hb ((evalL_sound hG hL m m).1 c fun x hx => hx) (a1 := a1) (st := ⟨M, 1000000⟩) (Q := fun x => Q x.2.1) (fun r => ?_) (rel_start hM _)).mono fun e w' ⟨v1, v2, st', he, hq, hr⟩ => ⟨v2, he, hq r0, hr.low.below⟩
  have h1 := val_good (Q := Q) _ (hl r) (by rw [hT r]; exact hg)
  exact h1
theorem contractL1 (hG : ∀ N w0, SumOk P N w0 G) (m : Nat) {f : FuncId} {fn : Func} {c : Code} (hfn : P.funcs[f]? = some fn) (hb : fn.body = some c) {a1 a2 : List Value} {M : List Ent} {T : Tree Value} {v : Value} {w : World} (hL : LOk P (· < w.heap.size) w L c) (hM : ExtOk w M)
    (hl : ∀ r, (evalFL P G L m f a1 a2 M r).lhs = (evalFL P G L m f a1 a2 M r).rhs) (hT : ∀ r, (evalFL P G L m f a1 a2 M r).val = T) (hg : T.good (· = v)) :
    Calls P f a2.toArray w fun e w' => e = .returned v ∧ Below w.heap.size w w' :=
  (contractL hG m hfn hb hL hM hl hT hg).mono fun e w' ⟨u, he, hu, hb⟩ => ⟨by rw [he, hu], hb⟩
end
end Ev
end Go.Proofs.YtfigmjkogkfkiaaDoor
