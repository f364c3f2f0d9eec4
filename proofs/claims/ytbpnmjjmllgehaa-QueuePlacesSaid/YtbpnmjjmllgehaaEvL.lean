/- The evaluator: loops by what is said of them. No condition. -/
import Derived.Test.YtbpnmjjmllgehaaEvU
namespace Go.Proofs.Ytbpnmjjmllgehaa
open Go Go.RowKit
namespace Ev
def Tree.noC {R : Type} : Tree R → Tree R
  | .leaf x => .leaf x
  | .ite b t e => .ite b t.noC e.noC
  | .claim _ _ t => t.noC
  | .fail n => .fail n
  | .stop a b c d => .stop a b c d
theorem noC_good {R : Type} {Q : R → Prop} : ∀ t : Tree R, t.lhs = t.rhs → t.noC.good Q → t.good Q
  | .leaf _, _, h => h
  | .ite b t e, hl, h => by
    obtain ⟨h1, h2⟩ := List.append_inj hl (len_lr t)
    exact ⟨fun hb => noC_good t h1 (h.1 hb), fun hb => noC_good e h2 (h.2 hb)⟩
  | .claim x y t, hl, h => by
    simp only [Tree.lhs, Tree.rhs, List.cons.injEq] at hl
    exact ⟨hl.1, noC_good t hl.2 h⟩
  | .fail _, _, h => h
  | .stop _ _ _ _, _, h => h
def Tree.mapT {R S : Type} (f : R → S) : Tree R → Tree S
  | .leaf x => .leaf (f x)
  | .ite b t e => .ite b (t.mapT f) (e.mapT f)
  | .claim x y t => .claim x y (t.mapT f)
  | .fail n => .fail n
  | .stop a b c d => .stop a b c d
theorem mapT_good {R S : Type} {Q : S → Prop} (f : R → S) : ∀ t : Tree R, (t.mapT f).good Q ↔ t.good fun x => Q (f x)
  | .leaf _ => Iff.rfl
  | .ite b t e => by
    show (_ ∧ _) ↔ (_ ∧ _)
    exact and_congr (imp_congr_right fun _ => mapT_good f t) (imp_congr_right fun _ => mapT_good f e)
  | .claim x y t => by
    show (_ ∧ _) ↔ (_ ∧ _)
    exact and_congr_right fun _ => mapT_good f t
  | .fail _ => Iff.rfl
  | .stop _ _ _ _ => Iff.rfl
theorem good_mono {R : Type} {Q Q' : R → Prop} (h : ∀ x, Q x → Q' x) : ∀ t : Tree R, t.good Q → t.good Q'
  | .leaf x, g => h x g
  | .ite _ t e, g => ⟨fun hb => good_mono h t (g.1 hb), fun hb => good_mono h e (g.2 hb)⟩
  | .claim _ _ t, g => ⟨g.1, good_mono h t g.2⟩
  | .fail _, g => g
  | .stop _ _ _ _, g => g
/-- the blocks of a piece of code, with their numbers -/
def blocks : Code → List (Nat × Code)
  | .seq a b => blocks a ++ blocks b
  | .cond _ a b => blocks a ++ blocks b
  | .block id a => (id, a) :: blocks a
  | .loop a => blocks a
  | _ => []
abbrev LT := Nat → Option EC
def noL : LT := fun _ => none
def oneL (i : Nat) (e : EC) (L : LT) : LT := fun id => match Nat.beq id i with
  | true => some e
  | false => L id
noncomputable def blkS (id : Nat) (a : EC) : Option EC → EC
  | some e => e
  | none => cBlock id a
noncomputable def codeL (P : Program) (G : Sum) (L : LT) (m : Nat) (ec : Code → EC) (c : Code) : EC :=
  Code.casesOn (motive := fun _ => EC) c (cEnd .normal) (fun _ ops d => cRegion P (callE P G (evalR P G m)) true ops d) (fun a b => cSeq (ec a) (ec b)) (fun c a b => cCond c (ec a) (ec b)) (fun id a => blkS id (ec a) (L id)) (fun a => cSeq (ec a) (ec (.loop a)))
    (fun g ps a b => rfIn P (callE P G (evalR P G m)) g ps a b none) (fun id => cEnd (.exit id)) (fun _ => cFail 53) (fun _ => cEnd .normal) (fun _ => cFail 54) (cEnd .ret) (fun _ => cFail 55)
noncomputable def evalL (P : Program) (G : Sum) (L : LT) (m n : Nat) : Code → EC :=
  Nat.rec (motive := fun _ => Code → EC) (fun _ => cFail 50) (fun _ ec => codeL P G L m ec) n
/-- what is said of the blocks of that code is so -/
def LOk (P : Program) (N : Nat → Prop) (w0 : World) (L : LT) (c0 : Code) : Prop := ∀ id b e, (id, b) ∈ blocks c0 → L id = some e → CodeOk none P N w0 (.block id b) e
theorem noL_ok (P : Program) (N : Nat → Prop) (w0 : World) (c0 : Code) : LOk P N w0 noL c0 := fun _ _ _ _ h => by cases h
theorem oneL_ok {P : Program} {N : Nat → Prop} {w0 : World} {L : LT} {c0 : Code} {i : Nat} {e : EC} {b0 : Code} (hu : (blocks c0).filter (fun x => Nat.beq x.1 i) = [(i, b0)]) (h : CodeOk none P N w0 (.block i b0) e) (hL : LOk P N w0 L c0) : LOk P N w0 (oneL i e L) c0 := by
  intro id b e' hm he
  unfold oneL at he
  cases hb : Nat.beq id i with
  | true =>
    rw [hb] at he
    simp only [Option.some.injEq] at he
    subst he
    have hid := Nat.eq_of_beq_eq_true hb
    subst hid
    have : (id, b) ∈ (blocks c0).filter (fun x => Nat.beq x.1 id) := List.mem_filter.2 ⟨hm, hb⟩
    rw [hu, List.mem_singleton, Prod.mk.injEq] at this
    rw [this.2]
    exact h
  | false => rw [hb] at he; exact hL id b e' hm he
/-- the body of the loop of that number -/
def loopOf (i : Nat) (c : Code) : Code := match (blocks c).filter fun x => Nat.beq x.1 i with
  | (_, .loop b) :: _ => b
  | _ => .skip
def bodyOf (fn : Func) : Code := match fn.body with
  | some c => c
  | none => .skip
section
variable {P : Program} {N : Nat → Prop} {w0 w : World} {G : Sum} {L : LT} {c0 : Code}
theorem evalL_sound (hG : ∀ N w0, SumOk P N w0 G) (hL : LOk P N w0 L c0) (m : Nat) : ∀ n, (∀ c, (∀ x ∈ blocks c, x ∈ blocks c0) → CodeOk none P N w0 c (evalL P G L m n c)) ∧ ∀ c, (∀ x ∈ blocks c, x ∈ blocks c0) → RoundsOk none P N w0 n c (evalL P G L m n (.loop c))
  | 0 => ⟨fun c _ => code_fail c 50, fun c _ fr st a w Q K Qx h => (h r0).elim⟩
  | n + 1 => by
    obtain ⟨ih1, ih2⟩ := evalL_sound hG hL m n
    have hcall : ∀ N w0, CallOk P N w0 (callE P G (evalR P G m)) := fun N w0 => call_ok hG m N w0
    have hround : ∀ c, (∀ x ∈ blocks c, x ∈ blocks c0) → RoundsOk none P N w0 (n + 1) c (evalL P G L m (n + 1) (.loop c)) := fun c hs => rounds_seq (ih1 c hs) (ih2 c hs)
    refine ⟨fun c hs => ?_, hround⟩
    cases c with
    | skip => exact code_end _ .normal fun Q a w h => wpIn_skip h
    | region id ops d =>
      cases d with
      | false => exact region_seq (hcall N w0) (fun _ => rfl) id
      | true => exact region_draw hcall (fun _ => rfl) id
    | seq a b => exact code_seq (ih1 a fun x hx => hs x (List.mem_append_left _ hx)) (ih1 b fun x hx => hs x (List.mem_append_right _ hx))
    | cond c a b => exact code_cond (ih1 a fun x hx => hs x (List.mem_append_left _ hx)) (ih1 b fun x hx => hs x (List.mem_append_right _ hx))
    | block id a =>
      intro fr st act w Q K Qx h hf hr hn
      have h' : ∀ r, (blkS id (evalL P G L m n a) (L id) fr st r).good Q K := h
      cases hl : L id with
      | some e => rw [hl] at h'; exact hL id a e (hs _ (List.mem_cons_self ..)) hl fr st act w Q K Qx h' hf hr hn
      | none => rw [hl] at h'; exact code_block (ih1 a fun x hx => hs x (List.mem_cons_of_mem _ hx)) fr st act w Q K Qx h' hf hr hn
    | loop a =>
      intro fr st act w Q K Qx h hf hr hn
      exact wpIn_loop_rounds (n + 1) (hround a hs fr st act w Q K Qx h hf hr hn)
    | rangeFunc g ps a b => exact code_range (rd := none) (hcall N w0) g ps a b
    | exit id => exact code_end _ (.exit id) fun Q a w h => wpIn_exit h
    | scope _ => exact code_fail _ 53
    | label l => exact code_end _ .normal fun Q a w h => wpIn_label h
    | goto _ => exact code_fail _ 54
    | ret => exact code_end _ .ret fun Q a w h => wpIn_ret h
    | refuse _ => exact code_fail _ 55
noncomputable def evalFL (P : Program) (G : Sum) (L : LT) (m : Nat) (f : FuncId) (a1 a2 : List Value) (M : List Ent) (r : Sup) : Tree VR := callF P (evalL P G L m m) a1 a2 ⟨M, 1000000⟩ r P.funcs[f]?
/-- **a contract of a function with loops, read off the evaluator's answer** -/
theorem contractL (hG : ∀ N w0, SumOk P N w0 G) (m : Nat) {f : FuncId} {fn : Func} {c : Code} (hfn : P.funcs[f]? = some fn) (hb : fn.body = some c) {a1 a2 : List Value} {M : List Ent} {T : Tree Value} {Q : Value → Prop} {w : World} (hL : LOk P (· < w.heap.size) w L c) (hM : ExtOk w M)
    (hl : ∀ r, (evalFL P G L m f a1 a2 M r).lhs = (evalFL P G L m f a1 a2 M r).rhs) (hT : ∀ r, (evalFL P G L m f a1 a2 M r).val = T) (hg : T.good Q) :
    Calls P f a2.toArray w fun e w' => ∃ v, e = .returned v ∧ Q v ∧ Below w.heap.size w w' := by
  refine (callF_sound (N := (· < w.heap.size)) (w0 := w) (ec := evalL P G L m m) hfn hb ((evalL_sound hG hL m m).1 c fun x hx => hx) (a1 := a1) (st := ⟨M, 1000000⟩) (Q := fun x => Q x.2.1) (K := noK) (fun r => ?_) (rel_start hM _)).mono fun e w' h => ret_val h
  have h1 := val_good (Q := Q) _ (hl r) (by rw [hT r]; exact hg)
  exact h1
theorem contractL1 (hG : ∀ N w0, SumOk P N w0 G) (m : Nat) {f : FuncId} {fn : Func} {c : Code} (hfn : P.funcs[f]? = some fn) (hb : fn.body = some c) {a1 a2 : List Value} {M : List Ent} {T : Tree Value} {v : Value} {w : World} (hL : LOk P (· < w.heap.size) w L c) (hM : ExtOk w M)
    (hl : ∀ r, (evalFL P G L m f a1 a2 M r).lhs = (evalFL P G L m f a1 a2 M r).rhs) (hT : ∀ r, (evalFL P G L m f a1 a2 M r).val = T) (hg : T.good (· = v)) :
    Calls P f a2.toArray w fun e w' => e = .returned v ∧ Below w.heap.size w w' :=
  (contractL hG m hfn hb hL hM hl hT hg).mono fun e w' ⟨u, he, hu, hb⟩ => ⟨by rw [he, hu], hb⟩
end
end Ev
end Go.Proofs.Ytbpnmjjmllgehaa
