/- The evaluator with what is said of loops wherever they stand. No condition. -/
import Derived.Test.YtbpnmjjmllgehaaEvQ
namespace Go.Proofs.Ytbpnmjjmllgehaa
open Go Go.RowKit
namespace Ev
/-- what is said of the loops of functions -/
abbrev LTF := FuncId → LT
def noLF : LTF := fun _ => noL
def addLF (f : FuncId) (L : LT) (LF : LTF) : LTF := fun x => match Nat.beq x f with
  | true => L
  | false => LF x
noncomputable def callW (P : Program) (G : Sum) (LF : LTF) (ev : LT → Rd → Code → EC) : CallE := fun t a1 a2 st r => match t with
  | .fn f => callG P (ev (LF f) none) f a1 a2 st r (G f)
  | .rnd l1 l2 assign body => rdB P l1 l2 (ev noL (some (l1, l2)) assign) (ev noL (some (l1, l2)) body) a1 a2 st r (Nat.beq a1.length a2.length)
noncomputable def codeW (P : Program) (call : CallE) (ec : Code → EC) (L : LT) (rd : Rd) (c : Code) : EC :=
  Code.casesOn (motive := fun _ => EC) c (cEnd .normal) (fun _ ops d => cRegion P call (dkOf rd) ops d) (fun a b => cSeq (ec a) (ec b)) (fun c a b => cCond c (ec a) (ec b)) (fun id a => blkS id (ec a) (L id)) (fun a => cSeq (ec a) (ec (.loop a)))
    (fun g ps a b => rfIn P call g ps a b rd) (fun id => cEnd (.exit id)) (fun _ => cFail 53) (fun _ => cEnd .normal) (fun _ => cFail 54) (cEnd .ret) (fun _ => cFail 55)
noncomputable def evalW (P : Program) (G : Sum) (LF : LTF) (n : Nat) : LT → Rd → Code → EC :=
  Nat.rec (motive := fun _ => LT → Rd → Code → EC) (fun _ _ _ => cFail 50) (fun _ ev L rd c => codeW P (callW P G LF ev) (ev L rd) L rd c) n
def LFOk (P : Program) (LF : LTF) : Prop := ∀ N w0 f fn c, P.funcs[f]? = some fn → fn.body = some c → LOk P N w0 (LF f) c
theorem noLF_ok (P : Program) : LFOk P noLF := fun N w0 _ _ c _ _ => noL_ok P N w0 c
theorem addLF_ok {P : Program} {f : FuncId} {L : LT} {LF : LTF} (h : ∀ fn c, P.funcs[f]? = some fn → fn.body = some c → ∀ N w0, LOk P N w0 L c) (hL : LFOk P LF) : LFOk P (addLF f L LF) := by
  intro N w0 x fn c h1 h2
  unfold addLF
  cases hb : Nat.beq x f with
  | true => rw [Nat.eq_of_beq_eq_true hb] at h1; exact h fn c h1 h2 N w0
  | false => exact hL N w0 x fn c h1 h2
section
variable {P : Program} {N : Nat → Prop} {w0 w : World} {G : Sum} {LF : LTF}
theorem callW_sound (hG : SumOk P N w0 G) {ev : LT → Rd → Code → EC} (h1 : ∀ f fn c, P.funcs[f]? = some fn → fn.body = some c → CodeOk none P N w0 c (ev (LF f) none c)) (h2 : ∀ l c, CodeOk (some l.2) P N w0 c (ev noL (some l) c)) : CallOk P N w0 (callW P G LF ev) := by
  intro t a1 a2 st Q K w h hr
  cases t with
  | fn f =>
    have h' : ∀ r, (callG P (ev (LF f) none) f a1 a2 st r (G f)).good Q K := h
    show Calls P f a2.toArray w _
    cases hg : G f with
    | some s =>
      rw [hg] at h'
      exact hG f s hg a1 a2 st Q K w h' hr
    | none =>
      rw [hg] at h'
      have h2 : ∀ r, (callF P (ev (LF f) none) a1 a2 st r P.funcs[f]?).good Q K := h'
      cases hfn : P.funcs[f]? with
      | none => simp only [hfn, callF] at h2; exact (h2 r0).elim
      | some fn =>
        cases hb : fn.body with
        | none => simp only [hfn, callF, hb, callB] at h2; exact (h2 r0).elim
        | some c => exact callF_sound hfn hb (h1 f fn c hfn hb) h2 hr
  | rnd l1 l assign body =>
    intro f
    exact round_sound (h2 (l1, l) assign) (h2 (l1, l) body) (fun h => Nat.eq_of_beq_eq_true h) h hr f
theorem evalW_sound (hG : ∀ N w0, SumOk P N w0 G) (hL : LFOk P LF) : ∀ n, ∀ N w0 (L : LT) (rd : Rd) (c0 : Code), (rd = none ∧ LOk P N w0 L c0 ∨ L = noL) →
    (∀ c, (∀ x ∈ blocks c, x ∈ blocks c0) → CodeOk (rd.map Prod.snd) P N w0 c (evalW P G LF n L rd c)) ∧ ∀ c, (∀ x ∈ blocks c, x ∈ blocks c0) → RoundsOk (rd.map Prod.snd) P N w0 n c (evalW P G LF n L rd (.loop c))
  | 0, N, w0, L, rd, c0, _ => ⟨fun c _ => code_fail c 50, fun c _ fr st a w Q K Qx h => (h r0).elim⟩
  | n + 1, N, w0, L, rd, c0, hrd => by
    obtain ⟨ih1, ih2⟩ := evalW_sound hG hL n N w0 L rd c0 hrd
    have hcall : ∀ N w0, CallOk P N w0 (callW P G LF (evalW P G LF n)) := fun N w0 => callW_sound (hG N w0)
      (fun f fn c h1 h2 => (evalW_sound hG hL n N w0 (LF f) none c (.inl ⟨rfl, hL N w0 f fn c h1 h2⟩)).1 c fun x hx => hx)
      (fun l c => (evalW_sound hG hL n N w0 noL (some l) c (.inr rfl)).1 c fun x hx => hx)
    have hround : ∀ c, (∀ x ∈ blocks c, x ∈ blocks c0) → RoundsOk (rd.map Prod.snd) P N w0 (n + 1) c (evalW P G LF (n + 1) L rd (.loop c)) := fun c hs => rounds_seq (ih1 c hs) (ih2 c hs)
    refine ⟨fun c hs => ?_, hround⟩
    cases c with
    | skip => exact code_end _ .normal fun Q a w h => wpIn_skip h
    | region id ops d =>
      cases d with
      | false => exact region_seq (hcall N w0) (dkOf_ok rd) id
      | true => exact region_draw hcall (dkOf_ok rd) id
    | seq a b => exact code_seq (ih1 a fun x hx => hs x (List.mem_append_left _ hx)) (ih1 b fun x hx => hs x (List.mem_append_right _ hx))
    | cond c a b => exact code_cond (ih1 a fun x hx => hs x (List.mem_append_left _ hx)) (ih1 b fun x hx => hs x (List.mem_append_right _ hx))
    | block id a =>
      intro fr st act w Q K Qx h hf hr hn
      have h' : ∀ r, (blkS id (evalW P G LF n L rd a) (L id) fr st r).good Q K := h
      cases hl : L id with
      | some e =>
        rcases hrd with ⟨rfl, hLk⟩ | rfl
        · rw [hl] at h'; exact hLk id a e (hs _ (List.mem_cons_self ..)) hl fr st act w Q K Qx h' hf hr hn
        · cases hl
      | none => rw [hl] at h'; exact code_block (ih1 a fun x hx => hs x (List.mem_cons_of_mem _ hx)) fr st act w Q K Qx h' hf hr hn
    | loop a =>
      intro fr st act w Q K Qx h hf hr hn
      exact wpIn_loop_rounds (n + 1) (hround a hs fr st act w Q K Qx h hf hr hn)
    | rangeFunc g ps a b => exact code_range (hcall N w0) g ps a b
    | exit id => exact code_end _ (.exit id) fun Q a w h => wpIn_exit h
    | scope _ => exact code_fail _ 53
    | label l => exact code_end _ .normal fun Q a w h => wpIn_label h
    | goto _ => exact code_fail _ 54
    | ret => exact code_end _ .ret fun Q a w h => wpIn_ret h
    | refuse _ => exact code_fail _ 55
theorem callW_ok (hG : ∀ N w0, SumOk P N w0 G) (hL : LFOk P LF) (n : Nat) (N : Nat → Prop) (w0 : World) : CallOk P N w0 (callW P G LF (evalW P G LF n)) := callW_sound (hG N w0)
  (fun f fn c h1 h2 => (evalW_sound hG hL n N w0 (LF f) none c (.inl ⟨rfl, hL N w0 f fn c h1 h2⟩)).1 c fun _ hx => hx)
  (fun l c => (evalW_sound hG hL n N w0 noL (some l) c (.inr rfl)).1 c fun _ hx => hx)
noncomputable def evalFW (P : Program) (G : Sum) (LF : LTF) (n : Nat) (f : FuncId) (a1 a2 : List Value) (M : List Ent) (r : Sup) : Tree VR := callW P noS LF (fun L rd c => evalW P G LF n L rd c) (.fn f) a1 a2 ⟨M, 1000000⟩ r
theorem evalFW_ok (hG : ∀ N w0, SumOk P N w0 G) (hL : LFOk P LF) (n : Nat) {f : FuncId} {a1 a2 : List Value} {M : List Ent} {Q : VQ} {K : PK} {w : World} (hM : ExtOk w M) (h : ∀ r, (evalFW P G LF n f a1 a2 M r).good Q K) : Calls P f a2.toArray w (RetOk (· < w.heap.size) w Q K) :=
  callW_sound (noS_ok _ _)
    (fun f fn c h1 h2 => (evalW_sound hG hL n _ _ (LF f) none c (.inl ⟨rfl, hL _ _ f fn c h1 h2⟩)).1 c fun _ hx => hx)
    (fun l c => (evalW_sound hG hL n _ _ noL (some l) c (.inr rfl)).1 c fun _ hx => hx) (.fn f) a1 a2 ⟨M, 1000000⟩ Q K w h (rel_start hM _)
/-- **a contract, read off the evaluator's answer** -/
theorem contractW (hG : ∀ N w0, SumOk P N w0 G) (hL : LFOk P LF) (n : Nat) {f : FuncId} {a1 a2 : List Value} {M : List Ent} {T : Tree Value} {v : Value} {w : World} (hM : ExtOk w M)
    (hl : ∀ r, (evalFW P G LF n f a1 a2 M r).lhs = (evalFW P G LF n f a1 a2 M r).rhs) (hT : ∀ r, (evalFW P G LF n f a1 a2 M r).val = T) (hg : T.good (· = v)) :
    Calls P f a2.toArray w fun e w' => e = .returned v ∧ Below w.heap.size w w' := by
  refine (evalFW_ok hG hL n (a1 := a1) (Q := fun x => x.2.1 = v) (K := noK) hM (fun r => ?_)).mono fun e w' h => ?_
  · exact val_good (Q := (· = v)) _ (hl r) (by rw [hT r]; exact hg)
  · obtain ⟨u, he, hu, hb⟩ := ret_val (Q := (· = v)) h
    exact ⟨by rw [he, hu], hb⟩
end
end Ev
end Go.Proofs.Ytbpnmjjmllgehaa
