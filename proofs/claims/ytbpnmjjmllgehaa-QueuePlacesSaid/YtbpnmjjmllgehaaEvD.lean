/- The evaluator answers what the program does: deferred calls, recover, ranges over functions, calls. No condition. -/
import Derived.Test.YtbpnmjjmllgehaaEvC
import Derived.RangeFuncRecord
import Derived.RecoverIn
namespace Go.Proofs.Ytbpnmjjmllgehaa
open Go Go.RowKit
namespace Ev
section
variable {P : Program} {N : Nat → Prop} {w0 w : World} {call : CallE} {fr : Fr} {st : St} {a : Act} {K : PK} {rd : Option Nat} {o : Oper} {ops : Array Oper}
def modeOf : PM → FrameMode
  | none => .returning
  | some (_, v, b) => .panicking [{ v, recovered := b }]
/-- a piece of a deferred function's code -/
def DOk (P : Program) (N : Nat → Prop) (w0 : World) (c : Code) (e : ED) : Prop :=
  ∀ (fr : Fr) (m : PM) (st : St) (a : Act) (w : World) (Q : DR → Prop) (K : PK) (Qx : Exit → Act → List Frame → World → Prop) (c0 : Frame) (cs : List Frame), (∀ r, (e fr m st r).good Q K) → FrOk fr a → Rel N w0 st w →
    (∀ ex fr m st a w, (∀ r, Q (ex, fr, m, st, r)) → FrOk fr a → Rel N w0 st w → Qx ex.to a ({ c0 with mode := modeOf m } :: cs) w) → c.wpSIn Fence.wide 0 P Qx a ({ c0 with mode := modeOf m } :: cs) w
theorem dOps_sound {Q : DR → Prop} {Qx : Exit → Act → List Frame → World → Prop} {c0 : Frame} {cs : List Frame} (hn : ∀ ex fr m st a w, (∀ r, Q (ex, fr, m, st, r)) → FrOk fr a → Rel N w0 st w → Qx ex.to a ({ c0 with mode := modeOf m } :: cs) w) :
    ∀ (l : List Oper) (k : Nat) (fr : Fr) (m : PM) (st : St) (a : Act) (w : World), (∀ j, l[j]? = ops[k + j]?) → (∀ r, (dOps P ops l fr m st r).good Q K) → FrOk fr a → Rel N w0 st w →
      wpOpsSIn Fence.wide 0 P ops Qx (List.range' k l.length) a ({ c0 with mode := modeOf m } :: cs) w
  | [], k, fr, m, st, a, w, _, h, hf, hr => hn .normal fr m st a w h hf hr
  | o :: l, k, fr, m, st, a, w, hl, h, hf, hr => by
    have h0 : ops[k]? = some o := by simpa using (hl 0).symm
    have hl' : ∀ j, l[j]? = ops[k + 1 + j]? := fun j => by have := hl (j + 1); simpa [Nat.add_assoc, Nat.add_comm 1 j] using this
    have put : ∀ (m : PM) (v1 v2 : Value) (st' : St) (w' : World), (∀ r, (dPut (dOps P ops l) fr m v1 v2 st' r o.dst).good Q K) → Rel N w0 st' w' → wpOpsSIn Fence.wide 0 P ops Qx (List.range' (k + 1) l.length) (a.put o.dst v2) ({ c0 with mode := modeOf m } :: cs) w' := by
      intro m v1 v2 st' w' hq hr'
      cases hd : o.dst with
      | none => simp only [dPut, hd] at hq; exact dOps_sound hn l (k + 1) fr m st' a w' hl' hq hf hr'
      | some d =>
        simp only [dPut, hd] at hq
        cases hb : Nat.ble (d + 1) fr.n with
        | false => simp only [hb, dPutB] at hq; exact (hq r0).elim
        | true => simp only [hb, dPutB] at hq; exact dOps_sound hn l (k + 1) _ m st' _ w' hl' hq (hf.put (Nat.le_of_ble_eq_true hb) v1 v2) hr'
    have h' : ∀ r, ((gsplit ops o fr).bind (dOpB P o (dOps P ops l) fr m st r)).good Q K := h
    obtain ⟨x, hq, hx⟩ := gsplit_good hf (good_all fun r => (good_bind _ _).1 (h' r))
    rw [List.length_cons, List.range'_succ]
    unfold wpOpsSIn
    simp only [h0]
    refine ⟨fun _ _ => trivial, ?_⟩
    cases x with
    | some d => cases hw : Region.wanted o (yielded ops a.tmps) <;> (rw [hw] at hq; exact (hq r0).elim)
    | none =>
      cases hw : Region.wanted o (yielded ops a.tmps) with
      | false =>
        rw [hw] at hq
        rw [if_neg (by simp)]
        exact put m undef undef st w hq hr
      | true =>
        rw [hw] at hq
        rw [if_pos rfl]
        obtain ⟨x1, x, st', w', hrun, hrel, hq2⟩ := runS_soundR _ _ _ _ _ (fun r => (good_bind _ _).1 (hq r)) hr
        rw [← hf.eval] at hrun
        simp only [dOpK] at hq2
        rw [hrun]
        unfold dOpK2 at hq2
        split at hq2
        · exact put m _ _ st' w' hq2 hrel
        · exact put m undef undef st' w' hq2 hrel
        · unfold dRec at hq2
          split at hq2
          · rename_i v1 v2
            exact put (some (v1, v2, true)) v1 v2 st' w' hq2 hrel
          · rename_i m' hne
            have : recoverD ({ c0 with mode := modeOf m } :: cs) = none := by
              cases m with
              | none => rfl
              | some x =>
                obtain ⟨v1, v2, b⟩ := x
                cases b with
                | false => exact absurd rfl (hne v1 v2)
                | true => rfl
            simp only [this]
            exact put m _ _ st' w' hq2 hrel
        · exact (hq2 r0).elim
theorem dEnd_ok (c : Code) (x : Ex) (hw : ∀ (Q : Exit → Act → World → Prop) a w, Q x.to a w → c.wpIn Fence.wide 0 P Q a w) : DOk P N w0 c (dEnd x) := by
  intro fr m st a w Q K Qx c0 cs h hf hr hn
  exact wpSIn_of_wpIn rfl (hw _ _ _ (hn x fr m st a w h hf hr))
theorem dFail_ok (c : Code) (n : Nat) : DOk P N w0 c (dFail n) := by
  intro fr m st a w Q K Qx c0 cs h hf hr hn
  exact (h r0).elim
theorem codeD_sound (c : Code) : DOk P N w0 c (codeD P c) := by
  induction c with
  | skip => exact dEnd_ok _ .normal fun Q a w h => wpIn_skip h
  | region id ops d =>
    cases d with
    | true => exact dFail_ok _ 37
    | false =>
      intro fr m st a w Q K Qx c0 cs h hf hr hn
      refine wpSIn_region ?_
      rw [List.range_eq_range', ← Array.length_toList]
      exact dOps_sound hn ops.toList 0 fr m st a w (by simp) h hf hr
  | seq x y hx hy =>
    intro fr m st a w Q K Qx c0 cs h hf hr hn
    refine wpSIn_seq ?_
    refine hx fr m st a w _ K _ c0 cs (fun r => (good_bind _ _).1 (h r)) hf hr ?_
    intro e fr m st a w hq hf hr
    cases e with
    | normal => exact hy fr m st a w Q K Qx c0 cs hq hf hr hn
    | exit id => exact hn (.exit id) fr m st a w hq hf hr
    | ret => exact hn .ret fr m st a w hq hf hr
    | pan v1 v2 => exact hn (.pan v1 v2) fr m st a w hq hf hr
  | cond c x y hx hy =>
    intro fr m st a w Q K Qx c0 cs h hf hr hn
    have hv : a.eval c = (evP fr c).2 := by rw [hf.eval]; rfl
    have h' : ∀ r, (dCondK (codeD P x) (codeD P y) fr m st r (evP fr c)).good Q K := h
    generalize evP fr c = p at h' hv
    unfold dCondK at h'
    split at h'
    · exact wpSIn_cond hv (hx fr m st a w Q K Qx c0 cs h' hf hr hn)
    · exact wpSIn_cond hv (hy fr m st a w Q K Qx c0 cs h' hf hr hn)
    · exact (h' r0).elim
  | ret => exact dEnd_ok _ .ret fun Q a w h => wpIn_ret h
  | label l => exact dEnd_ok _ .normal fun Q a w h => wpIn_label h
  | block id c _ => exact dFail_ok _ 38
  | loop c _ => exact dFail_ok _ 38
  | rangeFunc _ _ _ _ _ _ => exact dFail_ok _ 38
  | exit id => exact dFail_ok _ 38
  | scope _ _ => exact dFail_ok _ 38
  | goto _ => exact dFail_ok _ 38
  | refuse _ => exact dFail_ok _ 38
theorem settle_of (m : PM) : settle (modeOf m) = modeOf (settleM m) := by
  cases m with
  | none => rfl
  | some x =>
    obtain ⟨v1, v2, b⟩ := x
    cases b <;> rfl
theorem modeOf_run (m : PM) : modeOf m ≠ .run := by
  cases m with
  | none => intro h; cases h
  | some x => intro h; cases h
theorem dRet_good {f : Func} {fr : Fr} {m : PM} {st : St} {r : Sup} {Q : LR → Prop} (h : (dRetR fr m st r f.results.toList fr.df).good Q K) : f.results = #[] ∧ fr.df = [] ∧ Q (m, st, r) := by
  unfold dRetR at h
  split at h
  · rename_i h1 h2
    exact ⟨by rw [← Array.toList_inj]; exact h1, h2, h⟩
  · exact h.elim
theorem dCall_sound {f : FuncId} {a1 a2 : List Value} {m : PM} {Q : LR → Prop} {R : Ending → FrameMode → World → Prop} (h : ∀ r, (dCallF P a1 a2 m st r P.funcs[f]?).good Q K) (hr : Rel N w0 st w)
    (_hR : ∀ m' st' w', (∀ r, Q (m', st', r)) → Rel N w0 st' w' → ∃ v, R (.returned v) (modeOf m') w' ∨ R (.returned (.tuple #[])) (modeOf m') w') (hR' : ∀ m' st' w', (∀ r, Q (m', st', r)) → Rel N w0 st' w' → ∀ v, R (.returned v) (modeOf m') w') : CallsDIn Fence.wide 0 P f a2.toArray (modeOf m) w R := by
  cases hfn : P.funcs[f]? with
  | none => simp only [hfn, dCallF] at h; exact (h r0).elim
  | some fn =>
    simp only [hfn, dCallF] at h
    cases hb : fn.body with
    | none => simp only [hb, dCallB] at h; exact (h r0).elim
    | some c =>
      simp only [hb, dCallB] at h
      cases hl : (Nat.ble a2.length fn.ntmps && Nat.beq a1.length a2.length) with
      | false => simp only [hl, dCallL] at h; exact (h r0).elim
      | true =>
        simp only [hl, dCallL] at h
        simp only [Bool.and_eq_true] at hl
        have h1 : a1.length = a2.length := Nat.eq_of_beq_eq_true hl.2
        have h2 : a2.length ≤ fn.ntmps := Nat.le_of_ble_eq_true hl.1
        refine callsDIn_of_wpSIn hfn hb trivial fun c0 cs hm => ?_
        have hc0 : c0 = { c0 with mode := modeOf m } := by rw [← hm]
        rw [hc0]
        refine codeD_sound c _ m st _ w _ K _ c0 cs (fun r => (good_bind _ _).1 (h r)) (frOk_args h1 h2) hr ?_
        intro ex fr m' st' a w' hq hf hr'
        have fin : (∀ r, (dRetR fr m' st' r fn.results.toList fr.df).good Q K) → a.defers = [] ∧ ∃ u', ({ c0 with mode := modeOf m' } :: cs : List Frame) = { { c0 with mode := modeOf m } with mode := u' } :: cs ∧ ∃ v, (results fn a.tmps).run P w' = .ok v w' ∧ R (.returned v) u' w' := by
          intro hq
          obtain ⟨e1, e2, _⟩ := dRet_good (hq r0)
          refine ⟨by rw [hf.defers, e2]; rfl, modeOf m', rfl, .tuple #[], ?_, hR' m' st' w' (fun r => (dRet_good (hq r)).2.2) hr' _⟩
          rw [run_results, e1]
          simp [mkRes]
        cases ex with
        | normal => exact fin hq
        | ret => exact fin hq
        | exit id => exact (hq r0).elim
        | pan v1 v2 => exact (hq r0).elim
theorem leave_sound {fn : Func} {Q : VQ} (hf : FrOk fr a) : ∀ (l : List (Deferred × Deferred)) (m : PM) (st : St) (w : World), (∀ r, (leaveF P fn fr l m st r).good Q K) → Rel N w0 st w → LeavesInM Fence.wide 0 P fn a.tmps (RetOk N w0 Q K) (l.map Prod.snd) (modeOf m) w
  | [], m, st, w, h, hr => by
    have h' : ∀ r, (lvEnd P fn fr m st r).good Q K := h
    show LeavesIn Fence.wide 0 P fn a.tmps (RetOk N w0 Q K) [] (modeOf m) w
    unfold lvEnd at h'
    split at h'
    · have h2 : ∀ r, ((rsAll P fr fn.results.toList st r).bind resK).good Q K := h'
      obtain ⟨l1, l2, hrun, hq2⟩ := rsAll_sound (P := P) hf hr fn.results.toList _ (fun r => (good_bind _ _).1 (h2 r))
      refine ⟨mkRes l2, ?_, .inl ⟨mkRes l1, mkRes l2, st, rfl, hq2, hr⟩⟩
      rw [run_results, hrun]
      rfl
    · rename_i v1 v2
      exact .inr ⟨v1, v2, st, rfl, h', hr⟩
    · exact (h' r0).elim
  | d :: l, m, st, w, h, hr => by
    have h' : ∀ r, (lvD P (leaveF P fn fr l) m st r d).good Q K := h
    refine ⟨modeOf_run m, ?_⟩
    unfold lvD at h'
    split at h'
    · rename_i t _ b _
      obtain ⟨x1, x, st', w', hrun, hrel, hq⟩ := runS_soundR _ _ _ _ _ (fun r => (good_bind _ _).1 (h' r)) hr
      cases x with
      | cons _ _ => exact (hq r0).elim
      | nil => exact .inl ⟨b, w', rfl, hrun, leave_sound hf l m st' w' hq hrel⟩
    · rename_i f1 c1 a1 f c2 a2
      cases hp : plainF P f with
      | false => simp only [hp, lvF] at h'; exact (h' r0).elim
      | true =>
        simp only [hp, lvF] at h'
        obtain ⟨g, h1, h2, h3⟩ := plainF_spec hp
        have h2' : ¬ g.name = "runtime.NumGoroutine" := by simpa using h2
        have h3' : ¬ g.body = none := by
          intro hb; rw [hb] at h3; cases h3
        have hinv : (invoke (.fn (.func f) c2) a2).run P w = .ok (.enter f (a2 ++ c2)) w := by simp [invoke, callFunc, program, Sem.run, h1, h2', h3']
        refine .inr ⟨fun h => (by cases h), .func f, c2, f, a2 ++ c2, rfl, hinv, fun _ _ => trivial, ?_⟩
        have := dCall_sound (N := N) (w0 := w0) (w := w) (R := fun
          | .returned _, u', w' => LeavesInM Fence.wide 0 P fn a.tmps (RetOk N w0 Q K) (l.map Prod.snd) (settle u') w'
          | .panicked chain, u', w' => LeavesInM Fence.wide 0 P fn a.tmps (RetOk N w0 Q K) (l.map Prod.snd) (raised u' chain) w'
          | .outgrown, _, w' => RetOk N w0 Q K .outgrown w') (fun r => (good_bind _ _).1 (h' r)) hr ?_ ?_
        · have e : (a2.toList ++ c2.toList).toArray = a2 ++ c2 := by rw [← Array.toList_inj]; simp
          rw [e] at this
          exact this
        · intro m' st' w' hq hr'
          refine ⟨.tuple #[], .inl ?_⟩
          show LeavesInM _ _ _ _ _ _ _ (settle (modeOf m')) w'
          rw [settle_of]
          exact leave_sound hf l (settleM m') st' w' hq hr'
        · intro m' st' w' hq hr' v
          show LeavesInM _ _ _ _ _ _ _ (settle (modeOf m')) w'
          rw [settle_of]
          exact leave_sound hf l (settleM m') st' w' hq hr'
    · exact (h' r0).elim
theorem callF_sound {ec : Code → EC} {f : FuncId} {fn : Func} {c : Code} (hfn : P.funcs[f]? = some fn) (hb : fn.body = some c) (hec : CodeOk none P N w0 c (ec c)) {a1 a2 : List Value} {Q : VQ}
    (h : ∀ r, (callF P ec a1 a2 st r P.funcs[f]?).good Q K) (hr : Rel N w0 st w) : Calls P f a2.toArray w (RetOk N w0 Q K) := by
  simp only [hfn, callF, hb, callB] at h
  cases hl : (Nat.ble a2.length fn.ntmps && Nat.beq a1.length a2.length) with
  | false => simp only [hl, callL] at h; exact (h r0).elim
  | true =>
    simp only [hl, callL] at h
    simp only [Bool.and_eq_true] at hl
    have h1 : a1.length = a2.length := Nat.eq_of_beq_eq_true hl.2
    have h2 : a2.length ≤ fn.ntmps := Nat.le_of_ble_eq_true hl.1
    refine (callsIn_wide (n := 0)).1 (callsIn_of_wp_marks hfn hb trivial ?_)
    refine hec _ st _ w _ K _ (fun r => (good_bind _ _).1 (h r)) (frOk_args h1 h2) hr ?_
    intro ex fr st' a w' hq hf hr'
    cases ex with
    | normal =>
      show LeavesInM Fence.wide 0 P fn a.tmps _ a.defers (modeOf none) w'
      rw [hf.defers]; exact leave_sound hf fr.df none st' w' hq hr'
    | ret =>
      show LeavesInM Fence.wide 0 P fn a.tmps _ a.defers (modeOf none) w'
      rw [hf.defers]; exact leave_sound hf fr.df none st' w' hq hr'
    | exit id => exact (hq r0).elim
    | pan v1 v2 =>
      show LeavesInM Fence.wide 0 P fn a.tmps _ a.defers (modeOf (some (v1, v2, false))) w'
      rw [hf.defers]; exact leave_sound hf fr.df (some (v1, v2, false)) st' w' hq hr'
theorem round_sound {l1 l : Nat} {assign body : Code} {ea eb : EC} (ha : CodeOk (some l) P N w0 assign ea) (hb : CodeOk (some l) P N w0 body eb) {a1 a2 : List Value} {Q : VQ} {b : Bool} (hab : b = true → a1.length = a2.length)
    (h : ∀ r, (rdB P l1 l ea eb a1 a2 st r b).good Q K) (hr : Rel N w0 st w) (f : FuncId) : RoundIn Fence.wide 0 P l f a2.toArray assign body w (RetOk N w0 Q K) := by
  cases b with
  | false => exact (h r0).elim
  | true =>
    simp only [rdB] at h
    have h0 : ∀ r, ((ea ⟨a2.length, args0 0 a1 a2, []⟩ st r).bind (rdBeg P l1 l eb)).good (fun x => (rdOut P l1 l x).good Q K) K := fun r => (good_bind _ _).1 (h r)
    refine roundIn_of_wpIn trivial ?_
    have hf0 := frOk_args (hab rfl) (Nat.le_refl a2.length)
    simp only [List.size_toArray, Nat.sub_self, Array.replicate_zero, Array.append_empty] at hf0
    refine ha _ st _ w _ K _ (fun r => (good_bind _ _).1 (h0 r)) hf0 hr ?_
    intro ex fr st' a w' hq hf hr'
    cases ex with
    | normal =>
      have hq' : ∀ r, ((runS P (Instr.beginRound l) (some (Instr.beginRound l1)) st' r).bind (rdBegK eb fr)).good (fun x => (rdOut P l1 l x).good Q K) K := hq
      obtain ⟨x1, x, st2, w2, hrun, hrel, hq2⟩ := runS_soundR _ _ _ _ _ (fun r => (good_bind _ _).1 (hq' r)) hr'
      refine ⟨w2, hrun, ?_⟩
      refine hb fr st2 a w2 _ K _ hq2 hf hrel ?_
      intro ex fr3 st3 a3 w3 hq3 hf3 hr3
      have fin : ∀ j : Option Code, (∀ r, (rdEnd P l1 l j st3 r).good Q K) → ∃ v w', (Instr.endRound l j).run P w3 = .ok v w' ∧ RetOk N w0 Q K (.returned v) w' := by
        intro j hj
        obtain ⟨y1, y, st4, w4, hrun4, hrel4, hq4⟩ := runS_soundR _ _ _ _ _ (fun r => (good_bind _ _).1 (hj r)) hr3
        refine ⟨y, w4, hrun4, .inl ?_⟩
        cases y1 with
        | none => exact ⟨_, y, st4, rfl, hq4, hrel4⟩
        | some z => exact ⟨_, y, st4, rfl, hq4, hrel4⟩
      cases ex with
      | normal => exact fin none hq3
      | ret => exact fin (some .ret) hq3
      | exit id => exact fin (some (.exit id)) hq3
      | pan v1 v2 => exact (hq3 r0).elim
    | exit id => exact (hq r0).elim
    | ret => exact (hq r0).elim
    | pan v1 v2 => exact (hq r0).elim
theorem tmpsF_get (fr : Fr) (h : Bool) : ∀ (n t i : Nat), (tmpsF fr h n t)[i]? = if i < n then some (match h with | true => (lookL fr.l (t + i)).1 | false => (lookL fr.l (t + i)).2) else none
  | 0, t, i => by rw [if_neg (by omega)]; rfl
  | n + 1, t, 0 => by rw [if_pos (by omega)]; rfl
  | n + 1, t, i + 1 => by
    show (tmpsF fr h n (t + 1))[i]? = _
    rw [tmpsF_get fr h n (t + 1) i, show t + 1 + i = t + (i + 1) by omega]
    by_cases hi : i < n
    · rw [if_pos hi, if_pos (by omega)]
    · rw [if_neg hi, if_neg (by omega)]
theorem tmpsF_eq (hf : FrOk fr a) : (tmpsF fr false fr.n 0).toArray = a.tmps := by
  refine Array.ext_getElem? fun i => ?_
  have hl : (tmpsF fr false fr.n 0).toArray[i]? = (tmpsF fr false fr.n 0)[i]? := by simp
  rw [hl, tmpsF_get]
  by_cases hi : i < fr.n
  · rw [if_pos hi]
    have := hf.get i
    rw [Array.getD_eq_getD_getElem?, Array.getElem?_eq_getElem (by rw [hf.size]; exact hi), Option.getD_some] at this
    rw [Array.getElem?_eq_getElem (by rw [hf.size]; exact hi), this, Nat.zero_add]
  · rw [if_neg hi, Array.getElem?_eq_none (by rw [hf.size]; omega)]
theorem rfSem_run {v : Value} {l : Nat} {n : Next} {w' : World} (h : (rfSem v l).run P w = .ok n w') : ∃ d w1, (Deferred.ofValue v #[.func (.yield l) #[] #[]]).run P w = .ok d w1 ∧ (invoke d.target d.args).run P w1 = .ok n w' := by
  unfold rfSem at h
  rw [Sem.run_bind] at h
  cases hd : (Deferred.ofValue v #[.func (.yield l) #[] #[]]).run P w with
  | ok d w1 => rw [hd, Result.andThen_ok] at h; exact ⟨d, w1, rfl, h⟩
  | halt x w1 => rw [hd] at h; cases h
/-- the loop, once its record is laid -/
theorem rfGo_sound {l1 l : Nat} {g : Operand} {Q : CQ} {Qx : Exit → Act → World → Prop} {fn : FuncId} {tmps : Array Value} {ps : Array Tmp} {assign body : Code} {mark : List Deferred} {w1 : World} {a' : Act} (hc : CallOk P N w0 call) (hf' : FrOk fr a')
    (ha : a' = { a with defers := mark ++ a.defers }) (he : (Instr.enterLoop fn tmps ps assign body rd).run P w = .ok (l, mark) w1) (ht : tmps = a.tmps) {fr0 : Fr} (hf0 : FrOk fr0 a)
    (h : ∀ r, (rfGo P call l1 l fr st r (evP fr0 g)).good Q K) (hr : Rel N w0 st w1) (hn : ∀ ex fr st a w, (∀ r, Q (ex, fr, st, r)) → FrOk fr a → Rel N w0 st w → Qx ex.to a w) :
    ∃ (l : Nat) (mark : List Deferred) (w₁ : World) (d : Deferred) (w₁' : World) (f : FuncId) (args : Array Value) (w₂ : World),
      (Instr.enterLoop fn a.tmps ps assign body (FW rd).round).run P w = .ok (l, mark) w₁ ∧
      (resolve a.eval (rangeCall g l) 0).run P w₁ = .ok d w₁' ∧
      (∀ f', Target.leads P w₁' d.target d.args = some f' → (FW rd).fn f') ∧
      (invoke d.target d.args).run P w₁' = .ok (.enter f args) w₂ ∧
      ((FW rd).depth.isSome = true → 1 ≤ 0) ∧
      CallsIn (FW rd) (0 - 1) P f args w₂ (rangePost (FW rd) 0 P l Qx { a with defers := mark ++ a.defers }) := by
  have hv : a.eval g = (evP fr0 g).2 := by rw [hf0.eval]; rfl
  generalize evP fr0 g = p at h hv
  obtain ⟨p1, p2⟩ := p
  have h' : ∀ r, ((runS P (rfSem p2 l) (some (rfSem p1 l1)) st r).bind (rfCall P call l1 l fr)).good Q K := h
  obtain ⟨x1, x, st', w', hrun, hrel, hq⟩ := runS_soundR _ _ _ _ _ (fun r => (good_bind _ _).1 (h' r)) hr
  obtain ⟨d, w2, hd, hi⟩ := rfSem_run hrun
  cases x with
  | enter f args =>
    refine ⟨l, mark, w1, d, w2, f, args, w', by rw [← ht]; exact he, ?_, fun _ _ => trivial, hi, fun h => (by cases h), ?_⟩
    · have : resolve a.eval (rangeCall g l) 0 = Deferred.ofValue (a.eval g) #[.func (.yield l) #[] #[]] := by simp [resolve, Act.eval]
      rw [this, hv]
      exact hd
    · have hq' : ∀ r, (call (.fn f) (litA args x1) args.toList st' r).good (fun x => (rfEnd P l1 l fr x).good Q K) (fun v1 v2 st r => Q (.pan v1 v2, fr, st, r)) := fun r => (good_catch _ _ _).1 (hq r)
      have hcall := hc (.fn f) _ args.toList st' _ _ w' hq' hrel
      simp only [RunsT, Array.toArray_toList] at hcall
      refine (callsIn_wide (n := 0)).2 (hcall.mono fun e w3 hret => ?_)
      rcases hret with ⟨v1, v2, st3, rfl, hq3, hr3⟩ | ⟨v1, v2, st3, rfl, hq3, hr3⟩
      · have hq4 : ∀ r, ((runS P (Instr.endLoop l) (some (Instr.endLoop l1)) st3 r).bind (rfEndK fr)).good Q K := hq3
        obtain ⟨y1, y, st4, w4, hrun4, hrel4, hq5⟩ := runS_soundR _ _ _ _ _ (fun r => (good_bind _ _).1 (hq4 r)) hr3
        refine ⟨y, w4, hrun4, ?_⟩
        rw [← ha]
        have hq6 : ∀ r, (rfJump fr st4 r y).good Q K := hq5
        unfold rfJump at hq6
        split at hq6
        · exact hn .normal fr st4 a' w4 hq6 hf' hrel4
        · exact wpIn_ret (hn .ret fr st4 a' w4 hq6 hf' hrel4)
        · rename_i id
          exact wpIn_exit (hn (.exit id) fr st4 a' w4 hq6 hf' hrel4)
        · exact (hq6 r0).elim
      · show Qx (.panic _) { a with defers := mark ++ a.defers } w3
        rw [← ha]
        exact hn (.pan v1 v2) fr st3 a' w3 hq3 hf' hr3
  | _ => exact (hq r0).elim
theorem run_enterLoop_inner {l0 : Nat} {x : Loop} {w' : World} (fn : FuncId) (tmps : Array Value) (ps : Array Tmp) (assign body : Code) (h : (Instr.getLoop l0).run P w = .ok x w') :
    (Instr.enterLoop fn tmps ps assign body (some l0)).run P w = .ok (w'.heap.size, []) (w'.alloc (.loop { state := .ready, pending := none, fn, tmps, params := ps, assign, body, defers := x.defers })) := by
  unfold Instr.enterLoop
  simp only [Sem.run_bind, h, Result.andThen, Sem.run_pure, run_newObj_alloc]
theorem code_range {rd : Rd} (hc : CallOk P N w0 call) (g : Operand) (ps : Array Tmp) (assign body : Code) : CodeOk (rd.map Prod.snd) P N w0 (.rangeFunc g ps assign body) (rfIn P call g ps assign body rd) := by
  intro fr st a w Q K Qx h hf hr hn
  refine wpIn_rangeFunc fun fn _ => ?_
  cases rd with
  | none =>
    have h2 := fun r => h (Sup.cons w.heap.size (Sup.cons fn (Sup.cons (w.heap.size + 1) r)))
    have hr1 := hr.new (o := .deferred (some [])) (o1 := .deferred (some [])) (nt := st.nt + 1)
    have hr2 := hr1.new (o := .loop { state := .ready, pending := none, fn, tmps := (tmpsF fr false fr.n 0).toArray, params := ps, assign, body, defers := w.heap.size })
      (o1 := .loop { state := .ready, pending := none, fn := 0, tmps := (tmpsF fr true fr.n 0).toArray, params := ps, assign, body, defers := st.nt }) (nt := st.nt + 1 + 1)
    simp only [Array.size_push] at hr2
    exact rfGo_sound (a := a) (a' := { a with defers := [{ target := .collected w.heap.size, args := #[] }] ++ a.defers }) (mark := [{ target := .collected w.heap.size, args := #[] }]) (fr := ⟨fr.n, fr.l, (⟨.collected st.nt, #[]⟩, ⟨.collected w.heap.size, #[]⟩) :: fr.df⟩) hc ⟨hf.size, hf.get, by simp [hf.defers]⟩ rfl (run_enterLoop_outer ..) (tmpsF_eq hf) hf h2 hr2 hn
  | some l =>
    obtain ⟨l1, l2⟩ := l
    obtain ⟨x1, x, st', w', hrun, hrel, hq⟩ := runS_soundR _ _ _ _ _ (fun r => (good_bind _ _).1 (h r)) hr
    cases x1 with
    | none => exact (hq r0).elim
    | some x1 =>
      have h2 := fun r => hq (Sup.cons fn (Sup.cons w'.heap.size r))
      have hr2 := hrel.new (o := .loop { state := .ready, pending := none, fn, tmps := (tmpsF fr false fr.n 0).toArray, params := ps, assign, body, defers := x.defers })
        (o1 := .loop { state := .ready, pending := none, fn := 0, tmps := (tmpsF fr true fr.n 0).toArray, params := ps, assign, body, defers := x1.defers }) (nt := st'.nt + 1)
      exact rfGo_sound (mark := []) (fr := fr) hc hf (by simp) (run_enterLoop_inner fn _ ps assign body hrun) (tmpsF_eq hf) hf h2 hr2 hn
theorem callE_sound {G : Sum} (hG : SumOk P N w0 G) {ec : Rd → Code → EC} (hec : ∀ rd c, CodeOk (rd.map Prod.snd) P N w0 c (ec rd c)) : CallOk P N w0 (callE P G ec) := by
  intro t a1 a2 st Q K w h hr
  cases t with
  | fn f =>
    have h' : ∀ r, (callG P (ec none) f a1 a2 st r (G f)).good Q K := h
    show Calls P f a2.toArray w _
    cases hg : G f with
    | some s =>
      rw [hg] at h'
      exact hG f s hg a1 a2 st Q K w h' hr
    | none =>
      rw [hg] at h'
      have h2 : ∀ r, (callF P (ec none) a1 a2 st r P.funcs[f]?).good Q K := h'
      cases hfn : P.funcs[f]? with
      | none => simp only [hfn, callF] at h2; exact (h2 r0).elim
      | some fn =>
        cases hb : fn.body with
        | none => simp only [hfn, callF, hb, callB] at h2; exact (h2 r0).elim
        | some c => exact callF_sound hfn hb (hec none c) h2 hr
  | rnd l1 l assign body =>
    intro f
    exact round_sound (hec (some (l1, l)) assign) (hec (some (l1, l)) body) (fun h => Nat.eq_of_beq_eq_true h) h hr f
end
end Ev
end Go.Proofs.Ytbpnmjjmllgehaa
