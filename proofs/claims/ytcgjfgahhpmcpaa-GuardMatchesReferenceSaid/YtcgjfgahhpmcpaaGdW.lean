/- Guard: the reference's starts. -/
import Derived.Test.YtcgjfgahhpmcpaaGdU
import Derived.Test.YtcgjfgahhpmcpaaGdV
namespace Go.Proofs.Ytcgjfgahhpmcpaa
open Go Go.ChangeShapes Go.WideShapes Go.ChangeAt Go.RowKit
set_option linter.all false
theorem st_bo {sy : Bool} {lo hi at0 ho so he o d n e : Int} (h : boE sy lo hi at0 ho so he o d n = e) (h0 : (e == 0) = false) : stE sy lo hi at0 ho so he o d n = e := by
  unfold stE
  rw [h, h0]
  rfl
theorem sn_zero {sy : Bool} {lo hi at0 ho so he o d n e : Int} (h : stE sy lo hi at0 ho so he o d n = e) (h0 : (e == 0) = false) : snN sy lo hi at0 ho so he o d n = 0 := by
  unfold snN
  rw [h, h0]
  rfl
theorem rsend_c (sy : Bool) (lo hi at0 ho so he o d : Int) (n : Int) (w : World) : Calls Try.prog 12 #[(.agg #[.bool sy, .int .i64 lo, .int .i64 hi, .int .i64 at0, .int .i64 ho, .int .i64 so, .int .i64 he]), (.agg #[.int .i64 o, .int .i64 d]), .int .i64 n] w fun e w' => e = .returned (.tuple #[.int .i64 (snN sy lo hi at0 ho so he o d n), .int .i64 (stE sy lo hi at0 ho so he o d n)]) ∧ Below w.heap.size w w' := by
  refine Ev.contract1 G12_ok 60 (Ev.ExtOk.nil w) (rsend_L sy lo hi at0 ho so he o d n) (rsend_T sy lo hi at0 ho so he o d n) ?_
  have out : ∀ e : Int, (e == 0) = false → stE sy lo hi at0 ho so he o d n = e → Value.tuple #[.int .i64 0, .int .i64 e] = .tuple #[.int .i64 (snN sy lo hi at0 ho so he o d n), .int .i64 (stE sy lo hi at0 ho so he o d n)] := fun e h0 h => by rw [sn_zero h h0, h]
  have bo : ∀ e : Int, (e == 0) = false → boE sy lo hi at0 ho so he o d n = e → Value.tuple #[.int .i64 0, .int .i64 e] = .tuple #[.int .i64 (snN sy lo hi at0 ho so he o d n), .int .i64 (stE sy lo hi at0 ho so he o d n)] := fun e h0 h => out e h0 (st_bo h h0)
  cases hk : okc o d with
  | false => exact Ev.good_t rfl (bo 1 rfl (by unfold boE; rw [hk]; rfl))
  | true =>
  refine Ev.good_f rfl ?_
  by_cases h1 : n < 0
  · have hb := bo 1 rfl (by unfold boE; rw [hk, decide_eq_true h1]; rfl)
    refine Ev.ite_good (fun _ => hb) (fun _ => ?_)
    exact Ev.good_t (decide_eq_true h1) hb
  by_cases h2 : n ≥ 1000000000
  · have hb := bo 1 rfl (by unfold boE; rw [hk, decide_eq_false h1, decide_eq_true h2]; rfl)
    refine Ev.ite_good (fun _ => hb) (fun _ => ?_)
    refine Ev.good_f (decide_eq_false h1) ?_
    exact Ev.good_t (decide_eq_true (by omega)) hb
  have hbo : boE sy lo hi at0 ho so he o d n = bE sy lo hi at0 ho so he (owR sy ho lo hi n) := by unfold boE; rw [hk, decide_eq_false h1, decide_eq_false h2]; rfl
  cases ht : tvP sy lo hi at0 ho so he with
  | false => exact Ev.good_t rfl (bo 1 rfl (by rw [hbo]; unfold bE; rw [ht]; rfl))
  | true =>
  refine Ev.good_f rfl ?_
  refine Ev.good_f (decide_eq_false h1) ?_
  refine Ev.good_f (decide_eq_false (by omega)) ?_
  cases hs : sy with
  | false => subst hs; exact Ev.good_t rfl (bo 16 rfl (by rw [hbo]; unfold bE; rw [ht]; rfl))
  | true =>
  subst hs
  refine Ev.good_f rfl ?_
  obtain ⟨q1, q2, q3, q4, q5⟩ := ow_eq (n := n) ht rfl (by omega) (by omega)
  have hst := st_of (n := n) hk (by omega) (by omega) ht rfl
  rw [q2]
  by_cases hz : bE true lo hi at0 ho so he (ow ho lo hi n) = 0
  · refine Ev.good_f (by rw [hz]; rfl) ?_
    rw [if_pos hz] at hst
    have hc : cnt o d (ow ho lo hi n) = fst o d (ow ho lo hi n) := stF_fst hk
    rw [hc]
    by_cases hf : fst o d (ow ho lo hi n) ≤ 10000000000000
    · rw [if_pos hf] at hst
      obtain ⟨_, _, _, _, _, _, _, _, k9, _⟩ := start_ok hst
      refine Ev.good_f (decide_eq_false (by omega)) ?_
      have hb := fst_b o d (ow ho lo hi n)
      show Value.tuple _ = Value.tuple _
      rw [hst, k9, w64 (x := 10000 * n) (by omega) (by omega), w64 (by omega) (by omega)]
    · rw [if_neg hf] at hst
      exact Ev.good_t (decide_eq_true (by omega)) (out 3 rfl hst)
  · rw [if_neg hz] at hst
    have hne : (bE true lo hi at0 ho so he (ow ho lo hi n) == 0) = false := by simpa using hz
    exact Ev.good_t (by simp [bne, hne]) (out _ hne hst)
theorem rcatches_c (s l h : Int) (w : World) : Calls Try.prog 16 #[.int .i64 s, .agg #[.int .i64 l, .int .i64 h]] w fun e w' => e = .returned (.bool (ctP s l h)) ∧ Below w.heap.size w w' := by
  refine Ev.contract1 G12_ok 60 (Ev.ExtOk.nil w) (rcatches_L s l h) (rcatches_T s l h) ?_
  unfold ctP
  generalize decide (l ≤ s) = b1
  cases b1 <;> simp [Ev.Tree.good]
def sRSend : List Value → Option Value
  | [x0, x1, x2] => match Ev.aggLf x0, Ev.aggLf x1, Ev.toLf x2 with
    | some [.b sy, .i .i64 lo, .i .i64 hi, .i .i64 at0, .i .i64 ho, .i .i64 so, .i .i64 he], some [.i .i64 o, .i .i64 d], some (.i .i64 n) => some (.tuple #[.int .i64 (snN sy lo hi at0 ho so he o d n), .int .i64 (stE sy lo hi at0 ho so he o d n)])
    | _, _, _ => none
  | _ => none
theorem sRSend_ok : ∀ a v, sRSend a = some v → ∀ w, Calls Try.prog 12 a.toArray w fun e w' => e = .returned v ∧ Below w.heap.size w w' := by
  intro a v h w
  unfold sRSend at h
  split at h
  · rename_i x0 x1 x2
    split at h
    · rename_i sy lo hi at0 ho so he o d n h0 h1 h2
      have e0 := Ev.aggLf_eq h0
      have e1 := Ev.aggLf_eq h1
      have e2 := Ev.toLf_eq h2
      subst e0; subst e1; subst e2
      cases h
      exact rsend_c sy lo hi at0 ho so he o d n w
    · cases h
  · cases h
def sRCatches : List Value → Option Value
  | [x0, x1] => match Ev.toLf x0, Ev.aggLf x1 with
    | some (.i .i64 s), some [.i .i64 l, .i .i64 h] => some (.bool (ctP s l h))
    | _, _ => none
  | _ => none
theorem sRCatches_ok : ∀ a v, sRCatches a = some v → ∀ w, Calls Try.prog 16 a.toArray w fun e w' => e = .returned v ∧ Below w.heap.size w w' := by
  intro a v h w
  unfold sRCatches at h
  split at h
  · rename_i x0 x1
    split at h
    · rename_i s l h h0 h1
      have e0 := Ev.toLf_eq h0
      have e1 := Ev.aggLf_eq h1
      subst e0; subst e1
      cases h
      exact rcatches_c s l h w
    · cases h
  · cases h
noncomputable def G13 : Ev.Sum := Ev.addS 12 (Ev.pureS sRSend) (Ev.addS 16 (Ev.pureS sRCatches) G12)
theorem G13_ok : ∀ N w0, Ev.SumOk Try.prog N w0 G13 := Ev.addS_ok (Ev.pureS_ok sRSend_ok) (Ev.addS_ok (Ev.pureS_ok sRCatches_ok) G12_ok)
end Go.Proofs.Ytcgjfgahhpmcpaa
