/- The laws of package timesync: Better. -/
import Derived.Test.YtbeaipngljphkaaTsR
namespace Go.Proofs.Ytbeaipngljphkaa
open Go Go.ChangeShapes Go.WideShapes Go.ChangeAt Go.RowKit
set_option linter.all false
theorem mt_spec {lo hi at0 lo2 hi2 at2 : Int} (h : mtE lo hi at0 lo2 hi2 at2 = 0) : fE lo hi at0 at2 = 0 ∧ fE lo2 hi2 at2 at0 = 0 ∧ mtL lo hi at0 lo2 hi2 at2 = imax (fL lo hi at0 at2) (fL lo2 hi2 at2 at0) ∧ mtH lo hi at0 lo2 hi2 at2 = imin (fH lo hi at0 at2) (fH lo2 hi2 at2 at0) ∧ mtA lo hi at0 lo2 hi2 at2 = imax at0 at2 := by
  have h' := h
  unfold mtE at h
  split at h
  · split at h
    · rename_i h2
      simp only [Bool.and_eq_true, beq_iff_eq] at h2
      exact ⟨h2.1, h2.2, by simp [mtL, h', sel], by simp [mtH, h', sel], by simp [mtA, h', sel]⟩
    · cases h
  · cases h
theorem imax_le (a b : Int) : a ≤ imax a b ∧ b ≤ imax a b := by unfold imax; split <;> omega
theorem imin_le (a b : Int) : imin a b ≤ a ∧ imin a b ≤ b := by unfold imin; split <;> omega
theorem lbetter_c (sy : Bool) (lo hi at0 ho so he : Int) (hf hh hb ha hl : Int) (w : World) : Calls Try.prog 8 #[(.agg #[.bool sy, .int .i64 lo, .int .i64 hi, .int .i64 at0, .int .i64 ho, .int .i64 so, .int .i64 he]), (.agg #[.int .i64 hf, .int .i64 hh, .int .i64 hb, .int .i64 ha, .int .i64 hl])] w fun e w' => e = .returned (.bool true) ∧ Below w.heap.size w w' := by
  refine Ev.contract1 G8_ok 60 (Ev.ExtOk.nil w) (lbetter_L sy lo hi at0 ho so he hf hh hb ha hl) (lbetter_T sy lo hi at0 ho so he hf hh hb ha hl) ?_
  cases hk : rK sy lo hi at0 ho so he hf hh hb ha hl with
  | false =>
    obtain ⟨q1, q2, q3, q4, q5, q6, q7⟩ := rK_f hk
    rw [q1, q2, q3, q4, q5, q6, q7]
    simp [Ev.Tree.good]
  | true =>
    obtain ⟨t1, t2, t3, e0, q1, q5, q6, q7⟩ := rK_t hk
    cases sy with
    | false => simp [Ev.Tree.good, t1]
    | true =>
      by_cases h0 : ho = 0
      · simp [Ev.Tree.good, t1, h0]
      have hp := (th_iff.1 t2).1
      have hE0 : hE hb ha hl = 0 := by simp [hE, hp, sel]
      have hm : mtE lo hi at0 (hL hb ha hl) (hH hb ha hl) (hA hb ha hl) = 0 := by
        have := e0
        simp only [rE, t1, t2, t3] at this
        simpa using this
      obtain ⟨m1, m2, m3, m4, m5⟩ := mt_spec hm
      have r1 : rL true lo hi at0 ho so he hf hh hb ha hl = mtL lo hi at0 (hL hb ha hl) (hH hb ha hl) (hA hb ha hl) := by simp [rL, hk, sel]
      have r2 : rH true lo hi at0 ho so he hf hh hb ha hl = mtH lo hi at0 (hL hb ha hl) (hH hb ha hl) (hA hb ha hl) := by simp [rH, hk, sel]
      have r3 : rA true lo hi at0 ho so he hf hh hb ha hl = mtA lo hi at0 (hL hb ha hl) (hH hb ha hl) (hA hb ha hl) := by simp [rA, hk, sel]
      rw [r1, r2, r3, m3, m4, m5, e0, hE0]
      have a1 := imax_le (fL lo hi at0 (hA hb ha hl)) (fL (hL hb ha hl) (hH hb ha hl) (hA hb ha hl) at0)
      have a2 := imin_le (fH lo hi at0 (hA hb ha hl)) (fH (hL hb ha hl) (hH hb ha hl) (hA hb ha hl) at0)
      generalize imax (fL lo hi at0 (hA hb ha hl)) (fL (hL hb ha hl) (hH hb ha hl) (hA hb ha hl) at0) = A at *
      generalize imin (fH lo hi at0 (hA hb ha hl)) (fH (hL hb ha hl) (hH hb ha hl) (hA hb ha hl) at0) = B at *
      generalize hL hb ha hl = lo2 at *
      generalize hH hb ha hl = hi2 at *
      generalize hA hb ha hl = b at *
      simp only [fE, fL, fH] at m1 m2 a1 a2
      rcases Int.lt_trichotomy at0 b with hlt | heq | hgt
      · rw [if_pos (show at0 ≤ b by omega)] at m1 a1 a2
        rw [if_neg (show ¬ b ≤ at0 by omega)] at m2 a1 a2
        have e : imax at0 b = b := if_pos hlt
        rw [e]
        simp [Ev.Tree.good, t1, h0, m1, hlt, show ¬ at0 = b by omega, show ¬ A < gL lo hi at0 b by omega, show ¬ gH lo hi at0 b < B by omega, show ¬ A < lo2 by omega, show ¬ hi2 < B by omega]
      · subst heq
        rw [if_pos (show at0 ≤ at0 by omega)] at m1 m2 a1 a2
        rw [if_pos (show at0 ≤ at0 by omega)] at a1 a2
        have e : imax at0 at0 = at0 := if_neg (by omega)
        rw [e]
        simp [Ev.Tree.good, t1, h0, m1, m2, show ¬ A < gL lo hi at0 at0 by omega, show ¬ gH lo hi at0 at0 < B by omega, show ¬ A < gL lo2 hi2 at0 at0 by omega, show ¬ gH lo2 hi2 at0 at0 < B by omega]
      · rw [if_neg (show ¬ at0 ≤ b by omega)] at m1 a1 a2
        rw [if_pos (show b ≤ at0 by omega)] at m2 a1 a2
        have e : imax at0 b = at0 := if_neg (by omega)
        rw [e]
        simp [Ev.Tree.good, t1, h0, m2, show ¬ at0 < b by omega, show ¬ at0 = b by omega, show ¬ b = at0 by omega, show ¬ A < lo by omega, show ¬ hi < B by omega, show ¬ A < gL lo2 hi2 b at0 by omega, show ¬ gH lo2 hi2 b at0 < B by omega]
end Go.Proofs.Ytbeaipngljphkaa
