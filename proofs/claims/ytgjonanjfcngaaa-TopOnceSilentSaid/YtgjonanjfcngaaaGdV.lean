/- Guard: when a start says nothing is wrong. -/
import Derived.Test.YtgjonanjfcngaaaGdO
namespace Go.Proofs.Ytgjonanjfcngaaa
open Go Go.ChangeShapes Go.WideShapes Go.ChangeAt Go.RowKit
set_option linter.all false
theorem fs_zero {o d s : Int} (h : okc o d = true) (h1 : -30000000000000 ≤ s) (h2 : s ≤ 40000000000000) : fsE o d s = if fst o d s ≤ 10000000000000 then 0 else 3 := by
  obtain ⟨s1, s2⟩ := sh_ok (t := 0) h (by omega) (by omega)
  obtain ⟨m1, m2⟩ := sh_ok (t := 10000000000000) h (by omega) (by omega)
  have hb := fst_b o d s
  obtain ⟨f1, f2⟩ := fst_spec (s := s) h
  have ew : IntKind.wrap .i64 (s + 1) = s + 1 := w64 (by omega) (by omega)
  have z0 : ((0 : Int) != 0) = false := rfl
  unfold fsE
  rw [s1, s2, m1, m2, ew]
  simp only [z0, sel]
  by_cases c1 : sh o d 0 ≥ s
  · have : fst o d s = 0 := by
      rcases Int.lt_or_le 0 (fst o d s) with hl | hl
      · have := f1 0 (by omega) hl; omega
      · omega
    rw [decide_eq_true c1, if_pos (by omega)]
  · rw [decide_eq_false c1]
    simp only
    by_cases c2 : sh o d 10000000000000 < s
    · have : ¬ fst o d s ≤ 10000000000000 := fun hle => by have := f2 10000000000000 hle (by omega); omega
      rw [decide_eq_true c2, if_neg this]
    · rw [decide_eq_false c2]
      simp only
      have hle : fst o d s ≤ 10000000000000 := by
        rcases Int.lt_or_le 10000000000000 (fst o d s) with hl | hl
        · have := f1 10000000000000 (by omega) hl; omega
        · exact hl
      rw [if_pos hle]
      have hp : 0 < fst o d s := by
        rcases Int.lt_or_le 0 (fst o d s) with hl | hl
        · exact hl
        · have e : fst o d s = 0 := by omega
          have := f2 0 (by omega) (by omega)
          omega
      by_cases c3 : fst o d s = fst o d (s + 1)
      · have w4 : wE o d s = 4 := by simp [wE, h, sel, c3]
        rw [w4]
        have : ((4 : Int) != 0) = true := rfl
        simp only [this]
        obtain ⟨n1, n2⟩ := first_near h hp hle
        obtain ⟨g1, g2⟩ := fst_spec (s := s + 1 + 1) h
        have c4 : (fst o d (s + 1) == fst o d (s + 1 + 1)) = false := by
          rw [beq_eq_false_iff_ne]
          intro e
          have k := g2 (fst o d s) (by omega) hle
          omega
        simp only [wE, h, sel, c4]
      · have c3' : (fst o d s == fst o d (s + 1)) = false := by simpa using c3
        have w0 : wE o d s = 0 := by simp only [wE, h, sel, c3']
        rw [w0, z0]
theorem st_of {sy : Bool} {lo hi at0 ho so he o d n : Int} (hk : okc o d = true) (h0 : 0 ≤ n) (h1 : n < 1000000000) (ht : tvP sy lo hi at0 ho so he = true) (hs : sy = true) : stE sy lo hi at0 ho so he o d n = (if bE sy lo hi at0 ho so he (ow ho lo hi n) = 0 then (if fst o d (ow ho lo hi n) ≤ 10000000000000 then 0 else 3) else bE sy lo hi at0 ho so he (ow ho lo hi n)) := by
  obtain ⟨q1, q2, q3, q4, q5⟩ := ow_eq (n := n) ht hs h0 h1
  have hb : boE sy lo hi at0 ho so he o d n = bE sy lo hi at0 ho so he (ow ho lo hi n) := by
    unfold boE
    rw [hk, decide_eq_false (show ¬ n < 0 by omega), decide_eq_false (show ¬ n ≥ 1000000000 by omega), q1]
    rfl
  unfold stE
  rw [hb, q1]
  by_cases hz : bE sy lo hi at0 ho so he (ow ho lo hi n) = 0
  · rw [if_pos hz, hz, fs_zero hk (by omega) (by omega)]
    rfl
  · have : (bE sy lo hi at0 ho so he (ow ho lo hi n) == 0) = false := by simpa using hz
    rw [if_neg hz, this]
    rfl
end Go.Proofs.Ytgjonanjfcngaaa
