/- Guard: what starts and windows are. -/
import Derived.Test.YtgjonanjfcngaaaGdM
namespace Go.Proofs.Ytgjonanjfcngaaa
open Go Go.ChangeShapes Go.WideShapes Go.ChangeAt Go.RowKit
set_option linter.all false
theorem bE_ok {sy : Bool} {lo hi at0 ho so he l : Int} (h : bE sy lo hi at0 ho so he l = 0) : tvP sy lo hi at0 ho so he = true ∧ sy = true ∧ ((ho = 0 ∧ bN sy lo hi at0 ho so he l = 0) ∨ (1 ≤ ho ∧ spP lo hi at0 = true ∧ at0 ≤ l ∧ l ≤ 20000000000000 ∧ bN sy lo hi at0 ho so he l = (hi - lo + 2 * more (l - at0) + 1) / 2 ∧ bN sy lo hi at0 ho so he l ≤ 2000)) := by
  have h0 := h
  unfold bE at h
  by_cases ht : tvP sy lo hi at0 ho so he = true
  · rw [if_pos ht] at h
    cases sy with
    | false => simp at h
    | true =>
      refine ⟨ht, rfl, ?_⟩
      simp only [if_true] at h
      by_cases hz : ho = 0
      · left
        refine ⟨hz, ?_⟩
        simp [bN, hz, sel]
      · right
        rw [if_neg hz] at h
        by_cases hg : gE lo hi at0 l = 0
        · rw [if_pos hg] at h
          by_cases hh : half lo hi at0 l > 2000
          · rw [if_pos hh] at h; cases h
          · obtain ⟨g1, g2, g3, _⟩ := gE_spec hg
            obtain ⟨q1, q2, _⟩ := gE_ok hg
            have hb : bN true lo hi at0 ho so he l = half lo hi at0 l := by
              have : (ho != 0) = true := by simpa using hz
              simp [bN, h0, this, sel]
            have hv : half lo hi at0 l = (hi - lo + 2 * more (l - at0) + 1) / 2 := by
              unfold half
              rw [q1, q2]
              congr 1
              omega
            have ht' := tv_iff.1 ht
            refine ⟨?_, g1, g2, g3, by rw [hb, hv], by rw [hb]; omega⟩
            rcases ht'.2 with ⟨h1, _⟩ | ⟨_, h1 | h1⟩
            · cases h1
            · exact absurd h1 hz
            · exact h1.1
        · rw [if_neg hg] at h; exact absurd h hg
  · rw [if_neg ht] at h; cases h
def ow (ho lo hi n : Int) : Int := if ho = 0 then 10000 * n else 10000 * n - (lo + hi) / 2
theorem ow_eq {sy : Bool} {lo hi at0 ho so he n : Int} (ht : tvP sy lo hi at0 ho so he = true) (hs : sy = true) (h0 : 0 ≤ n) (h1 : n < 1000000000) : owR sy ho lo hi n = ow ho lo hi n ∧ roR ho lo hi n = ow ho lo hi n ∧ bb n = 10000 * n ∧ -20000000000000 ≤ ow ho lo hi n ∧ ow ho lo hi n ≤ 30000000000000 := by
  subst hs
  have hb : bb n = 10000 * n := by unfold bb; rw [w64 (by omega) (by omega)]; omega
  have hb2 : IntKind.wrap .i64 (10000 * n) = 10000 * n := w64 (by omega) (by omega)
  have ht' := (tv_iff.1 ht).2
  by_cases hz : ho = 0
  · have hz' : (ho == 0) = true := by simpa using hz
    refine ⟨?_, ?_, hb, ?_, ?_⟩
    · simp only [owR, ow, hz', hz, sel, if_true, Bool.and_self]; exact hb
    · simp only [roR, ow, hz', sel, hz, if_true, hb2]; simpa using hb2
    · simp only [ow, hz, if_true]; omega
    · simp only [ow, hz, if_true]; omega
  · have hz' : (ho == 0) = false := by simpa using hz
    have hsp : spP lo hi at0 = true := by
      rcases ht' with ⟨h1, _⟩ | ⟨_, h1 | h1⟩
      · cases h1
      · exact absurd h1 hz
      · exact h1.2.2
    have hs := sp_iff.1 hsp
    have e1 : IntKind.wrap .i64 (lo + hi) = lo + hi := w64 (by omega) (by omega)
    have e2 : Int.fdiv (lo + hi) 2 = (lo + hi) / 2 := Int.fdiv_eq_ediv_of_nonneg _ (by decide)
    have eo : ow ho lo hi n = 10000 * n - (lo + hi) / 2 := by simp only [ow, hz, if_false]
    refine ⟨?_, ?_, hb, by rw [eo]; omega, by rw [eo]; omega⟩
    · simp only [owR, hz', Bool.and_false, sel]
      rw [e1, e2, hb, eo, w64 (by omega) (by omega)]
    · simp only [roR, hz', sel]
      rw [e1, hb2, eo]
      by_cases hn : lo + hi < 0
      · rw [decide_eq_true hn]
        simp only
        rw [w64 (x := 1 - (lo + hi)) (by omega) (by omega), Int.tdiv_eq_ediv_of_nonneg (by omega), w64 (x := (1 - (lo + hi)) / 2) (by omega) (by omega), w64 (x := 0 - (1 - (lo + hi)) / 2) (by omega) (by omega), w64 (by omega) (by omega)]
        omega
      · rw [decide_eq_false hn]
        simp only
        rw [Int.tdiv_eq_ediv_of_nonneg (by omega), w64 (x := (lo + hi) / 2) (by omega) (by omega), w64 (by omega) (by omega)]
theorem sh_ok {o d t : Int} (h : okc o d = true) (h0 : 0 ≤ t) (h1 : t ≤ 10000000000000) : shV o d t = sh o d t ∧ shE o d t = 0 := by
  have : shOk o d t = true := by simp [shOk, h, h0, h1]
  simp [shV, shE, this]
theorem fst_spec {o d s : Int} (h : okc o d = true) : (∀ t, 0 ≤ t → t < fst o d s → sh o d t < s) ∧ ∀ t, fst o d s ≤ t → t ≤ 10000000000000 → s ≤ sh o d t := by
  obtain ⟨_, _, a3, a4⟩ := fst_at (s := s) h
  refine ⟨fun t h0 h1 => ?_, fun t h0 h1 => ?_⟩
  · have := a3 t h0 h1; simp at this; exact this
  · have := a4 t h0 (by omega); simp at this; exact this
theorem fs_ok {o d s : Int} (h : okc o d = true) (h1 : -30000000000000 ≤ s) (h2 : s ≤ 40000000000000) (hz : fsE o d s = 0) : fst o d s ≤ 10000000000000 ∧ fsN o d s = fst o d s := by
  obtain ⟨s1, s2⟩ := sh_ok (t := 0) h (by omega) (by omega)
  obtain ⟨m1, m2⟩ := sh_ok (t := 10000000000000) h (by omega) (by omega)
  have hb := fst_b o d s
  obtain ⟨f1, f2⟩ := fst_spec (s := s) h
  have ew : IntKind.wrap .i64 (s + 1) = s + 1 := w64 (by omega) (by omega)
  have z0 : ((0 : Int) != 0) = false := rfl
  unfold fsE at hz
  unfold fsN
  rw [s1, s2, m1, m2, ew] at hz
  rw [s1, ew]
  simp only [z0, sel] at hz
  by_cases c1 : sh o d 0 ≥ s
  · have : fst o d s = 0 := by
      rcases Int.lt_or_le 0 (fst o d s) with hl | hl
      · have := f1 0 (by omega) hl; omega
      · omega
    rw [decide_eq_true c1, this]
    exact ⟨by omega, rfl⟩
  · rw [decide_eq_false c1] at hz ⊢
    simp only at hz
    by_cases c2 : sh o d 10000000000000 < s
    · rw [decide_eq_true c2] at hz; cases hz
    · rw [decide_eq_false c2] at hz
      simp only at hz
      have hle : fst o d s ≤ 10000000000000 := by
        rcases Int.lt_or_le 10000000000000 (fst o d s) with hl | hl
        · have := f1 10000000000000 (by omega) hl; omega
        · exact hl
      refine ⟨hle, ?_⟩
      simp only [sel]
      by_cases c3 : fst o d s = fst o d (s + 1)
      · have w4 : wE o d s = 4 := by simp [wE, h, sel, c3]
        rw [w4] at hz ⊢
        have : ((4 : Int) != 0) = true := rfl
        simp only [this] at hz ⊢
        rw [c3]
        simp [wL, hz, sel]
      · have c3' : (fst o d s == fst o d (s + 1)) = false := by simpa using c3
        have w0 : wE o d s = 0 := by simp only [wE, h, sel, c3']
        rw [w0, z0]
        simp [wL, w0, sel]
theorem start_ok {sy : Bool} {lo hi at0 ho so he o d n : Int} (h : stE sy lo hi at0 ho so he o d n = 0) : okc o d = true ∧ (0 ≤ n ∧ n < 1000000000) ∧ tvP sy lo hi at0 ho so he = true ∧ sy = true ∧ bE sy lo hi at0 ho so he (ow ho lo hi n) = 0 ∧ owR sy ho lo hi n = ow ho lo hi n ∧ roR ho lo hi n = ow ho lo hi n ∧ fst o d (ow ho lo hi n) ≤ 10000000000000 ∧ snN sy lo hi at0 ho so he o d n = fst o d (ow ho lo hi n) - 10000 * n ∧ stN sy lo hi at0 ho so he o d n = fst o d (ow ho lo hi n) - 10000 * n := by
  obtain ⟨h1, h2⟩ := bo_of_st h
  unfold boE at h1
  cases hk : okc o d with
  | false => rw [hk] at h1; cases h1
  | true =>
    rw [hk] at h1
    simp only [Bool.not_true, sel] at h1
    by_cases c1 : n < 0
    · rw [decide_eq_true c1] at h1; cases h1
    · rw [decide_eq_false c1] at h1
      simp only at h1
      by_cases c2 : n ≥ 1000000000
      · rw [decide_eq_true c2] at h1; cases h1
      · rw [decide_eq_false c2] at h1
        simp only at h1
        obtain ⟨t1, t2, _⟩ := bE_ok h1
        obtain ⟨q1, q2, q3, q4, q5⟩ := ow_eq (n := n) t1 t2 (by omega) (by omega)
        rw [q1] at h1 h2
        obtain ⟨f1, f2⟩ := fs_ok hk (by omega) (by omega) h2
        have hb := fst_b o d (ow ho lo hi n)
        have e : stN sy lo hi at0 ho so he o d n = fst o d (ow ho lo hi n) - 10000 * n := by
          unfold stN
          rw [q1, f2, q3]
          exact w64 (by omega) (by omega)
        refine ⟨rfl, ⟨by omega, by omega⟩, t1, t2, h1, q1, q2, f1, ?_, e⟩
        simp only [snN, h, sel]
        exact e
theorem more_mono {x y : Int} (h : x ≤ y) : more x ≤ more y := by unfold more; omega
theorem more_succ {x : Int} : more (x + 1) ≤ more x + 1 := by unfold more; omega
/-- how a clock runs -/
theorem run {o d t u : Int} (h : okc o d = true) (h0 : 0 ≤ t) (h1 : t ≤ u) (_h2 : u ≤ 10000000000000) : 0 ≤ sh o d u - sh o d t ∧ (u - sh o d u) - (t - sh o d t) ≤ more (sh o d u - sh o d t) ∧ -(more (sh o d u - sh o d t)) ≤ (u - sh o d u) - (t - sh o d t) := by
  have hs := sh_step h h1
  have hm := sh_mono h h1
  unfold sh at hm ⊢
  unfold more
  generalize d * t = p at *
  generalize d * u = q at *
  refine ⟨by omega, by omega, by omega⟩
theorem first_near {o d s : Int} (h : okc o d = true) (h0 : 0 < fst o d s) (h1 : fst o d s ≤ 10000000000000) : s ≤ sh o d (fst o d s) ∧ sh o d (fst o d s) ≤ s + 1 := by
  obtain ⟨f1, f2⟩ := fst_spec (s := s) h
  have a := f1 (fst o d s - 1) (by omega) (by omega)
  have b := f2 (fst o d s) (Int.le_refl _) h1
  generalize fst o d s = F at *
  have hs := sh_step (o := o) h (show F - 1 ≤ F by omega)
  refine ⟨b, ?_⟩
  unfold sh at a b ⊢
  generalize d * (F - 1) = p at *
  generalize d * F = q at *
  omega
theorem two_st {o d t : Int} (h : okc o d = true) : sh o d t + 1 ≤ sh o d (t + 2) := by
  have hs := sh_step (o := o) h (show t ≤ t + 2 by omega)
  unfold sh
  generalize d * t = p at *
  generalize d * (t + 2) = q at *
  omega
theorem near_first {o d t l lo hi : Int} (h : okc o d = true) (h0 : 0 ≤ t) (h1 : t ≤ 10000000000000) (hl : lo ≤ t - sh o d t) (hh : t - sh o d t ≤ hi) (hs : sh o d t ≤ l) (hf : fst o d l ≤ 10000000000000) :
    lo - more (l - sh o d t) - 1 ≤ fst o d l - l ∧ fst o d l - l ≤ hi + more (l - sh o d t) + 2 := by
  have hb := (fst_b o d l).1
  obtain ⟨f1, f2⟩ := fst_spec (s := l) h
  have hge := f2 _ (Int.le_refl _) hf
  have m0 : 1 ≤ more (l - sh o d t) := by unfold more; omega
  rcases Int.lt_or_le (fst o d l) t with hc | hc
  · have hm := sh_mono (o := o) h (Int.le_of_lt hc)
    have ht2 : t ≤ fst o d l + 1 := by
      rcases Int.lt_or_le (fst o d l + 1) t with hx | hx
      · have k1 := two_st (o := o) (t := fst o d l) h
        have k2 := sh_mono (o := o) h (show fst o d l + 2 ≤ t by omega)
        omega
      · exact hx
    omega
  · rcases Int.lt_or_le 0 (fst o d l) with hp | hp
    · obtain ⟨n1, n2⟩ := first_near h hp hf
      obtain ⟨r1, r2, r3⟩ := run h h0 hc hf
      have k1 : more (sh o d (fst o d l) - sh o d t) ≤ more (l - sh o d t) + 1 := Int.le_trans (more_mono (show sh o d (fst o d l) - sh o d t ≤ l - sh o d t + 1 by omega)) more_succ
      have k2 : more (sh o d (fst o d l) - sh o d t) ≤ more (l - sh o d t) ∨ sh o d (fst o d l) = l + 1 := by
        rcases Int.lt_or_le l (sh o d (fst o d l)) with hx | hx
        · right; omega
        · left; exact more_mono (by omega)
      omega
    · have e : fst o d l = t := by omega
      rw [e] at hge ⊢
      omega
end Go.Proofs.Ytgjonanjfcngaaa
