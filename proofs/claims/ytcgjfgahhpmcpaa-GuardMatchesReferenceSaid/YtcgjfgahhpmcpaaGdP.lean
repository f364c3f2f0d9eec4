/- Guard: the laws. -/
import Derived.Test.YtcgjfgahhpmcpaaGdO
namespace Go.Proofs.Ytcgjfgahhpmcpaa
open Go Go.ChangeShapes Go.WideShapes Go.ChangeAt Go.RowKit
set_option linter.all false
theorem rdn_eq {n : Int} (h1 : -1000000000000000000 ≤ n) (h2 : n ≤ 1000000000000000000) : rdnP n = n / 1000000 := by
  unfold rdnP
  by_cases h : n ≥ 0
  · rw [decide_eq_true h]
    simp only [sel]
    rw [Int.tdiv_eq_ediv_of_nonneg h]
    exact w64 (by omega) (by omega)
  · rw [decide_eq_false h]
    simp only [sel]
    rw [w64 (x := 0 - n) (by omega) (by omega), w64 (x := 0 - n + 999999) (by omega) (by omega), Int.tdiv_eq_ediv_of_nonneg (by omega), w64 (x := (0 - n + 999999) / 1000000) (by omega) (by omega), w64 (by omega) (by omega)]
    omega
theorem at_eq {o d t : Int} (h : okc o d = true) (h0 : 0 ≤ t) (h1 : t ≤ 10000000000000) : atR o d t = sh o d t := by
  have hk := okc_t h
  have hm := mulb hk.2.2.1 hk.2.2.2 h0
  unfold atR sh
  rw [w64 (x := d * t) (by omega) (by omega), rdn_eq (by omega) (by omega), w64 (x := t + o) (by omega) (by omega)]
  exact w64 (by omega) (by omega)
theorem it_ok {sy : Bool} {lo hi at0 ho so he o d t : Int} (h : itP sy lo hi at0 ho so he o d t = true) : tvP sy lo hi at0 ho so he = true ∧ okc o d = true ∧ sy = true ∧ (0 ≤ t ∧ t ≤ 10000000000000) ∧ ((ho = 0 ∧ o = 0 ∧ d = 0) ∨ (ho ≠ 0 ∧ at0 = sh o d t ∧ lo ≤ t - sh o d t ∧ t - sh o d t ≤ hi)) := by
  unfold itP at h
  simp only [Bool.and_eq_true, Bool.not_eq_true', decide_eq_false_iff_not] at h
  obtain ⟨h1, h2, h3, h4, h5, h6⟩ := h
  refine ⟨h1, h2, h3, ⟨by omega, by omega⟩, ?_⟩
  by_cases hz : ho = 0
  · have hz' : (ho == 0) = true := by simpa using hz
    rw [hz'] at h6
    simp at h6
    exact .inl ⟨hz, h6⟩
  · have hz' : (ho == 0) = false := by simpa using hz
    rw [hz'] at h6
    rw [at_eq h2 (by omega) (by omega)] at h6
    have hb := sh_b h2 (t := t) (by omega) (by omega)
    rw [w64 (x := t - sh o d t) (by omega) (by omega)] at h6
    simp only [cond_false, Bool.and_eq_true, beq_iff_eq, decide_eq_true_eq] at h6
    exact .inr ⟨hz, h6.1, by omega, by omega⟩
/-- **a start is on time** -/
theorem on_time {sy : Bool} {lo hi at0 ho so he o d t n : Int} (hi' : itP sy lo hi at0 ho so he o d t = true) (hs : stE sy lo hi at0 ho so he o d n = 0) : 0 ≤ bN sy lo hi at0 ho so he (ow ho lo hi n) ∧ bN sy lo hi at0 ho so he (ow ho lo hi n) ≤ 2000 ∧ snN sy lo hi at0 ho so he o d n ≤ bN sy lo hi at0 ho so he (ow ho lo hi n) + 2 ∧ -(bN sy lo hi at0 ho so he (ow ho lo hi n)) - 2 ≤ snN sy lo hi at0 ho so he o d n := by
  obtain ⟨k1, k2, k3, k4, k5, k6, k7, k8, k9, _⟩ := start_ok hs
  obtain ⟨_, _, _, i4, i5⟩ := it_ok hi'
  obtain ⟨_, _, b3⟩ := bE_ok k5
  rw [k9]
  rcases i5 with ⟨z1, z2, z3⟩ | ⟨z1, z2, z3, z4⟩
  · rcases b3 with ⟨_, b4⟩ | ⟨b4, _⟩
    · rw [b4]
      have e : ow ho lo hi n = 10000 * n := by simp [ow, z1]
      rw [e] at k8 ⊢
      subst z2; subst z3
      obtain ⟨f1, f2⟩ := fst_spec (s := 10000 * n) k1
      have g := f2 _ (Int.le_refl _) k8
      have hb := (fst_b 0 0 (10000 * n)).1
      have hle : fst 0 0 (10000 * n) ≤ 10000 * n := by
        rcases Int.lt_or_le (10000 * n) (fst 0 0 (10000 * n)) with hx | hx
        · have := f1 (10000 * n) (by omega) hx
          unfold sh at this
          simp at this
        · exact hx
      unfold sh at g
      simp at g
      omega
    · omega
  · rcases b3 with ⟨b4, _⟩ | ⟨b4, b5, b6, b7, b8, b9⟩
    · exact absurd b4 z1
    · subst z2
      have nf := near_first k1 i4.1 i4.2 z3 z4 b6 k8
      have e : ow ho lo hi n = 10000 * n - (lo + hi) / 2 := by simp [ow, z1]
      have hlh := (sp_iff.1 b5).2.1
      have m0 : 1 ≤ more (ow ho lo hi n - sh o d t) := by unfold more; omega
      rw [b8] at b9 ⊢
      generalize more (ow ho lo hi n - sh o d t) = m at *
      generalize fst o d (ow ho lo hi n) = F at *
      omega
theorem lontime_c (sy : Bool) (lo hi at0 ho so he o d : Int) (t n : Int) (w : World) : Calls Try.prog 4 #[(.agg #[.bool sy, .int .i64 lo, .int .i64 hi, .int .i64 at0, .int .i64 ho, .int .i64 so, .int .i64 he]), (.agg #[.int .i64 o, .int .i64 d]), .int .i64 t, .int .i64 n] w fun e w' => e = .returned (.bool true) ∧ Below w.heap.size w w' := by
  refine Ev.contract1 G11_ok 60 (Ev.ExtOk.nil w) (lontime_L sy lo hi at0 ho so he o d t n) (lontime_T sy lo hi at0 ho so he o d t n) ?_
  refine Ev.ite_good (fun _ => rfl) (fun h1 => ?_)
  refine Ev.ite_good (fun _ => rfl) (fun h2 => ?_)
  refine Ev.ite_good (fun _ => rfl) (fun h3 => ?_)
  refine Ev.ite_good (fun _ => rfl) (fun h4 => ?_)
  have hi' : itP sy lo hi at0 ho so he o d t = true := by simpa using h1
  have hs : stE sy lo hi at0 ho so he o d n = 0 := by simpa using h4
  obtain ⟨k1, k2, k3, k4, k5, k6, k7, k8, k9, _⟩ := start_ok hs
  obtain ⟨o1, o2, o3, o4⟩ := on_time hi' hs
  rw [k7]
  refine Ev.good_t (by simpa using k5) (Ev.good_t (decide_eq_true o2) ?_)
  rw [w64 (x := bN sy lo hi at0 ho so he (ow ho lo hi n) + 2) (by omega) (by omega), w64 (x := 0 - bN sy lo hi at0 ho so he (ow ho lo hi n)) (by omega) (by omega), w64 (x := 0 - bN sy lo hi at0 ho so he (ow ho lo hi n) - 2) (by omega) (by omega)]
  refine Ev.good_t (decide_eq_true o3) ?_
  simp only [Ev.Tree.good, Value.bool.injEq, decide_eq_true_eq]
  omega
theorem win {sy : Bool} {lo hi at0 ho so he o d n : Int} (hs : stE sy lo hi at0 ho so he o d n = 0) : 0 ≤ bN sy lo hi at0 ho so he (ow ho lo hi n) ∧ bN sy lo hi at0 ho so he (ow ho lo hi n) ≤ 2000 ∧ (-10000000000000 ≤ snN sy lo hi at0 ho so he o d n ∧ snN sy lo hi at0 ho so he o d n ≤ 10000000000000) ∧ liL sy lo hi at0 ho so he o d n = snN sy lo hi at0 ho so he o d n - (2004 + bN sy lo hi at0 ho so he (ow ho lo hi n)) ∧ liH sy lo hi at0 ho so he o d n = snN sy lo hi at0 ho so he o d n + (2004 + bN sy lo hi at0 ho so he (ow ho lo hi n)) := by
  obtain ⟨k1, k2, k3, k4, k5, k6, k7, k8, k9, k10⟩ := start_ok hs
  obtain ⟨_, _, b3⟩ := bE_ok k5
  have hb := (fst_b o d (ow ho lo hi n)).1
  have hbn : 0 ≤ bN sy lo hi at0 ho so he (ow ho lo hi n) ∧ bN sy lo hi at0 ho so he (ow ho lo hi n) ≤ 2000 := by
    rcases b3 with ⟨_, b4⟩ | ⟨_, b5, b6, _, b8, b9⟩
    · rw [b4]; omega
    · have hlh := (sp_iff.1 b5).2.1
      have m0 : 1 ≤ more (ow ho lo hi n - at0) := by unfold more; omega
      refine ⟨by rw [b8]; omega, b9⟩
  have e : (stE sy lo hi at0 ho so he o d n == 0) = true := by simpa using hs
  refine ⟨hbn.1, hbn.2, by omega, ?_, ?_⟩
  · simp only [liL, e, sel]
    rw [k6, w64 (x := 2004 + bN sy lo hi at0 ho so he (ow ho lo hi n)) (by omega) (by omega), k10, k9]
    exact w64 (by omega) (by omega)
  · simp only [liH, e, sel]
    rw [k6, w64 (x := 2004 + bN sy lo hi at0 ho so he (ow ho lo hi n)) (by omega) (by omega), k10, k9]
    exact w64 (by omega) (by omega)
theorem lcaught_c (sy : Bool) (lo hi at0 ho so he o d : Int) (t : Int) (s2 : Bool) (l2 h2 a2 k2 r2 e2 o2 d2 : Int) (u n : Int) (w : World) : Calls Try.prog 5 #[(.agg #[.bool sy, .int .i64 lo, .int .i64 hi, .int .i64 at0, .int .i64 ho, .int .i64 so, .int .i64 he]), (.agg #[.int .i64 o, .int .i64 d]), .int .i64 t, (.agg #[.bool s2, .int .i64 l2, .int .i64 h2, .int .i64 a2, .int .i64 k2, .int .i64 r2, .int .i64 e2]), (.agg #[.int .i64 o2, .int .i64 d2]), .int .i64 u, .int .i64 n] w fun e w' => e = .returned (.bool true) ∧ Below w.heap.size w w' := by
  refine Ev.contract1 G11_ok 60 (Ev.ExtOk.nil w) (lcaught_L sy lo hi at0 ho so he o d t s2 l2 h2 a2 k2 r2 e2 o2 d2 u n) (lcaught_T sy lo hi at0 ho so he o d t s2 l2 h2 a2 k2 r2 e2 o2 d2 u n) ?_
  refine Ev.ite_good (fun _ => rfl) (fun h1 => ?_)
  refine Ev.ite_good (fun _ => rfl) (fun g2 => ?_)
  refine Ev.ite_good (fun h => by simp at h) (fun _ => ?_)
  refine Ev.ite_good (fun h => by simp at h) (fun _ => ?_)
  refine Ev.ite_good (fun _ => rfl) (fun h3 => ?_)
  refine Ev.ite_good (fun _ => rfl) (fun h4 => ?_)
  have i1 : itP sy lo hi at0 ho so he o d t = true := by simpa using h1
  have i2 : itP s2 l2 h2 a2 k2 r2 e2 o2 d2 u = true := by simpa using g2
  have s1 : stE sy lo hi at0 ho so he o d n = 0 := by simpa using h3
  have s2' : stE s2 l2 h2 a2 k2 r2 e2 o2 d2 n = 0 := by simpa using h4
  obtain ⟨o1, o2', o3, o4⟩ := on_time i1 s1
  obtain ⟨p1, p2, p3, p4⟩ := on_time i2 s2'
  obtain ⟨_, _, _, w4, w5⟩ := win s1
  obtain ⟨_, _, _, v4, v5⟩ := win s2'
  have c1 : ctP (snN sy lo hi at0 ho so he o d n) (liL s2 l2 h2 a2 k2 r2 e2 o2 d2 n) (liH s2 l2 h2 a2 k2 r2 e2 o2 d2 n) = true := by
    unfold ctP; rw [v4, v5, Bool.and_eq_true, decide_eq_true_eq, decide_eq_true_eq]; omega
  have c2 : ctP (snN s2 l2 h2 a2 k2 r2 e2 o2 d2 n) (liL sy lo hi at0 ho so he o d n) (liH sy lo hi at0 ho so he o d n) = true := by
    unfold ctP; rw [w4, w5, Bool.and_eq_true, decide_eq_true_eq, decide_eq_true_eq]; omega
  refine Ev.good_t c1 ?_
  rw [c2]; rfl
theorem lnoover_c (sy : Bool) (lo hi at0 ho so he o d : Int) (t : Int) (s2 : Bool) (l2 h2 a2 k2 r2 e2 o2 d2 : Int) (u n : Int) (w : World) : Calls Try.prog 6 #[(.agg #[.bool sy, .int .i64 lo, .int .i64 hi, .int .i64 at0, .int .i64 ho, .int .i64 so, .int .i64 he]), (.agg #[.int .i64 o, .int .i64 d]), .int .i64 t, (.agg #[.bool s2, .int .i64 l2, .int .i64 h2, .int .i64 a2, .int .i64 k2, .int .i64 r2, .int .i64 e2]), (.agg #[.int .i64 o2, .int .i64 d2]), .int .i64 u, .int .i64 n] w fun e w' => e = .returned (.bool true) ∧ Below w.heap.size w w' := by
  refine Ev.contract1 G11_ok 60 (Ev.ExtOk.nil w) (lnoover_L sy lo hi at0 ho so he o d t s2 l2 h2 a2 k2 r2 e2 o2 d2 u n) (lnoover_T sy lo hi at0 ho so he o d t s2 l2 h2 a2 k2 r2 e2 o2 d2 u n) ?_
  refine Ev.ite_good (fun _ => rfl) (fun h1 => ?_)
  refine Ev.ite_good (fun _ => rfl) (fun g2 => ?_)
  refine Ev.ite_good (fun _ => rfl) (fun h5 => ?_)
  refine Ev.ite_good (fun _ => rfl) (fun h6 => ?_)
  simp only [decide_eq_false_iff_not] at h5 h6
  rw [w64 (x := n + 1) (by omega) (by omega)]
  refine Ev.ite_good (fun _ => rfl) (fun h3 => ?_)
  refine Ev.ite_good (fun _ => rfl) (fun h4 => ?_)
  have i1 : itP sy lo hi at0 ho so he o d t = true := by simpa using h1
  have i2 : itP s2 l2 h2 a2 k2 r2 e2 o2 d2 u = true := by simpa using g2
  have s1 : stE sy lo hi at0 ho so he o d n = 0 := by simpa using h3
  have s2' : stE s2 l2 h2 a2 k2 r2 e2 o2 d2 (n + 1) = 0 := by simpa using h4
  obtain ⟨o1, o2', o3, o4⟩ := on_time i1 s1
  obtain ⟨p1, p2, p3, p4⟩ := on_time i2 s2'
  rw [w64 (x := snN sy lo hi at0 ho so he o d n + 4000) (by omega) (by omega), w64 (x := 10000 + snN s2 l2 h2 a2 k2 r2 e2 o2 d2 (n + 1)) (by omega) (by omega)]
  have : snN sy lo hi at0 ho so he o d n + 4000 < 10000 + snN s2 l2 h2 a2 k2 r2 e2 o2 d2 (n + 1) := by omega
  rw [decide_eq_true this]; rfl
theorem lwin_c (sy : Bool) (lo hi at0 ho so he o d : Int) (n m : Int) (w : World) : Calls Try.prog 7 #[(.agg #[.bool sy, .int .i64 lo, .int .i64 hi, .int .i64 at0, .int .i64 ho, .int .i64 so, .int .i64 he]), (.agg #[.int .i64 o, .int .i64 d]), .int .i64 n, .int .i64 m] w fun e w' => e = .returned (.bool true) ∧ Below w.heap.size w w' := by
  refine Ev.contract1 G11_ok 60 (Ev.ExtOk.nil w) (lwin_L sy lo hi at0 ho so he o d n m) (lwin_T sy lo hi at0 ho so he o d n m) ?_
  refine Ev.ite_good (fun h1 => ?_) (fun h1 => ?_)
  · have e : (stE sy lo hi at0 ho so he o d n == 0) = false := by simpa [bne] using h1
    simp [Ev.Tree.good, liL, liH, e, sel]
  · have s1 : stE sy lo hi at0 ho so he o d n = 0 := by simpa using h1
    obtain ⟨k1, k2, k3, k4, k5, k6, k7, k8, k9, _⟩ := start_ok s1
    obtain ⟨w1, w2, w3, w4, w5⟩ := win s1
    refine Ev.good_t (by simpa using s1) ?_
    rw [k7]
    refine Ev.good_t (by simpa using k5) ?_
    have a1 : IntKind.wrap .i64 (liL sy lo hi at0 ho so he o d n + liH sy lo hi at0 ho so he o d n) = 2 * snN sy lo hi at0 ho so he o d n := by rw [w4, w5, w64 (by omega) (by omega)]; omega
    have a2 : IntKind.wrap .i64 (2 * snN sy lo hi at0 ho so he o d n) = 2 * snN sy lo hi at0 ho so he o d n := w64 (by omega) (by omega)
    have a3 : IntKind.wrap .i64 (liH sy lo hi at0 ho so he o d n - liL sy lo hi at0 ho so he o d n) = 4008 + 2 * bN sy lo hi at0 ho so he (ow ho lo hi n) := by rw [w4, w5, w64 (by omega) (by omega)]; omega
    have a4 : IntKind.wrap .i64 (2 * bN sy lo hi at0 ho so he (ow ho lo hi n)) = 2 * bN sy lo hi at0 ho so he (ow ho lo hi n) := w64 (by omega) (by omega)
    have a5 : IntKind.wrap .i64 (4008 + 2 * bN sy lo hi at0 ho so he (ow ho lo hi n)) = 4008 + 2 * bN sy lo hi at0 ho so he (ow ho lo hi n) := w64 (by omega) (by omega)
    rw [a1, a2, a3, a4, a5]
    refine Ev.good_t (by simp) ?_
    refine Ev.ite_good (fun _ => by simp [Ev.Tree.good]) (fun g1 => ?_)
    refine Ev.ite_good (fun _ => by simp [Ev.Tree.good]) (fun g2 => ?_)
    refine Ev.good_t (by simp) ?_
    simp only [decide_eq_false_iff_not] at g1 g2
    rw [w64 (x := 1000000000 - n) (by omega) (by omega)] at g2
    rw [w64 (x := n + m) (by omega) (by omega)]
    refine Ev.ite_good (fun _ => rfl) (fun h2 => ?_)
    have s2' : stE sy lo hi at0 ho so he o d (n + m) = 0 := by simpa using h2
    obtain ⟨j1, j2, j3, j4, j5, j6, j7, j8, j9, _⟩ := start_ok s2'
    obtain ⟨v1, v2, v3, v4, v5⟩ := win s2'
    have a6 : IntKind.wrap .i64 (liH sy lo hi at0 ho so he o d (n + m) - liL sy lo hi at0 ho so he o d (n + m)) = 4008 + 2 * bN sy lo hi at0 ho so he (ow ho lo hi (n + m)) := by rw [v4, v5, w64 (by omega) (by omega)]; omega
    rw [a6]
    have : bN sy lo hi at0 ho so he (ow ho lo hi n) ≤ bN sy lo hi at0 ho so he (ow ho lo hi (n + m)) := by
      obtain ⟨_, _, b3⟩ := bE_ok k5
      obtain ⟨_, _, c3⟩ := bE_ok j5
      rcases b3 with ⟨_, b4⟩ | ⟨b4, b5, b6, _, b8, b9⟩
      · rw [b4]; exact v1
      · rcases c3 with ⟨c4, _⟩ | ⟨_, _, c6, _, c8, c9⟩
        · omega
        · rw [b8, c8]
          have : ow ho lo hi n ≤ ow ho lo hi (n + m) := by unfold ow; split <;> omega
          have := more_mono (show ow ho lo hi n - at0 ≤ ow ho lo hi (n + m) - at0 by omega)
          omega
    have h9 : 4008 + 2 * bN sy lo hi at0 ho so he (ow ho lo hi (n + m)) ≥ 4008 + 2 * bN sy lo hi at0 ho so he (ow ho lo hi n) := by omega
    rw [decide_eq_true h9]; rfl
end Go.Proofs.Ytcgjfgahhpmcpaa
