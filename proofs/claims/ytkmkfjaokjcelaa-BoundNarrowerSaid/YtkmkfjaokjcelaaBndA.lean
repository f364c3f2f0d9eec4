/- Contracts of package bound. -/
import Derived.Test.YtkmkfjaokjcelaaKit2
namespace Go.Proofs.Ytkmkfjaokjcelaa
open Go.ChangeShapes Go.WideShapes Go.ChangeAt Go.RowKit
/-- whether a number lies between two -/
def inB (lo hi a : Int) : Bool := decide (lo ≤ a ∧ a ≤ hi)
theorem inB_t {lo hi a : Int} (h : inB lo hi a = true) : lo ≤ a ∧ a ≤ hi := by simpa [inB] using h
theorem within1 {lo hi a : Int} {v : Bool} (hv : inB lo hi a = v) (b o c : Nat) (w : World) (h0 : w.cell? ⟨b, o, none⟩ = some (.int .i64 a)) : Calls Try.prog 29 #[.int .i64 lo, .int .i64 hi, .slice (some ⟨b, o, none⟩) 1 c] w fun e w' => e = .returned (.bool v) ∧ w' = w := by
  subst hv
  have dB : inB lo hi a = decide (lo ≤ a ∧ a ≤ hi) := rfl
  by_cases h1 : a < lo
  · have hv : inB lo hi a = false := by simp [inB]; omega
    rw [hv]; clear hv dB
    have t_w := Below.refl w.heap.size w
    go_enter Try.func29, Try.ntmps29
    go_wp2_with fail
    refine wp_loop_rounds 2 ?_
    rw [rounds_succ]
    go_wp2_with fail
    go_ret
    exact ⟨rfl, rfl⟩
  · by_cases h2 : hi < a
    · have hv : inB lo hi a = false := by simp [inB]; omega
      rw [hv]; clear hv dB
      have t_w := Below.refl w.heap.size w
      go_enter Try.func29, Try.ntmps29
      go_wp2_with fail
      refine wp_loop_rounds 2 ?_
      rw [rounds_succ]
      go_wp2_with fail
      go_ret
      exact ⟨rfl, rfl⟩
    · have hv : inB lo hi a = true := by simp [inB]; omega
      rw [hv]; clear hv dB
      have t_w := Below.refl w.heap.size w
      go_enter Try.func29, Try.ntmps29
      go_wp2_with fail
      refine wp_loop_rounds 2 ?_
      rw [rounds_succ]
      go_wp2_with fail
      rw [rounds_succ]
      go_wp2_with fail
      go_ret
      exact ⟨rfl, rfl⟩
theorem within2 {lo hi a a2 : Int} {v : Bool} (hv : (inB lo hi a && inB lo hi a2) = v) (b o c : Nat) (w : World) (h0 : w.cell? ⟨b, o, none⟩ = some (.int .i64 a)) (h1 : w.cell? ⟨b, o + 1, none⟩ = some (.int .i64 a2)) : Calls Try.prog 29 #[.int .i64 lo, .int .i64 hi, .slice (some ⟨b, o, none⟩) 2 c] w fun e w' => e = .returned (.bool v) ∧ w' = w := by
  subst hv
  rcases e1 : inB lo hi a with _ | _
  · have hc : a < lo ∨ (lo ≤ a ∧ hi < a) := by simp [inB] at e1; omega
    clear e1
    simp only [Bool.false_and]
    rcases hc with hc | ⟨hc, hc2⟩
    all_goals
      have t_w := Below.refl w.heap.size w
      go_enter Try.func29, Try.ntmps29
      go_wp2_with fail
      refine wp_loop_rounds 3 ?_
      rw [rounds_succ]
      go_wp2_with fail
      go_ret
      exact ⟨rfl, rfl⟩
  · have hc := inB_t e1
    obtain ⟨c1, c2⟩ := hc
    rcases e2 : inB lo hi a2 with _ | _
    · have hc : a2 < lo ∨ (lo ≤ a2 ∧ hi < a2) := by simp [inB] at e2; omega
      clear e1 e2
      simp only [Bool.and_false]
      rcases hc with hc | ⟨hc, hc2⟩
      all_goals
        have t_w := Below.refl w.heap.size w
        go_enter Try.func29, Try.ntmps29
        go_wp2_with fail
        refine wp_loop_rounds 3 ?_
        rw [rounds_succ]
        go_wp2_with fail
        rw [rounds_succ]
        go_wp2_with fail
        go_ret
        exact ⟨rfl, rfl⟩
    · obtain ⟨c3, c4⟩ := inB_t e2
      clear e1 e2
      simp only [Bool.and_true]
      have t_w := Below.refl w.heap.size w
      go_enter Try.func29, Try.ntmps29
      go_wp2_with fail
      refine wp_loop_rounds 3 ?_
      rw [rounds_succ]
      go_wp2_with fail
      rw [rounds_succ]
      go_wp2_with fail
      rw [rounds_succ]
      go_wp2_with fail
      go_ret
      exact ⟨rfl, rfl⟩
def okS (lo hi a : Int) : Bool := decide (-20000000000000 ≤ lo ∧ lo ≤ hi ∧ hi ≤ 20000000000000 ∧ -2000000000 ≤ a ∧ a ≤ 20000000000000)
theorem okS_t {lo hi a : Int} (h : okS lo hi a = true) : -20000000000000 ≤ lo ∧ lo ≤ hi ∧ hi ≤ 20000000000000 ∧ -2000000000 ≤ a ∧ a ≤ 20000000000000 := by simpa [okS] using h
set_option maxHeartbeats 1000000 in
theorem svalid {lo hi a : Int} {v : Bool} (hv : okS lo hi a = v) (w : World) : Calls Try.prog 28 #[.agg #[.int .i64 lo, .int .i64 hi, .int .i64 a]] w fun e w' => e = .returned (.bool v) ∧ Below w.heap.size w w' := by
  subst hv
  rcases e1 : (inB (-20000000000000) 20000000000000 lo && inB (-20000000000000) 20000000000000 hi) with _ | _
  · have hv : okS lo hi a = false := by simp [inB] at e1; simp [okS]; omega
    rw [hv]
    have H1 := Lib.hid e1
    clear hv e1
    have t_w := Below.refl w.heap.size w
    go_enter Try.func28, Try.ntmps28
    go_wp2_with fail
    refine (within2 H1.out (w.heap.size + 1) 0 _ _ (by simp [go_sem]) (by simp [go_sem])).mono ?_
    rintro e w1 ⟨rfl, hw⟩; obtain rfl := hw.symm
    clear hw
    go_wp2_with fail
    go_ret
    exact ⟨rfl, by first | exact t_w | go_grown⟩
  · have hb : -20000000000000 ≤ lo ∧ lo ≤ 20000000000000 ∧ -20000000000000 ≤ hi ∧ hi ≤ 20000000000000 := by simp [inB] at e1; omega
    obtain ⟨b1, b2, b3, b4⟩ := hb
    have H1 := Lib.hid e1
    clear e1
    by_cases hle : lo ≤ hi
    · have hd : decide (lo ≤ hi) = true := by simp [hle]
      rcases e2 : inB (-2000000000) 20000000000000 a with _ | _
      · have hv : okS lo hi a = false := by simp [inB] at e2; simp [okS]; omega
        rw [hv]
        have H2 := Lib.hid e2
        clear hv e2
        have t_w := Below.refl w.heap.size w
        go_enter Try.func28, Try.ntmps28
        go_wp2_with fail
        refine (within2 H1.out (w.heap.size + 1) 0 _ _ (by simp [go_sem]) (by simp [go_sem])).mono ?_
        rintro e w1 ⟨rfl, hw⟩; obtain rfl := hw.symm
        clear hw
        go_wp2_with fail
        refine (within1 H2.out (w.heap.size + 2) 0 _ _ (by simp [go_sem])).mono ?_
        rintro e w1 ⟨rfl, hw⟩; obtain rfl := hw.symm
        clear hw
        go_wp2_with fail
        go_ret
        exact ⟨rfl, by first | exact t_w | go_grown⟩
      · have hv : okS lo hi a = true := by simp [inB] at e2; simp [okS]; omega
        rw [hv]
        have H2 := Lib.hid e2
        clear hv e2
        have t_w := Below.refl w.heap.size w
        go_enter Try.func28, Try.ntmps28
        go_wp2_with fail
        refine (within2 H1.out (w.heap.size + 1) 0 _ _ (by simp [go_sem]) (by simp [go_sem])).mono ?_
        rintro e w1 ⟨rfl, hw⟩; obtain rfl := hw.symm
        clear hw
        go_wp2_with fail
        refine (within1 H2.out (w.heap.size + 2) 0 _ _ (by simp [go_sem])).mono ?_
        rintro e w1 ⟨rfl, hw⟩; obtain rfl := hw.symm
        clear hw
        go_wp2_with fail
        go_ret
        exact ⟨rfl, by first | exact t_w | go_grown⟩
    · have hv : okS lo hi a = false := by simp [okS]; omega
      have hd : decide (lo ≤ hi) = false := by simp [hle]
      rw [hv]
      clear hv
      have t_w := Below.refl w.heap.size w
      go_enter Try.func28, Try.ntmps28
      go_wp2_with fail
      refine (within2 H1.out (w.heap.size + 1) 0 _ _ (by simp [go_sem]) (by simp [go_sem])).mono ?_
      rintro e w1 ⟨rfl, hw⟩; obtain rfl := hw.symm
      clear hw
      go_wp2_with fail
      go_ret
      exact ⟨rfl, by first | exact t_w | go_grown⟩
theorem widened (lo hi a n : Int) (b1 : -100000000000000 ≤ lo ∧ lo ≤ 100000000000000) (b2 : -100000000000000 ≤ hi ∧ hi ≤ 100000000000000) (b3 : 0 ≤ n ∧ n ≤ 100000000000000) (w : World) : Calls Try.prog 32 #[.agg #[.int .i64 lo, .int .i64 hi, .int .i64 a], .int .i64 n] w fun e w' => e = .returned (.agg #[.int .i64 (lo - n), .int .i64 (hi + n), .int .i64 a]) ∧ Below w.heap.size w w' := by
  obtain ⟨b1, b1'⟩ := b1; obtain ⟨b2, b2'⟩ := b2; obtain ⟨b3, b3'⟩ := b3
  have t_w := Below.refl w.heap.size w
  go_enter Try.func32, Try.ntmps32
  go_wp2_with fail
  refine bodyPost_ret (v := .agg #[.int .i64 (lo - n), .int .i64 (hi + n), .int .i64 a]) (by simp [results, Try.results32, go_sem, *]) rfl ⟨rfl, by first | exact t_w | go_grown⟩
def moreN (x : Int) : Int := (x * 51 + 999999) / 1000000 + 1
theorem grown {lo hi a now : Int} (h : okS lo hi a = true) (h1 : a ≤ now) (h2 : now ≤ 20000000000000) (w : World) : Calls Try.prog 30 #[.agg #[.int .i64 lo, .int .i64 hi, .int .i64 a], .int .i64 now] w fun e w' => e = .returned (.agg #[.int .i64 (lo - moreN (now - a)), .int .i64 (hi + moreN (now - a)), .int .i64 now]) ∧ Below w.heap.size w w' := by
  have hk := okS_t h
  obtain ⟨k1, k2, k3, k4, k5⟩ := hk
  have m0 : 0 ≤ moreN (now - a) ∧ moreN (now - a) ≤ 100000000000000 := by unfold moreN; omega
  have hw := fun w => widened lo hi now (moreN (now - a)) ⟨by omega, by omega⟩ ⟨by omega, by omega⟩ m0 w
  have HW := Lib.hid hw
  have e : (((now - a) * 51 + 1000000 - 1) / 1000000 + 1) = moreN (now - a) := by unfold moreN; omega
  have HE := Lib.hid e
  clear hw h e m0
  have t_w := Below.refl w.heap.size w
  go_enter Try.func30, Try.ntmps30
  go_wp2_with fail
  rw [HE.out]
  refine (HW.out _).mono ?_
  rintro e w1 ⟨rfl, g_w1⟩
  have s_w1 : Below w.heap.size w w1 := chain (by go_grown) g_w1
  have t_w1 := chain t_w s_w1
  have k0 : w1.cell? ⟨w.heap.size, 0, none⟩ = some (.int .i64 lo) := ((bcell g_w1).1 _ _ (by simp; try omega)).trans (by simp [go_sem])
  have k1 : w1.cell? ⟨w.heap.size, 1, none⟩ = some (.int .i64 hi) := ((bcell g_w1).1 _ _ (by simp; try omega)).trans (by simp [go_sem])
  have k2 : w1.cell? ⟨w.heap.size, 2, none⟩ = some (.int .i64 now) := ((bcell g_w1).1 _ _ (by simp; try omega)).trans (by simp [go_sem])
  have z_k_w1 := lt_of k0
  have r0 : w1.cell? ⟨w.heap.size + 1, 0, none⟩ = some (.int .i64 0) := ((bcell g_w1).1 _ _ (by simp; try omega)).trans (by simp [go_sem])
  have r1 : w1.cell? ⟨w.heap.size + 1, 1, none⟩ = some (.int .i64 0) := ((bcell g_w1).1 _ _ (by simp; try omega)).trans (by simp [go_sem])
  have r2 : w1.cell? ⟨w.heap.size + 1, 2, none⟩ = some (.int .i64 0) := ((bcell g_w1).1 _ _ (by simp; try omega)).trans (by simp [go_sem])
  have z_r_w1 := lt_of r0
  have rf : ∀ i, w1.frozen? ⟨w.heap.size + 1, i, none⟩ = false := fun i => ((bcell g_w1).2 _ _ (by simp; try omega)).trans (by simp [go_sem])
  clear g_w1 s_w1 t_w
  go_wp2_with fail
  refine bodyPost_ret (v := .agg #[.int .i64 (lo - moreN (now - a)), .int .i64 (hi + moreN (now - a)), .int .i64 now]) (by simp [results, Try.results30, go_sem, *]) rfl ⟨rfl, by first | exact t_w1 | go_grown⟩
theorem rmore (x : Int) (h0 : 0 ≤ x) (h1 : x ≤ 100000000000000) (w : World) : Calls Try.prog 31 #[.int .i64 x] w fun e w' => e = .returned (.int .i64 (moreN x)) ∧ w' = w := by
  have t_w := Below.refl w.heap.size w
  go_enter Try.func31, Try.ntmps31
  go_wp2_with fail
  go_ret
  exact ⟨rfl, rfl⟩
set_option maxHeartbeats 2000000 in
theorem rbvalid0 (lo hi a : Int) (w : World) : Calls Try.prog 19 #[.agg #[.int .i64 lo, .int .i64 hi, .int .i64 a]] w fun e w' => e = .returned (.bool (okS lo hi a)) ∧ Below w.heap.size w w' := by
  by_cases h1 : -20000000000000 ≤ lo
  · by_cases h2 : lo ≤ hi
    · by_cases h3 : hi ≤ 20000000000000
      · by_cases h4 : -2000000000 ≤ a
        · by_cases h5 : a ≤ 20000000000000
          all_goals
            have t_w := Below.refl w.heap.size w
            go_enter Try.func19, Try.ntmps19
            go_wp2_with fail
            go_ret
            exact ⟨ret_bool (by unfold okS; first | exact bt (by omega) | exact bf (by omega)), by go_grown⟩
        · have t_w := Below.refl w.heap.size w
          go_enter Try.func19, Try.ntmps19
          go_wp2_with fail
          go_ret
          exact ⟨ret_bool (by unfold okS; first | exact bt (by omega) | exact bf (by omega)), by go_grown⟩
      · have t_w := Below.refl w.heap.size w
        go_enter Try.func19, Try.ntmps19
        go_wp2_with fail
        go_ret
        exact ⟨ret_bool (by unfold okS; first | exact bt (by omega) | exact bf (by omega)), by go_grown⟩
    · have t_w := Below.refl w.heap.size w
      go_enter Try.func19, Try.ntmps19
      go_wp2_with fail
      go_ret
      exact ⟨ret_bool (by unfold okS; first | exact bt (by omega) | exact bf (by omega)), by go_grown⟩
  · have t_w := Below.refl w.heap.size w
    go_enter Try.func19, Try.ntmps19
    go_wp2_with fail
    go_ret
    exact ⟨ret_bool (by unfold okS; first | exact bt (by omega) | exact bf (by omega)), by go_grown⟩
theorem rbvalid {lo hi a : Int} {v : Bool} (hv : okS lo hi a = v) (w : World) : Calls Try.prog 19 #[.agg #[.int .i64 lo, .int .i64 hi, .int .i64 a]] w fun e w' => e = .returned (.bool v) ∧ Below w.heap.size w w' := by
  subst hv; exact rbvalid0 lo hi a w
theorem bvalid {lo hi a : Int} {v : Bool} (hv : okS lo hi a = v) (w : World) : Calls Try.prog 18 #[.agg #[.int .i64 lo, .int .i64 hi, .int .i64 a]] w fun e w' => e = .returned (.bool v) ∧ Below w.heap.size w w' := by
  have HV := Lib.hid hv
  clear hv
  have t_w := Below.refl w.heap.size w
  go_enter Try.func18, Try.ntmps18
  go_wp2_with fail
  refine (svalid HV.out _).mono ?_
  rintro e w1 ⟨rfl, g_w1⟩
  have s_w1 : Below w.heap.size w w1 := chain (by go_grown) g_w1
  have t_w1 := chain t_w s_w1
  have k0 : w1.cell? ⟨w.heap.size, 0, none⟩ = some (.int .i64 lo) := ((bcell g_w1).1 _ _ (by simp; try omega)).trans (by simp [go_sem])
  have k1 : w1.cell? ⟨w.heap.size, 1, none⟩ = some (.int .i64 hi) := ((bcell g_w1).1 _ _ (by simp; try omega)).trans (by simp [go_sem])
  have k2 : w1.cell? ⟨w.heap.size, 2, none⟩ = some (.int .i64 a) := ((bcell g_w1).1 _ _ (by simp; try omega)).trans (by simp [go_sem])
  have z_k_w1 := lt_of k0
  clear g_w1 s_w1 t_w
  go_wp2_with fail
  go_ret
  exact ⟨rfl, by first | exact t_w1 | go_grown⟩
def widthI (lo hi a : Int) : Int := if okS lo hi a = true then hi - lo else -1
theorem width {lo hi a v : Int} (hv : widthI lo hi a = v) (w : World) : Calls Try.prog 20 #[.agg #[.int .i64 lo, .int .i64 hi, .int .i64 a]] w fun e w' => e = .returned (.int .i64 v) ∧ Below w.heap.size w w' := by
  subst hv
  rcases hok : okS lo hi a with _ | _
  · have hv : widthI lo hi a = -1 := by simp [widthI, hok]
    rw [hv]
    have H := Lib.hid hok
    clear hv hok
    have t_w := Below.refl w.heap.size w
    go_enter Try.func20, Try.ntmps20
    go_wp2_with fail
    refine (bvalid H.out _).mono ?_
    rintro e w1 ⟨rfl, g_w1⟩
    have s_w1 : Below w.heap.size w w1 := chain (by go_grown) g_w1
    have t_w1 := chain t_w s_w1
    have k0 : w1.cell? ⟨w.heap.size, 0, none⟩ = some (.int .i64 lo) := ((bcell g_w1).1 _ _ (by simp; try omega)).trans (by simp [go_sem])
    have k1 : w1.cell? ⟨w.heap.size, 1, none⟩ = some (.int .i64 hi) := ((bcell g_w1).1 _ _ (by simp; try omega)).trans (by simp [go_sem])
    have k2 : w1.cell? ⟨w.heap.size, 2, none⟩ = some (.int .i64 a) := ((bcell g_w1).1 _ _ (by simp; try omega)).trans (by simp [go_sem])
    have z_k_w1 := lt_of k0
    clear g_w1 s_w1 t_w
    go_wp2_with fail
    go_ret
    exact ⟨rfl, by first | exact t_w1 | go_grown⟩
  · have hk := okS_t hok
    obtain ⟨k1, k2, k3, k4, k5⟩ := hk
    have hv : widthI lo hi a = hi - lo := by simp [widthI, hok]
    rw [hv]
    have H := Lib.hid hok
    clear hv hok
    have t_w := Below.refl w.heap.size w
    go_enter Try.func20, Try.ntmps20
    go_wp2_with fail
    refine (bvalid H.out _).mono ?_
    rintro e w1 ⟨rfl, g_w1⟩
    have s_w1 : Below w.heap.size w w1 := chain (by go_grown) g_w1
    have t_w1 := chain t_w s_w1
    have k0 : w1.cell? ⟨w.heap.size, 0, none⟩ = some (.int .i64 lo) := ((bcell g_w1).1 _ _ (by simp; try omega)).trans (by simp [go_sem])
    have k1 : w1.cell? ⟨w.heap.size, 1, none⟩ = some (.int .i64 hi) := ((bcell g_w1).1 _ _ (by simp; try omega)).trans (by simp [go_sem])
    have k2 : w1.cell? ⟨w.heap.size, 2, none⟩ = some (.int .i64 a) := ((bcell g_w1).1 _ _ (by simp; try omega)).trans (by simp [go_sem])
    have z_k_w1 := lt_of k0
    clear g_w1 s_w1 t_w
    go_wp2_with fail
    go_ret
    exact ⟨rfl, by first | exact t_w1 | go_grown⟩
theorem rwidth {lo hi a v : Int} (hv : widthI lo hi a = v) (w : World) : Calls Try.prog 21 #[.agg #[.int .i64 lo, .int .i64 hi, .int .i64 a]] w fun e w' => e = .returned (.int .i64 v) ∧ Below w.heap.size w w' := by
  subst hv
  rcases hok : okS lo hi a with _ | _
  · have hv : widthI lo hi a = -1 := by simp [widthI, hok]
    rw [hv]
    have H := Lib.hid hok
    clear hv hok
    have t_w := Below.refl w.heap.size w
    go_enter Try.func21, Try.ntmps21
    go_wp2_with fail
    refine (rbvalid H.out _).mono ?_
    rintro e w1 ⟨rfl, g_w1⟩
    have s_w1 : Below w.heap.size w w1 := chain (by go_grown) g_w1
    have t_w1 := chain t_w s_w1
    have k0 : w1.cell? ⟨w.heap.size, 0, none⟩ = some (.int .i64 lo) := ((bcell g_w1).1 _ _ (by simp; try omega)).trans (by simp [go_sem])
    have k1 : w1.cell? ⟨w.heap.size, 1, none⟩ = some (.int .i64 hi) := ((bcell g_w1).1 _ _ (by simp; try omega)).trans (by simp [go_sem])
    have k2 : w1.cell? ⟨w.heap.size, 2, none⟩ = some (.int .i64 a) := ((bcell g_w1).1 _ _ (by simp; try omega)).trans (by simp [go_sem])
    have z_k_w1 := lt_of k0
    clear g_w1 s_w1 t_w
    go_wp2_with fail
    go_ret
    exact ⟨rfl, by first | exact t_w1 | go_grown⟩
  · have hk := okS_t hok
    obtain ⟨k1, k2, k3, k4, k5⟩ := hk
    have hv : widthI lo hi a = hi - lo := by simp [widthI, hok]
    rw [hv]
    have H := Lib.hid hok
    clear hv hok
    have t_w := Below.refl w.heap.size w
    go_enter Try.func21, Try.ntmps21
    go_wp2_with fail
    refine (rbvalid H.out _).mono ?_
    rintro e w1 ⟨rfl, g_w1⟩
    have s_w1 : Below w.heap.size w w1 := chain (by go_grown) g_w1
    have t_w1 := chain t_w s_w1
    have k0 : w1.cell? ⟨w.heap.size, 0, none⟩ = some (.int .i64 lo) := ((bcell g_w1).1 _ _ (by simp; try omega)).trans (by simp [go_sem])
    have k1 : w1.cell? ⟨w.heap.size, 1, none⟩ = some (.int .i64 hi) := ((bcell g_w1).1 _ _ (by simp; try omega)).trans (by simp [go_sem])
    have k2 : w1.cell? ⟨w.heap.size, 2, none⟩ = some (.int .i64 a) := ((bcell g_w1).1 _ _ (by simp; try omega)).trans (by simp [go_sem])
    have z_k_w1 := lt_of k0
    clear g_w1 s_w1 t_w
    go_wp2_with fail
    go_ret
    exact ⟨rfl, by first | exact t_w1 | go_grown⟩
end Go.Proofs.Ytkmkfjaokjcelaa
