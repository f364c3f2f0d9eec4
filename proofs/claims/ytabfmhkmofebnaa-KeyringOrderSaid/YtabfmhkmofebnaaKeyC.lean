/- Contracts of the reference of keyring, and of the laws' helpers. -/
import Derived.Test.YtabfmhkmofebnaaKeyB
namespace Go.Proofs.Ytabfmhkmofebnaa
open Go.ChangeShapes Go.WideShapes Go.ChangeAt Go.RowKit
theorem rslot {a : Int} {v : Bool} (hv : oka a = v) (w : World) : Calls Try.prog 26 #[.int .i64 a] w fun e w' => e = .returned (.bool v) ∧ w' = w := by
  have hv' : decide (0 ≤ a ∧ a ≤ 1000000000) = v := hv
  have HV := Lib.hid hv'; clear hv hv'
  by_cases h1 : 0 ≤ a
  · by_cases h2 : a ≤ 1000000000
    · obtain rfl : true = v := by rw [← HV.out]; simp [h1, h2]
      clear HV
      have t_w := Below.refl w.heap.size w
      go_enter Try.func26, Try.ntmps26
      go_wp2_with fail
      go_ret
      exact ⟨rfl, rfl⟩
    · obtain rfl : false = v := by rw [← HV.out]; simp [h2]
      clear HV
      have d2 : decide (a ≤ 1000000000) = false := by simp; omega
      have t_w := Below.refl w.heap.size w
      go_enter Try.func26, Try.ntmps26
      go_wp2_with fail
      go_ret
      exact ⟨rfl, rfl⟩
  · obtain rfl : false = v := by rw [← HV.out]; simp [h1]
    clear HV
    have d1 : decide (0 ≤ a) = false := by simp; omega
    have t_w := Below.refl w.heap.size w
    go_enter Try.func26, Try.ntmps26
    go_wp2_with fail
    go_ret
    exact ⟨rfl, rfl⟩
theorem repoch1 {a q : Int} (h : oka a = true) (hq : a / 2000 = q) (w : World) : Calls Try.prog 12 #[.int .i64 a] w fun e w' => e = .returned (.tuple #[.int .i64 q, .int .i64 0]) ∧ w' = w := by
  obtain ⟨h0, h1⟩ := oka_t h
  have H := Lib.hid h; have HQ := Lib.hid hq; clear h hq
  have t_w := Below.refl w.heap.size w
  go_enter Try.func12, Try.ntmps12
  go_wp2_with fail
  refine (rslot H.out _).mono ?_
  rintro e w_5 ⟨rfl, hw⟩; obtain rfl := hw.symm
  clear hw
  go_wp2_with fail
  go_ret2
  exact ⟨by rw [HQ.out]; rfl, rfl⟩
theorem repoch0 {a : Int} (h : oka a = false) (w : World) : Calls Try.prog 12 #[.int .i64 a] w fun e w' => e = .returned (.tuple #[.int .i64 0, .int .i64 1]) ∧ w' = w := by
  have H := Lib.hid h; clear h
  have t_w := Below.refl w.heap.size w
  go_enter Try.func12, Try.ntmps12
  go_wp2_with fail
  refine (rslot H.out _).mono ?_
  rintro e w_7 ⟨rfl, hw⟩; obtain rfl := hw.symm
  clear hw
  go_wp2_with fail
  go_ret2
  exact ⟨rfl, rfl⟩
theorem rvalid {f n : Int} {v : Bool} (hv : okr f n = v) (w : World) : Calls Try.prog 28 #[.agg #[.int .i64 f, .int .i64 n]] w fun e w' => e = .returned (.bool v) ∧ Below w.heap.size w w' := by
  have HV := Lib.hid hv; clear hv
  by_cases h1 : f = 0 ∧ n = 0
  · obtain ⟨rfl, rfl⟩ := h1
    obtain rfl : true = v := by rw [← HV.out]; decide
    clear HV
    have t_w := Below.refl w.heap.size w
    go_enter Try.func28, Try.ntmps28
    go_wp2_with fail
    go_ret
    exact ⟨rfl, by go_grown⟩
  · have hn : (f == 0) = false ∨ ((f == 0) = true ∧ (n == 0) = false) := by
      by_cases h2 : f = 0
      · exact .inr ⟨by simp [h2], by simp; omega⟩
      · exact .inl (by simp [h2])
    have HV' : decide (0 ≤ f ∧ f ≤ 500000 ∧ f + 1 ≤ n ∧ n ≤ 500002) = v := by rw [← HV.out]; unfold okr; rw [decide_eq_decide]; omega
    clear HV; have HV := Lib.hid HV'; clear HV'
    by_cases g1 : 0 ≤ f
    · have d1 : decide (0 ≤ f) = true := by simp [g1]
      by_cases g2 : f ≤ 500000
      · have d2 : decide (f ≤ 500000) = true := by simp [g2]
        by_cases g3 : f < n
        · have d3 : decide (f < n) = true := by simp [g3]
          by_cases g4 : n ≤ 500002
          · have d4 : decide (n ≤ 500002) = true := by simp [g4]
            obtain rfl : true = v := by rw [← HV.out]; simp; omega
            clear HV
            rcases hn with e | ⟨e1, e2⟩
            all_goals
              clear h1
              have t_w := Below.refl w.heap.size w
              go_enter Try.func28, Try.ntmps28
              go_wp2_with fail
              go_ret
              exact ⟨rfl, by go_grown⟩
          · have d4 : decide (n ≤ 500002) = false := by simp; omega
            obtain rfl : false = v := by rw [← HV.out]; simp; omega
            clear HV
            rcases hn with e | ⟨e1, e2⟩
            all_goals
              clear h1
              have t_w := Below.refl w.heap.size w
              go_enter Try.func28, Try.ntmps28
              go_wp2_with fail
              go_ret
              exact ⟨rfl, by go_grown⟩
        · have d3 : decide (f < n) = false := by simp; omega
          obtain rfl : false = v := by rw [← HV.out]; simp; omega
          clear HV
          rcases hn with e | ⟨e1, e2⟩
          all_goals
            clear h1
            have t_w := Below.refl w.heap.size w
            go_enter Try.func28, Try.ntmps28
            go_wp2_with fail
            go_ret
            exact ⟨rfl, by go_grown⟩
      · have d2 : decide (f ≤ 500000) = false := by simp; omega
        obtain rfl : false = v := by rw [← HV.out]; simp; omega
        clear HV
        rcases hn with e | ⟨e1, e2⟩
        all_goals
          clear h1
          have t_w := Below.refl w.heap.size w
          go_enter Try.func28, Try.ntmps28
          go_wp2_with fail
          go_ret
          exact ⟨rfl, by go_grown⟩
    · have d1 : decide (0 ≤ f) = false := by simp; omega
      obtain rfl : false = v := by rw [← HV.out]; simp; omega
      clear HV
      rcases hn with e | ⟨e1, e2⟩
      all_goals
        clear h1
        have t_w := Below.refl w.heap.size w
        go_enter Try.func28, Try.ntmps28
        go_wp2_with fail
        go_ret
        exact ⟨rfl, by go_grown⟩
theorem rknows {f n e : Int} {v : Bool} (hv : knb f n e = v) (w : World) : Calls Try.prog 14 #[.agg #[.int .i64 f, .int .i64 n], .int .i64 e] w fun e w' => e = .returned (.bool v) ∧ Below w.heap.size w w' := by
  rcases ho : okr f n with _ | _
  · obtain rfl : false = v := by rw [← hv]; simp [knb, ho]
    have HO := Lib.hid ho; clear ho hv
    have t_w := Below.refl w.heap.size w
    go_enter Try.func14, Try.ntmps14
    go_wp2_with fail
    refine (rvalid HO.out _).mono ?_
    rintro e x1 ⟨rfl, g_x1⟩
    have s_x1 : Below w.heap.size w x1 := chain (by go_grown) g_x1
    have t_x1 := chain t_w s_x1
    have k0 : x1.cell? ⟨w.heap.size, 0, none⟩ = some (.int .i64 f) := ((bcell g_x1).1 _ _ (by simp; try omega)).trans (by simp [go_sem])
    have k1 : x1.cell? ⟨w.heap.size, 1, none⟩ = some (.int .i64 n) := ((bcell g_x1).1 _ _ (by simp; try omega)).trans (by simp [go_sem])
    have z_k_x1 := lt_of k0
    clear g_x1 s_x1 t_w
    go_wp2_with fail
    go_ret
    exact ⟨rfl, by first | exact t_x1 | go_grown⟩
  · have hv' : decide (f ≤ e ∧ e < n) = v := by rw [← hv]; simp [knb, ho]
    have HO := Lib.hid ho; have HV := Lib.hid hv'; clear ho hv hv'
    by_cases h1 : f ≤ e
    · have d1 : decide (f ≤ e) = true := by simp [h1]
      by_cases h2 : e < n
      · have d2 : decide (e < n) = true := by simp [h2]
        obtain rfl : true = v := by rw [← HV.out]; simp [h1, h2]
        clear HV
        have t_w := Below.refl w.heap.size w
        go_enter Try.func14, Try.ntmps14
        go_wp2_with fail
        refine (rvalid HO.out _).mono ?_
        rintro e x1 ⟨rfl, g_x1⟩
        have s_x1 : Below w.heap.size w x1 := chain (by go_grown) g_x1
        have t_x1 := chain t_w s_x1
        have k0 : x1.cell? ⟨w.heap.size, 0, none⟩ = some (.int .i64 f) := ((bcell g_x1).1 _ _ (by simp; try omega)).trans (by simp [go_sem])
        have k1 : x1.cell? ⟨w.heap.size, 1, none⟩ = some (.int .i64 n) := ((bcell g_x1).1 _ _ (by simp; try omega)).trans (by simp [go_sem])
        have z_k_x1 := lt_of k0
        clear g_x1 s_x1 t_w
        go_wp2_with fail
        go_ret
        exact ⟨rfl, by first | exact t_x1 | go_grown⟩
      · have d2 : decide (e < n) = false := by simp; omega
        obtain rfl : false = v := by rw [← HV.out]; simp [h2]
        clear HV
        have t_w := Below.refl w.heap.size w
        go_enter Try.func14, Try.ntmps14
        go_wp2_with fail
        refine (rvalid HO.out _).mono ?_
        rintro e x1 ⟨rfl, g_x1⟩
        have s_x1 : Below w.heap.size w x1 := chain (by go_grown) g_x1
        have t_x1 := chain t_w s_x1
        have k0 : x1.cell? ⟨w.heap.size, 0, none⟩ = some (.int .i64 f) := ((bcell g_x1).1 _ _ (by simp; try omega)).trans (by simp [go_sem])
        have k1 : x1.cell? ⟨w.heap.size, 1, none⟩ = some (.int .i64 n) := ((bcell g_x1).1 _ _ (by simp; try omega)).trans (by simp [go_sem])
        have z_k_x1 := lt_of k0
        clear g_x1 s_x1 t_w
        go_wp2_with fail
        go_ret
        exact ⟨rfl, by first | exact t_x1 | go_grown⟩
    · obtain rfl : false = v := by rw [← HV.out]; simp [h1]
      have d1 : decide (f ≤ e) = false := by simp [h1]
      clear HV
      have t_w := Below.refl w.heap.size w
      go_enter Try.func14, Try.ntmps14
      go_wp2_with fail
      refine (rvalid HO.out _).mono ?_
      rintro e x1 ⟨rfl, g_x1⟩
      have s_x1 : Below w.heap.size w x1 := chain (by go_grown) g_x1
      have t_x1 := chain t_w s_x1
      have k0 : x1.cell? ⟨w.heap.size, 0, none⟩ = some (.int .i64 f) := ((bcell g_x1).1 _ _ (by simp; try omega)).trans (by simp [go_sem])
      have k1 : x1.cell? ⟨w.heap.size, 1, none⟩ = some (.int .i64 n) := ((bcell g_x1).1 _ _ (by simp; try omega)).trans (by simp [go_sem])
      have z_k_x1 := lt_of k0
      clear g_x1 s_x1 t_w
      go_wp2_with fail
      go_ret
      exact ⟨rfl, by first | exact t_x1 | go_grown⟩
theorem rroot1 {a q : Int} (h : oka a = true) (hq : a / 2000 = q) (w : World) : Calls Try.prog 16 #[.int .i64 a] w fun e w' => e = .returned (.agg #[.int .i64 q, .int .i64 (q + 2)]) ∧ Below w.heap.size w w' := by
  obtain ⟨h0, h1⟩ := oka_t h
  have q0 : 0 ≤ q := by omega
  have q1 : q ≤ 500000 := by omega
  have H := Lib.hid h; have HQ := Lib.hid hq; clear h hq
  have t_w := Below.refl w.heap.size w
  go_enter Try.func16, Try.ntmps16
  go_wp2_with fail
  refine (repoch1 H.out HQ.out _).mono ?_
  rintro e w_31 ⟨rfl, hw⟩; obtain rfl := hw.symm
  clear hw
  go_wp2_with fail
  refine bodyPost_ret (v := .agg #[.int .i64 q, .int .i64 (q + 2)]) (by simp [results, Try.results16, go_sem, *]) rfl ⟨rfl, by first | exact t_w | go_grown⟩
theorem rroot0 {a : Int} (h : oka a = false) (w : World) : Calls Try.prog 16 #[.int .i64 a] w fun e w' => e = .returned (.agg #[.int .i64 0, .int .i64 0]) ∧ Below w.heap.size w w' := by
  have H := Lib.hid h; clear h
  have t_w := Below.refl w.heap.size w
  go_enter Try.func16, Try.ntmps16
  go_wp2_with fail
  refine (repoch0 H.out _).mono ?_
  rintro e w_34 ⟨rfl, hw⟩; obtain rfl := hw.symm
  clear hw
  go_wp2_with fail
  refine bodyPost_ret (v := .agg #[.int .i64 0, .int .i64 0]) (by simp [results, Try.results16, go_sem, *]) rfl ⟨rfl, by first | exact t_w | go_grown⟩
set_option maxHeartbeats 1000000 in
theorem rlearn {f n g m a x y : Int} (hx : lrF f n g m a = x) (hy : lrN f n g m a = y) (w : World) :
    Calls Try.prog 18 #[.agg #[.int .i64 f, .int .i64 n], .agg #[.int .i64 g, .int .i64 m], .int .i64 a] w fun e w' => e = .returned (.agg #[.int .i64 x, .int .i64 y]) ∧ Below w.heap.size w w' := by
  rcases ha : oka a with _ | _
  · obtain rfl : f = x := by rw [← hx]; simp [lrF, lrn, ha]
    obtain rfl : n = y := by rw [← hy]; simp [lrN, lrn, ha]
    have HA := Lib.hid ha; clear ha hx hy
    have t_w := Below.refl w.heap.size w
    go_enter Try.func18, Try.ntmps18
    go_wp2_with fail
    refine (repoch0 HA.out _).mono ?_
    rintro e w_40 ⟨rfl, hw⟩; obtain rfl := hw.symm
    clear hw
    go_wp2_with fail
    refine bodyPost_ret (v := .agg #[.int .i64 f, .int .i64 n]) (by simp [results, Try.results18, go_sem, *]) rfl ⟨rfl, by go_grown⟩
  · obtain ⟨h0, h1⟩ := oka_t ha
    generalize hq : a / 2000 = q at *
    have q0 : 0 ≤ q := by omega
    have q1 : q ≤ 500000 := by omega
    have HA := Lib.hid ha; have HQ := Lib.hid hq
    rcases hk : knb f n q with _ | _
    · obtain rfl : f = x := by rw [← hx]; simp [lrF, lrn, hq, hk]
      obtain rfl : n = y := by rw [← hy]; simp [lrN, lrn, hq, hk]
      have HK := Lib.hid hk; clear ha hq hk hx hy
      have t_w := Below.refl w.heap.size w
      go_enter Try.func18, Try.ntmps18
      go_wp2_with fail
      refine (repoch1 HA.out HQ.out _).mono ?_
      rintro e w_45 ⟨rfl, hw⟩; obtain rfl := hw.symm
      clear hw
      go_wp2_with fail
      refine (rknows HK.out _).mono ?_
      rintro e x2 ⟨rfl, g_x2⟩
      have s_x2 : Below w.heap.size w x2 := chain (by go_grown) g_x2
      have t_x2 := chain t_w s_x2
      have p0 : x2.cell? ⟨w.heap.size, 0, none⟩ = some (.int .i64 f) := ((bcell g_x2).1 _ _ (by simp; try omega)).trans (by simp [go_sem])
      have p1 : x2.cell? ⟨w.heap.size, 1, none⟩ = some (.int .i64 n) := ((bcell g_x2).1 _ _ (by simp; try omega)).trans (by simp [go_sem])
      have z_p_x2 := lt_of p0
      have q0 : x2.cell? ⟨w.heap.size + 1, 0, none⟩ = some (.int .i64 g) := ((bcell g_x2).1 _ _ (by simp; try omega)).trans (by simp [go_sem])
      have q1 : x2.cell? ⟨w.heap.size + 1, 1, none⟩ = some (.int .i64 m) := ((bcell g_x2).1 _ _ (by simp; try omega)).trans (by simp [go_sem])
      have z_q_x2 := lt_of q0
      have r0 : x2.cell? ⟨w.heap.size + 2, 0, none⟩ = some (.int .i64 0) := ((bcell g_x2).1 _ _ (by simp; try omega)).trans (by simp [go_sem])
      have r1 : x2.cell? ⟨w.heap.size + 2, 1, none⟩ = some (.int .i64 0) := ((bcell g_x2).1 _ _ (by simp; try omega)).trans (by simp [go_sem])
      have z_r_x2 := lt_of r0
      have rf : ∀ i, x2.frozen? ⟨w.heap.size + 2, i, none⟩ = false := fun i => ((bcell g_x2).2 _ _ (by simp; try omega)).trans (by simp [go_sem])
      clear g_x2 s_x2 t_w
      go_wp2_with fail
      refine bodyPost_ret (v := .agg #[.int .i64 f, .int .i64 n]) (by simp [results, Try.results18, go_sem, *]) rfl ⟨rfl, by go_grown⟩
    · rcases hm : knb g m q with _ | _
      · obtain rfl : f = x := by rw [← hx]; simp [lrF, lrn, hq, hm]
        obtain rfl : n = y := by rw [← hy]; simp [lrN, lrn, hq, hm]
        have HK := Lib.hid hk; have HM := Lib.hid hm; clear ha hq hk hm hx hy
        have t_w := Below.refl w.heap.size w
        go_enter Try.func18, Try.ntmps18
        go_wp2_with fail
        refine (repoch1 HA.out HQ.out _).mono ?_
        rintro e w_51 ⟨rfl, hw⟩; obtain rfl := hw.symm
        clear hw
        go_wp2_with fail
        refine (rknows HK.out _).mono ?_
        rintro e x2 ⟨rfl, g_x2⟩
        have s_x2 : Below w.heap.size w x2 := chain (by go_grown) g_x2
        have t_x2 := chain t_w s_x2
        have p0 : x2.cell? ⟨w.heap.size, 0, none⟩ = some (.int .i64 f) := ((bcell g_x2).1 _ _ (by simp; try omega)).trans (by simp [go_sem])
        have p1 : x2.cell? ⟨w.heap.size, 1, none⟩ = some (.int .i64 n) := ((bcell g_x2).1 _ _ (by simp; try omega)).trans (by simp [go_sem])
        have z_p_x2 := lt_of p0
        have q0 : x2.cell? ⟨w.heap.size + 1, 0, none⟩ = some (.int .i64 g) := ((bcell g_x2).1 _ _ (by simp; try omega)).trans (by simp [go_sem])
        have q1 : x2.cell? ⟨w.heap.size + 1, 1, none⟩ = some (.int .i64 m) := ((bcell g_x2).1 _ _ (by simp; try omega)).trans (by simp [go_sem])
        have z_q_x2 := lt_of q0
        have r0 : x2.cell? ⟨w.heap.size + 2, 0, none⟩ = some (.int .i64 0) := ((bcell g_x2).1 _ _ (by simp; try omega)).trans (by simp [go_sem])
        have r1 : x2.cell? ⟨w.heap.size + 2, 1, none⟩ = some (.int .i64 0) := ((bcell g_x2).1 _ _ (by simp; try omega)).trans (by simp [go_sem])
        have z_r_x2 := lt_of r0
        have rf : ∀ i, x2.frozen? ⟨w.heap.size + 2, i, none⟩ = false := fun i => ((bcell g_x2).2 _ _ (by simp; try omega)).trans (by simp [go_sem])
        clear g_x2 s_x2 t_w
        go_wp2_with fail
        refine (rknows HM.out _).mono ?_
        rintro e x3 ⟨rfl, g_x3⟩
        have s_x3 : Below x2.heap.size x2 x3 := chain (by go_grown) g_x3
        have t_x3 := chain t_x2 s_x3
        replace rf := fkeep2 rf (lt_of r0) s_x3
        replace p0 := keep p0 s_x3
        have z_p0_x3 := lt_of p0
        replace p1 := keep p1 s_x3
        replace q0 := keep q0 s_x3
        have z_q0_x3 := lt_of q0
        replace q1 := keep q1 s_x3
        replace r0 := keep r0 s_x3
        have z_r0_x3 := lt_of r0
        replace r1 := keep r1 s_x3
        clear g_x3 s_x3 z_p_x2 z_q_x2 z_r_x2 t_x2
        go_wp2_with fail
        refine bodyPost_ret (v := .agg #[.int .i64 f, .int .i64 n]) (by simp [results, Try.results18, go_sem, *]) rfl ⟨rfl, by go_grown⟩
      · have m0 := okr_b (knb_t hm).1
        obtain ⟨m0, m1, m2, m3⟩ := m0
        have HK := Lib.hid hk; have HM := Lib.hid hm
        by_cases hc : m ≤ q + 2
        · have hl : lrn f n g m a = true := by simp [lrn, ha, hq, hk, hm, hc]
          have hf : (if g < f then g else f) = x := by rw [← hx]; simp [lrF, hl]
          have hn : (if n < m then m else n) = y := by rw [← hy]; simp [lrN, hl]
          clear ha hq hk hm hx hy hl
          have t_w := Below.refl w.heap.size w
          go_enter Try.func18, Try.ntmps18
          go_wp2_with fail
          refine (repoch1 HA.out HQ.out _).mono ?_
          rintro e w_58 ⟨rfl, hw⟩; obtain rfl := hw.symm
          clear hw
          go_wp2_with fail
          refine (rknows HK.out _).mono ?_
          rintro e x2 ⟨rfl, g_x2⟩
          have s_x2 : Below w.heap.size w x2 := chain (by go_grown) g_x2
          have t_x2 := chain t_w s_x2
          have p0 : x2.cell? ⟨w.heap.size, 0, none⟩ = some (.int .i64 f) := ((bcell g_x2).1 _ _ (by simp; try omega)).trans (by simp [go_sem])
          have p1 : x2.cell? ⟨w.heap.size, 1, none⟩ = some (.int .i64 n) := ((bcell g_x2).1 _ _ (by simp; try omega)).trans (by simp [go_sem])
          have z_p_x2 := lt_of p0
          have q0 : x2.cell? ⟨w.heap.size + 1, 0, none⟩ = some (.int .i64 g) := ((bcell g_x2).1 _ _ (by simp; try omega)).trans (by simp [go_sem])
          have q1 : x2.cell? ⟨w.heap.size + 1, 1, none⟩ = some (.int .i64 m) := ((bcell g_x2).1 _ _ (by simp; try omega)).trans (by simp [go_sem])
          have z_q_x2 := lt_of q0
          have r0 : x2.cell? ⟨w.heap.size + 2, 0, none⟩ = some (.int .i64 0) := ((bcell g_x2).1 _ _ (by simp; try omega)).trans (by simp [go_sem])
          have r1 : x2.cell? ⟨w.heap.size + 2, 1, none⟩ = some (.int .i64 0) := ((bcell g_x2).1 _ _ (by simp; try omega)).trans (by simp [go_sem])
          have z_r_x2 := lt_of r0
          have rf : ∀ i, x2.frozen? ⟨w.heap.size + 2, i, none⟩ = false := fun i => ((bcell g_x2).2 _ _ (by simp; try omega)).trans (by simp [go_sem])
          clear g_x2 s_x2 t_w
          go_wp2_with fail
          refine (rknows HM.out _).mono ?_
          rintro e x3 ⟨rfl, g_x3⟩
          have s_x3 : Below x2.heap.size x2 x3 := chain (by go_grown) g_x3
          have t_x3 := chain t_x2 s_x3
          replace rf := fkeep2 rf (lt_of r0) s_x3
          replace p0 := keep p0 s_x3
          have z_p0_x3 := lt_of p0
          replace p1 := keep p1 s_x3
          replace q0 := keep q0 s_x3
          have z_q0_x3 := lt_of q0
          replace q1 := keep q1 s_x3
          replace r0 := keep r0 s_x3
          have z_r0_x3 := lt_of r0
          replace r1 := keep r1 s_x3
          clear g_x3 s_x3 z_p_x2 z_q_x2 z_r_x2 t_x2
          go_wp2_with fail
          refine bodyPost_ret (v := .agg #[.int .i64 x, .int .i64 y]) (by simp [results, Try.results18, go_sem, *]) rfl ⟨rfl, by go_grown⟩
        · have hl : lrn f n g m a = false := by simp [lrn, ha, hq, hk, hm, hc]
          obtain rfl : f = x := by rw [← hx]; simp [lrF, hl]
          obtain rfl : n = y := by rw [← hy]; simp [lrN, hl]
          clear ha hq hk hm hx hy hl
          have t_w := Below.refl w.heap.size w
          go_enter Try.func18, Try.ntmps18
          go_wp2_with fail
          refine (repoch1 HA.out HQ.out _).mono ?_
          rintro e w_65 ⟨rfl, hw⟩; obtain rfl := hw.symm
          clear hw
          go_wp2_with fail
          refine (rknows HK.out _).mono ?_
          rintro e x2 ⟨rfl, g_x2⟩
          have s_x2 : Below w.heap.size w x2 := chain (by go_grown) g_x2
          have t_x2 := chain t_w s_x2
          have p0 : x2.cell? ⟨w.heap.size, 0, none⟩ = some (.int .i64 f) := ((bcell g_x2).1 _ _ (by simp; try omega)).trans (by simp [go_sem])
          have p1 : x2.cell? ⟨w.heap.size, 1, none⟩ = some (.int .i64 n) := ((bcell g_x2).1 _ _ (by simp; try omega)).trans (by simp [go_sem])
          have z_p_x2 := lt_of p0
          have q0 : x2.cell? ⟨w.heap.size + 1, 0, none⟩ = some (.int .i64 g) := ((bcell g_x2).1 _ _ (by simp; try omega)).trans (by simp [go_sem])
          have q1 : x2.cell? ⟨w.heap.size + 1, 1, none⟩ = some (.int .i64 m) := ((bcell g_x2).1 _ _ (by simp; try omega)).trans (by simp [go_sem])
          have z_q_x2 := lt_of q0
          have r0 : x2.cell? ⟨w.heap.size + 2, 0, none⟩ = some (.int .i64 0) := ((bcell g_x2).1 _ _ (by simp; try omega)).trans (by simp [go_sem])
          have r1 : x2.cell? ⟨w.heap.size + 2, 1, none⟩ = some (.int .i64 0) := ((bcell g_x2).1 _ _ (by simp; try omega)).trans (by simp [go_sem])
          have z_r_x2 := lt_of r0
          have rf : ∀ i, x2.frozen? ⟨w.heap.size + 2, i, none⟩ = false := fun i => ((bcell g_x2).2 _ _ (by simp; try omega)).trans (by simp [go_sem])
          clear g_x2 s_x2 t_w
          go_wp2_with fail
          refine (rknows HM.out _).mono ?_
          rintro e x3 ⟨rfl, g_x3⟩
          have s_x3 : Below x2.heap.size x2 x3 := chain (by go_grown) g_x3
          have t_x3 := chain t_x2 s_x3
          replace rf := fkeep2 rf (lt_of r0) s_x3
          replace p0 := keep p0 s_x3
          have z_p0_x3 := lt_of p0
          replace p1 := keep p1 s_x3
          replace q0 := keep q0 s_x3
          have z_q0_x3 := lt_of q0
          replace q1 := keep q1 s_x3
          replace r0 := keep r0 s_x3
          have z_r0_x3 := lt_of r0
          replace r1 := keep r1 s_x3
          clear g_x3 s_x3 z_p_x2 z_q_x2 z_r_x2 t_x2
          go_wp2_with fail
          refine bodyPost_ret (v := .agg #[.int .i64 f, .int .i64 n]) (by simp [results, Try.results18, go_sem, *]) rfl ⟨rfl, by go_grown⟩
set_option maxHeartbeats 1000000 in
theorem rage {f n a x y : Int} (hx : agF f n a = x) (hy : agN f n a = y) (w : World) :
    Calls Try.prog 20 #[.agg #[.int .i64 f, .int .i64 n], .int .i64 a] w fun e w' => e = .returned (.agg #[.int .i64 x, .int .i64 y]) ∧ Below w.heap.size w w' := by
  rcases ha : oka a with _ | _
  · obtain rfl : f = x := by rw [← hx]; simp [agF, agd, ha]
    obtain rfl : n = y := by rw [← hy]; simp [agN, agd, ha]
    have HA := Lib.hid ha; clear ha hx hy
    have t_w := Below.refl w.heap.size w
    go_enter Try.func20, Try.ntmps20
    go_wp2_with fail
    refine (repoch0 HA.out _).mono ?_
    rintro e w_71 ⟨rfl, hw⟩; obtain rfl := hw.symm
    clear hw
    go_wp2_with fail
    refine bodyPost_ret (v := .agg #[.int .i64 f, .int .i64 n]) (by simp [results, Try.results20, go_sem, *]) rfl ⟨rfl, by go_grown⟩
  · obtain ⟨h0, h1⟩ := oka_t ha
    generalize hq : a / 2000 = q at *
    have q0 : 0 ≤ q := by omega
    have q1 : q ≤ 500000 := by omega
    have HA := Lib.hid ha; have HQ := Lib.hid hq
    rcases hk : okr f n with _ | _
    · obtain rfl : f = x := by rw [← hx]; simp [agF, agd, hk]
      obtain rfl : n = y := by rw [← hy]; simp [agN, agd, hk]
      have HK := Lib.hid hk; clear ha hq hk hx hy
      have t_w := Below.refl w.heap.size w
      go_enter Try.func20, Try.ntmps20
      go_wp2_with fail
      refine (repoch1 HA.out HQ.out _).mono ?_
      rintro e w_75 ⟨rfl, hw⟩; obtain rfl := hw.symm
      clear hw
      go_wp2_with fail
      refine (rvalid HK.out _).mono ?_
      rintro e x2 ⟨rfl, g_x2⟩
      have s_x2 : Below w.heap.size w x2 := chain (by go_grown) g_x2
      have t_x2 := chain t_w s_x2
      have p0 : x2.cell? ⟨w.heap.size, 0, none⟩ = some (.int .i64 f) := ((bcell g_x2).1 _ _ (by simp; try omega)).trans (by simp [go_sem])
      have p1 : x2.cell? ⟨w.heap.size, 1, none⟩ = some (.int .i64 n) := ((bcell g_x2).1 _ _ (by simp; try omega)).trans (by simp [go_sem])
      have z_p_x2 := lt_of p0
      have r0 : x2.cell? ⟨w.heap.size + 1, 0, none⟩ = some (.int .i64 0) := ((bcell g_x2).1 _ _ (by simp; try omega)).trans (by simp [go_sem])
      have r1 : x2.cell? ⟨w.heap.size + 1, 1, none⟩ = some (.int .i64 0) := ((bcell g_x2).1 _ _ (by simp; try omega)).trans (by simp [go_sem])
      have z_r_x2 := lt_of r0
      have rf : ∀ i, x2.frozen? ⟨w.heap.size + 1, i, none⟩ = false := fun i => ((bcell g_x2).2 _ _ (by simp; try omega)).trans (by simp [go_sem])
      clear g_x2 s_x2 t_w
      go_wp2_with fail
      refine bodyPost_ret (v := .agg #[.int .i64 f, .int .i64 n]) (by simp [results, Try.results20, go_sem, *]) rfl ⟨rfl, by go_grown⟩
    · have HK := Lib.hid hk
      by_cases hc : f < q
      · have hl : agd f n a = true := by simp [agd, ha, hq, hk, hc]
        by_cases hd : n ≤ q
        · obtain rfl : 0 = x := by rw [← hx]; simp [agF, hl, hq, hd]
          obtain rfl : 0 = y := by rw [← hy]; simp [agN, hl, hq, hd]
          clear ha hq hk hx hy hl
          have t_w := Below.refl w.heap.size w
          go_enter Try.func20, Try.ntmps20
          go_wp2_with fail
          refine (repoch1 HA.out HQ.out _).mono ?_
          rintro e w_80 ⟨rfl, hw⟩; obtain rfl := hw.symm
          clear hw
          go_wp2_with fail
          refine (rvalid HK.out _).mono ?_
          rintro e x2 ⟨rfl, g_x2⟩
          have s_x2 : Below w.heap.size w x2 := chain (by go_grown) g_x2
          have t_x2 := chain t_w s_x2
          have p0 : x2.cell? ⟨w.heap.size, 0, none⟩ = some (.int .i64 f) := ((bcell g_x2).1 _ _ (by simp; try omega)).trans (by simp [go_sem])
          have p1 : x2.cell? ⟨w.heap.size, 1, none⟩ = some (.int .i64 n) := ((bcell g_x2).1 _ _ (by simp; try omega)).trans (by simp [go_sem])
          have z_p_x2 := lt_of p0
          have r0 : x2.cell? ⟨w.heap.size + 1, 0, none⟩ = some (.int .i64 0) := ((bcell g_x2).1 _ _ (by simp; try omega)).trans (by simp [go_sem])
          have r1 : x2.cell? ⟨w.heap.size + 1, 1, none⟩ = some (.int .i64 0) := ((bcell g_x2).1 _ _ (by simp; try omega)).trans (by simp [go_sem])
          have z_r_x2 := lt_of r0
          have rf : ∀ i, x2.frozen? ⟨w.heap.size + 1, i, none⟩ = false := fun i => ((bcell g_x2).2 _ _ (by simp; try omega)).trans (by simp [go_sem])
          clear g_x2 s_x2 t_w
          go_wp2_with fail
          refine bodyPost_ret (v := .agg #[.int .i64 0, .int .i64 0]) (by simp [results, Try.results20, go_sem, *]) rfl ⟨rfl, by go_grown⟩
        · obtain rfl : q = x := by rw [← hx]; simp [agF, hl, hq, hd]
          obtain rfl : n = y := by rw [← hy]; simp [agN, hl, hq, hd]
          clear ha hq hk hx hy hl
          have t_w := Below.refl w.heap.size w
          go_enter Try.func20, Try.ntmps20
          go_wp2_with fail
          refine (repoch1 HA.out HQ.out _).mono ?_
          rintro e w_85 ⟨rfl, hw⟩; obtain rfl := hw.symm
          clear hw
          go_wp2_with fail
          refine (rvalid HK.out _).mono ?_
          rintro e x2 ⟨rfl, g_x2⟩
          have s_x2 : Below w.heap.size w x2 := chain (by go_grown) g_x2
          have t_x2 := chain t_w s_x2
          have p0 : x2.cell? ⟨w.heap.size, 0, none⟩ = some (.int .i64 f) := ((bcell g_x2).1 _ _ (by simp; try omega)).trans (by simp [go_sem])
          have p1 : x2.cell? ⟨w.heap.size, 1, none⟩ = some (.int .i64 n) := ((bcell g_x2).1 _ _ (by simp; try omega)).trans (by simp [go_sem])
          have z_p_x2 := lt_of p0
          have r0 : x2.cell? ⟨w.heap.size + 1, 0, none⟩ = some (.int .i64 0) := ((bcell g_x2).1 _ _ (by simp; try omega)).trans (by simp [go_sem])
          have r1 : x2.cell? ⟨w.heap.size + 1, 1, none⟩ = some (.int .i64 0) := ((bcell g_x2).1 _ _ (by simp; try omega)).trans (by simp [go_sem])
          have z_r_x2 := lt_of r0
          have rf : ∀ i, x2.frozen? ⟨w.heap.size + 1, i, none⟩ = false := fun i => ((bcell g_x2).2 _ _ (by simp; try omega)).trans (by simp [go_sem])
          clear g_x2 s_x2 t_w
          go_wp2_with fail
          refine bodyPost_ret (v := .agg #[.int .i64 q, .int .i64 n]) (by simp [results, Try.results20, go_sem, *]) rfl ⟨rfl, by go_grown⟩
      · have hl : agd f n a = false := by simp [agd, hq, hc]
        obtain rfl : f = x := by rw [← hx]; simp [agF, hl]
        obtain rfl : n = y := by rw [← hy]; simp [agN, hl]
        clear ha hq hk hx hy hl
        have t_w := Below.refl w.heap.size w
        go_enter Try.func20, Try.ntmps20
        go_wp2_with fail
        refine (repoch1 HA.out HQ.out _).mono ?_
        rintro e w_90 ⟨rfl, hw⟩; obtain rfl := hw.symm
        clear hw
        go_wp2_with fail
        refine (rvalid HK.out _).mono ?_
        rintro e x2 ⟨rfl, g_x2⟩
        have s_x2 : Below w.heap.size w x2 := chain (by go_grown) g_x2
        have t_x2 := chain t_w s_x2
        have p0 : x2.cell? ⟨w.heap.size, 0, none⟩ = some (.int .i64 f) := ((bcell g_x2).1 _ _ (by simp; try omega)).trans (by simp [go_sem])
        have p1 : x2.cell? ⟨w.heap.size, 1, none⟩ = some (.int .i64 n) := ((bcell g_x2).1 _ _ (by simp; try omega)).trans (by simp [go_sem])
        have z_p_x2 := lt_of p0
        have r0 : x2.cell? ⟨w.heap.size + 1, 0, none⟩ = some (.int .i64 0) := ((bcell g_x2).1 _ _ (by simp; try omega)).trans (by simp [go_sem])
        have r1 : x2.cell? ⟨w.heap.size + 1, 1, none⟩ = some (.int .i64 0) := ((bcell g_x2).1 _ _ (by simp; try omega)).trans (by simp [go_sem])
        have z_r_x2 := lt_of r0
        have rf : ∀ i, x2.frozen? ⟨w.heap.size + 1, i, none⟩ = false := fun i => ((bcell g_x2).2 _ _ (by simp; try omega)).trans (by simp [go_sem])
        clear g_x2 s_x2 t_w
        go_wp2_with fail
        refine bodyPost_ret (v := .agg #[.int .i64 f, .int .i64 n]) (by simp [results, Try.results20, go_sem, *]) rfl ⟨rfl, by go_grown⟩
theorem lring {f n : Int} (w : World) : Calls Try.prog 24 #[.int .i64 f, .int .i64 n] w fun e w' => e = .returned (.agg #[.int .i64 f, .int .i64 n]) ∧ Below w.heap.size w w' := by
  have t_w := Below.refl w.heap.size w
  go_enter Try.func24, Try.ntmps24
  go_wp2_with fail
  refine bodyPost_ret (v := .agg #[.int .i64 f, .int .i64 n]) (by simp [results, Try.results24, go_sem, *]) rfl ⟨rfl, by first | exact t_w | go_grown⟩
theorem lslot {n v : Int} (h0 : 0 ≤ n) (h1 : n ≤ 4294967295) (hv : n % 999996000 = v) (w : World) : Calls Try.prog 21 #[.int .u32 n] w fun e w' => e = .returned (.int .i64 v) ∧ w' = w := by
  have HV := Lib.hid hv; clear hv
  have t_w := Below.refl w.heap.size w
  go_enter Try.func21, Try.ntmps21
  go_wp2_with fail
  go_ret
  exact ⟨ret_int (by rw [← HV.out]), rfl⟩
end Go.Proofs.Ytabfmhkmofebnaa
