/- The laws of keyring: Aging, Step. -/
import Derived.Test.YtabfmhkmofebnaaKeyD
import Derived.Deep.DeepCutAuto
import Derived.Deep.RegionWith
namespace Go.Proofs.Ytabfmhkmofebnaa
open Go.ChangeShapes Go.WideShapes Go.ChangeAt Go.RowKit
theorem knb_iff {f n e : Int} : knb f n e = true ↔ (0 ≤ f ∧ f ≤ 500000 ∧ n ≤ 500002 ∧ f ≤ e ∧ e < n) := by
  simp only [knb, okr, Bool.and_eq_true, decide_eq_true_eq]; omega
theorem agd_iff {f n a : Int} (h : oka a = true) : agd f n a = true ↔ (okr f n = true ∧ f < a / 2000) := by
  simp [agd, h]
theorem age_fix {f n s b x y : Int} (hs : oka s = true) (hx : agF f n s = x) (hy : agN f n s = y) (b0 : 0 ≤ b) (b1 : b ≤ s) : agF x y b = x ∧ agN x y b = y := by
  have s1 := oka_t hs
  have hb : oka b = true := oka_mk b0 (by omega)
  have hq : b / 2000 ≤ s / 2000 := by omega
  have hq0 : 0 ≤ b / 2000 := by omega
  rcases ha : agd f n s with _ | _
  · have e1 : f = x := by rw [← hx]; simp [agF, ha]
    have e2 : n = y := by rw [← hy]; simp [agN, ha]
    subst e1 e2
    have : agd f n b = false := by
      rw [← Bool.not_eq_true, agd_iff hb]
      rw [← Bool.not_eq_true, agd_iff hs] at ha
      intro ⟨h1, h2⟩
      exact ha ⟨h1, by omega⟩
    simp [agF, agN, this]
  · have h := (agd_iff hs).1 ha
    by_cases hn : n ≤ s / 2000
    · have e1 : 0 = x := by rw [← hx]; simp [agF, ha, hn]
      have e2 : 0 = y := by rw [← hy]; simp [agN, ha, hn]
      subst e1 e2
      refine ⟨?_, ?_⟩
      · show (if agd 0 0 b = true then (if (0 : Int) ≤ b / 2000 then 0 else b / 2000) else 0) = 0
        rw [if_pos hq0]; split <;> rfl
      · show (if agd 0 0 b = true then (if (0 : Int) ≤ b / 2000 then 0 else 0) else 0) = 0
        rw [if_pos hq0]; split <;> rfl
    · have e1 : s / 2000 = x := by rw [← hx]; simp [agF, ha, hn]
      have e2 : n = y := by rw [← hy]; simp [agN, ha, hn]
      subst e1 e2
      have : agd (s / 2000) n b = false := by
        rw [← Bool.not_eq_true, agd_iff hb]; omega
      simp [agF, agN, this]
theorem age_knows {f n s x y c : Int} (hs : oka s = true) (hx : agF f n s = x) (hy : agN f n s = y) : knb x y c = (knb f n c && decide (s / 2000 ≤ c)) := by
  have s1 := oka_t hs
  rcases ha : agd f n s with _ | _
  · have e1 : f = x := by rw [← hx]; simp [agF, ha]
    have e2 : n = y := by rw [← hy]; simp [agN, ha]
    subst e1 e2
    rw [Bool.eq_iff_iff, Bool.and_eq_true, decide_eq_true_eq]
    refine ⟨fun h => ⟨h, ?_⟩, fun h => h.1⟩
    rw [← Bool.not_eq_true, agd_iff hs] at ha
    have := knb_t h
    have : ¬ f < s / 2000 := fun h2 => ha ⟨this.1, h2⟩
    omega
  · have h := (agd_iff hs).1 ha
    have ho : (f = 0 ∧ n = 0) ∨ (0 ≤ f ∧ f ≤ 500000 ∧ f + 1 ≤ n ∧ n ≤ 500002) := by simpa [okr] using h.1
    by_cases hn : n ≤ s / 2000
    · have e1 : 0 = x := by rw [← hx]; simp [agF, ha, hn]
      have e2 : 0 = y := by rw [← hy]; simp [agN, ha, hn]
      subst e1 e2
      rw [Bool.eq_iff_iff, Bool.and_eq_true, decide_eq_true_eq, knb_iff, knb_iff]; omega
    · have e1 : s / 2000 = x := by rw [← hx]; simp [agF, ha, hn]
      have e2 : n = y := by rw [← hy]; simp [agN, ha, hn]
      subst e1 e2
      rw [Bool.eq_iff_iff, Bool.and_eq_true, decide_eq_true_eq, knb_iff, knb_iff]; omega
set_option maxRecDepth 100000 in
set_option maxHeartbeats 8000000 in
theorem agingW {f n u v c : Int} (u0 : 0 ≤ u) (u1 : u ≤ 4294967295) (v0 : 0 ≤ v) (v1 : v ≤ 4294967295) (w : World) : Calls Try.prog 8 #[.agg #[.int .i64 f, .int .i64 n], .int .u32 u, .int .u32 v, .int .i64 c] w fun e w' => e = .returned (.bool true) ∧ Below w.heap.size w w' := by
  obtain ⟨s, hs⟩ : ∃ s, u % 999996000 = s := ⟨_, rfl⟩
  obtain ⟨s0, s1⟩ := slot_b u0 hs
  obtain ⟨q, hq⟩ : ∃ q, s / 2000 = q := ⟨_, rfl⟩
  have q0 : 0 ≤ q := by omega
  have q1 : q ≤ 500000 := by omega
  obtain ⟨b, hb⟩ : ∃ b, v % (s + 1) = b := ⟨_, rfl⟩
  have b0 : 0 ≤ b := by rw [← hb]; exact Int.emod_nonneg _ (by omega)
  have b1 : b ≤ s := by have := Int.emod_lt_of_pos v (show 0 < s + 1 by omega); omega
  have hs0 : oka s = true := oka_mk s0 (by omega)
  obtain ⟨x, hx⟩ : ∃ x, agF f n s = x := ⟨_, rfl⟩
  obtain ⟨y, hy⟩ : ∃ x, agN f n s = x := ⟨_, rfl⟩
  have h1 := age_fix hs0 hx hy s0 (Int.le_refl s)
  have h2 := age_fix hs0 hx hy b0 b1
  have h3 := age_knows (c := c) hs0 hx hy
  rw [hq] at h3
  have HF := Lib.hid h1.1; have HN := Lib.hid h1.2; have HG := Lib.hid h2.1; have HM := Lib.hid h2.2
  have HS := Lib.hid hs; have HQ := Lib.hid hq; have HX := Lib.hid hx; have HY := Lib.hid hy
  clear hs hq hx hy h1 h2 hs0
  rcases hr : knb f n c with _ | _
  · have hkx : knb x y c = false := by rw [h3, hr]; rfl
    have HR := Lib.hid hr; clear hr h3
    have HKX := Lib.hid hkx; clear hkx
    have t_w := Below.refl w.heap.size w
    go_enter Try.func8, Try.ntmps8
    go_wp2_with fail
    refine (head _).mono ?_
    rintro e x1 ⟨rfl, g_x1⟩
    have s_x1 : Below w.heap.size w x1 := chain (by go_grown) g_x1
    have t_x1 := chain t_w s_x1
    have p0 : x1.cell? ⟨w.heap.size, 0, none⟩ = some (.int .i64 f) := ((bcell g_x1).1 _ _ (by simp; try omega)).trans (by simp [go_sem])
    have p1 : x1.cell? ⟨w.heap.size, 1, none⟩ = some (.int .i64 n) := ((bcell g_x1).1 _ _ (by simp; try omega)).trans (by simp [go_sem])
    have z_p_x1 := lt_of p0
    clear g_x1 s_x1 t_w
    go_wp2_with fail
    refine (lslot u0 u1 HS.out _).mono ?_
    rintro e w_4 ⟨rfl, hw⟩; obtain rfl := hw.symm
    clear hw
    go_wp2_with fail
    refine (epoch1 (oka_mk s0 (by omega)) HQ.out _).mono ?_
    rintro e x2 ⟨rfl, g_x2⟩
    have s_x2 : Below x1.heap.size x1 x2 := chain (by go_grown) g_x2
    have t_x2 := chain t_x1 s_x2
    replace p0 := keep p0 s_x2
    have z_p0_x2 := lt_of p0
    replace p1 := keep p1 s_x2
    clear g_x2 s_x2 z_p_x1 t_x1
    go_wp2_with fail
    refine (age HX.out HY.out _).mono ?_
    rintro e x3 ⟨rfl, g_x3⟩
    have s_x3 : Below x2.heap.size x2 x3 := chain (by go_grown) g_x3
    have t_x3 := chain t_x2 s_x3
    replace p0 := keep p0 s_x3
    have z_p0_x3 := lt_of p0
    replace p1 := keep p1 s_x3
    clear g_x3 s_x3 z_p0_x2 t_x2
    go_wp2_with fail
    have s_W_1 : Below x3.heap.size x3 (x3.alloc (.cells #[.int .i64 x, .int .i64 y] 23)) := Below.alloc (Below.refl _ _) (Nat.le_refl _) _
    have v0 : (x3.alloc (.cells #[.int .i64 x, .int .i64 y] 23)).cell? ⟨x3.heap.size, 0, none⟩ = some (.int .i64 x) := by simp [go_sem]
    have v1 : (x3.alloc (.cells #[.int .i64 x, .int .i64 y] 23)).cell? ⟨x3.heap.size, 1, none⟩ = some (.int .i64 y) := by simp [go_sem]
    replace p0 := keep p0 s_W_1
    replace p1 := keep p1 s_W_1
    have t_W_1 := chain t_x3 s_W_1
    generalize x3.alloc (.cells #[.int .i64 x, .int .i64 y] 23) = W_1 at *
    have fut_0_8 := fut_cell p0
    have fut_1_8 := fut_cell p1
    have fut_2_8 := fut_cell v0
    have fut_3_8 := fut_cell v1
    refine wp_region_fut (by kernel_rfl) (by kernel_rfl) ?_
    repeat (go_big_quiet_step (first
      | (go_at_call 19; with_reducible exact fut_call (age HF.out HN.out _))
      | (go_at_call 19; with_reducible exact fut_call (age HG.out HM.out _))))
    refine wpQuiet_nil ?_
    rintro _ ⟨⟨x6, s_x6⟩, rfl⟩
    clear fut_0_8 fut_1_8 fut_2_8 fut_3_8
    have t_x6 := chain t_W_1 s_x6
    replace p0 := keep p0 s_x6
    replace p1 := keep p1 s_x6
    replace v0 := keep v0 s_x6
    replace v1 := keep v1 s_x6
    go_wp2_with fail
    have fut_0_9 := fut_cell p0
    have fut_1_9 := fut_cell p1
    have fut_2_9 := fut_cell v0
    have fut_3_9 := fut_cell v1
    refine wp_region_fut (by kernel_rfl) (by kernel_rfl) ?_
    repeat (go_big_quiet_step (first
      | (go_at_call 13; with_reducible exact fut_call (knows HKX.out _))
      | (go_at_call 13; with_reducible exact fut_call (knows HR.out _))))
    refine wpQuiet_nil ?_
    rintro _ ⟨⟨x9, s_x9⟩, rfl⟩
    clear fut_0_9 fut_1_9 fut_2_9 fut_3_9
    have t_x9 := chain t_x6 s_x9
    replace p0 := keep p0 s_x9
    replace p1 := keep p1 s_x9
    replace v0 := keep v0 s_x9
    replace v1 := keep v1 s_x9
    go_wp2_with fail
    go_ret
    exact ⟨rfl, by first | exact t_x9 | go_grown⟩
  · have HR := Lib.hid hr
    by_cases hc : q ≤ c
    · have d1 : decide (q ≤ c) = true := decide_eq_true hc
      have hkx : knb x y c = true := by rw [h3, hr, d1]; rfl
      clear hr h3 hc
      have HKX := Lib.hid hkx; clear hkx
      have t_w := Below.refl w.heap.size w
      go_enter Try.func8, Try.ntmps8
      go_wp2_with fail
      refine (head _).mono ?_
      rintro e x1 ⟨rfl, g_x1⟩
      have s_x1 : Below w.heap.size w x1 := chain (by go_grown) g_x1
      have t_x1 := chain t_w s_x1
      have p0 : x1.cell? ⟨w.heap.size, 0, none⟩ = some (.int .i64 f) := ((bcell g_x1).1 _ _ (by simp; try omega)).trans (by simp [go_sem])
      have p1 : x1.cell? ⟨w.heap.size, 1, none⟩ = some (.int .i64 n) := ((bcell g_x1).1 _ _ (by simp; try omega)).trans (by simp [go_sem])
      have z_p_x1 := lt_of p0
      clear g_x1 s_x1 t_w
      go_wp2_with fail
      refine (lslot u0 u1 HS.out _).mono ?_
      rintro e w_14 ⟨rfl, hw⟩; obtain rfl := hw.symm
      clear hw
      go_wp2_with fail
      refine (epoch1 (oka_mk s0 (by omega)) HQ.out _).mono ?_
      rintro e x2 ⟨rfl, g_x2⟩
      have s_x2 : Below x1.heap.size x1 x2 := chain (by go_grown) g_x2
      have t_x2 := chain t_x1 s_x2
      replace p0 := keep p0 s_x2
      have z_p0_x2 := lt_of p0
      replace p1 := keep p1 s_x2
      clear g_x2 s_x2 z_p_x1 t_x1
      go_wp2_with fail
      refine (age HX.out HY.out _).mono ?_
      rintro e x3 ⟨rfl, g_x3⟩
      have s_x3 : Below x2.heap.size x2 x3 := chain (by go_grown) g_x3
      have t_x3 := chain t_x2 s_x3
      replace p0 := keep p0 s_x3
      have z_p0_x3 := lt_of p0
      replace p1 := keep p1 s_x3
      clear g_x3 s_x3 z_p0_x2 t_x2
      go_wp2_with fail
      have s_W_2 : Below x3.heap.size x3 (x3.alloc (.cells #[.int .i64 x, .int .i64 y] 23)) := Below.alloc (Below.refl _ _) (Nat.le_refl _) _
      have v0 : (x3.alloc (.cells #[.int .i64 x, .int .i64 y] 23)).cell? ⟨x3.heap.size, 0, none⟩ = some (.int .i64 x) := by simp [go_sem]
      have v1 : (x3.alloc (.cells #[.int .i64 x, .int .i64 y] 23)).cell? ⟨x3.heap.size, 1, none⟩ = some (.int .i64 y) := by simp [go_sem]
      replace p0 := keep p0 s_W_2
      replace p1 := keep p1 s_W_2
      have t_W_2 := chain t_x3 s_W_2
      generalize x3.alloc (.cells #[.int .i64 x, .int .i64 y] 23) = W_2 at *
      have fut_0_18 := fut_cell p0
      have fut_1_18 := fut_cell p1
      have fut_2_18 := fut_cell v0
      have fut_3_18 := fut_cell v1
      refine wp_region_fut (by kernel_rfl) (by kernel_rfl) ?_
      repeat (go_big_quiet_step (first
        | (go_at_call 19; with_reducible exact fut_call (age HF.out HN.out _))
        | (go_at_call 19; with_reducible exact fut_call (age HG.out HM.out _))))
      refine wpQuiet_nil ?_
      rintro _ ⟨⟨x6, s_x6⟩, rfl⟩
      clear fut_0_18 fut_1_18 fut_2_18 fut_3_18
      have t_x6 := chain t_W_2 s_x6
      replace p0 := keep p0 s_x6
      replace p1 := keep p1 s_x6
      replace v0 := keep v0 s_x6
      replace v1 := keep v1 s_x6
      go_wp2_with fail
      have fut_0_19 := fut_cell p0
      have fut_1_19 := fut_cell p1
      have fut_2_19 := fut_cell v0
      have fut_3_19 := fut_cell v1
      refine wp_region_fut (by kernel_rfl) (by kernel_rfl) ?_
      repeat (go_big_quiet_step (first
        | (go_at_call 13; with_reducible exact fut_call (knows HKX.out _))
        | (go_at_call 13; with_reducible exact fut_call (knows HR.out _))))
      refine wpQuiet_nil ?_
      rintro _ ⟨⟨x9, s_x9⟩, rfl⟩
      clear fut_0_19 fut_1_19 fut_2_19 fut_3_19
      have t_x9 := chain t_x6 s_x9
      replace p0 := keep p0 s_x9
      replace p1 := keep p1 s_x9
      replace v0 := keep v0 s_x9
      replace v1 := keep v1 s_x9
      go_wp2_with fail
      go_ret
      exact ⟨rfl, by first | exact t_x9 | go_grown⟩
    · have d1 : decide (q ≤ c) = false := decide_eq_false hc
      have hkx : knb x y c = false := by rw [h3, hr, d1]; rfl
      clear hr h3 hc
      have HKX := Lib.hid hkx; clear hkx
      have t_w := Below.refl w.heap.size w
      go_enter Try.func8, Try.ntmps8
      go_wp2_with fail
      refine (head _).mono ?_
      rintro e x1 ⟨rfl, g_x1⟩
      have s_x1 : Below w.heap.size w x1 := chain (by go_grown) g_x1
      have t_x1 := chain t_w s_x1
      have p0 : x1.cell? ⟨w.heap.size, 0, none⟩ = some (.int .i64 f) := ((bcell g_x1).1 _ _ (by simp; try omega)).trans (by simp [go_sem])
      have p1 : x1.cell? ⟨w.heap.size, 1, none⟩ = some (.int .i64 n) := ((bcell g_x1).1 _ _ (by simp; try omega)).trans (by simp [go_sem])
      have z_p_x1 := lt_of p0
      clear g_x1 s_x1 t_w
      go_wp2_with fail
      refine (lslot u0 u1 HS.out _).mono ?_
      rintro e w_24 ⟨rfl, hw⟩; obtain rfl := hw.symm
      clear hw
      go_wp2_with fail
      refine (epoch1 (oka_mk s0 (by omega)) HQ.out _).mono ?_
      rintro e x2 ⟨rfl, g_x2⟩
      have s_x2 : Below x1.heap.size x1 x2 := chain (by go_grown) g_x2
      have t_x2 := chain t_x1 s_x2
      replace p0 := keep p0 s_x2
      have z_p0_x2 := lt_of p0
      replace p1 := keep p1 s_x2
      clear g_x2 s_x2 z_p_x1 t_x1
      go_wp2_with fail
      refine (age HX.out HY.out _).mono ?_
      rintro e x3 ⟨rfl, g_x3⟩
      have s_x3 : Below x2.heap.size x2 x3 := chain (by go_grown) g_x3
      have t_x3 := chain t_x2 s_x3
      replace p0 := keep p0 s_x3
      have z_p0_x3 := lt_of p0
      replace p1 := keep p1 s_x3
      clear g_x3 s_x3 z_p0_x2 t_x2
      go_wp2_with fail
      have s_W_3 : Below x3.heap.size x3 (x3.alloc (.cells #[.int .i64 x, .int .i64 y] 23)) := Below.alloc (Below.refl _ _) (Nat.le_refl _) _
      have v0 : (x3.alloc (.cells #[.int .i64 x, .int .i64 y] 23)).cell? ⟨x3.heap.size, 0, none⟩ = some (.int .i64 x) := by simp [go_sem]
      have v1 : (x3.alloc (.cells #[.int .i64 x, .int .i64 y] 23)).cell? ⟨x3.heap.size, 1, none⟩ = some (.int .i64 y) := by simp [go_sem]
      replace p0 := keep p0 s_W_3
      replace p1 := keep p1 s_W_3
      have t_W_3 := chain t_x3 s_W_3
      generalize x3.alloc (.cells #[.int .i64 x, .int .i64 y] 23) = W_3 at *
      have fut_0_28 := fut_cell p0
      have fut_1_28 := fut_cell p1
      have fut_2_28 := fut_cell v0
      have fut_3_28 := fut_cell v1
      refine wp_region_fut (by kernel_rfl) (by kernel_rfl) ?_
      repeat (go_big_quiet_step (first
        | (go_at_call 19; with_reducible exact fut_call (age HF.out HN.out _))
        | (go_at_call 19; with_reducible exact fut_call (age HG.out HM.out _))))
      refine wpQuiet_nil ?_
      rintro _ ⟨⟨x6, s_x6⟩, rfl⟩
      clear fut_0_28 fut_1_28 fut_2_28 fut_3_28
      have t_x6 := chain t_W_3 s_x6
      replace p0 := keep p0 s_x6
      replace p1 := keep p1 s_x6
      replace v0 := keep v0 s_x6
      replace v1 := keep v1 s_x6
      go_wp2_with fail
      have fut_0_29 := fut_cell p0
      have fut_1_29 := fut_cell p1
      have fut_2_29 := fut_cell v0
      have fut_3_29 := fut_cell v1
      refine wp_region_fut (by kernel_rfl) (by kernel_rfl) ?_
      repeat (go_big_quiet_step (first
        | (go_at_call 13; with_reducible exact fut_call (knows HKX.out _))
        | (go_at_call 13; with_reducible exact fut_call (knows HR.out _))))
      refine wpQuiet_nil ?_
      rintro _ ⟨⟨x9, s_x9⟩, rfl⟩
      clear fut_0_29 fut_1_29 fut_2_29 fut_3_29
      have t_x9 := chain t_x6 s_x9
      replace p0 := keep p0 s_x9
      replace p1 := keep p1 s_x9
      replace v0 := keep v0 s_x9
      replace v1 := keep v1 s_x9
      go_wp2_with fail
      go_ret
      exact ⟨rfl, by first | exact t_x9 | go_grown⟩
end Go.Proofs.Ytabfmhkmofebnaa
