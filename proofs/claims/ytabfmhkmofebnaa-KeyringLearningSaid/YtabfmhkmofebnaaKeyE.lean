/- The laws of keyring: Learning, Aging. -/
import Derived.Test.YtabfmhkmofebnaaKeyD
import Derived.Deep.DeepCutAuto
import Derived.Deep.RegionWith
namespace Go.Proofs.Ytabfmhkmofebnaa
open Go.ChangeShapes Go.WideShapes Go.ChangeAt Go.RowKit
theorem kn_iff {f n e : Int} : knb f n e = true ↔ (0 ≤ f ∧ f ≤ 500000 ∧ n ≤ 500002 ∧ f ≤ e ∧ e < n) := by
  simp only [knb, okr, Bool.and_eq_true, decide_eq_true_eq]; omega
theorem learn_iff {f n g m q c : Int} (hk : knb f n q = true) (hm : knb g m q = true) :
    knb (if g < f then g else f) (if n < m then m else n) c = (knb f n c || knb g m c) := by
  rw [Bool.eq_iff_iff, Bool.or_eq_true, kn_iff, kn_iff, kn_iff]
  rw [kn_iff] at hk hm
  split <;> split <;> omega
/-- what the law of learning says of the numbers -/
theorem learn_all {f n g m s q c : Int} (hq : s / 2000 = q) (hs : oka s = true) :
    knb (lrF f n g m s) (lrN f n g m s) c = (knb f n c || (knb f n q && knb g m q && !knb g m (q + 2)) && knb g m c) ∧
    (c ≤ q + 1 ∨ knb (lrF f n g m s) (lrN f n g m s) c = knb f n c) := by
  have hl : lrn f n g m s = (knb f n q && knb g m q && !knb g m (q + 2)) := by
    unfold lrn; rw [hs, hq, Bool.true_and]
    rcases hm : knb g m q with _ | _
    · simp
    · have h := kn_iff.1 hm
      have : decide (m ≤ q + 2) = !knb g m (q + 2) := by
        rw [Bool.eq_iff_iff, Bool.not_eq_true', ← Bool.not_eq_true, kn_iff, decide_eq_true_eq]; omega
      rw [this]
  unfold lrF lrN
  rw [hl]
  rcases hk : knb f n q with _ | _
  · simp
  · rcases hm : knb g m q with _ | _
    · simp
    · rcases h2 : knb g m (q + 2) with _ | _
      · simp only [Bool.and_self, Bool.not_false, if_true, Bool.true_and]
        refine ⟨learn_iff hk hm, ?_⟩
        by_cases hc : c ≤ q + 1
        · exact .inl hc
        · right
          rw [learn_iff hk hm]
          have : knb g m c = false := by
            rw [← Bool.not_eq_true, kn_iff] at h2 ⊢
            have := kn_iff.1 hm
            omega
          rw [this, Bool.or_false]
      · simp
set_option maxRecDepth 100000 in
set_option maxHeartbeats 8000000 in
theorem learningW {f n g m u c : Int} (u0 : 0 ≤ u) (u1 : u ≤ 4294967295) (w : World) : Calls Try.prog 6 #[.agg #[.int .i64 f, .int .i64 n], .agg #[.int .i64 g, .int .i64 m], .int .u32 u, .int .i64 c] w fun e w' => e = .returned (.bool true) ∧ Below w.heap.size w w' := by
  obtain ⟨s, hs⟩ : ∃ s, u % 999996000 = s := ⟨_, rfl⟩
  obtain ⟨s0, s1⟩ := slot_b u0 hs
  obtain ⟨q, hq⟩ : ∃ q, s / 2000 = q := ⟨_, rfl⟩
  have q0 : 0 ≤ q := by omega
  have q1 : q ≤ 500000 := by omega
  have hall := learn_all (f := f) (n := n) (g := g) (m := m) (c := c) hq (oka_mk s0 (by omega))
  obtain ⟨x, hx⟩ : ∃ x, lrF f n g m s = x := ⟨_, rfl⟩
  obtain ⟨y, hy⟩ : ∃ x, lrN f n g m s = x := ⟨_, rfl⟩
  rw [hx, hy] at hall
  have HALL := Lib.hid hall
  have HS := Lib.hid hs; have HQ := Lib.hid hq; have HX := Lib.hid hx; have HY := Lib.hid hy
  clear hs hq hx hy hall
  obtain ⟨kr, hr⟩ : ∃ v, knb f n c = v := ⟨_, rfl⟩
  obtain ⟨kt, ht⟩ : ∃ v, knb g m c = v := ⟨_, rfl⟩
  obtain ⟨kx, hkx⟩ : ∃ v, knb x y c = v := ⟨_, rfl⟩
  have HR := Lib.hid hr; have HT := Lib.hid ht; have HKX := Lib.hid hkx
  clear hr ht hkx
  have t_w := Below.refl w.heap.size w
  go_enter Try.func6, Try.ntmps6
  go_wp2_with fail
  refine (head _).mono ?_
  rintro e x1 ⟨rfl, g_x1⟩
  have s_x1 : Below w.heap.size w x1 := chain (by go_grown) g_x1
  have t_x1 := chain t_w s_x1
  have p0 : x1.cell? ⟨w.heap.size, 0, none⟩ = some (.int .i64 f) := ((bcell g_x1).1 _ _ (by simp; try omega)).trans (by simp [go_sem])
  have p1 : x1.cell? ⟨w.heap.size, 1, none⟩ = some (.int .i64 n) := ((bcell g_x1).1 _ _ (by simp; try omega)).trans (by simp [go_sem])
  have z_p_x1 := lt_of p0
  have r0 : x1.cell? ⟨w.heap.size + 1, 0, none⟩ = some (.int .i64 g) := ((bcell g_x1).1 _ _ (by simp; try omega)).trans (by simp [go_sem])
  have r1 : x1.cell? ⟨w.heap.size + 1, 1, none⟩ = some (.int .i64 m) := ((bcell g_x1).1 _ _ (by simp; try omega)).trans (by simp [go_sem])
  have z_r_x1 := lt_of r0
  clear g_x1 s_x1 t_w
  go_wp2_with fail
  refine (lslot u0 u1 HS.out _).mono ?_
  rintro e w_5 ⟨rfl, hw⟩; obtain rfl := hw.symm
  clear hw
  go_wp2_with fail
  refine (epoch1 (oka_mk s0 (by omega)) HQ.out _).mono ?_
  rintro e x2 ⟨rfl, g_x2⟩
  have s_x2 : Below x1.heap.size x1 x2 := chain (by go_grown) g_x2
  have t_x2 := chain t_x1 s_x2
  replace p0 := keep p0 s_x2
  have z_p0_x2 := lt_of p0
  replace p1 := keep p1 s_x2
  replace r0 := keep r0 s_x2
  have z_r0_x2 := lt_of r0
  replace r1 := keep r1 s_x2
  clear g_x2 s_x2 z_p_x1 z_r_x1 t_x1
  go_wp2_with fail
  go_upto_region 3 with fail
  go_cut [12] (fun s_12 wx => ∃ b_12 : Nat, s_12 = .pointer (some ⟨b_12, 0, none⟩) ∧ x2.heap.size ≤ b_12 ∧ wx.cell? ⟨b_12, 0, none⟩ = some (.int .i64 x) ∧ wx.cell? ⟨b_12, 1, none⟩ = some (.int .i64 y) ∧ Below x2.heap.size x2 wx)
  case first =>
    go_region_with (first
      | (go_at_call 21; with_reducible refine (lslot u0 u1 HS.out _).mono ?_; rintro e w_a0 ⟨rfl, hw⟩; obtain rfl := hw.symm; clear hw)
      | (go_at_call 17; with_reducible refine (learn HX.out HY.out _).mono ?_; rintro e w_a1 ⟨rfl, h_a1⟩; have hb_a1 : Below x2.heap.size x2 w_a1 := chain (by go_grown) h_a1; obtain ⟨hc_a1, hf_a1⟩ := bcell h_a1; have hz_a1 := hb_a1.size; have hy_a1 := h_a1.size; (try simp at hy_a1); clear h_a1))
    all_goals
      go_wp2_with fail
      go_meet
      exact ⟨_, rfl, by first | (simp; done) | (simp; omega) | omega, by simp [go_sem, *], by simp [go_sem, *], by go_grown⟩
  obtain ⟨W_1, e_W_1⟩ : ∃ x, x = wc := ⟨_, rfl⟩
  subst e_W_1
  obtain ⟨b_12, rfl, hl_v, v0, v1, s_W_1⟩ := hcut
  have t_W_1 := chain t_x2 s_W_1
  replace p0 := keep p0 s_W_1
  replace p1 := keep p1 s_W_1
  replace r0 := keep r0 s_W_1
  replace r1 := keep r1 s_W_1
  go_wp2_with fail
  rcases hk : knb f n q with _ | _
  · have HK := Lib.hid hk; clear hk
    obtain ⟨hA, hB⟩ := HALL.out
    rw [HK.out, HR.out, HKX.out] at hA
    rw [HR.out, HKX.out] at hB
    rw [HT.out] at hA
    clear HALL
    refine (knows HK.out _).mono ?_
    rintro e x4 ⟨rfl, g_x4⟩
    have s_x4 : Below W_1.heap.size W_1 x4 := chain (by go_grown) g_x4
    have t_x4 := chain t_W_1 s_x4
    replace p0 := keep p0 s_x4
    have z_p0_x4 := lt_of p0
    replace p1 := keep p1 s_x4
    replace r0 := keep r0 s_x4
    have z_r0_x4 := lt_of r0
    replace r1 := keep r1 s_x4
    replace v0 := keep v0 s_x4
    have z_v0_x4 := lt_of v0
    replace v1 := keep v1 s_x4
    clear g_x4 s_x4 z_p0_x2 z_r0_x2 t_W_1
    go_wp2_with fail
    rcases kr <;> rcases kt <;> simp at hA <;> subst hA
    all_goals by_cases hc : c ≤ q + 1
    all_goals try exact Bool.noConfusion (hB.resolve_left hc)
    all_goals
      first
        | have d1 : decide (c ≤ q + 1) = true := decide_eq_true hc
        | have d1 : decide (c ≤ q + 1) = false := decide_eq_false hc
      clear hc hB
      have fut_0_10 := fut_cell p0
      have fut_1_10 := fut_cell p1
      have fut_2_10 := fut_cell r0
      have fut_3_10 := fut_cell r1
      have fut_4_10 := fut_cell v0
      have fut_5_10 := fut_cell v1
      refine wp_region_fut (by kernel_rfl) (by kernel_rfl) ?_
      repeat (go_big_quiet_step (first
        | (go_at_call 13; with_reducible exact fut_call (knows HKX.out _))
        | (go_at_call 13; with_reducible exact fut_call (knows HR.out _))
        | (go_at_call 13; with_reducible exact fut_call (knows HT.out _))))
      refine wpQuiet_nil ?_
      rintro _ ⟨⟨x9, s_x9⟩, rfl⟩
      clear fut_0_10 fut_1_10 fut_2_10 fut_3_10 fut_4_10 fut_5_10
      have t_x9 := chain t_x4 s_x9
      replace p0 := keep p0 s_x9
      replace p1 := keep p1 s_x9
      replace r0 := keep r0 s_x9
      replace r1 := keep r1 s_x9
      replace v0 := keep v0 s_x9
      replace v1 := keep v1 s_x9
      go_wp2_with fail
      go_ret
      exact ⟨rfl, by first | exact t_x9 | go_grown⟩
  · have HK := Lib.hid hk; clear hk
    refine (knows HK.out _).mono ?_
    rintro e x4 ⟨rfl, g_x4⟩
    have s_x4 : Below W_1.heap.size W_1 x4 := chain (by go_grown) g_x4
    have t_x4 := chain t_W_1 s_x4
    replace p0 := keep p0 s_x4
    have z_p0_x4 := lt_of p0
    replace p1 := keep p1 s_x4
    replace r0 := keep r0 s_x4
    have z_r0_x4 := lt_of r0
    replace r1 := keep r1 s_x4
    replace v0 := keep v0 s_x4
    have z_v0_x4 := lt_of v0
    replace v1 := keep v1 s_x4
    clear g_x4 s_x4 z_p0_x2 z_r0_x2 t_W_1
    go_wp2_with fail
    rcases hm : knb g m q with _ | _
    · have HM := Lib.hid hm; clear hm
      obtain ⟨hA, hB⟩ := HALL.out
      rw [HK.out, HR.out, HKX.out, HM.out, HT.out] at hA
      rw [HR.out, HKX.out] at hB
      clear HALL
      refine (knows HM.out _).mono ?_
      rintro e x5 ⟨rfl, g_x5⟩
      have s_x5 : Below x4.heap.size x4 x5 := chain (by go_grown) g_x5
      have t_x5 := chain t_x4 s_x5
      replace p0 := keep p0 s_x5
      have z_p0_x5 := lt_of p0
      replace p1 := keep p1 s_x5
      replace r0 := keep r0 s_x5
      have z_r0_x5 := lt_of r0
      replace r1 := keep r1 s_x5
      replace v0 := keep v0 s_x5
      have z_v0_x5 := lt_of v0
      replace v1 := keep v1 s_x5
      clear g_x5 s_x5 z_p0_x4 z_r0_x4 z_v0_x4 t_x4
      go_wp2_with fail
      rcases kr <;> rcases kt <;> simp at hA <;> subst hA
      all_goals by_cases hc : c ≤ q + 1
      all_goals try exact Bool.noConfusion (hB.resolve_left hc)
      all_goals
        first
          | have d1 : decide (c ≤ q + 1) = true := decide_eq_true hc
          | have d1 : decide (c ≤ q + 1) = false := decide_eq_false hc
        clear hc hB
        have fut_0_16 := fut_cell p0
        have fut_1_16 := fut_cell p1
        have fut_2_16 := fut_cell r0
        have fut_3_16 := fut_cell r1
        have fut_4_16 := fut_cell v0
        have fut_5_16 := fut_cell v1
        refine wp_region_fut (by kernel_rfl) (by kernel_rfl) ?_
        repeat (go_big_quiet_step (first
          | (go_at_call 13; with_reducible exact fut_call (knows HKX.out _))
          | (go_at_call 13; with_reducible exact fut_call (knows HR.out _))
          | (go_at_call 13; with_reducible exact fut_call (knows HT.out _))))
        refine wpQuiet_nil ?_
        rintro _ ⟨⟨x9, s_x9⟩, rfl⟩
        clear fut_0_16 fut_1_16 fut_2_16 fut_3_16 fut_4_16 fut_5_16
        have t_x9 := chain t_x5 s_x9
        replace p0 := keep p0 s_x9
        replace p1 := keep p1 s_x9
        replace r0 := keep r0 s_x9
        replace r1 := keep r1 s_x9
        replace v0 := keep v0 s_x9
        replace v1 := keep v1 s_x9
        go_wp2_with fail
        go_ret
        exact ⟨rfl, by first | exact t_x9 | go_grown⟩
    · have HM := Lib.hid hm; clear hm
      refine (knows HM.out _).mono ?_
      rintro e x5 ⟨rfl, g_x5⟩
      have s_x5 : Below x4.heap.size x4 x5 := chain (by go_grown) g_x5
      have t_x5 := chain t_x4 s_x5
      replace p0 := keep p0 s_x5
      have z_p0_x5 := lt_of p0
      replace p1 := keep p1 s_x5
      replace r0 := keep r0 s_x5
      have z_r0_x5 := lt_of r0
      replace r1 := keep r1 s_x5
      replace v0 := keep v0 s_x5
      have z_v0_x5 := lt_of v0
      replace v1 := keep v1 s_x5
      clear g_x5 s_x5 z_p0_x4 z_r0_x4 z_v0_x4 t_x4
      go_wp2_with fail
      rcases h2 : knb g m (q + 2) with _ | _
      all_goals
        have H2 := Lib.hid h2; clear h2
        obtain ⟨hA, hB⟩ := HALL.out
        rw [HK.out, HR.out, HKX.out, HM.out, HT.out, H2.out] at hA
        rw [HR.out, HKX.out] at hB
        clear HALL
        refine (knows H2.out _).mono ?_
        rintro e x6 ⟨rfl, g_x6⟩
        have s_x6 : Below x5.heap.size x5 x6 := chain (by go_grown) g_x6
        have t_x6 := chain t_x5 s_x6
        replace p0 := keep p0 s_x6
        have z_p0_x6 := lt_of p0
        replace p1 := keep p1 s_x6
        replace r0 := keep r0 s_x6
        have z_r0_x6 := lt_of r0
        replace r1 := keep r1 s_x6
        replace v0 := keep v0 s_x6
        have z_v0_x6 := lt_of v0
        replace v1 := keep v1 s_x6
        clear g_x6 s_x6 z_p0_x5 z_r0_x5 z_v0_x5 t_x5
        go_wp2_with fail
        rcases kr <;> rcases kt <;> simp at hA <;> subst hA
        all_goals by_cases hc : c ≤ q + 1
        all_goals try exact Bool.noConfusion (hB.resolve_left hc)
        all_goals
          first
            | have d1 : decide (c ≤ q + 1) = true := decide_eq_true hc
            | have d1 : decide (c ≤ q + 1) = false := decide_eq_false hc
          clear hc hB
          have fut_0_21 := fut_cell p0
          have fut_1_21 := fut_cell p1
          have fut_2_21 := fut_cell r0
          have fut_3_21 := fut_cell r1
          have fut_4_21 := fut_cell v0
          have fut_5_21 := fut_cell v1
          refine wp_region_fut (by kernel_rfl) (by kernel_rfl) ?_
          repeat (go_big_quiet_step (first
            | (go_at_call 13; with_reducible exact fut_call (knows HKX.out _))
            | (go_at_call 13; with_reducible exact fut_call (knows HR.out _))
            | (go_at_call 13; with_reducible exact fut_call (knows HT.out _))))
          refine wpQuiet_nil ?_
          rintro _ ⟨⟨x9, s_x9⟩, rfl⟩
          clear fut_0_21 fut_1_21 fut_2_21 fut_3_21 fut_4_21 fut_5_21
          have t_x9 := chain t_x6 s_x9
          replace p0 := keep p0 s_x9
          replace p1 := keep p1 s_x9
          replace r0 := keep r0 s_x9
          replace r1 := keep r1 s_x9
          replace v0 := keep v0 s_x9
          replace v1 := keep v1 s_x9
          go_wp2_with fail
          go_ret
          exact ⟨rfl, by first | exact t_x9 | go_grown⟩
end Go.Proofs.Ytabfmhkmofebnaa
