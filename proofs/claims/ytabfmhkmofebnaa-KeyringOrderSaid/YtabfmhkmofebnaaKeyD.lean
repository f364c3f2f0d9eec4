/- The laws of keyring: MatchesReference, Epochs, Root. -/
import Derived.Test.YtabfmhkmofebnaaKeyC
namespace Go.Proofs.Ytabfmhkmofebnaa
open Go.ChangeShapes Go.WideShapes Go.ChangeAt Go.RowKit
set_option maxRecDepth 100000 in
set_option maxHeartbeats 4000000 in
theorem head (w : World) : Calls Try.prog 10 #[] w fun e w' => e = .returned (.bool true) ∧ Below w.heap.size w w' := by
  have t_w := Below.refl w.heap.size w
  go_enter Try.func10, Try.ntmps10
  go_wp2_with fail
  refine (epoch1 (q := 0) (by decide) (by decide) _).mono ?_
  rintro e x1 ⟨rfl, g_x1⟩
  have s_x1 : Below w.heap.size w x1 := chain (by go_grown) g_x1
  have t_x1 := chain t_w s_x1
  clear g_x1 s_x1 t_w
  go_wp2_with fail
  refine (epoch1 (q := 1) (by decide) (by decide) _).mono ?_
  rintro e x2 ⟨rfl, g_x2⟩
  have s_x2 : Below x1.heap.size x1 x2 := chain (by go_grown) g_x2
  have t_x2 := chain t_x1 s_x2
  clear g_x2 s_x2 t_x1
  go_wp2_with fail
  refine (epoch0 (by decide) _).mono ?_
  rintro e x3 ⟨rfl, g_x3⟩
  have s_x3 : Below x2.heap.size x2 x3 := chain (by go_grown) g_x3
  have t_x3 := chain t_x2 s_x3
  clear g_x3 s_x3 t_x2
  go_wp2_with fail
  refine (root1 (q := 1) (by decide) (by decide) _).mono ?_
  rintro e x4 ⟨rfl, g_x4⟩
  have s_x4 : Below x3.heap.size x3 x4 := chain (by go_grown) g_x4
  have t_x4 := chain t_x3 s_x4
  clear g_x4 s_x4 t_x3
  go_wp2_with fail
  refine (lring _).mono ?_
  rintro e x5 ⟨rfl, g_x5⟩
  have s_x5 : Below x4.heap.size x4 x5 := chain (by go_grown) g_x5
  have t_x5 := chain t_x4 s_x5
  clear g_x5 s_x5 t_x4
  go_wp2_with fail
  refine (root0 (by decide) _).mono ?_
  rintro e x6 ⟨rfl, g_x6⟩
  have s_x6 : Below x5.heap.size x5 x6 := chain (by go_grown) g_x6
  have t_x6 := chain t_x5 s_x6
  clear g_x6 s_x6 t_x5
  go_wp2_with fail
  refine (lring _).mono ?_
  rintro e x7 ⟨rfl, g_x7⟩
  have s_x7 : Below x6.heap.size x6 x7 := chain (by go_grown) g_x7
  have t_x7 := chain t_x6 s_x7
  clear g_x7 s_x7 t_x6
  go_wp2_with fail
  refine (lring _).mono ?_
  rintro e y1 ⟨rfl, g_y1⟩
  have s_y1 : Below x7.heap.size x7 y1 := chain (by go_grown) g_y1
  have t_y1 := chain t_x7 s_y1
  clear g_y1 s_y1 t_x7
  go_wp2_with fail
  refine (lring _).mono ?_
  rintro e y2 ⟨rfl, g_y2⟩
  have s_y2 : Below y1.heap.size y1 y2 := chain (by go_grown) g_y2
  have t_y2 := chain t_y1 s_y2
  clear g_y2 s_y2 t_y1
  go_wp2_with fail
  refine (learn (x := 1) (y := 3) (by decide) (by decide) _).mono ?_
  rintro e y3 ⟨rfl, g_y3⟩
  have s_y3 : Below y2.heap.size y2 y3 := chain (by go_grown) g_y3
  have t_y3 := chain t_y2 s_y3
  clear g_y3 s_y3 t_y2
  go_wp2_with fail
  refine (lring _).mono ?_
  rintro e y4 ⟨rfl, g_y4⟩
  have s_y4 : Below y3.heap.size y3 y4 := chain (by go_grown) g_y4
  have t_y4 := chain t_y3 s_y4
  clear g_y4 s_y4 t_y3
  go_wp2_with fail
  refine (lring _).mono ?_
  rintro e y5 ⟨rfl, g_y5⟩
  have s_y5 : Below y4.heap.size y4 y5 := chain (by go_grown) g_y5
  have t_y5 := chain t_y4 s_y5
  clear g_y5 s_y5 t_y4
  go_wp2_with fail
  refine (lring _).mono ?_
  rintro e y6 ⟨rfl, g_y6⟩
  have s_y6 : Below y5.heap.size y5 y6 := chain (by go_grown) g_y6
  have t_y6 := chain t_y5 s_y6
  clear g_y6 s_y6 t_y5
  go_wp2_with fail
  refine (learn (x := 1) (y := 2) (by decide) (by decide) _).mono ?_
  rintro e y7 ⟨rfl, g_y7⟩
  have s_y7 : Below y6.heap.size y6 y7 := chain (by go_grown) g_y7
  have t_y7 := chain t_y6 s_y7
  clear g_y7 s_y7 t_y6
  go_wp2_with fail
  refine (lring _).mono ?_
  rintro e y8 ⟨rfl, g_y8⟩
  have s_y8 : Below y7.heap.size y7 y8 := chain (by go_grown) g_y8
  have t_y8 := chain t_y7 s_y8
  clear g_y8 s_y8 t_y7
  go_wp2_with fail
  refine (lring _).mono ?_
  rintro e z1 ⟨rfl, g_z1⟩
  have s_z1 : Below y8.heap.size y8 z1 := chain (by go_grown) g_z1
  have t_z1 := chain t_y8 s_z1
  clear g_z1 s_z1 t_y8
  go_wp2_with fail
  refine (age (x := 1) (y := 3) (by decide) (by decide) _).mono ?_
  rintro e z2 ⟨rfl, g_z2⟩
  have s_z2 : Below z1.heap.size z1 z2 := chain (by go_grown) g_z2
  have t_z2 := chain t_z1 s_z2
  clear g_z2 s_z2 t_z1
  go_wp2_with fail
  refine (lring _).mono ?_
  rintro e z3 ⟨rfl, g_z3⟩
  have s_z3 : Below z2.heap.size z2 z3 := chain (by go_grown) g_z3
  have t_z3 := chain t_z2 s_z3
  clear g_z3 s_z3 t_z2
  go_wp2_with fail
  refine (lring _).mono ?_
  rintro e z4 ⟨rfl, g_z4⟩
  have s_z4 : Below z3.heap.size z3 z4 := chain (by go_grown) g_z4
  have t_z4 := chain t_z3 s_z4
  clear g_z4 s_z4 t_z3
  go_wp2_with fail
  refine (age (x := 0) (y := 0) (by decide) (by decide) _).mono ?_
  rintro e z5 ⟨rfl, g_z5⟩
  have s_z5 : Below z4.heap.size z4 z5 := chain (by go_grown) g_z5
  have t_z5 := chain t_z4 s_z5
  clear g_z5 s_z5 t_z4
  go_wp2_with fail
  refine (lring _).mono ?_
  rintro e z6 ⟨rfl, g_z6⟩
  have s_z6 : Below z5.heap.size z5 z6 := chain (by go_grown) g_z6
  have t_z6 := chain t_z5 s_z6
  clear g_z6 s_z6 t_z5
  go_wp2_with fail
  refine (lring _).mono ?_
  rintro e z7 ⟨rfl, g_z7⟩
  have s_z7 : Below z6.heap.size z6 z7 := chain (by go_grown) g_z7
  have t_z7 := chain t_z6 s_z7
  clear g_z7 s_z7 t_z6
  go_wp2_with fail
  refine (knows (v := true) (by decide) _).mono ?_
  rintro e z8 ⟨rfl, g_z8⟩
  have s_z8 : Below z7.heap.size z7 z8 := chain (by go_grown) g_z8
  have t_z8 := chain t_z7 s_z8
  clear g_z8 s_z8 t_z7
  go_wp2_with fail
  refine (lring _).mono ?_
  rintro e z9 ⟨rfl, g_z9⟩
  have s_z9 : Below z8.heap.size z8 z9 := chain (by go_grown) g_z9
  have t_z9 := chain t_z8 s_z9
  clear g_z9 s_z9 t_z8
  go_wp2_with fail
  refine (knows (v := false) (by decide) _).mono ?_
  rintro e z10 ⟨rfl, g_z10⟩
  have s_z10 : Below z9.heap.size z9 z10 := chain (by go_grown) g_z10
  have t_z10 := chain t_z9 s_z10
  clear g_z10 s_z10 t_z9
  go_wp2_with fail
  refine (lring _).mono ?_
  rintro e z11 ⟨rfl, g_z11⟩
  have s_z11 : Below z10.heap.size z10 z11 := chain (by go_grown) g_z11
  have t_z11 := chain t_z10 s_z11
  clear g_z11 s_z11 t_z10
  go_wp2_with fail
  refine (knows (v := false) (by decide) _).mono ?_
  rintro e z12 ⟨rfl, g_z12⟩
  have s_z12 : Below z11.heap.size z11 z12 := chain (by go_grown) g_z12
  have t_z12 := chain t_z11 s_z12
  clear g_z12 s_z12 t_z11
  go_wp2_with fail
  go_ret
  exact ⟨rfl, by first | exact t_z12 | go_grown⟩
set_option maxRecDepth 100000 in
set_option maxHeartbeats 4000000 in
theorem matchesW (f n g m a e : Int) (w : World) : Calls Try.prog 3 #[.agg #[.int .i64 f, .int .i64 n], .agg #[.int .i64 g, .int .i64 m], .int .i64 a, .int .i64 e] w fun e w' => e = .returned (.bool true) ∧ Below w.heap.size w w' := by
  obtain ⟨v, hk⟩ : ∃ v, knb f n e = v := ⟨_, rfl⟩
  obtain ⟨x, hx⟩ : ∃ x, lrF f n g m a = x := ⟨_, rfl⟩
  obtain ⟨y, hy⟩ : ∃ y, lrN f n g m a = y := ⟨_, rfl⟩
  obtain ⟨s, hf⟩ : ∃ x, agF f n a = x := ⟨_, rfl⟩
  obtain ⟨t, hn⟩ : ∃ x, agN f n a = x := ⟨_, rfl⟩
  rcases ha : oka a with _ | _
  · have HA := Lib.hid ha; clear ha
    have HK := Lib.hid hk; have HX := Lib.hid hx; have HY := Lib.hid hy; have HF := Lib.hid hf; have HN := Lib.hid hn
    clear hk hx hy hf hn
    have t_w := Below.refl w.heap.size w
    go_enter Try.func3, Try.ntmps3
    go_wp2_with fail
    refine (head _).mono ?_
    rintro e x1 ⟨rfl, g_x1⟩
    have s_x1 : Below w.heap.size w x1 := chain (by go_grown) g_x1
    have t_x1 := chain t_w s_x1
    have p0 : x1.cell? ⟨w.heap.size, 0, none⟩ = some (.int .i64 f) := ((bcell g_x1).1 _ _ (by simp; try omega)).trans (by simp [go_sem])
    have p1 : x1.cell? ⟨w.heap.size, 1, none⟩ = some (.int .i64 n) := ((bcell g_x1).1 _ _ (by simp; try omega)).trans (by simp [go_sem])
    have z_p_x1 := lt_of p0
    have q0 : x1.cell? ⟨w.heap.size + 1, 0, none⟩ = some (.int .i64 g) := ((bcell g_x1).1 _ _ (by simp; try omega)).trans (by simp [go_sem])
    have q1 : x1.cell? ⟨w.heap.size + 1, 1, none⟩ = some (.int .i64 m) := ((bcell g_x1).1 _ _ (by simp; try omega)).trans (by simp [go_sem])
    have z_q_x1 := lt_of q0
    clear g_x1 s_x1 t_w
    go_wp2_with fail
    refine (epoch0 HA.out _).mono ?_
    rintro e x2 ⟨rfl, g_x2⟩
    have s_x2 : Below x1.heap.size x1 x2 := chain (by go_grown) g_x2
    have t_x2 := chain t_x1 s_x2
    replace p0 := keep p0 s_x2
    have z_p0_x2 := lt_of p0
    replace p1 := keep p1 s_x2
    replace q0 := keep q0 s_x2
    have z_q0_x2 := lt_of q0
    replace q1 := keep q1 s_x2
    clear g_x2 s_x2 z_p_x1 z_q_x1 t_x1
    go_wp2_with fail
    refine (repoch0 HA.out _).mono ?_
    rintro e w_35 ⟨rfl, hw⟩; obtain rfl := hw.symm
    clear hw
    go_wp2_with fail
    have fut_0_36 := fut_cell p0
    have fut_1_36 := fut_cell p1
    have fut_2_36 := fut_cell q0
    have fut_3_36 := fut_cell q1
    refine wp_region_fut (by kernel_rfl) (by kernel_rfl) ?_
    repeat (go_big_quiet_step (first
      | (go_at_call 13; with_reducible exact fut_call (knows HK.out _))
      | (go_at_call 14; with_reducible exact fut_call (rknows HK.out _))
      | (go_at_call 15; with_reducible exact fut_call (root0 HA.out _))
      | (go_at_call 16; with_reducible exact fut_call (rroot0 HA.out _))
      | (go_at_call 17; with_reducible exact fut_call (learn HX.out HY.out _))
      | (go_at_call 18; with_reducible exact fut_call (rlearn HX.out HY.out _))
      | (go_at_call 19; with_reducible exact fut_call (age HF.out HN.out _))
      | (go_at_call 20; with_reducible exact fut_call (rage HF.out HN.out _))))
    refine wpQuiet_nil ?_
    rintro _ ⟨⟨x9, s_x9⟩, rfl⟩
    clear fut_0_36 fut_1_36 fut_2_36 fut_3_36
    have t_x9 := chain t_x2 s_x9
    replace p0 := keep p0 s_x9
    replace p1 := keep p1 s_x9
    replace q0 := keep q0 s_x9
    replace q1 := keep q1 s_x9
    go_wp2_with fail
    go_ret
    exact ⟨rfl, by first | exact t_x9 | go_grown⟩
  · obtain ⟨h0, h1⟩ := oka_t ha
    obtain ⟨c, hq⟩ : ∃ x, a / 2000 = x := ⟨_, rfl⟩
    have q0 : 0 ≤ c := by omega
    have q1 : c ≤ 500000 := by omega
    have HA := Lib.hid ha; have HQ := Lib.hid hq; clear ha hq
    have HK := Lib.hid hk; have HX := Lib.hid hx; have HY := Lib.hid hy; have HF := Lib.hid hf; have HN := Lib.hid hn
    clear hk hx hy hf hn
    have t_w := Below.refl w.heap.size w
    go_enter Try.func3, Try.ntmps3
    go_wp2_with fail
    refine (head _).mono ?_
    rintro e x1 ⟨rfl, g_x1⟩
    have s_x1 : Below w.heap.size w x1 := chain (by go_grown) g_x1
    have t_x1 := chain t_w s_x1
    have p0 : x1.cell? ⟨w.heap.size, 0, none⟩ = some (.int .i64 f) := ((bcell g_x1).1 _ _ (by simp; try omega)).trans (by simp [go_sem])
    have p1 : x1.cell? ⟨w.heap.size, 1, none⟩ = some (.int .i64 n) := ((bcell g_x1).1 _ _ (by simp; try omega)).trans (by simp [go_sem])
    have z_p_x1 := lt_of p0
    have q0 : x1.cell? ⟨w.heap.size + 1, 0, none⟩ = some (.int .i64 g) := ((bcell g_x1).1 _ _ (by simp; try omega)).trans (by simp [go_sem])
    have q1 : x1.cell? ⟨w.heap.size + 1, 1, none⟩ = some (.int .i64 m) := ((bcell g_x1).1 _ _ (by simp; try omega)).trans (by simp [go_sem])
    have z_q_x1 := lt_of q0
    clear g_x1 s_x1 t_w
    go_wp2_with fail
    refine (epoch1 HA.out HQ.out _).mono ?_
    rintro e x2 ⟨rfl, g_x2⟩
    have s_x2 : Below x1.heap.size x1 x2 := chain (by go_grown) g_x2
    have t_x2 := chain t_x1 s_x2
    replace p0 := keep p0 s_x2
    have z_p0_x2 := lt_of p0
    replace p1 := keep p1 s_x2
    replace q0 := keep q0 s_x2
    have z_q0_x2 := lt_of q0
    replace q1 := keep q1 s_x2
    clear g_x2 s_x2 z_p_x1 z_q_x1 t_x1
    go_wp2_with fail
    refine (repoch1 HA.out HQ.out _).mono ?_
    rintro e w_43 ⟨rfl, hw⟩; obtain rfl := hw.symm
    clear hw
    go_wp2_with fail
    have fut_0_44 := fut_cell p0
    have fut_1_44 := fut_cell p1
    have fut_2_44 := fut_cell q0
    have fut_3_44 := fut_cell q1
    refine wp_region_fut (by kernel_rfl) (by kernel_rfl) ?_
    repeat (go_big_quiet_step (first
      | (go_at_call 13; with_reducible exact fut_call (knows HK.out _))
      | (go_at_call 14; with_reducible exact fut_call (rknows HK.out _))
      | (go_at_call 15; with_reducible exact fut_call (root1 HA.out HQ.out _))
      | (go_at_call 16; with_reducible exact fut_call (rroot1 HA.out HQ.out _))
      | (go_at_call 17; with_reducible exact fut_call (learn HX.out HY.out _))
      | (go_at_call 18; with_reducible exact fut_call (rlearn HX.out HY.out _))
      | (go_at_call 19; with_reducible exact fut_call (age HF.out HN.out _))
      | (go_at_call 20; with_reducible exact fut_call (rage HF.out HN.out _))))
    refine wpQuiet_nil ?_
    rintro _ ⟨⟨x9, s_x9⟩, rfl⟩
    clear fut_0_44 fut_1_44 fut_2_44 fut_3_44
    have t_x9 := chain t_x2 s_x9
    replace p0 := keep p0 s_x9
    replace p1 := keep p1 s_x9
    replace q0 := keep q0 s_x9
    replace q1 := keep q1 s_x9
    go_wp2_with fail
    go_ret
    exact ⟨rfl, by first | exact t_x9 | go_grown⟩
theorem slot_b {n s : Int} (h0 : 0 ≤ n) (hs : n % 999996000 = s) : 0 ≤ s ∧ s < 999996000 := by omega
theorem oka_mk {a : Int} (h0 : 0 ≤ a) (h1 : a ≤ 1000000000) : oka a = true := by simp [oka, h0, h1]
theorem oka_no {a : Int} (h0 : a < 0) : oka a = false := by simp [oka]; omega
set_option maxRecDepth 100000 in
set_option maxHeartbeats 4000000 in
theorem epochsW {n b : Int} (n0 : 0 ≤ n) (n1 : n ≤ 4294967295) (b0 : 0 ≤ b) (b1 : b ≤ 65535) (w : World) : Calls Try.prog 4 #[.int .u32 n, .int .u16 b] w fun e w' => e = .returned (.bool true) ∧ Below w.heap.size w w' := by
  obtain ⟨s, hs⟩ : ∃ s, n % 999996000 = s := ⟨_, rfl⟩
  obtain ⟨s0, s1⟩ := slot_b n0 hs
  obtain ⟨q, hq⟩ : ∃ q, s / 2000 = q := ⟨_, rfl⟩
  obtain ⟨fi, hfi⟩ : ∃ x, s - s % 2000 = x := ⟨_, rfl⟩
  obtain ⟨mx, hmx⟩ : ∃ x, (if fi < s - b then s - b else fi) = x := ⟨_, rfl⟩
  have hm : mx / 2000 = q ∧ 0 ≤ mx ∧ mx ≤ 999996000 := by rw [← hmx]; split <;> omega
  have hfq : fi = q * 2000 := by omega
  have q0 : 0 ≤ q := by omega
  have q1 : q ≤ 500000 := by omega
  have fi0 : 0 ≤ fi := by omega
  have fi1 : fi ≤ 999996000 := by omega
  have HS := Lib.hid hs; have HQ := Lib.hid hq; have HM := Lib.hid hm; have HF := Lib.hid hfq
  clear hs hq hm hfq
  by_cases hz : fi = 0
  · have z1 : (fi == 0) = true := by simp [hz]
    have HZ := Lib.hid hz; clear hz
    have t_w := Below.refl w.heap.size w
    go_enter Try.func4, Try.ntmps4
    go_wp2_with fail
    refine (head _).mono ?_
    rintro e x1 ⟨rfl, g_x1⟩
    have s_x1 : Below w.heap.size w x1 := chain (by go_grown) g_x1
    have t_x1 := chain t_w s_x1
    clear g_x1 s_x1 t_w
    go_wp2_with fail
    refine (lslot n0 n1 HS.out _).mono ?_
    rintro e w_48 ⟨rfl, hw⟩; obtain rfl := hw.symm
    clear hw
    go_wp2_with fail
    refine (epoch1 (oka_mk s0 (by omega)) HQ.out _).mono ?_
    rintro e x2 ⟨rfl, g_x2⟩
    have s_x2 : Below x1.heap.size x1 x2 := chain (by go_grown) g_x2
    have t_x2 := chain t_x1 s_x2
    clear g_x2 s_x2 t_x1
    go_wp2_with fail
    refine (epoch1 (oka_mk HM.out.2.1 (by have := HM.out; omega)) HM.out.1 _).mono ?_
    rintro e x3 ⟨rfl, g_x3⟩
    have s_x3 : Below x2.heap.size x2 x3 := chain (by go_grown) g_x3
    have t_x3 := chain t_x2 s_x3
    clear g_x3 s_x3 t_x2
    go_wp2_with fail
    refine (epoch1 (q := q + 1) (oka_mk (by omega) (by omega)) (by have := HQ.out; omega) _).mono ?_
    rintro e x4 ⟨rfl, g_x4⟩
    have s_x4 : Below x3.heap.size x3 x4 := chain (by go_grown) g_x4
    have t_x4 := chain t_x3 s_x4
    clear g_x4 s_x4 t_x3
    go_wp2_with fail
    refine (epoch0 (oka_no (by have := HZ.out; omega)) _).mono ?_
    rintro e x5 ⟨rfl, g_x5⟩
    have s_x5 : Below x4.heap.size x4 x5 := chain (by go_grown) g_x5
    have t_x5 := chain t_x4 s_x5
    clear g_x5 s_x5 t_x4
    go_wp2_with fail
    go_ret
    exact ⟨rfl, by first | exact t_x5 | go_grown⟩
  · have z1 : (fi == 0) = false := by simp [hz]
    have z2 : decide (0 < fi) = true := by simp; omega
    have HZ := Lib.hid hz; clear hz
    have t_w := Below.refl w.heap.size w
    go_enter Try.func4, Try.ntmps4
    go_wp2_with fail
    refine (head _).mono ?_
    rintro e x1 ⟨rfl, g_x1⟩
    have s_x1 : Below w.heap.size w x1 := chain (by go_grown) g_x1
    have t_x1 := chain t_w s_x1
    clear g_x1 s_x1 t_w
    go_wp2_with fail
    refine (lslot n0 n1 HS.out _).mono ?_
    rintro e w_56 ⟨rfl, hw⟩; obtain rfl := hw.symm
    clear hw
    go_wp2_with fail
    refine (epoch1 (oka_mk s0 (by omega)) HQ.out _).mono ?_
    rintro e x2 ⟨rfl, g_x2⟩
    have s_x2 : Below x1.heap.size x1 x2 := chain (by go_grown) g_x2
    have t_x2 := chain t_x1 s_x2
    clear g_x2 s_x2 t_x1
    go_wp2_with fail
    refine (epoch1 (oka_mk HM.out.2.1 (by have := HM.out; omega)) HM.out.1 _).mono ?_
    rintro e x3 ⟨rfl, g_x3⟩
    have s_x3 : Below x2.heap.size x2 x3 := chain (by go_grown) g_x3
    have t_x3 := chain t_x2 s_x3
    clear g_x3 s_x3 t_x2
    go_wp2_with fail
    refine (epoch1 (q := q + 1) (oka_mk (by omega) (by omega)) (by have := HQ.out; omega) _).mono ?_
    rintro e x4 ⟨rfl, g_x4⟩
    have s_x4 : Below x3.heap.size x3 x4 := chain (by go_grown) g_x4
    have t_x4 := chain t_x3 s_x4
    clear g_x4 s_x4 t_x3
    go_wp2_with fail
    refine (epoch1 (q := q - 1) (oka_mk (by have := HZ.out; omega) (by omega)) (by have := HF.out; omega) _).mono ?_
    rintro e x5 ⟨rfl, g_x5⟩
    have s_x5 : Below x4.heap.size x4 x5 := chain (by go_grown) g_x5
    have t_x5 := chain t_x4 s_x5
    clear g_x5 s_x5 t_x4
    go_wp2_with fail
    go_ret
    exact ⟨rfl, by first | exact t_x5 | go_grown⟩
set_option maxRecDepth 100000 in
set_option maxHeartbeats 4000000 in
theorem rootW {n o : Int} (n0 : 0 ≤ n) (n1 : n ≤ 4294967295) (w : World) : Calls Try.prog 5 #[.int .u32 n, .int .i64 o] w fun e w' => e = .returned (.bool true) ∧ Below w.heap.size w w' := by
  obtain ⟨s, hs⟩ : ∃ s, n % 999996000 = s := ⟨_, rfl⟩
  obtain ⟨s0, s1⟩ := slot_b n0 hs
  obtain ⟨q, hq⟩ : ∃ q, s / 2000 = q := ⟨_, rfl⟩
  have q0 : 0 ≤ q := by omega
  have q1 : q ≤ 500000 := by omega
  have ha : knb q (q + 2) q = true := by simp [knb, okr]; omega
  have hb : knb q (q + 2) (q + 1) = true := by simp [knb, okr]; omega
  have HS := Lib.hid hs; have HQ := Lib.hid hq; have HA := Lib.hid ha; have HB := Lib.hid hb
  clear hs hq
  by_cases e1 : o = q
  · have hc : knb q (q + 2) o = true := by rw [e1]; exact ha
    have d1 : (o == q) = true := by simp [e1]
    have HC := Lib.hid hc; clear hc ha hb e1
    have t_w := Below.refl w.heap.size w
    go_enter Try.func5, Try.ntmps5
    go_wp2_with fail
    refine (head _).mono ?_
    rintro e x1 ⟨rfl, g_x1⟩
    have s_x1 : Below w.heap.size w x1 := chain (by go_grown) g_x1
    have t_x1 := chain t_w s_x1
    clear g_x1 s_x1 t_w
    go_wp2_with fail
    refine (lslot n0 n1 HS.out _).mono ?_
    rintro e w_64 ⟨rfl, hw⟩; obtain rfl := hw.symm
    clear hw
    go_wp2_with fail
    refine (epoch1 (oka_mk s0 (by omega)) HQ.out _).mono ?_
    rintro e x2 ⟨rfl, g_x2⟩
    have s_x2 : Below x1.heap.size x1 x2 := chain (by go_grown) g_x2
    have t_x2 := chain t_x1 s_x2
    clear g_x2 s_x2 t_x1
    go_wp2_with fail
    refine (lslot n0 n1 HS.out _).mono ?_
    rintro e w_66 ⟨rfl, hw⟩; obtain rfl := hw.symm
    clear hw
    go_wp2_with fail
    refine (root1 (oka_mk s0 (by omega)) HQ.out _).mono ?_
    rintro e x3 ⟨rfl, g_x3⟩
    have s_x3 : Below x2.heap.size x2 x3 := chain (by go_grown) g_x3
    have t_x3 := chain t_x2 s_x3
    clear g_x3 s_x3 t_x2
    go_wp2_with fail
    refine (knows HA.out _).mono ?_
    rintro e x4 ⟨rfl, g_x4⟩
    have s_x4 : Below x3.heap.size x3 x4 := chain (by go_grown) g_x4
    have t_x4 := chain t_x3 s_x4
    have r0 : x4.cell? ⟨x3.heap.size, 0, none⟩ = some (.int .i64 q) := ((bcell g_x4).1 _ _ (by simp; try omega)).trans (by simp [go_sem])
    have r1 : x4.cell? ⟨x3.heap.size, 1, none⟩ = some (.int .i64 (q + 2)) := ((bcell g_x4).1 _ _ (by simp; try omega)).trans (by simp [go_sem])
    have z_r_x4 := lt_of r0
    clear g_x4 s_x4 t_x3
    go_wp2_with fail
    refine (knows HB.out _).mono ?_
    rintro e x5 ⟨rfl, g_x5⟩
    have s_x5 : Below x4.heap.size x4 x5 := chain (by go_grown) g_x5
    have t_x5 := chain t_x4 s_x5
    replace r0 := keep r0 s_x5
    have z_r0_x5 := lt_of r0
    replace r1 := keep r1 s_x5
    clear g_x5 s_x5 z_r_x4 t_x4
    go_wp2_with fail
    refine (knows HC.out _).mono ?_
    rintro e x6 ⟨rfl, g_x6⟩
    have s_x6 : Below x5.heap.size x5 x6 := chain (by go_grown) g_x6
    have t_x6 := chain t_x5 s_x6
    replace r0 := keep r0 s_x6
    have z_r0_x6 := lt_of r0
    replace r1 := keep r1 s_x6
    clear g_x6 s_x6 z_r0_x5 t_x5
    go_wp2_with fail
    go_ret
    exact ⟨rfl, by first | exact t_x6 | go_grown⟩
  · have d1 : (o == q) = false := by simp [e1]
    by_cases e2 : o = q + 1
    · have hc : knb q (q + 2) o = true := by rw [e2]; exact hb
      have d2 : (o == q + 1) = true := by simp [e2]
      have HC := Lib.hid hc; clear hc ha hb e1 e2
      have t_w := Below.refl w.heap.size w
      go_enter Try.func5, Try.ntmps5
      go_wp2_with fail
      refine (head _).mono ?_
      rintro e x1 ⟨rfl, g_x1⟩
      have s_x1 : Below w.heap.size w x1 := chain (by go_grown) g_x1
      have t_x1 := chain t_w s_x1
      clear g_x1 s_x1 t_w
      go_wp2_with fail
      refine (lslot n0 n1 HS.out _).mono ?_
      rintro e w_75 ⟨rfl, hw⟩; obtain rfl := hw.symm
      clear hw
      go_wp2_with fail
      refine (epoch1 (oka_mk s0 (by omega)) HQ.out _).mono ?_
      rintro e x2 ⟨rfl, g_x2⟩
      have s_x2 : Below x1.heap.size x1 x2 := chain (by go_grown) g_x2
      have t_x2 := chain t_x1 s_x2
      clear g_x2 s_x2 t_x1
      go_wp2_with fail
      refine (lslot n0 n1 HS.out _).mono ?_
      rintro e w_77 ⟨rfl, hw⟩; obtain rfl := hw.symm
      clear hw
      go_wp2_with fail
      refine (root1 (oka_mk s0 (by omega)) HQ.out _).mono ?_
      rintro e x3 ⟨rfl, g_x3⟩
      have s_x3 : Below x2.heap.size x2 x3 := chain (by go_grown) g_x3
      have t_x3 := chain t_x2 s_x3
      clear g_x3 s_x3 t_x2
      go_wp2_with fail
      refine (knows HA.out _).mono ?_
      rintro e x4 ⟨rfl, g_x4⟩
      have s_x4 : Below x3.heap.size x3 x4 := chain (by go_grown) g_x4
      have t_x4 := chain t_x3 s_x4
      have r0 : x4.cell? ⟨x3.heap.size, 0, none⟩ = some (.int .i64 q) := ((bcell g_x4).1 _ _ (by simp; try omega)).trans (by simp [go_sem])
      have r1 : x4.cell? ⟨x3.heap.size, 1, none⟩ = some (.int .i64 (q + 2)) := ((bcell g_x4).1 _ _ (by simp; try omega)).trans (by simp [go_sem])
      have z_r_x4 := lt_of r0
      clear g_x4 s_x4 t_x3
      go_wp2_with fail
      refine (knows HB.out _).mono ?_
      rintro e x5 ⟨rfl, g_x5⟩
      have s_x5 : Below x4.heap.size x4 x5 := chain (by go_grown) g_x5
      have t_x5 := chain t_x4 s_x5
      replace r0 := keep r0 s_x5
      have z_r0_x5 := lt_of r0
      replace r1 := keep r1 s_x5
      clear g_x5 s_x5 z_r_x4 t_x4
      go_wp2_with fail
      refine (knows HC.out _).mono ?_
      rintro e x6 ⟨rfl, g_x6⟩
      have s_x6 : Below x5.heap.size x5 x6 := chain (by go_grown) g_x6
      have t_x6 := chain t_x5 s_x6
      replace r0 := keep r0 s_x6
      have z_r0_x6 := lt_of r0
      replace r1 := keep r1 s_x6
      clear g_x6 s_x6 z_r0_x5 t_x5
      go_wp2_with fail
      go_ret
      exact ⟨rfl, by first | exact t_x6 | go_grown⟩
    · have d2 : (o == q + 1) = false := by simp [e2]
      have hc : knb q (q + 2) o = false := by simp [knb]; omega
      have HC := Lib.hid hc; clear hc ha hb e1 e2
      have t_w := Below.refl w.heap.size w
      go_enter Try.func5, Try.ntmps5
      go_wp2_with fail
      refine (head _).mono ?_
      rintro e x1 ⟨rfl, g_x1⟩
      have s_x1 : Below w.heap.size w x1 := chain (by go_grown) g_x1
      have t_x1 := chain t_w s_x1
      clear g_x1 s_x1 t_w
      go_wp2_with fail
      refine (lslot n0 n1 HS.out _).mono ?_
      rintro e w_86 ⟨rfl, hw⟩; obtain rfl := hw.symm
      clear hw
      go_wp2_with fail
      refine (epoch1 (oka_mk s0 (by omega)) HQ.out _).mono ?_
      rintro e x2 ⟨rfl, g_x2⟩
      have s_x2 : Below x1.heap.size x1 x2 := chain (by go_grown) g_x2
      have t_x2 := chain t_x1 s_x2
      clear g_x2 s_x2 t_x1
      go_wp2_with fail
      refine (lslot n0 n1 HS.out _).mono ?_
      rintro e w_88 ⟨rfl, hw⟩; obtain rfl := hw.symm
      clear hw
      go_wp2_with fail
      refine (root1 (oka_mk s0 (by omega)) HQ.out _).mono ?_
      rintro e x3 ⟨rfl, g_x3⟩
      have s_x3 : Below x2.heap.size x2 x3 := chain (by go_grown) g_x3
      have t_x3 := chain t_x2 s_x3
      clear g_x3 s_x3 t_x2
      go_wp2_with fail
      refine (knows HA.out _).mono ?_
      rintro e x4 ⟨rfl, g_x4⟩
      have s_x4 : Below x3.heap.size x3 x4 := chain (by go_grown) g_x4
      have t_x4 := chain t_x3 s_x4
      have r0 : x4.cell? ⟨x3.heap.size, 0, none⟩ = some (.int .i64 q) := ((bcell g_x4).1 _ _ (by simp; try omega)).trans (by simp [go_sem])
      have r1 : x4.cell? ⟨x3.heap.size, 1, none⟩ = some (.int .i64 (q + 2)) := ((bcell g_x4).1 _ _ (by simp; try omega)).trans (by simp [go_sem])
      have z_r_x4 := lt_of r0
      clear g_x4 s_x4 t_x3
      go_wp2_with fail
      refine (knows HB.out _).mono ?_
      rintro e x5 ⟨rfl, g_x5⟩
      have s_x5 : Below x4.heap.size x4 x5 := chain (by go_grown) g_x5
      have t_x5 := chain t_x4 s_x5
      replace r0 := keep r0 s_x5
      have z_r0_x5 := lt_of r0
      replace r1 := keep r1 s_x5
      clear g_x5 s_x5 z_r_x4 t_x4
      go_wp2_with fail
      refine (knows HC.out _).mono ?_
      rintro e x6 ⟨rfl, g_x6⟩
      have s_x6 : Below x5.heap.size x5 x6 := chain (by go_grown) g_x6
      have t_x6 := chain t_x5 s_x6
      replace r0 := keep r0 s_x6
      have z_r0_x6 := lt_of r0
      replace r1 := keep r1 s_x6
      clear g_x6 s_x6 z_r0_x5 t_x5
      go_wp2_with fail
      go_ret
      exact ⟨rfl, by first | exact t_x6 | go_grown⟩
end Go.Proofs.Ytabfmhkmofebnaa
