/- The laws of replay: Moving, Jumps. -/
import Derived.Test.YtojcbolfheneeaaRepD
namespace Go.Proofs.Ytojcbolfheneeaa
open Go.ChangeShapes Go.WideShapes Go.ChangeAt Go.RowKit
theorem move_vw {T k : Int} {B : Nat} (h : vw T B = true) (h64 : 64 ≤ T) (k0 : 0 ≤ k) (h1 : T + k ≤ 1000000000) : vw (T + k) B = true := by
  have hT : ¬ T = 0 := by omega
  have hT' : ¬ T + k = 0 := by omega
  have hc : okc (T + k) = true := by simp [okc]; omega
  have e1 : decide (64 ≤ T) = true := decide_eq_true h64
  have e2 : decide (64 ≤ T + k) = true := decide_eq_true (by omega)
  unfold vw at h ⊢
  rw [if_neg hT, e1] at h
  rw [if_neg hT', hc, e2]
  simp only [Bool.true_or, Bool.and_true, Bool.and_eq_true] at h
  simp [h.2]
theorem move_fr {T k n : Int} {B : Nat} (h : vw T B = true) (h' : vw (T + k) B = true) (hc : okc n = true) (hc' : okc (n + k) = true) : fr (T + k) B (n + k) = fr T B n := by
  have e1 : decide (T + k - 64 < n + k) = decide (T - 64 < n) := by rw [decide_eq_decide]; omega
  have e2 : decide (T + k < n + k) = decide (T < n) := by rw [decide_eq_decide]; omega
  have e3 : T + k - (n + k) = T - n := by omega
  unfold fr
  rw [h, h', hc, hc', e1, e2, e3]
theorem move_nt {T k n : Int} {B : Nat} (h : vw T B = true) (h' : vw (T + k) B = true) (hc : okc n = true) (hc' : okc (n + k) = true) :
    ntE (T + k) B (n + k) = ntE T B n ∧ (ntE T B n = 0 → ntT T B n + k = ntT (T + k) B (n + k) ∧ ntB T B n = ntB (T + k) B (n + k)) := by
  have hf := move_fr h h' hc hc'
  refine ⟨by simp [ntE, h, h', hc, hc', hf], fun h0 => ?_⟩
  have hfr : fr T B n = true := by
    simp only [ntE, h, hc, Bool.and_self, if_true] at h0
    by_cases hf : fr T B n = true
    · exact hf
    · rw [if_neg hf] at h0; omega
  have e1 : (if T + k < n + k then n + k else T + k) = (if T < n then n else T) + k := by
    by_cases hl : T < n
    · rw [if_pos hl, if_pos (by omega)]
    · rw [if_neg hl, if_neg (by omega)]
  simp only [ntT, ntB, hf, hfr, if_true, e1, true_and]
  congr 3
  · congr 2; omega
  · omega
set_option maxRecDepth 100000 in
set_option maxHeartbeats 4000000 in
theorem movingW {T : Int} {B : Nat} {n k : Int} (hb : B < 18446744073709551616) (nl : -9223372036854775808 ≤ n) (nh : n ≤ 9223372036854775807) (k0 : 0 ≤ k) (k1 : k ≤ 65535) (w : World) : Calls Try.prog 6 #[.agg #[.int .i64 T, .int .u64 B], .int .i64 n, .int .u16 k] w fun e w' => e = .returned (.bool true) ∧ Below w.heap.size w w' := by
  rcases hv : vw T B with _ | _
  · have HV := Lib.hid hv; clear hv
    have t_w := Below.refl w.heap.size w
    go_enter Try.func6, Try.ntmps6
    go_wp2_with fail
    refine (head _).mono ?_
    rintro e x1 ⟨rfl, g_x1⟩
    have s_x1 : Below w.heap.size w x1 := chain (by go_grown) g_x1
    have t_x1 := chain t_w s_x1
    have p0 : x1.cell? ⟨w.heap.size, 0, none⟩ = some (.int .i64 T) := ((bcell g_x1).1 _ _ (by simp; try omega)).trans (by simp [go_sem])
    have p1 : x1.cell? ⟨w.heap.size, 1, none⟩ = some (.int .u64 B) := ((bcell g_x1).1 _ _ (by simp; try omega)).trans (by simp [go_sem])
    have z_p_x1 := lt_of p0
    clear g_x1 s_x1 t_w
    go_wp2_with fail
    refine (rvalid hb HV.out _).mono ?_
    rintro e x2 ⟨rfl, g_x2⟩
    have s_x2 : Below x1.heap.size x1 x2 := chain (by go_grown) g_x2
    have t_x2 := chain t_x1 s_x2
    replace p0 := keep p0 s_x2
    have z_p0_x2 := lt_of p0
    replace p1 := keep p1 s_x2
    clear g_x2 s_x2 z_p_x1 t_x1
    go_wp2_with fail
    go_ret
    exact ⟨rfl, by first | exact t_x2 | go_grown⟩
  · obtain ⟨T0, T1⟩ := vw_t hv
    by_cases h64 : T < 64
    · have d1 : decide (T < 64) = true := decide_eq_true h64
      have HV := Lib.hid hv; clear hv
      have t_w := Below.refl w.heap.size w
      go_enter Try.func6, Try.ntmps6
      go_wp2_with fail
      refine (head _).mono ?_
      rintro e x1 ⟨rfl, g_x1⟩
      have s_x1 : Below w.heap.size w x1 := chain (by go_grown) g_x1
      have t_x1 := chain t_w s_x1
      have p0 : x1.cell? ⟨w.heap.size, 0, none⟩ = some (.int .i64 T) := ((bcell g_x1).1 _ _ (by simp; try omega)).trans (by simp [go_sem])
      have p1 : x1.cell? ⟨w.heap.size, 1, none⟩ = some (.int .u64 B) := ((bcell g_x1).1 _ _ (by simp; try omega)).trans (by simp [go_sem])
      have z_p_x1 := lt_of p0
      clear g_x1 s_x1 t_w
      go_wp2_with fail
      refine (rvalid hb HV.out _).mono ?_
      rintro e x2 ⟨rfl, g_x2⟩
      have s_x2 : Below x1.heap.size x1 x2 := chain (by go_grown) g_x2
      have t_x2 := chain t_x1 s_x2
      replace p0 := keep p0 s_x2
      have z_p0_x2 := lt_of p0
      replace p1 := keep p1 s_x2
      clear g_x2 s_x2 z_p_x1 t_x1
      go_wp2_with fail
      go_ret
      exact ⟨rfl, by first | exact t_x2 | go_grown⟩
    · have d1 : decide (T < 64) = false := decide_eq_false h64
      rcases hc : okc n with _ | _
      · have HV := Lib.hid hv; have HC := Lib.hid hc; clear hv hc
        have t_w := Below.refl w.heap.size w
        go_enter Try.func6, Try.ntmps6
        go_wp2_with fail
        refine (head _).mono ?_
        rintro e x1 ⟨rfl, g_x1⟩
        have s_x1 : Below w.heap.size w x1 := chain (by go_grown) g_x1
        have t_x1 := chain t_w s_x1
        have p0 : x1.cell? ⟨w.heap.size, 0, none⟩ = some (.int .i64 T) := ((bcell g_x1).1 _ _ (by simp; try omega)).trans (by simp [go_sem])
        have p1 : x1.cell? ⟨w.heap.size, 1, none⟩ = some (.int .u64 B) := ((bcell g_x1).1 _ _ (by simp; try omega)).trans (by simp [go_sem])
        have z_p_x1 := lt_of p0
        clear g_x1 s_x1 t_w
        go_wp2_with fail
        refine (rvalid hb HV.out _).mono ?_
        rintro e x2 ⟨rfl, g_x2⟩
        have s_x2 : Below x1.heap.size x1 x2 := chain (by go_grown) g_x2
        have t_x2 := chain t_x1 s_x2
        replace p0 := keep p0 s_x2
        have z_p0_x2 := lt_of p0
        replace p1 := keep p1 s_x2
        clear g_x2 s_x2 z_p_x1 t_x1
        go_wp2_with fail
        refine (rcounter HC.out _).mono ?_
        rintro e w_15 ⟨rfl, hw⟩; obtain rfl := hw.symm
        clear hw
        go_wp2_with fail
        go_ret
        exact ⟨rfl, by first | exact t_x2 | go_grown⟩
      · obtain ⟨n0, n1⟩ := okc_t hc
        by_cases h5 : 500000000 < T
        · have d2 : decide (500000000 < T) = true := decide_eq_true h5
          have HV := Lib.hid hv; have HC := Lib.hid hc; clear hv hc
          have t_w := Below.refl w.heap.size w
          go_enter Try.func6, Try.ntmps6
          go_wp2_with fail
          refine (head _).mono ?_
          rintro e x1 ⟨rfl, g_x1⟩
          have s_x1 : Below w.heap.size w x1 := chain (by go_grown) g_x1
          have t_x1 := chain t_w s_x1
          have p0 : x1.cell? ⟨w.heap.size, 0, none⟩ = some (.int .i64 T) := ((bcell g_x1).1 _ _ (by simp; try omega)).trans (by simp [go_sem])
          have p1 : x1.cell? ⟨w.heap.size, 1, none⟩ = some (.int .u64 B) := ((bcell g_x1).1 _ _ (by simp; try omega)).trans (by simp [go_sem])
          have z_p_x1 := lt_of p0
          clear g_x1 s_x1 t_w
          go_wp2_with fail
          refine (rvalid hb HV.out _).mono ?_
          rintro e x2 ⟨rfl, g_x2⟩
          have s_x2 : Below x1.heap.size x1 x2 := chain (by go_grown) g_x2
          have t_x2 := chain t_x1 s_x2
          replace p0 := keep p0 s_x2
          have z_p0_x2 := lt_of p0
          replace p1 := keep p1 s_x2
          clear g_x2 s_x2 z_p_x1 t_x1
          go_wp2_with fail
          refine (rcounter HC.out _).mono ?_
          rintro e w_21 ⟨rfl, hw⟩; obtain rfl := hw.symm
          clear hw
          go_wp2_with fail
          go_ret
          exact ⟨rfl, by first | exact t_x2 | go_grown⟩
        · have d2 : decide (500000000 < T) = false := decide_eq_false h5
          by_cases h6 : 500000000 < n
          · have d3 : decide (500000000 < n) = true := decide_eq_true h6
            have HV := Lib.hid hv; have HC := Lib.hid hc; clear hv hc
            have t_w := Below.refl w.heap.size w
            go_enter Try.func6, Try.ntmps6
            go_wp2_with fail
            refine (head _).mono ?_
            rintro e x1 ⟨rfl, g_x1⟩
            have s_x1 : Below w.heap.size w x1 := chain (by go_grown) g_x1
            have t_x1 := chain t_w s_x1
            have p0 : x1.cell? ⟨w.heap.size, 0, none⟩ = some (.int .i64 T) := ((bcell g_x1).1 _ _ (by simp; try omega)).trans (by simp [go_sem])
            have p1 : x1.cell? ⟨w.heap.size, 1, none⟩ = some (.int .u64 B) := ((bcell g_x1).1 _ _ (by simp; try omega)).trans (by simp [go_sem])
            have z_p_x1 := lt_of p0
            clear g_x1 s_x1 t_w
            go_wp2_with fail
            refine (rvalid hb HV.out _).mono ?_
            rintro e x2 ⟨rfl, g_x2⟩
            have s_x2 : Below x1.heap.size x1 x2 := chain (by go_grown) g_x2
            have t_x2 := chain t_x1 s_x2
            replace p0 := keep p0 s_x2
            have z_p0_x2 := lt_of p0
            replace p1 := keep p1 s_x2
            clear g_x2 s_x2 z_p_x1 t_x1
            go_wp2_with fail
            refine (rcounter HC.out _).mono ?_
            rintro e w_27 ⟨rfl, hw⟩; obtain rfl := hw.symm
            clear hw
            go_wp2_with fail
            go_ret
            exact ⟨rfl, by first | exact t_x2 | go_grown⟩
          · have d3 : decide (500000000 < n) = false := decide_eq_false h6
            have hv' := move_vw hv (by omega) k0 (show T + k ≤ 1000000000 by omega)
            have hc' : okc (n + k) = true := by simp [okc]; omega
            have hm := move_nt hv hv' hc hc'
            have hf := move_fr hv hv' hc hc'
            obtain ⟨X, hX⟩ : ∃ x, ntT T B n = x := ⟨_, rfl⟩
            obtain ⟨Y, hY⟩ : ∃ x, ntB T B n = x := ⟨_, rfl⟩
            obtain ⟨E, hE⟩ : ∃ x, ntE T B n = x := ⟨_, rfl⟩
            obtain ⟨X', hX'⟩ : ∃ x, ntT (T + k) B (n + k) = x := ⟨_, rfl⟩
            obtain ⟨Y', hY'⟩ : ∃ x, ntB (T + k) B (n + k) = x := ⟨_, rfl⟩
            obtain ⟨v, hfr⟩ : ∃ x, fr T B n = x := ⟨_, rfl⟩
            rw [hfr] at hf
            rw [hE, hX, hX', hY, hY'] at hm
            obtain ⟨hE', hXY⟩ := hm
            have XB : 0 ≤ X ∧ X ≤ 1000000000 := by
              rw [← hX]; unfold ntT; split
              · split <;> omega
              · omega
            obtain ⟨XB0, XB1⟩ := XB
            have HV := Lib.hid hv; have HC := Lib.hid hc; have HX := Lib.hid hX; have HY := Lib.hid hY; have HE := Lib.hid hE; have HX' := Lib.hid hX'; have HY' := Lib.hid hY'; have HE' := Lib.hid hE'; have HF := Lib.hid hfr; have HF' := Lib.hid hf
            clear hv hc hX hY hE hX' hY' hE' hf hfr hv' hc'
            by_cases he : E = 0
            · obtain ⟨rfl, rfl⟩ := hXY he
              subst he
              have t_w := Below.refl w.heap.size w
              go_enter Try.func6, Try.ntmps6
              go_wp2_with fail
              refine (head _).mono ?_
              rintro e x1 ⟨rfl, g_x1⟩
              have s_x1 : Below w.heap.size w x1 := chain (by go_grown) g_x1
              have t_x1 := chain t_w s_x1
              have p0 : x1.cell? ⟨w.heap.size, 0, none⟩ = some (.int .i64 T) := ((bcell g_x1).1 _ _ (by simp; try omega)).trans (by simp [go_sem])
              have p1 : x1.cell? ⟨w.heap.size, 1, none⟩ = some (.int .u64 B) := ((bcell g_x1).1 _ _ (by simp; try omega)).trans (by simp [go_sem])
              have z_p_x1 := lt_of p0
              clear g_x1 s_x1 t_w
              go_wp2_with fail
              refine (rvalid hb HV.out _).mono ?_
              rintro e x2 ⟨rfl, g_x2⟩
              have s_x2 : Below x1.heap.size x1 x2 := chain (by go_grown) g_x2
              have t_x2 := chain t_x1 s_x2
              replace p0 := keep p0 s_x2
              have z_p0_x2 := lt_of p0
              replace p1 := keep p1 s_x2
              clear g_x2 s_x2 z_p_x1 t_x1
              go_wp2_with fail
              refine (rcounter HC.out _).mono ?_
              rintro e w_33 ⟨rfl, hw⟩; obtain rfl := hw.symm
              clear hw
              go_wp2_with fail
              refine (note hb HX.out HY.out HE.out _).mono ?_
              rintro e x3 ⟨rfl, g_x3⟩
              have s_x3 : Below x2.heap.size x2 x3 := chain (by go_grown) g_x3
              have t_x3 := chain t_x2 s_x3
              replace p0 := keep p0 s_x3
              have z_p0_x3 := lt_of p0
              replace p1 := keep p1 s_x3
              have q0 : x3.cell? ⟨x2.heap.size, 0, none⟩ = some (.int .i64 (T + k)) := ((bcell g_x3).1 _ _ (by simp; try omega)).trans (by simp [go_sem])
              have q1 : x3.cell? ⟨x2.heap.size, 1, none⟩ = some (.int .u64 B) := ((bcell g_x3).1 _ _ (by simp; try omega)).trans (by simp [go_sem])
              have z_q_x3 := lt_of q0
              clear g_x3 s_x3 t_x2
              go_wp2_with fail
              refine (note hb HX'.out HY'.out HE'.out _).mono ?_
              rintro e x4 ⟨rfl, g_x4⟩
              have s_x4 : Below x3.heap.size x3 x4 := chain (by go_grown) g_x4
              have t_x4 := chain t_x3 s_x4
              replace p0 := keep p0 s_x4
              have z_p0_x4 := lt_of p0
              replace p1 := keep p1 s_x4
              replace q0 := keep q0 s_x4
              have z_q0_x4 := lt_of q0
              replace q1 := keep q1 s_x4
              have a0 : x4.cell? ⟨x3.heap.size, 0, none⟩ = some (.int .i64 X) := ((bcell g_x4).1 _ _ (by simp; try omega)).trans (by simp [go_sem])
              have a1 : x4.cell? ⟨x3.heap.size, 1, none⟩ = some (.int .u64 Y) := ((bcell g_x4).1 _ _ (by simp; try omega)).trans (by simp [go_sem])
              have z_a_x4 := lt_of a0
              clear g_x4 s_x4 t_x3
              go_wp2_with fail
              have s_W_1 : Below x4.heap.size x4 (x4.alloc (.cells #[.int .i64 (X + k), .int .u64 Y] 24)) := Below.alloc (Below.refl _ _) (Nat.le_refl _) _
              have b0 : (x4.alloc (.cells #[.int .i64 (X + k), .int .u64 Y] 24)).cell? ⟨x4.heap.size, 0, none⟩ = some (.int .i64 (X + k)) := by simp [go_sem]
              have b1 : (x4.alloc (.cells #[.int .i64 (X + k), .int .u64 Y] 24)).cell? ⟨x4.heap.size, 1, none⟩ = some (.int .u64 Y) := by simp [go_sem]
              replace p0 := keep p0 s_W_1
              replace p1 := keep p1 s_W_1
              replace q0 := keep q0 s_W_1
              replace q1 := keep q1 s_W_1
              replace a0 := keep a0 s_W_1
              replace a1 := keep a1 s_W_1
              have t_W_1 := chain t_x4 s_W_1
              generalize x4.alloc (.cells #[.int .i64 (X + k), .int .u64 Y] 24) = W_1 at *
              have fut_0_39 := fut_cell p0
              have fut_1_39 := fut_cell p1
              have fut_2_39 := fut_cell q0
              have fut_3_39 := fut_cell q1
              have fut_4_39 := fut_cell a0
              have fut_5_39 := fut_cell a1
              have fut_6_39 := fut_cell b0
              have fut_7_39 := fut_cell b1
              refine wp_region_fut (by kernel_rfl) (by kernel_rfl) ?_
              repeat (go_big_quiet_step (first
                | (go_at_call 14; with_reducible exact fut_call (fresh hb HF.out _))
                | (go_at_call 14; with_reducible exact fut_call (fresh hb HF'.out _))))
              refine wpQuiet_nil ?_
              rintro _ ⟨⟨x5, s_x5⟩, rfl⟩
              clear fut_0_39 fut_1_39 fut_2_39 fut_3_39 fut_4_39 fut_5_39 fut_6_39 fut_7_39
              have t_x5 := chain t_W_1 s_x5
              replace p0 := keep p0 s_x5
              replace p1 := keep p1 s_x5
              replace q0 := keep q0 s_x5
              replace q1 := keep q1 s_x5
              replace a0 := keep a0 s_x5
              replace a1 := keep a1 s_x5
              replace b0 := keep b0 s_x5
              replace b1 := keep b1 s_x5
              go_wp2_with fail
              go_ret
              exact ⟨rfl, by first | exact t_x5 | go_grown⟩
            · have e0 : (E == 0) = false := by simp [he]
              have e1 : (E != 0) = true := by simp [he]
              clear hXY he
              have t_w := Below.refl w.heap.size w
              go_enter Try.func6, Try.ntmps6
              go_wp2_with fail
              refine (head _).mono ?_
              rintro e x1 ⟨rfl, g_x1⟩
              have s_x1 : Below w.heap.size w x1 := chain (by go_grown) g_x1
              have t_x1 := chain t_w s_x1
              have p0 : x1.cell? ⟨w.heap.size, 0, none⟩ = some (.int .i64 T) := ((bcell g_x1).1 _ _ (by simp; try omega)).trans (by simp [go_sem])
              have p1 : x1.cell? ⟨w.heap.size, 1, none⟩ = some (.int .u64 B) := ((bcell g_x1).1 _ _ (by simp; try omega)).trans (by simp [go_sem])
              have z_p_x1 := lt_of p0
              clear g_x1 s_x1 t_w
              go_wp2_with fail
              refine (rvalid hb HV.out _).mono ?_
              rintro e x2 ⟨rfl, g_x2⟩
              have s_x2 : Below x1.heap.size x1 x2 := chain (by go_grown) g_x2
              have t_x2 := chain t_x1 s_x2
              replace p0 := keep p0 s_x2
              have z_p0_x2 := lt_of p0
              replace p1 := keep p1 s_x2
              clear g_x2 s_x2 z_p_x1 t_x1
              go_wp2_with fail
              refine (rcounter HC.out _).mono ?_
              rintro e w_45 ⟨rfl, hw⟩; obtain rfl := hw.symm
              clear hw
              go_wp2_with fail
              refine (note hb HX.out HY.out HE.out _).mono ?_
              rintro e x3 ⟨rfl, g_x3⟩
              have s_x3 : Below x2.heap.size x2 x3 := chain (by go_grown) g_x3
              have t_x3 := chain t_x2 s_x3
              replace p0 := keep p0 s_x3
              have z_p0_x3 := lt_of p0
              replace p1 := keep p1 s_x3
              have q0 : x3.cell? ⟨x2.heap.size, 0, none⟩ = some (.int .i64 (T + k)) := ((bcell g_x3).1 _ _ (by simp; try omega)).trans (by simp [go_sem])
              have q1 : x3.cell? ⟨x2.heap.size, 1, none⟩ = some (.int .u64 B) := ((bcell g_x3).1 _ _ (by simp; try omega)).trans (by simp [go_sem])
              have z_q_x3 := lt_of q0
              clear g_x3 s_x3 t_x2
              go_wp2_with fail
              refine (note hb HX'.out HY'.out HE'.out _).mono ?_
              rintro e x4 ⟨rfl, g_x4⟩
              have s_x4 : Below x3.heap.size x3 x4 := chain (by go_grown) g_x4
              have t_x4 := chain t_x3 s_x4
              replace p0 := keep p0 s_x4
              have z_p0_x4 := lt_of p0
              replace p1 := keep p1 s_x4
              replace q0 := keep q0 s_x4
              have z_q0_x4 := lt_of q0
              replace q1 := keep q1 s_x4
              have a0 : x4.cell? ⟨x3.heap.size, 0, none⟩ = some (.int .i64 X) := ((bcell g_x4).1 _ _ (by simp; try omega)).trans (by simp [go_sem])
              have a1 : x4.cell? ⟨x3.heap.size, 1, none⟩ = some (.int .u64 Y) := ((bcell g_x4).1 _ _ (by simp; try omega)).trans (by simp [go_sem])
              have z_a_x4 := lt_of a0
              clear g_x4 s_x4 t_x3
              go_wp2_with fail
              have s_W_2 : Below x4.heap.size x4 (x4.alloc (.cells #[.int .i64 X', .int .u64 Y'] 24)) := Below.alloc (Below.refl _ _) (Nat.le_refl _) _
              have b0 : (x4.alloc (.cells #[.int .i64 X', .int .u64 Y'] 24)).cell? ⟨x4.heap.size, 0, none⟩ = some (.int .i64 X') := by simp [go_sem]
              have b1 : (x4.alloc (.cells #[.int .i64 X', .int .u64 Y'] 24)).cell? ⟨x4.heap.size, 1, none⟩ = some (.int .u64 Y') := by simp [go_sem]
              replace p0 := keep p0 s_W_2
              replace p1 := keep p1 s_W_2
              replace q0 := keep q0 s_W_2
              replace q1 := keep q1 s_W_2
              replace a0 := keep a0 s_W_2
              replace a1 := keep a1 s_W_2
              have t_W_2 := chain t_x4 s_W_2
              generalize x4.alloc (.cells #[.int .i64 X', .int .u64 Y'] 24) = W_2 at *
              have fut_0_51 := fut_cell p0
              have fut_1_51 := fut_cell p1
              have fut_2_51 := fut_cell q0
              have fut_3_51 := fut_cell q1
              have fut_4_51 := fut_cell a0
              have fut_5_51 := fut_cell a1
              have fut_6_51 := fut_cell b0
              have fut_7_51 := fut_cell b1
              refine wp_region_fut (by kernel_rfl) (by kernel_rfl) ?_
              repeat (go_big_quiet_step (first
                | (go_at_call 14; with_reducible exact fut_call (fresh hb HF.out _))
                | (go_at_call 14; with_reducible exact fut_call (fresh hb HF'.out _))))
              refine wpQuiet_nil ?_
              rintro _ ⟨⟨x5, s_x5⟩, rfl⟩
              clear fut_0_51 fut_1_51 fut_2_51 fut_3_51 fut_4_51 fut_5_51 fut_6_51 fut_7_51
              have t_x5 := chain t_W_2 s_x5
              replace p0 := keep p0 s_x5
              replace p1 := keep p1 s_x5
              replace q0 := keep q0 s_x5
              replace q1 := keep q1 s_x5
              replace a0 := keep a0 s_x5
              replace a1 := keep a1 s_x5
              replace b0 := keep b0 s_x5
              replace b1 := keep b1 s_x5
              go_wp2_with fail
              go_ret
              exact ⟨rfl, by first | exact t_x5 | go_grown⟩
set_option maxRecDepth 100000 in
set_option maxHeartbeats 4000000 in
theorem jumpsW {T : Int} {B : Nat} {k : Int} (hb : B < 18446744073709551616) (k0 : 0 ≤ k) (k1 : k ≤ 65535) (w : World) : Calls Try.prog 7 #[.agg #[.int .i64 T, .int .u64 B], .int .u16 k] w fun e w' => e = .returned (.bool true) ∧ Below w.heap.size w w' := by
  rcases hv : vw T B with _ | _
  · have HV := Lib.hid hv; clear hv
    have t_w := Below.refl w.heap.size w
    go_enter Try.func7, Try.ntmps7
    go_wp2_with fail
    refine (head _).mono ?_
    rintro e x1 ⟨rfl, g_x1⟩
    have s_x1 : Below w.heap.size w x1 := chain (by go_grown) g_x1
    have t_x1 := chain t_w s_x1
    have p0 : x1.cell? ⟨w.heap.size, 0, none⟩ = some (.int .i64 T) := ((bcell g_x1).1 _ _ (by simp; try omega)).trans (by simp [go_sem])
    have p1 : x1.cell? ⟨w.heap.size, 1, none⟩ = some (.int .u64 B) := ((bcell g_x1).1 _ _ (by simp; try omega)).trans (by simp [go_sem])
    have z_p_x1 := lt_of p0
    clear g_x1 s_x1 t_w
    go_wp2_with fail
    refine (rvalid hb HV.out _).mono ?_
    rintro e x2 ⟨rfl, g_x2⟩
    have s_x2 : Below x1.heap.size x1 x2 := chain (by go_grown) g_x2
    have t_x2 := chain t_x1 s_x2
    replace p0 := keep p0 s_x2
    have z_p0_x2 := lt_of p0
    replace p1 := keep p1 s_x2
    clear g_x2 s_x2 z_p_x1 t_x1
    go_wp2_with fail
    go_ret
    exact ⟨rfl, by first | exact t_x2 | go_grown⟩
  · obtain ⟨T0, T1⟩ := vw_t hv
    by_cases hk : k = 0
    · subst hk
      have HV := Lib.hid hv; clear hv
      have t_w := Below.refl w.heap.size w
      go_enter Try.func7, Try.ntmps7
      go_wp2_with fail
      refine (head _).mono ?_
      rintro e x1 ⟨rfl, g_x1⟩
      have s_x1 : Below w.heap.size w x1 := chain (by go_grown) g_x1
      have t_x1 := chain t_w s_x1
      have p0 : x1.cell? ⟨w.heap.size, 0, none⟩ = some (.int .i64 T) := ((bcell g_x1).1 _ _ (by simp; try omega)).trans (by simp [go_sem])
      have p1 : x1.cell? ⟨w.heap.size, 1, none⟩ = some (.int .u64 B) := ((bcell g_x1).1 _ _ (by simp; try omega)).trans (by simp [go_sem])
      have z_p_x1 := lt_of p0
      clear g_x1 s_x1 t_w
      go_wp2_with fail
      refine (rvalid hb HV.out _).mono ?_
      rintro e x2 ⟨rfl, g_x2⟩
      have s_x2 : Below x1.heap.size x1 x2 := chain (by go_grown) g_x2
      have t_x2 := chain t_x1 s_x2
      replace p0 := keep p0 s_x2
      have z_p0_x2 := lt_of p0
      replace p1 := keep p1 s_x2
      clear g_x2 s_x2 z_p_x1 t_x1
      go_wp2_with fail
      go_ret
      exact ⟨rfl, by first | exact t_x2 | go_grown⟩
    · have d1 : (k == 0) = false := by simp [hk]
      by_cases h5 : 1000000000 < T + k
      · have d2 : decide (1000000000 < T + k) = true := decide_eq_true h5
        have HV := Lib.hid hv; clear hv
        have t_w := Below.refl w.heap.size w
        go_enter Try.func7, Try.ntmps7
        go_wp2_with fail
        refine (head _).mono ?_
        rintro e x1 ⟨rfl, g_x1⟩
        have s_x1 : Below w.heap.size w x1 := chain (by go_grown) g_x1
        have t_x1 := chain t_w s_x1
        have p0 : x1.cell? ⟨w.heap.size, 0, none⟩ = some (.int .i64 T) := ((bcell g_x1).1 _ _ (by simp; try omega)).trans (by simp [go_sem])
        have p1 : x1.cell? ⟨w.heap.size, 1, none⟩ = some (.int .u64 B) := ((bcell g_x1).1 _ _ (by simp; try omega)).trans (by simp [go_sem])
        have z_p_x1 := lt_of p0
        clear g_x1 s_x1 t_w
        go_wp2_with fail
        refine (rvalid hb HV.out _).mono ?_
        rintro e x2 ⟨rfl, g_x2⟩
        have s_x2 : Below x1.heap.size x1 x2 := chain (by go_grown) g_x2
        have t_x2 := chain t_x1 s_x2
        replace p0 := keep p0 s_x2
        have z_p0_x2 := lt_of p0
        replace p1 := keep p1 s_x2
        clear g_x2 s_x2 z_p_x1 t_x1
        go_wp2_with fail
        go_ret
        exact ⟨rfl, by first | exact t_x2 | go_grown⟩
      · have d2 : decide (1000000000 < T + k) = false := decide_eq_false h5
        have hc : okc (T + k) = true := by simp [okc]; omega
        have hl : T < T + k := by omega
        have hf : fr T B (T + k) = true := by unfold fr; rw [hv, hc, decide_eq_true hl, decide_eq_true (show T - 64 < T + k by omega)]; rfl
        have hX : ntT T B (T + k) = T + k := by simp [ntT, hf, hl]
        have hE : ntE T B (T + k) = 0 := by simp [ntE, hf, hv, hc]
        obtain ⟨j, rfl⟩ := Int.eq_ofNat_of_zero_le k0
        have hY : ntB T B (T + j) = (B * 2 ^ j % 18446744073709551616) ||| 1 := by
          have e1 : (T + j - T).toNat = j := by omega
          simp only [ntB, hf, hl, if_true, e1]
          simp
        have HV := Lib.hid hv; have HX := Lib.hid hX; have HE := Lib.hid hE; have HF := Lib.hid hf
        clear hv hX hE hf hc hl
        by_cases hj : (j : Int) < 64
        · have d3 : decide ((j : Int) < 64) = true := decide_eq_true hj
          obtain ⟨m, hm⟩ : ∃ m, B * 2 ^ j % 18446744073709551616 = m := ⟨_, rfl⟩
          have hml : m < 18446744073709551616 := by rw [← hm]; exact Nat.mod_lt _ (by decide)
          obtain ⟨Y, hY2⟩ : ∃ Y, m ||| 1 = Y := ⟨_, rfl⟩
          have e1 := shl_min B j
          rw [hm] at e1 hY
          have e2 : bits BinOp.or IntKind.u64 1 (m : Int) = (Y : Int) := by
            have := u64_or (a := 1) (b := m) (by decide) hml
            rw [show (1 : Int) = ((1 : Nat) : Int) from rfl, this, Nat.or_comm, hY2]
          rw [hY2] at hY
          have HY := Lib.hid hY; have E1 := Lib.hid e1; have E2 := Lib.hid e2
          clear hY e1 e2 hm hml hY2 hj
          have t_w := Below.refl w.heap.size w
          go_enter Try.func7, Try.ntmps7
          go_wp2_with fail
          refine (head _).mono ?_
          rintro e x1 ⟨rfl, g_x1⟩
          have s_x1 : Below w.heap.size w x1 := chain (by go_grown) g_x1
          have t_x1 := chain t_w s_x1
          have p0 : x1.cell? ⟨w.heap.size, 0, none⟩ = some (.int .i64 T) := ((bcell g_x1).1 _ _ (by simp; try omega)).trans (by simp [go_sem])
          have p1 : x1.cell? ⟨w.heap.size, 1, none⟩ = some (.int .u64 B) := ((bcell g_x1).1 _ _ (by simp; try omega)).trans (by simp [go_sem])
          have z_p_x1 := lt_of p0
          clear g_x1 s_x1 t_w
          go_wp2_with fail
          refine (rvalid hb HV.out _).mono ?_
          rintro e x2 ⟨rfl, g_x2⟩
          have s_x2 : Below x1.heap.size x1 x2 := chain (by go_grown) g_x2
          have t_x2 := chain t_x1 s_x2
          replace p0 := keep p0 s_x2
          have z_p0_x2 := lt_of p0
          replace p1 := keep p1 s_x2
          clear g_x2 s_x2 z_p_x1 t_x1
          go_wp2_with fail
          refine (note hb HX.out HY.out HE.out _).mono ?_
          rintro e x3 ⟨rfl, g_x3⟩
          have s_x3 : Below x2.heap.size x2 x3 := chain (by go_grown) g_x3
          have t_x3 := chain t_x2 s_x3
          replace p0 := keep p0 s_x3
          have z_p0_x3 := lt_of p0
          replace p1 := keep p1 s_x3
          clear g_x3 s_x3 z_p0_x2 t_x2
          go_wp2_with fail
          rw [E1.out]
          rw [E2.out]
          refine (fresh hb HF.out _).mono ?_
          rintro e x4 ⟨rfl, g_x4⟩
          have s_x4 : Below x3.heap.size x3 x4 := chain (by go_grown) g_x4
          have t_x4 := chain t_x3 s_x4
          replace p0 := keep p0 s_x4
          have z_p0_x4 := lt_of p0
          replace p1 := keep p1 s_x4
          have a0 : x4.cell? ⟨x3.heap.size, 0, none⟩ = some (.int .i64 (T + j)) := ((bcell g_x4).1 _ _ (by simp; try omega)).trans (by simp [go_sem])
          have a1 : x4.cell? ⟨x3.heap.size, 1, none⟩ = some (.int .u64 Y) := ((bcell g_x4).1 _ _ (by simp; try omega)).trans (by simp [go_sem])
          have z_a_x4 := lt_of a0
          clear g_x4 s_x4 t_x3
          go_wp2_with fail
          go_ret
          exact ⟨rfl, by first | exact t_x4 | go_grown⟩
        · have d3 : decide ((j : Int) < 64) = false := decide_eq_false hj
          have hz : B * 2 ^ j % 18446744073709551616 = 0 := by
            have : j = 64 + (j - 64) := by omega
            rw [this, Nat.pow_add]
            exact Nat.mod_eq_zero_of_dvd ⟨B * 2 ^ (j - 64), by rw [show (2 ^ 64 : Nat) = 18446744073709551616 from rfl]; rw [Nat.mul_left_comm]⟩
          rw [hz] at hY
          have hY' : ntB T B (T + j) = 1 := hY
          have HY := Lib.hid hY'
          clear hY hY' hz hj
          have t_w := Below.refl w.heap.size w
          go_enter Try.func7, Try.ntmps7
          go_wp2_with fail
          refine (head _).mono ?_
          rintro e x1 ⟨rfl, g_x1⟩
          have s_x1 : Below w.heap.size w x1 := chain (by go_grown) g_x1
          have t_x1 := chain t_w s_x1
          have p0 : x1.cell? ⟨w.heap.size, 0, none⟩ = some (.int .i64 T) := ((bcell g_x1).1 _ _ (by simp; try omega)).trans (by simp [go_sem])
          have p1 : x1.cell? ⟨w.heap.size, 1, none⟩ = some (.int .u64 B) := ((bcell g_x1).1 _ _ (by simp; try omega)).trans (by simp [go_sem])
          have z_p_x1 := lt_of p0
          clear g_x1 s_x1 t_w
          go_wp2_with fail
          refine (rvalid hb HV.out _).mono ?_
          rintro e x2 ⟨rfl, g_x2⟩
          have s_x2 : Below x1.heap.size x1 x2 := chain (by go_grown) g_x2
          have t_x2 := chain t_x1 s_x2
          replace p0 := keep p0 s_x2
          have z_p0_x2 := lt_of p0
          replace p1 := keep p1 s_x2
          clear g_x2 s_x2 z_p_x1 t_x1
          go_wp2_with fail
          refine (note hb HX.out HY.out HE.out _).mono ?_
          rintro e x3 ⟨rfl, g_x3⟩
          have s_x3 : Below x2.heap.size x2 x3 := chain (by go_grown) g_x3
          have t_x3 := chain t_x2 s_x3
          replace p0 := keep p0 s_x3
          have z_p0_x3 := lt_of p0
          replace p1 := keep p1 s_x3
          clear g_x3 s_x3 z_p0_x2 t_x2
          go_wp2_with fail
          refine (fresh hb HF.out _).mono ?_
          rintro e x4 ⟨rfl, g_x4⟩
          have s_x4 : Below x3.heap.size x3 x4 := chain (by go_grown) g_x4
          have t_x4 := chain t_x3 s_x4
          replace p0 := keep p0 s_x4
          have z_p0_x4 := lt_of p0
          replace p1 := keep p1 s_x4
          have a0 : x4.cell? ⟨x3.heap.size, 0, none⟩ = some (.int .i64 (T + j)) := ((bcell g_x4).1 _ _ (by simp; try omega)).trans (by simp [go_sem])
          have a1 : x4.cell? ⟨x3.heap.size, 1, none⟩ = some (.int .u64 1) := ((bcell g_x4).1 _ _ (by simp; try omega)).trans (by simp [go_sem])
          have z_a_x4 := lt_of a0
          clear g_x4 s_x4 t_x3
          go_wp2_with fail
          go_ret
          exact ⟨rfl, by first | exact t_x4 | go_grown⟩
theorem matchesI {T B n : Int} (h : (Lit.int .u64 B).wf = true) (w : World) : Calls Try.prog 3 #[.agg #[.int .i64 T, .int .u64 B], .int .i64 n] w fun e w' => e = .returned (.bool true) ∧ Below w.heap.size w w' := by
  have hb := bounds_u64 h
  obtain ⟨b, rfl⟩ := Int.eq_ofNat_of_zero_le hb.1
  exact matchesW (by omega) w
theorem movingI {T B n k : Int} (h : (Lit.int .u64 B).wf = true) (h1 : (Lit.int .i64 n).wf = true) (h2 : (Lit.int .u16 k).wf = true) (w : World) : Calls Try.prog 6 #[.agg #[.int .i64 T, .int .u64 B], .int .i64 n, .int .u16 k] w fun e w' => e = .returned (.bool true) ∧ Below w.heap.size w w' := by
  have hb := bounds_u64 h
  obtain ⟨b, rfl⟩ := Int.eq_ofNat_of_zero_le hb.1
  exact movingW (by omega) (bounds_i64 h1).1 (bounds_i64 h1).2 (bounds_u16 h2).1 (bounds_u16 h2).2 w
theorem jumpsI {T B k : Int} (h : (Lit.int .u64 B).wf = true) (h2 : (Lit.int .u16 k).wf = true) (w : World) : Calls Try.prog 7 #[.agg #[.int .i64 T, .int .u64 B], .int .u16 k] w fun e w' => e = .returned (.bool true) ∧ Below w.heap.size w w' := by
  have hb := bounds_u64 h
  obtain ⟨b, rfl⟩ := Int.eq_ofNat_of_zero_le hb.1
  exact jumpsW (by omega) (bounds_u16 h2).1 (bounds_u16 h2).2 w
end Go.Proofs.Ytojcbolfheneeaa
