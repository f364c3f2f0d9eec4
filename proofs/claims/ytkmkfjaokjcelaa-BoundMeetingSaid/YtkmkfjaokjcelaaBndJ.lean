/- Laws of bound: widths, later, growing. -/
import Derived.Test.YtkmkfjaokjcelaaBndHd
namespace Go.Proofs.Ytkmkfjaokjcelaa
open Go.ChangeShapes Go.WideShapes Go.ChangeAt Go.RowKit
theorem grow_ok {lo hi a now L H A E : Int} (h : GrowIs lo hi a now L H A E) : (E ≠ 0 → L = 0 ∧ H = 0 ∧ A = 0 ∧ (E = 1 ∨ E = 3)) ∧ (E = 0 → okS lo hi a = true ∧ a ≤ now ∧ now ≤ 20000000000000 ∧ L = lo - moreN (now - a) ∧ H = hi + moreN (now - a) ∧ A = now ∧ okS L H A = true) := by
  rcases h with ⟨_, rfl, rfl, rfl, rfl⟩ | ⟨_, _, rfl, rfl, rfl, rfl⟩ | ⟨h1, h2, rfl, rfl, rfl, rfl⟩
  · exact ⟨fun _ => ⟨rfl, rfl, rfl, .inl rfl⟩, fun h => by cases h⟩
  · exact ⟨fun _ => ⟨rfl, rfl, rfl, .inr rfl⟩, fun h => by cases h⟩
  · have h3 : okS lo hi a = true ∧ inB a 20000000000000 A = true := by simpa [gOk] using h1
    have h4 := inB_t h3.2
    exact ⟨fun h => absurd rfl h, fun _ => ⟨h3.1, h4.1, h4.2, rfl, rfl, rfl, h2⟩⟩
set_option maxHeartbeats 1000000 in
theorem widthsW (lo hi a now : Int) (w : World) : Calls Try.prog 9 #[.agg #[.int .i64 lo, .int .i64 hi, .int .i64 a], .int .i64 now] w fun e w' => e = .returned (.bool true) ∧ Below w.heap.size w w' := by
  obtain ⟨L, H, A, E, hg⟩ := grow_exists lo hi a now
  obtain ⟨g1, g2⟩ := grow_ok hg
  have HG := Lib.hid hg
  clear hg
  by_cases hE : E = 0
  · subst hE
    obtain ⟨ho, n1, n2, rfl, rfl, rfl, hs⟩ := g2 rfl
    obtain ⟨k1, k2, k3, k4, k5⟩ := okS_t ho
    have hw1 : widthI lo hi a = hi - lo := by simp [widthI, ho]
    have hw2 : widthI (lo - moreN (A - a)) (hi + moreN (A - a)) A = hi - lo + 2 * moreN (A - a) := by simp [widthI, hs]; omega
    have m1 : 51 * (A - a) ≤ (moreN (A - a) - 1) * 1000000 := by unfold moreN; omega
    have m2 : (moreN (A - a) - 2) * 1000000 < 51 * (A - a) := by unfold moreN; omega
    obtain ⟨mb1, mb2⟩ := moreN_b (show 0 ≤ A - a by omega) (by omega)
    generalize moreN (A - a) = m at *
    have W1 := Lib.hid hw1; have W2 := Lib.hid hw2
    clear g1 g2 ho hs hw1 hw2
    have t_w := Below.refl w.heap.size w
    go_enter Try.func9, Try.ntmps9
    go_wp2_with fail
    refine (bhead _).mono ?_
    rintro e x1 ⟨rfl, g_x1⟩
    have s_x1 : Below w.heap.size w x1 := chain (by go_grown) g_x1
    have t_x1 := chain t_w s_x1
    have k0 : x1.cell? ⟨w.heap.size, 0, none⟩ = some (.int .i64 lo) := ((bcell g_x1).1 _ _ (by simp; try omega)).trans (by simp [go_sem])
    have k1 : x1.cell? ⟨w.heap.size, 1, none⟩ = some (.int .i64 hi) := ((bcell g_x1).1 _ _ (by simp; try omega)).trans (by simp [go_sem])
    have k2 : x1.cell? ⟨w.heap.size, 2, none⟩ = some (.int .i64 a) := ((bcell g_x1).1 _ _ (by simp; try omega)).trans (by simp [go_sem])
    have z_k_x1 := lt_of k0
    clear g_x1 s_x1 t_w
    go_wp2_with fail
    refine (growV HG.out _).mono ?_
    rintro e x2 ⟨rfl, g_x2⟩
    have s_x2 : Below x1.heap.size x1 x2 := chain (by go_grown) g_x2
    have t_x2 := chain t_x1 s_x2
    replace k0 := keep k0 s_x2
    have z_k0_x2 := lt_of k0
    replace k1 := keep k1 s_x2
    replace k2 := keep k2 s_x2
    clear g_x2 s_x2 z_k_x1 t_x1
    go_wp2_with fail
    have b1 : ((hi + m - hi : Int) == m) = true := by simp; omega
    have d1 : decide (51 * (A - a) ≤ (m - 1) * 1000000) = true := by simp; omega
    have d2 : decide ((m - 2) * 1000000 < 51 * (A - a)) = true := by simp; omega
    simp only [show lo - (lo - m) = m from by omega]
    have s_W_1 : Below x2.heap.size x2 (x2.alloc (.cells #[.int .i64 (lo - m), .int .i64 (hi + m), .int .i64 A] 23)) := Below.alloc (Below.refl _ _) (Nat.le_refl _) _
    have g0 : (x2.alloc (.cells #[.int .i64 (lo - m), .int .i64 (hi + m), .int .i64 A] 23)).cell? ⟨x2.heap.size, 0, none⟩ = some (.int .i64 (lo - m)) := by simp [go_sem]
    have g1 : (x2.alloc (.cells #[.int .i64 (lo - m), .int .i64 (hi + m), .int .i64 A] 23)).cell? ⟨x2.heap.size, 1, none⟩ = some (.int .i64 (hi + m)) := by simp [go_sem]
    have g2 : (x2.alloc (.cells #[.int .i64 (lo - m), .int .i64 (hi + m), .int .i64 A] 23)).cell? ⟨x2.heap.size, 2, none⟩ = some (.int .i64 A) := by simp [go_sem]
    replace k0 := keep k0 s_W_1
    replace k1 := keep k1 s_W_1
    replace k2 := keep k2 s_W_1
    have t_W_1 := chain t_x2 s_W_1
    generalize x2.alloc (.cells #[.int .i64 (lo - m), .int .i64 (hi + m), .int .i64 A] 23) = W_1 at *
    have fu_k0 := fut_cell k0
    have fu_k1 := fut_cell k1
    have fu_k2 := fut_cell k2
    have fu_g0 := fut_cell g0
    have fu_g1 := fut_cell g1
    have fu_g2 := fut_cell g2
    refine wp_region_fut (by kernel_rfl) (by kernel_rfl) ?_
    repeat (go_big_quiet_step (first
      | (go_at_call 20; with_reducible exact fut_call (width W1.out _))
      | (go_at_call 20; with_reducible exact fut_call (width W2.out _))))
    refine wpQuiet_nil ?_
    rintro _ ⟨⟨x3, s_x3⟩, rfl⟩
    clear fu_k0 fu_k1 fu_k2 fu_g0 fu_g1 fu_g2
    have t_x3 := chain t_W_1 s_x3
    replace k0 := keep k0 s_x3
    replace k1 := keep k1 s_x3
    replace k2 := keep k2 s_x3
    replace g0 := keep g0 s_x3
    replace g1 := keep g1 s_x3
    replace g2 := keep g2 s_x3
    go_wp2_with fail
    go_ret
    exact ⟨rfl, by first | exact t_x3 | go_grown⟩
  · obtain ⟨rfl, rfl, rfl, _⟩ := g1 hE
    have hb : (E == 0) = false := by simp [hE]
    have hb2 : (E != 0) = true := by simp [hE]
    clear g1 g2 hE
    have t_w := Below.refl w.heap.size w
    go_enter Try.func9, Try.ntmps9
    go_wp2_with fail
    refine (bhead _).mono ?_
    rintro e x1 ⟨rfl, g_x1⟩
    have s_x1 : Below w.heap.size w x1 := chain (by go_grown) g_x1
    have t_x1 := chain t_w s_x1
    have k0 : x1.cell? ⟨w.heap.size, 0, none⟩ = some (.int .i64 lo) := ((bcell g_x1).1 _ _ (by simp; try omega)).trans (by simp [go_sem])
    have k1 : x1.cell? ⟨w.heap.size, 1, none⟩ = some (.int .i64 hi) := ((bcell g_x1).1 _ _ (by simp; try omega)).trans (by simp [go_sem])
    have k2 : x1.cell? ⟨w.heap.size, 2, none⟩ = some (.int .i64 a) := ((bcell g_x1).1 _ _ (by simp; try omega)).trans (by simp [go_sem])
    have z_k_x1 := lt_of k0
    clear g_x1 s_x1 t_w
    go_wp2_with fail
    refine (growV HG.out _).mono ?_
    rintro e x2 ⟨rfl, g_x2⟩
    have s_x2 : Below x1.heap.size x1 x2 := chain (by go_grown) g_x2
    have t_x2 := chain t_x1 s_x2
    replace k0 := keep k0 s_x2
    have z_k0_x2 := lt_of k0
    replace k1 := keep k1 s_x2
    replace k2 := keep k2 s_x2
    clear g_x2 s_x2 z_k_x1 t_x1
    go_wp2_with fail
    refine (width (lo := 0) (hi := 0) (a := 0) (v := 0) (by decide) _).mono ?_
    rintro e x3 ⟨rfl, g_x3⟩
    have s_x3 : Below x2.heap.size x2 x3 := chain (by go_grown) g_x3
    have t_x3 := chain t_x2 s_x3
    replace k0 := keep k0 s_x3
    have z_k0_x3 := lt_of k0
    replace k1 := keep k1 s_x3
    replace k2 := keep k2 s_x3
    have g0 : x3.cell? ⟨x2.heap.size, 0, none⟩ = some (.int .i64 0) := ((bcell g_x3).1 _ _ (by simp; try omega)).trans (by simp [go_sem])
    have g1 : x3.cell? ⟨x2.heap.size, 1, none⟩ = some (.int .i64 0) := ((bcell g_x3).1 _ _ (by simp; try omega)).trans (by simp [go_sem])
    have g2 : x3.cell? ⟨x2.heap.size, 2, none⟩ = some (.int .i64 0) := ((bcell g_x3).1 _ _ (by simp; try omega)).trans (by simp [go_sem])
    have z_g_x3 := lt_of g0
    clear g_x3 s_x3 t_x2
    go_wp2_with fail
    go_ret
    exact ⟨rfl, by first | exact t_x3 | go_grown⟩
theorem grow_err2 {lo hi a now L H A E : Int} (h : GrowIs lo hi a now L H A E) (ho : okS lo hi a = true) (h1 : a ≤ now) (h2 : now ≤ 20000000000000) : E ≠ 0 → E = 3 := by
  intro hE
  obtain ⟨_, _, _, h3⟩ := (grow_ok h).1 hE
  rcases h3 with rfl | rfl
  · rcases h with ⟨hb, _⟩ | ⟨_, _, _, _, _, e⟩ | ⟨_, _, _, _, _, e⟩
    · have : gOk lo hi a now = true := by simp [gOk, inB, ho, h1, h2]
      rw [this] at hb; cases hb
    · exact e
    · cases e
  · rfl
set_option maxHeartbeats 2000000 in
theorem later0 (lo hi a x y : Int) (u v : Int) (hxy : (x ≤ y ∧ u = x ∧ v = y) ∨ (y < x ∧ u = y ∧ v = x)) (w : World) : Calls Try.prog 8 #[.agg #[.int .i64 lo, .int .i64 hi, .int .i64 a], .int .i64 x, .int .i64 y] w fun e w' => e = .returned (.bool true) ∧ Below w.heap.size w w' := by
  obtain ⟨L1, H1, A1, E1, hg1⟩ := grow_exists lo hi a u
  obtain ⟨L2, H2, A2, E2, hg2⟩ := grow_exists lo hi a v
  have mn : (if y < x then y else x) = u := by rcases hxy with ⟨h, rfl, rfl⟩ | ⟨h, rfl, rfl⟩ <;> split <;> omega
  have mx : (if x < y then y else x) = v := by rcases hxy with ⟨h, rfl, rfl⟩ | ⟨h, rfl, rfl⟩ <;> split <;> omega
  have huv : u ≤ v := by omega
  obtain ⟨a1, a2⟩ := grow_ok hg1
  obtain ⟨c1, c2⟩ := grow_ok hg2
  have G1 := Lib.hid hg1; have G2 := Lib.hid hg2
  by_cases hE1 : E1 = 0
  · subst hE1
    by_cases hE2 : E2 = 0
    · subst hE2
      obtain ⟨ho, n1, n2, hL1, hH1, hA1, hs1⟩ := a2 rfl
      obtain ⟨_, n3, n4, hL2, hH2, hA2, hs2⟩ := c2 rfl
      obtain ⟨L3, H3, A3, E3, hg3⟩ := grow_exists L1 H1 A1 v
      obtain ⟨d1, d2⟩ := grow_ok hg3
      have he3 := grow_err2 hg3 hs1 (by omega) n4
      have G3 := Lib.hid hg3
      by_cases hE3 : E3 = 0
      · subst hE3
        obtain ⟨_, _, _, hL3, hH3, hA3, hs3⟩ := d2 rfl
        have f1 : L3 ≤ L2 := by subst hL1 hL2 hL3 hA1; unfold moreN; omega
        have f2 : H2 ≤ H3 := by subst hH1 hH2 hH3 hA1; unfold moreN; omega
        have f3 : L2 - L3 ≤ 2 := by subst hL1 hL2 hL3 hA1; unfold moreN; omega
        have f4 : H3 - H2 ≤ 2 := by subst hH1 hH2 hH3 hA1; unfold moreN; omega
        have f5 : L2 ≤ L1 := by subst hL1 hL2; unfold moreN; omega
        have f6 : H1 ≤ H2 := by subst hH1 hH2; unfold moreN; omega
        obtain ⟨p1, p2, p3, p4, p5⟩ := okS_t hs2
        obtain ⟨p6, p7, p8, _, _⟩ := okS_t hs3
        obtain ⟨p9, q1, q2, _, _⟩ := okS_t hs1
        clear a1 a2 c1 c2 d1 d2 he3 hL1 hH1 hL2 hH2 hL3 hH3 hg1 hg2 hg3 ho hs1 hs2 hs3 hxy
        obtain rfl := hA2.symm; obtain rfl := hA3.symm
        clear hA1 hA2 hA3
        have t_w := Below.refl w.heap.size w
        go_enter Try.func8, Try.ntmps8
        go_wp2_with fail
        refine (bhead _).mono ?_
        rintro e x1 ⟨rfl, g_x1⟩
        have s_x1 : Below w.heap.size w x1 := chain (by go_grown) g_x1
        have t_x1 := chain t_w s_x1
        have k0 : x1.cell? ⟨w.heap.size, 0, none⟩ = some (.int .i64 lo) := ((bcell g_x1).1 _ _ (by simp; try omega)).trans (by simp [go_sem])
        have k1 : x1.cell? ⟨w.heap.size, 1, none⟩ = some (.int .i64 hi) := ((bcell g_x1).1 _ _ (by simp; try omega)).trans (by simp [go_sem])
        have k2 : x1.cell? ⟨w.heap.size, 2, none⟩ = some (.int .i64 a) := ((bcell g_x1).1 _ _ (by simp; try omega)).trans (by simp [go_sem])
        have z_k_x1 := lt_of k0
        clear g_x1 s_x1 t_w
        go_wp2_with fail
        refine (growV G1.out _).mono ?_
        rintro e x2 ⟨rfl, g_x2⟩
        have s_x2 : Below x1.heap.size x1 x2 := chain (by go_grown) g_x2
        have t_x2 := chain t_x1 s_x2
        replace k0 := keep k0 s_x2
        have z_k0_x2 := lt_of k0
        replace k1 := keep k1 s_x2
        replace k2 := keep k2 s_x2
        clear g_x2 s_x2 z_k_x1 t_x1
        go_wp2_with fail
        refine (growV G2.out _).mono ?_
        rintro e x3 ⟨rfl, g_x3⟩
        have s_x3 : Below x2.heap.size x2 x3 := chain (by go_grown) g_x3
        have t_x3 := chain t_x2 s_x3
        replace k0 := keep k0 s_x3
        have z_k0_x3 := lt_of k0
        replace k1 := keep k1 s_x3
        replace k2 := keep k2 s_x3
        have p0 : x3.cell? ⟨x2.heap.size, 0, none⟩ = some (.int .i64 L1) := ((bcell g_x3).1 _ _ (by simp; try omega)).trans (by simp [go_sem])
        have p1 : x3.cell? ⟨x2.heap.size, 1, none⟩ = some (.int .i64 H1) := ((bcell g_x3).1 _ _ (by simp; try omega)).trans (by simp [go_sem])
        have p2 : x3.cell? ⟨x2.heap.size, 2, none⟩ = some (.int .i64 A1) := ((bcell g_x3).1 _ _ (by simp; try omega)).trans (by simp [go_sem])
        have z_p_x3 := lt_of p0
        clear g_x3 s_x3 t_x2
        go_wp2_with fail
        refine (growV G3.out _).mono ?_
        rintro e x4 ⟨rfl, g_x4⟩
        have s_x4 : Below x3.heap.size x3 x4 := chain (by go_grown) g_x4
        have t_x4 := chain t_x3 s_x4
        replace k0 := keep k0 s_x4
        have z_k0_x4 := lt_of k0
        replace k1 := keep k1 s_x4
        replace k2 := keep k2 s_x4
        replace p0 := keep p0 s_x4
        have z_p0_x4 := lt_of p0
        replace p1 := keep p1 s_x4
        replace p2 := keep p2 s_x4
        have q0 : x4.cell? ⟨x3.heap.size, 0, none⟩ = some (.int .i64 L2) := ((bcell g_x4).1 _ _ (by simp; try omega)).trans (by simp [go_sem])
        have q1 : x4.cell? ⟨x3.heap.size, 1, none⟩ = some (.int .i64 H2) := ((bcell g_x4).1 _ _ (by simp; try omega)).trans (by simp [go_sem])
        have q2 : x4.cell? ⟨x3.heap.size, 2, none⟩ = some (.int .i64 v) := ((bcell g_x4).1 _ _ (by simp; try omega)).trans (by simp [go_sem])
        have z_q_x4 := lt_of q0
        clear g_x4 s_x4 t_x3
        go_wp2_with fail
        refine (insideT f1 f2 _).mono ?_
        rintro e x5 ⟨rfl, g_x5⟩
        have s_x5 : Below x4.heap.size x4 x5 := chain (by go_grown) g_x5
        have t_x5 := chain t_x4 s_x5
        replace k0 := keep k0 s_x5
        have z_k0_x5 := lt_of k0
        replace k1 := keep k1 s_x5
        replace k2 := keep k2 s_x5
        replace p0 := keep p0 s_x5
        have z_p0_x5 := lt_of p0
        replace p1 := keep p1 s_x5
        replace p2 := keep p2 s_x5
        replace q0 := keep q0 s_x5
        have z_q0_x5 := lt_of q0
        replace q1 := keep q1 s_x5
        replace q2 := keep q2 s_x5
        have r0 : x5.cell? ⟨x4.heap.size, 0, none⟩ = some (.int .i64 L3) := ((bcell g_x5).1 _ _ (by simp; try omega)).trans (by simp [go_sem])
        have r1 : x5.cell? ⟨x4.heap.size, 1, none⟩ = some (.int .i64 H3) := ((bcell g_x5).1 _ _ (by simp; try omega)).trans (by simp [go_sem])
        have r2 : x5.cell? ⟨x4.heap.size, 2, none⟩ = some (.int .i64 v) := ((bcell g_x5).1 _ _ (by simp; try omega)).trans (by simp [go_sem])
        have z_r_x5 := lt_of r0
        clear g_x5 s_x5 t_x4
        go_wp2_with fail
        go_ret
        exact ⟨rfl, by first | exact t_x5 | go_grown⟩
      · obtain rfl := he3 hE3
        obtain ⟨rfl, rfl, rfl, _⟩ := d1 hE3
        clear a1 a2 c1 c2 d1 d2 he3 hL1 hH1 hL2 hH2 hg1 hg2 hg3 ho hs1 hs2 hxy hA1 hE3
        obtain rfl := hA2.symm
        clear hA2
        have t_w := Below.refl w.heap.size w
        go_enter Try.func8, Try.ntmps8
        go_wp2_with fail
        refine (bhead _).mono ?_
        rintro e x1 ⟨rfl, g_x1⟩
        have s_x1 : Below w.heap.size w x1 := chain (by go_grown) g_x1
        have t_x1 := chain t_w s_x1
        have k0 : x1.cell? ⟨w.heap.size, 0, none⟩ = some (.int .i64 lo) := ((bcell g_x1).1 _ _ (by simp; try omega)).trans (by simp [go_sem])
        have k1 : x1.cell? ⟨w.heap.size, 1, none⟩ = some (.int .i64 hi) := ((bcell g_x1).1 _ _ (by simp; try omega)).trans (by simp [go_sem])
        have k2 : x1.cell? ⟨w.heap.size, 2, none⟩ = some (.int .i64 a) := ((bcell g_x1).1 _ _ (by simp; try omega)).trans (by simp [go_sem])
        have z_k_x1 := lt_of k0
        clear g_x1 s_x1 t_w
        go_wp2_with fail
        refine (growV G1.out _).mono ?_
        rintro e x2 ⟨rfl, g_x2⟩
        have s_x2 : Below x1.heap.size x1 x2 := chain (by go_grown) g_x2
        have t_x2 := chain t_x1 s_x2
        replace k0 := keep k0 s_x2
        have z_k0_x2 := lt_of k0
        replace k1 := keep k1 s_x2
        replace k2 := keep k2 s_x2
        clear g_x2 s_x2 z_k_x1 t_x1
        go_wp2_with fail
        refine (growV G2.out _).mono ?_
        rintro e x3 ⟨rfl, g_x3⟩
        have s_x3 : Below x2.heap.size x2 x3 := chain (by go_grown) g_x3
        have t_x3 := chain t_x2 s_x3
        replace k0 := keep k0 s_x3
        have z_k0_x3 := lt_of k0
        replace k1 := keep k1 s_x3
        replace k2 := keep k2 s_x3
        have p0 : x3.cell? ⟨x2.heap.size, 0, none⟩ = some (.int .i64 L1) := ((bcell g_x3).1 _ _ (by simp; try omega)).trans (by simp [go_sem])
        have p1 : x3.cell? ⟨x2.heap.size, 1, none⟩ = some (.int .i64 H1) := ((bcell g_x3).1 _ _ (by simp; try omega)).trans (by simp [go_sem])
        have p2 : x3.cell? ⟨x2.heap.size, 2, none⟩ = some (.int .i64 A1) := ((bcell g_x3).1 _ _ (by simp; try omega)).trans (by simp [go_sem])
        have z_p_x3 := lt_of p0
        clear g_x3 s_x3 t_x2
        go_wp2_with fail
        refine (growV G3.out _).mono ?_
        rintro e x4 ⟨rfl, g_x4⟩
        have s_x4 : Below x3.heap.size x3 x4 := chain (by go_grown) g_x4
        have t_x4 := chain t_x3 s_x4
        replace k0 := keep k0 s_x4
        have z_k0_x4 := lt_of k0
        replace k1 := keep k1 s_x4
        replace k2 := keep k2 s_x4
        replace p0 := keep p0 s_x4
        have z_p0_x4 := lt_of p0
        replace p1 := keep p1 s_x4
        replace p2 := keep p2 s_x4
        have q0 : x4.cell? ⟨x3.heap.size, 0, none⟩ = some (.int .i64 L2) := ((bcell g_x4).1 _ _ (by simp; try omega)).trans (by simp [go_sem])
        have q1 : x4.cell? ⟨x3.heap.size, 1, none⟩ = some (.int .i64 H2) := ((bcell g_x4).1 _ _ (by simp; try omega)).trans (by simp [go_sem])
        have q2 : x4.cell? ⟨x3.heap.size, 2, none⟩ = some (.int .i64 v) := ((bcell g_x4).1 _ _ (by simp; try omega)).trans (by simp [go_sem])
        have z_q_x4 := lt_of q0
        clear g_x4 s_x4 t_x3
        go_wp2_with fail
        go_ret
        exact ⟨rfl, by first | exact t_x4 | go_grown⟩
    · have hb : (E2 != 0) = true := by simp [hE2]
      clear a1 a2 c1 c2 hg1 hg2 hxy hE2
      have t_w := Below.refl w.heap.size w
      go_enter Try.func8, Try.ntmps8
      go_wp2_with fail
      refine (bhead _).mono ?_
      rintro e x1 ⟨rfl, g_x1⟩
      have s_x1 : Below w.heap.size w x1 := chain (by go_grown) g_x1
      have t_x1 := chain t_w s_x1
      have k0 : x1.cell? ⟨w.heap.size, 0, none⟩ = some (.int .i64 lo) := ((bcell g_x1).1 _ _ (by simp; try omega)).trans (by simp [go_sem])
      have k1 : x1.cell? ⟨w.heap.size, 1, none⟩ = some (.int .i64 hi) := ((bcell g_x1).1 _ _ (by simp; try omega)).trans (by simp [go_sem])
      have k2 : x1.cell? ⟨w.heap.size, 2, none⟩ = some (.int .i64 a) := ((bcell g_x1).1 _ _ (by simp; try omega)).trans (by simp [go_sem])
      have z_k_x1 := lt_of k0
      clear g_x1 s_x1 t_w
      go_wp2_with fail
      refine (growV G1.out _).mono ?_
      rintro e x2 ⟨rfl, g_x2⟩
      have s_x2 : Below x1.heap.size x1 x2 := chain (by go_grown) g_x2
      have t_x2 := chain t_x1 s_x2
      replace k0 := keep k0 s_x2
      have z_k0_x2 := lt_of k0
      replace k1 := keep k1 s_x2
      replace k2 := keep k2 s_x2
      clear g_x2 s_x2 z_k_x1 t_x1
      go_wp2_with fail
      refine (growV G2.out _).mono ?_
      rintro e x3 ⟨rfl, g_x3⟩
      have s_x3 : Below x2.heap.size x2 x3 := chain (by go_grown) g_x3
      have t_x3 := chain t_x2 s_x3
      replace k0 := keep k0 s_x3
      have z_k0_x3 := lt_of k0
      replace k1 := keep k1 s_x3
      replace k2 := keep k2 s_x3
      have p0 : x3.cell? ⟨x2.heap.size, 0, none⟩ = some (.int .i64 L1) := ((bcell g_x3).1 _ _ (by simp; try omega)).trans (by simp [go_sem])
      have p1 : x3.cell? ⟨x2.heap.size, 1, none⟩ = some (.int .i64 H1) := ((bcell g_x3).1 _ _ (by simp; try omega)).trans (by simp [go_sem])
      have p2 : x3.cell? ⟨x2.heap.size, 2, none⟩ = some (.int .i64 A1) := ((bcell g_x3).1 _ _ (by simp; try omega)).trans (by simp [go_sem])
      have z_p_x3 := lt_of p0
      clear g_x3 s_x3 t_x2
      go_wp2_with fail
      go_ret
      exact ⟨rfl, by first | exact t_x3 | go_grown⟩
  · have hb : (E1 != 0) = true := by simp [hE1]
    clear a1 a2 c1 c2 hg1 hg2 hxy hE1
    have t_w := Below.refl w.heap.size w
    go_enter Try.func8, Try.ntmps8
    go_wp2_with fail
    refine (bhead _).mono ?_
    rintro e x1 ⟨rfl, g_x1⟩
    have s_x1 : Below w.heap.size w x1 := chain (by go_grown) g_x1
    have t_x1 := chain t_w s_x1
    have k0 : x1.cell? ⟨w.heap.size, 0, none⟩ = some (.int .i64 lo) := ((bcell g_x1).1 _ _ (by simp; try omega)).trans (by simp [go_sem])
    have k1 : x1.cell? ⟨w.heap.size, 1, none⟩ = some (.int .i64 hi) := ((bcell g_x1).1 _ _ (by simp; try omega)).trans (by simp [go_sem])
    have k2 : x1.cell? ⟨w.heap.size, 2, none⟩ = some (.int .i64 a) := ((bcell g_x1).1 _ _ (by simp; try omega)).trans (by simp [go_sem])
    have z_k_x1 := lt_of k0
    clear g_x1 s_x1 t_w
    go_wp2_with fail
    refine (growV G1.out _).mono ?_
    rintro e x2 ⟨rfl, g_x2⟩
    have s_x2 : Below x1.heap.size x1 x2 := chain (by go_grown) g_x2
    have t_x2 := chain t_x1 s_x2
    replace k0 := keep k0 s_x2
    have z_k0_x2 := lt_of k0
    replace k1 := keep k1 s_x2
    replace k2 := keep k2 s_x2
    clear g_x2 s_x2 z_k_x1 t_x1
    go_wp2_with fail
    refine (growV G2.out _).mono ?_
    rintro e x3 ⟨rfl, g_x3⟩
    have s_x3 : Below x2.heap.size x2 x3 := chain (by go_grown) g_x3
    have t_x3 := chain t_x2 s_x3
    replace k0 := keep k0 s_x3
    have z_k0_x3 := lt_of k0
    replace k1 := keep k1 s_x3
    replace k2 := keep k2 s_x3
    have p0 : x3.cell? ⟨x2.heap.size, 0, none⟩ = some (.int .i64 L1) := ((bcell g_x3).1 _ _ (by simp; try omega)).trans (by simp [go_sem])
    have p1 : x3.cell? ⟨x2.heap.size, 1, none⟩ = some (.int .i64 H1) := ((bcell g_x3).1 _ _ (by simp; try omega)).trans (by simp [go_sem])
    have p2 : x3.cell? ⟨x2.heap.size, 2, none⟩ = some (.int .i64 A1) := ((bcell g_x3).1 _ _ (by simp; try omega)).trans (by simp [go_sem])
    have z_p_x3 := lt_of p0
    clear g_x3 s_x3 t_x2
    go_wp2_with fail
    go_ret
    exact ⟨rfl, by first | exact t_x3 | go_grown⟩
theorem laterW (lo hi a x y : Int) (w : World) : Calls Try.prog 8 #[.agg #[.int .i64 lo, .int .i64 hi, .int .i64 a], .int .i64 x, .int .i64 y] w fun e w' => e = .returned (.bool true) ∧ Below w.heap.size w w' := by
  rcases Int.lt_or_le y x with h | h
  · exact later0 lo hi a x y y x (.inr ⟨h, rfl, rfl⟩) w
  · exact later0 lo hi a x y x y (.inl ⟨h, rfl, rfl⟩) w
end Go.Proofs.Ytkmkfjaokjcelaa
