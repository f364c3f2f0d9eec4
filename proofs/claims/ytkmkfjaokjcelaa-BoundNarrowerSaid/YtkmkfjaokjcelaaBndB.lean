/- Contracts of package bound: Grow and its reference. -/
import Derived.Test.YtkmkfjaokjcelaaBndA
namespace Go.Proofs.Ytkmkfjaokjcelaa
open Go.ChangeShapes Go.WideShapes Go.ChangeAt Go.RowKit
def gOk (lo hi a now : Int) : Bool := okS lo hi a && inB a 20000000000000 now
def GrowIs (lo hi a now L H A E : Int) : Prop :=
  (gOk lo hi a now = false ∧ L = 0 ∧ H = 0 ∧ A = 0 ∧ E = 1) ∨
  (gOk lo hi a now = true ∧ okS (lo - moreN (now - a)) (hi + moreN (now - a)) now = false ∧ L = 0 ∧ H = 0 ∧ A = 0 ∧ E = 3) ∨
  (gOk lo hi a now = true ∧ okS (lo - moreN (now - a)) (hi + moreN (now - a)) now = true ∧ L = lo - moreN (now - a) ∧ H = hi + moreN (now - a) ∧ A = now ∧ E = 0)
theorem grow_exists (lo hi a now : Int) : ∃ L H A E, GrowIs lo hi a now L H A E := by
  rcases h : gOk lo hi a now with _ | _
  · exact ⟨0, 0, 0, 1, .inl ⟨h, rfl, rfl, rfl, rfl⟩⟩
  · rcases h2 : okS (lo - moreN (now - a)) (hi + moreN (now - a)) now with _ | _
    · exact ⟨0, 0, 0, 3, .inr (.inl ⟨h, h2, rfl, rfl, rfl, rfl⟩)⟩
    · exact ⟨_, _, _, 0, .inr (.inr ⟨h, h2, rfl, rfl, rfl, rfl⟩)⟩
theorem moreN_b {x : Int} (h0 : 0 ≤ x) (h1 : x ≤ 100000000000000) : 1 ≤ moreN x ∧ moreN x ≤ 10000000001 := by unfold moreN; omega
set_option maxHeartbeats 1000000 in
theorem growV {lo hi a now L H A E : Int} (hv : GrowIs lo hi a now L H A E) (w : World) : Calls Try.prog 12 #[.agg #[.int .i64 lo, .int .i64 hi, .int .i64 a], .int .i64 now] w fun e w' => e = .returned (.tuple #[.agg #[.int .i64 L, .int .i64 H, .int .i64 A], .int .i64 E]) ∧ Below w.heap.size w w' := by
  rcases hv with ⟨hg, rfl, rfl, rfl, rfl⟩ | ⟨hg, hs, rfl, rfl, rfl, rfl⟩ | ⟨hg, hs, rfl, rfl, hA, rfl⟩
  · rcases h1 : okS lo hi a with _ | _
    · have H1 := Lib.hid h1
      clear hg h1
      have t_w := Below.refl w.heap.size w
      go_enter Try.func12, Try.ntmps12
      go_wp2_with fail
      refine (svalid H1.out _).mono ?_
      rintro e w1 ⟨rfl, g_w1⟩
      have s_w1 : Below w.heap.size w w1 := chain (by go_grown) g_w1
      have t_w1 := chain t_w s_w1
      have k0 : w1.cell? ⟨w.heap.size, 0, none⟩ = some (.int .i64 lo) := ((bcell g_w1).1 _ _ (by simp; try omega)).trans (by simp [go_sem])
      have k1 : w1.cell? ⟨w.heap.size, 1, none⟩ = some (.int .i64 hi) := ((bcell g_w1).1 _ _ (by simp; try omega)).trans (by simp [go_sem])
      have k2 : w1.cell? ⟨w.heap.size, 2, none⟩ = some (.int .i64 a) := ((bcell g_w1).1 _ _ (by simp; try omega)).trans (by simp [go_sem])
      have z_k_w1 := lt_of k0
      have r0 : w1.cell? ⟨w.heap.size + 1, 0, none⟩ = some (.int .i64 0) := ((bcell g_w1).1 _ _ (by simp; try omega)).trans (by simp [go_sem])
      have r1 : w1.cell? ⟨w.heap.size + 1, 1, none⟩ = some (.int .i64 0) := ((bcell g_w1).1 _ _ (by simp; try omega)).trans (by simp [go_sem])
      have r2 : w1.cell? ⟨w.heap.size + 1, 2, none⟩ = some (.int .i64 0) := ((bcell g_w1).1 _ _ (by simp; try omega)).trans (by simp [go_sem])
      have z_r_w1 := lt_of r0
      have rf : ∀ i, w1.frozen? ⟨w.heap.size + 1, i, none⟩ = false := fun i => ((bcell g_w1).2 _ _ (by simp; try omega)).trans (by simp [go_sem])
      have m0 : w1.cell? ⟨w.heap.size + 2, 0, none⟩ = some (.int .i64 lo) := ((bcell g_w1).1 _ _ (by simp; try omega)).trans (by simp [go_sem])
      have m1 : w1.cell? ⟨w.heap.size + 2, 1, none⟩ = some (.int .i64 hi) := ((bcell g_w1).1 _ _ (by simp; try omega)).trans (by simp [go_sem])
      have m2 : w1.cell? ⟨w.heap.size + 2, 2, none⟩ = some (.int .i64 a) := ((bcell g_w1).1 _ _ (by simp; try omega)).trans (by simp [go_sem])
      have z_m_w1 := lt_of m0
      clear g_w1 s_w1 t_w
      go_wp2_with fail
      refine bodyPost_ret (v := .tuple #[.agg #[.int .i64 0, .int .i64 0, .int .i64 0], .int .i64 1]) (by simp [results, Try.results12, go_sem, *]) rfl ⟨rfl, by first | exact t_w1 | go_grown⟩
    · have h2 : inB a 20000000000000 now = false := by simpa [gOk, h1] using hg
      have H1 := Lib.hid h1
      have H2 := Lib.hid h2
      clear hg h1 h2
      have t_w := Below.refl w.heap.size w
      go_enter Try.func12, Try.ntmps12
      go_wp2_with fail
      refine (svalid H1.out _).mono ?_
      rintro e w1 ⟨rfl, g_w1⟩
      have s_w1 : Below w.heap.size w w1 := chain (by go_grown) g_w1
      have t_w1 := chain t_w s_w1
      have k0 : w1.cell? ⟨w.heap.size, 0, none⟩ = some (.int .i64 lo) := ((bcell g_w1).1 _ _ (by simp; try omega)).trans (by simp [go_sem])
      have k1 : w1.cell? ⟨w.heap.size, 1, none⟩ = some (.int .i64 hi) := ((bcell g_w1).1 _ _ (by simp; try omega)).trans (by simp [go_sem])
      have k2 : w1.cell? ⟨w.heap.size, 2, none⟩ = some (.int .i64 a) := ((bcell g_w1).1 _ _ (by simp; try omega)).trans (by simp [go_sem])
      have z_k_w1 := lt_of k0
      have r0 : w1.cell? ⟨w.heap.size + 1, 0, none⟩ = some (.int .i64 0) := ((bcell g_w1).1 _ _ (by simp; try omega)).trans (by simp [go_sem])
      have r1 : w1.cell? ⟨w.heap.size + 1, 1, none⟩ = some (.int .i64 0) := ((bcell g_w1).1 _ _ (by simp; try omega)).trans (by simp [go_sem])
      have r2 : w1.cell? ⟨w.heap.size + 1, 2, none⟩ = some (.int .i64 0) := ((bcell g_w1).1 _ _ (by simp; try omega)).trans (by simp [go_sem])
      have z_r_w1 := lt_of r0
      have rf : ∀ i, w1.frozen? ⟨w.heap.size + 1, i, none⟩ = false := fun i => ((bcell g_w1).2 _ _ (by simp; try omega)).trans (by simp [go_sem])
      have m0 : w1.cell? ⟨w.heap.size + 2, 0, none⟩ = some (.int .i64 lo) := ((bcell g_w1).1 _ _ (by simp; try omega)).trans (by simp [go_sem])
      have m1 : w1.cell? ⟨w.heap.size + 2, 1, none⟩ = some (.int .i64 hi) := ((bcell g_w1).1 _ _ (by simp; try omega)).trans (by simp [go_sem])
      have m2 : w1.cell? ⟨w.heap.size + 2, 2, none⟩ = some (.int .i64 a) := ((bcell g_w1).1 _ _ (by simp; try omega)).trans (by simp [go_sem])
      have z_m_w1 := lt_of m0
      clear g_w1 s_w1 t_w
      go_wp2_with fail
      refine (within1 H2.out w1.heap.size 0 _ _ (by simp [go_sem])).mono ?_
      rintro e w_13 ⟨rfl, hw⟩; obtain rfl := hw.symm
      clear hw
      go_wp2_with fail
      refine bodyPost_ret (v := .tuple #[.agg #[.int .i64 0, .int .i64 0, .int .i64 0], .int .i64 1]) (by simp [results, Try.results12, go_sem, *]) rfl ⟨rfl, by first | exact t_w1 | go_grown⟩
  · have h12 : okS lo hi a = true ∧ inB a 20000000000000 now = true := by simpa [gOk] using hg
    obtain ⟨n1, n2⟩ := inB_t h12.2
    have H1 := Lib.hid h12.1
    have H2 := Lib.hid h12.2
    generalize hL : lo - moreN (now - a) = L at *
    generalize hH : hi + moreN (now - a) = H at *
    have hgr := fun w => grown h12.1 n1 n2 w
    rw [hL, hH] at hgr
    have HG := Lib.hid hgr
    have H3 := Lib.hid hs
    clear hg h12 hL hH hgr hs
    have t_w := Below.refl w.heap.size w
    go_enter Try.func12, Try.ntmps12
    go_wp2_with fail
    refine (svalid H1.out _).mono ?_
    rintro e w1 ⟨rfl, g_w1⟩
    have s_w1 : Below w.heap.size w w1 := chain (by go_grown) g_w1
    have t_w1 := chain t_w s_w1
    have k0 : w1.cell? ⟨w.heap.size, 0, none⟩ = some (.int .i64 lo) := ((bcell g_w1).1 _ _ (by simp; try omega)).trans (by simp [go_sem])
    have k1 : w1.cell? ⟨w.heap.size, 1, none⟩ = some (.int .i64 hi) := ((bcell g_w1).1 _ _ (by simp; try omega)).trans (by simp [go_sem])
    have k2 : w1.cell? ⟨w.heap.size, 2, none⟩ = some (.int .i64 a) := ((bcell g_w1).1 _ _ (by simp; try omega)).trans (by simp [go_sem])
    have z_k_w1 := lt_of k0
    have r0 : w1.cell? ⟨w.heap.size + 1, 0, none⟩ = some (.int .i64 0) := ((bcell g_w1).1 _ _ (by simp; try omega)).trans (by simp [go_sem])
    have r1 : w1.cell? ⟨w.heap.size + 1, 1, none⟩ = some (.int .i64 0) := ((bcell g_w1).1 _ _ (by simp; try omega)).trans (by simp [go_sem])
    have r2 : w1.cell? ⟨w.heap.size + 1, 2, none⟩ = some (.int .i64 0) := ((bcell g_w1).1 _ _ (by simp; try omega)).trans (by simp [go_sem])
    have z_r_w1 := lt_of r0
    have rf : ∀ i, w1.frozen? ⟨w.heap.size + 1, i, none⟩ = false := fun i => ((bcell g_w1).2 _ _ (by simp; try omega)).trans (by simp [go_sem])
    have m0 : w1.cell? ⟨w.heap.size + 2, 0, none⟩ = some (.int .i64 lo) := ((bcell g_w1).1 _ _ (by simp; try omega)).trans (by simp [go_sem])
    have m1 : w1.cell? ⟨w.heap.size + 2, 1, none⟩ = some (.int .i64 hi) := ((bcell g_w1).1 _ _ (by simp; try omega)).trans (by simp [go_sem])
    have m2 : w1.cell? ⟨w.heap.size + 2, 2, none⟩ = some (.int .i64 a) := ((bcell g_w1).1 _ _ (by simp; try omega)).trans (by simp [go_sem])
    have z_m_w1 := lt_of m0
    clear g_w1 s_w1 t_w
    go_wp2_with fail
    refine (within1 H2.out w1.heap.size 0 _ _ (by simp [go_sem])).mono ?_
    rintro e w_21 ⟨rfl, hw⟩; obtain rfl := hw.symm
    clear hw
    go_wp2_with fail
    refine (HG.out _).mono ?_
    rintro e w2 ⟨rfl, g_w2⟩
    have s_w2 : Below w1.heap.size w1 w2 := chain (by go_grown) g_w2
    have t_w2 := chain t_w1 s_w2
    replace rf := fkeep2 rf (lt_of r0) s_w2
    replace k0 := keep k0 s_w2
    have z_k0_w2 := lt_of k0
    replace k1 := keep k1 s_w2
    replace k2 := keep k2 s_w2
    replace r0 := keep r0 s_w2
    have z_r0_w2 := lt_of r0
    replace r1 := keep r1 s_w2
    replace r2 := keep r2 s_w2
    replace m0 := keep m0 s_w2
    have z_m0_w2 := lt_of m0
    replace m1 := keep m1 s_w2
    replace m2 := keep m2 s_w2
    have q0 : w2.cell? ⟨w1.heap.size, 0, none⟩ = some (.int .i64 now) := ((bcell g_w2).1 _ _ (by simp; try omega)).trans (by simp [go_sem])
    have z_q_w2 := lt_of q0
    clear g_w2 s_w2 t_w1
    go_wp2_with fail
    refine (svalid H3.out _).mono ?_
    rintro e w3 ⟨rfl, g_w3⟩
    have s_w3 : Below w2.heap.size w2 w3 := chain (by go_grown) g_w3
    have t_w3 := chain t_w2 s_w3
    replace rf := fkeep2 rf (lt_of r0) s_w3
    replace k0 := keep k0 s_w3
    have z_k0_w3 := lt_of k0
    replace k1 := keep k1 s_w3
    replace k2 := keep k2 s_w3
    replace r0 := keep r0 s_w3
    have z_r0_w3 := lt_of r0
    replace r1 := keep r1 s_w3
    replace r2 := keep r2 s_w3
    replace m0 := keep m0 s_w3
    have z_m0_w3 := lt_of m0
    replace m1 := keep m1 s_w3
    replace m2 := keep m2 s_w3
    replace q0 := keep q0 s_w3
    have z_q0_w3 := lt_of q0
    have g0 : w3.cell? ⟨w2.heap.size, 0, none⟩ = some (.int .i64 L) := ((bcell g_w3).1 _ _ (by simp; try omega)).trans (by simp [go_sem])
    have g1 : w3.cell? ⟨w2.heap.size, 1, none⟩ = some (.int .i64 H) := ((bcell g_w3).1 _ _ (by simp; try omega)).trans (by simp [go_sem])
    have g2 : w3.cell? ⟨w2.heap.size, 2, none⟩ = some (.int .i64 now) := ((bcell g_w3).1 _ _ (by simp; try omega)).trans (by simp [go_sem])
    have z_g_w3 := lt_of g0
    clear g_w3 s_w3 t_w2
    go_wp2_with fail
    refine bodyPost_ret (v := .tuple #[.agg #[.int .i64 0, .int .i64 0, .int .i64 0], .int .i64 3]) (by simp [results, Try.results12, go_sem, *]) rfl ⟨rfl, by first | exact t_w3 | go_grown⟩
  · obtain rfl := hA.symm
    have h12 : okS lo hi a = true ∧ inB a 20000000000000 now = true := by simpa [gOk] using hg
    obtain ⟨n1, n2⟩ := inB_t h12.2
    have H1 := Lib.hid h12.1
    have H2 := Lib.hid h12.2
    generalize hL : lo - moreN (now - a) = L at *
    generalize hH : hi + moreN (now - a) = H at *
    have hgr := fun w => grown h12.1 n1 n2 w
    rw [hL, hH] at hgr
    have HG := Lib.hid hgr
    have H3 := Lib.hid hs
    clear hg h12 hL hH hgr hs
    have t_w := Below.refl w.heap.size w
    go_enter Try.func12, Try.ntmps12
    go_wp2_with fail
    refine (svalid H1.out _).mono ?_
    rintro e w1 ⟨rfl, g_w1⟩
    have s_w1 : Below w.heap.size w w1 := chain (by go_grown) g_w1
    have t_w1 := chain t_w s_w1
    have k0 : w1.cell? ⟨w.heap.size, 0, none⟩ = some (.int .i64 lo) := ((bcell g_w1).1 _ _ (by simp; try omega)).trans (by simp [go_sem])
    have k1 : w1.cell? ⟨w.heap.size, 1, none⟩ = some (.int .i64 hi) := ((bcell g_w1).1 _ _ (by simp; try omega)).trans (by simp [go_sem])
    have k2 : w1.cell? ⟨w.heap.size, 2, none⟩ = some (.int .i64 a) := ((bcell g_w1).1 _ _ (by simp; try omega)).trans (by simp [go_sem])
    have z_k_w1 := lt_of k0
    have r0 : w1.cell? ⟨w.heap.size + 1, 0, none⟩ = some (.int .i64 0) := ((bcell g_w1).1 _ _ (by simp; try omega)).trans (by simp [go_sem])
    have r1 : w1.cell? ⟨w.heap.size + 1, 1, none⟩ = some (.int .i64 0) := ((bcell g_w1).1 _ _ (by simp; try omega)).trans (by simp [go_sem])
    have r2 : w1.cell? ⟨w.heap.size + 1, 2, none⟩ = some (.int .i64 0) := ((bcell g_w1).1 _ _ (by simp; try omega)).trans (by simp [go_sem])
    have z_r_w1 := lt_of r0
    have rf : ∀ i, w1.frozen? ⟨w.heap.size + 1, i, none⟩ = false := fun i => ((bcell g_w1).2 _ _ (by simp; try omega)).trans (by simp [go_sem])
    have m0 : w1.cell? ⟨w.heap.size + 2, 0, none⟩ = some (.int .i64 lo) := ((bcell g_w1).1 _ _ (by simp; try omega)).trans (by simp [go_sem])
    have m1 : w1.cell? ⟨w.heap.size + 2, 1, none⟩ = some (.int .i64 hi) := ((bcell g_w1).1 _ _ (by simp; try omega)).trans (by simp [go_sem])
    have m2 : w1.cell? ⟨w.heap.size + 2, 2, none⟩ = some (.int .i64 a) := ((bcell g_w1).1 _ _ (by simp; try omega)).trans (by simp [go_sem])
    have z_m_w1 := lt_of m0
    clear g_w1 s_w1 t_w
    go_wp2_with fail
    refine (within1 H2.out w1.heap.size 0 _ _ (by simp [go_sem])).mono ?_
    rintro e w_32 ⟨rfl, hw⟩; obtain rfl := hw.symm
    clear hw
    go_wp2_with fail
    refine (HG.out _).mono ?_
    rintro e w2 ⟨rfl, g_w2⟩
    have s_w2 : Below w1.heap.size w1 w2 := chain (by go_grown) g_w2
    have t_w2 := chain t_w1 s_w2
    replace rf := fkeep2 rf (lt_of r0) s_w2
    replace k0 := keep k0 s_w2
    have z_k0_w2 := lt_of k0
    replace k1 := keep k1 s_w2
    replace k2 := keep k2 s_w2
    replace r0 := keep r0 s_w2
    have z_r0_w2 := lt_of r0
    replace r1 := keep r1 s_w2
    replace r2 := keep r2 s_w2
    replace m0 := keep m0 s_w2
    have z_m0_w2 := lt_of m0
    replace m1 := keep m1 s_w2
    replace m2 := keep m2 s_w2
    have q0 : w2.cell? ⟨w1.heap.size, 0, none⟩ = some (.int .i64 now) := ((bcell g_w2).1 _ _ (by simp; try omega)).trans (by simp [go_sem])
    have z_q_w2 := lt_of q0
    clear g_w2 s_w2 t_w1
    go_wp2_with fail
    refine (svalid H3.out _).mono ?_
    rintro e w3 ⟨rfl, g_w3⟩
    have s_w3 : Below w2.heap.size w2 w3 := chain (by go_grown) g_w3
    have t_w3 := chain t_w2 s_w3
    replace rf := fkeep2 rf (lt_of r0) s_w3
    replace k0 := keep k0 s_w3
    have z_k0_w3 := lt_of k0
    replace k1 := keep k1 s_w3
    replace k2 := keep k2 s_w3
    replace r0 := keep r0 s_w3
    have z_r0_w3 := lt_of r0
    replace r1 := keep r1 s_w3
    replace r2 := keep r2 s_w3
    replace m0 := keep m0 s_w3
    have z_m0_w3 := lt_of m0
    replace m1 := keep m1 s_w3
    replace m2 := keep m2 s_w3
    replace q0 := keep q0 s_w3
    have z_q0_w3 := lt_of q0
    have g0 : w3.cell? ⟨w2.heap.size, 0, none⟩ = some (.int .i64 L) := ((bcell g_w3).1 _ _ (by simp; try omega)).trans (by simp [go_sem])
    have g1 : w3.cell? ⟨w2.heap.size, 1, none⟩ = some (.int .i64 H) := ((bcell g_w3).1 _ _ (by simp; try omega)).trans (by simp [go_sem])
    have g2 : w3.cell? ⟨w2.heap.size, 2, none⟩ = some (.int .i64 now) := ((bcell g_w3).1 _ _ (by simp; try omega)).trans (by simp [go_sem])
    have z_g_w3 := lt_of g0
    clear g_w3 s_w3 t_w2
    go_wp2_with fail
    refine bodyPost_ret (v := .tuple #[.agg #[.int .i64 L, .int .i64 H, .int .i64 now], .int .i64 0]) (by simp [results, Try.results12, go_sem, *]) rfl ⟨rfl, by first | exact t_w3 | go_grown⟩
set_option maxHeartbeats 1000000 in
theorem rgrowV {lo hi a now L H A E : Int} (hv : GrowIs lo hi a now L H A E) (w : World) : Calls Try.prog 13 #[.agg #[.int .i64 lo, .int .i64 hi, .int .i64 a], .int .i64 now] w fun e w' => e = .returned (.tuple #[.agg #[.int .i64 L, .int .i64 H, .int .i64 A], .int .i64 E]) ∧ Below w.heap.size w w' := by
  rcases hv with ⟨hg, rfl, rfl, rfl, rfl⟩ | ⟨hg, hs, rfl, rfl, rfl, rfl⟩ | ⟨hg, hs, rfl, rfl, hA, rfl⟩
  · rcases h1 : okS lo hi a with _ | _
    · have H1 := Lib.hid h1
      clear hg h1
      have t_w := Below.refl w.heap.size w
      go_enter Try.func13, Try.ntmps13
      go_wp2_with fail
      refine (rbvalid H1.out _).mono ?_
      rintro e w1 ⟨rfl, g_w1⟩
      have s_w1 : Below w.heap.size w w1 := chain (by go_grown) g_w1
      have t_w1 := chain t_w s_w1
      have k0 : w1.cell? ⟨w.heap.size, 0, none⟩ = some (.int .i64 lo) := ((bcell g_w1).1 _ _ (by simp; try omega)).trans (by simp [go_sem])
      have k1 : w1.cell? ⟨w.heap.size, 1, none⟩ = some (.int .i64 hi) := ((bcell g_w1).1 _ _ (by simp; try omega)).trans (by simp [go_sem])
      have k2 : w1.cell? ⟨w.heap.size, 2, none⟩ = some (.int .i64 a) := ((bcell g_w1).1 _ _ (by simp; try omega)).trans (by simp [go_sem])
      have z_k_w1 := lt_of k0
      have r0 : w1.cell? ⟨w.heap.size + 1, 0, none⟩ = some (.int .i64 0) := ((bcell g_w1).1 _ _ (by simp; try omega)).trans (by simp [go_sem])
      have r1 : w1.cell? ⟨w.heap.size + 1, 1, none⟩ = some (.int .i64 0) := ((bcell g_w1).1 _ _ (by simp; try omega)).trans (by simp [go_sem])
      have r2 : w1.cell? ⟨w.heap.size + 1, 2, none⟩ = some (.int .i64 0) := ((bcell g_w1).1 _ _ (by simp; try omega)).trans (by simp [go_sem])
      have z_r_w1 := lt_of r0
      have rf : ∀ i, w1.frozen? ⟨w.heap.size + 1, i, none⟩ = false := fun i => ((bcell g_w1).2 _ _ (by simp; try omega)).trans (by simp [go_sem])
      clear g_w1 s_w1 t_w
      go_wp2_with fail
      refine bodyPost_ret (v := .tuple #[.agg #[.int .i64 0, .int .i64 0, .int .i64 0], .int .i64 1]) (by simp [results, Try.results13, go_sem, *]) rfl ⟨rfl, by first | exact t_w1 | go_grown⟩
    · have h2 : inB a 20000000000000 now = false := by simpa [gOk, h1] using hg
      have hc : now < a ∨ (a ≤ now ∧ 20000000000000 < now) := by simp [inB] at h2; omega
      have H1 := Lib.hid h1
      clear hg h1 h2
      rcases hc with hc | ⟨hc, hc2⟩
      all_goals
        have t_w := Below.refl w.heap.size w
        go_enter Try.func13, Try.ntmps13
        go_wp2_with fail
        refine (rbvalid H1.out _).mono ?_
        rintro e w1 ⟨rfl, g_w1⟩
        have s_w1 : Below w.heap.size w w1 := chain (by go_grown) g_w1
        have t_w1 := chain t_w s_w1
        have k0 : w1.cell? ⟨w.heap.size, 0, none⟩ = some (.int .i64 lo) := ((bcell g_w1).1 _ _ (by simp; try omega)).trans (by simp [go_sem])
        have k1 : w1.cell? ⟨w.heap.size, 1, none⟩ = some (.int .i64 hi) := ((bcell g_w1).1 _ _ (by simp; try omega)).trans (by simp [go_sem])
        have k2 : w1.cell? ⟨w.heap.size, 2, none⟩ = some (.int .i64 a) := ((bcell g_w1).1 _ _ (by simp; try omega)).trans (by simp [go_sem])
        have z_k_w1 := lt_of k0
        have r0 : w1.cell? ⟨w.heap.size + 1, 0, none⟩ = some (.int .i64 0) := ((bcell g_w1).1 _ _ (by simp; try omega)).trans (by simp [go_sem])
        have r1 : w1.cell? ⟨w.heap.size + 1, 1, none⟩ = some (.int .i64 0) := ((bcell g_w1).1 _ _ (by simp; try omega)).trans (by simp [go_sem])
        have r2 : w1.cell? ⟨w.heap.size + 1, 2, none⟩ = some (.int .i64 0) := ((bcell g_w1).1 _ _ (by simp; try omega)).trans (by simp [go_sem])
        have z_r_w1 := lt_of r0
        have rf : ∀ i, w1.frozen? ⟨w.heap.size + 1, i, none⟩ = false := fun i => ((bcell g_w1).2 _ _ (by simp; try omega)).trans (by simp [go_sem])
        clear g_w1 s_w1 t_w
        go_wp2_with fail
        refine bodyPost_ret (v := .tuple #[.agg #[.int .i64 0, .int .i64 0, .int .i64 0], .int .i64 1]) (by simp [results, Try.results13, go_sem, *]) rfl ⟨rfl, by first | exact t_w1 | go_grown⟩
  · have h12 : okS lo hi a = true ∧ inB a 20000000000000 now = true := by simpa [gOk] using hg
    obtain ⟨n1, n2⟩ := inB_t h12.2
    obtain ⟨k1, k2, k3, k4, k5⟩ := okS_t h12.1
    obtain ⟨m1, m2⟩ := moreN_b (show 0 ≤ now - a by omega) (by omega)
    have hmr := fun w => rmore (now - a) (by omega) (by omega) w
    have H1 := Lib.hid h12.1
    generalize moreN (now - a) = m at *
    have HM := Lib.hid hmr
    have H3 := Lib.hid hs
    clear hg h12 hmr hs
    have t_w := Below.refl w.heap.size w
    go_enter Try.func13, Try.ntmps13
    go_wp2_with fail
    refine (rbvalid H1.out _).mono ?_
    rintro e w1 ⟨rfl, g_w1⟩
    have s_w1 : Below w.heap.size w w1 := chain (by go_grown) g_w1
    have t_w1 := chain t_w s_w1
    have k0 : w1.cell? ⟨w.heap.size, 0, none⟩ = some (.int .i64 lo) := ((bcell g_w1).1 _ _ (by simp; try omega)).trans (by simp [go_sem])
    have k1 : w1.cell? ⟨w.heap.size, 1, none⟩ = some (.int .i64 hi) := ((bcell g_w1).1 _ _ (by simp; try omega)).trans (by simp [go_sem])
    have k2 : w1.cell? ⟨w.heap.size, 2, none⟩ = some (.int .i64 a) := ((bcell g_w1).1 _ _ (by simp; try omega)).trans (by simp [go_sem])
    have z_k_w1 := lt_of k0
    have r0 : w1.cell? ⟨w.heap.size + 1, 0, none⟩ = some (.int .i64 0) := ((bcell g_w1).1 _ _ (by simp; try omega)).trans (by simp [go_sem])
    have r1 : w1.cell? ⟨w.heap.size + 1, 1, none⟩ = some (.int .i64 0) := ((bcell g_w1).1 _ _ (by simp; try omega)).trans (by simp [go_sem])
    have r2 : w1.cell? ⟨w.heap.size + 1, 2, none⟩ = some (.int .i64 0) := ((bcell g_w1).1 _ _ (by simp; try omega)).trans (by simp [go_sem])
    have z_r_w1 := lt_of r0
    have rf : ∀ i, w1.frozen? ⟨w.heap.size + 1, i, none⟩ = false := fun i => ((bcell g_w1).2 _ _ (by simp; try omega)).trans (by simp [go_sem])
    clear g_w1 s_w1 t_w
    go_wp2_with fail
    refine (HM.out _).mono ?_
    rintro e w_51 ⟨rfl, hw⟩; obtain rfl := hw.symm
    clear hw
    go_wp2_with fail
    refine (rbvalid H3.out _).mono ?_
    rintro e w3 ⟨rfl, g_w3⟩
    have s_w3 : Below w1.heap.size w1 w3 := chain (by go_grown) g_w3
    have t_w3 := chain t_w1 s_w3
    replace rf := fkeep2 rf (lt_of r0) s_w3
    replace k0 := keep k0 s_w3
    have z_k0_w3 := lt_of k0
    replace k1 := keep k1 s_w3
    replace k2 := keep k2 s_w3
    replace r0 := keep r0 s_w3
    have z_r0_w3 := lt_of r0
    replace r1 := keep r1 s_w3
    replace r2 := keep r2 s_w3
    have g0 : w3.cell? ⟨w1.heap.size, 0, none⟩ = some (.int .i64 (lo - m)) := ((bcell g_w3).1 _ _ (by simp; try omega)).trans (by simp [go_sem])
    have g1 : w3.cell? ⟨w1.heap.size, 1, none⟩ = some (.int .i64 (hi + m)) := ((bcell g_w3).1 _ _ (by simp; try omega)).trans (by simp [go_sem])
    have g2 : w3.cell? ⟨w1.heap.size, 2, none⟩ = some (.int .i64 now) := ((bcell g_w3).1 _ _ (by simp; try omega)).trans (by simp [go_sem])
    have z_g_w3 := lt_of g0
    clear g_w3 s_w3 t_w1
    go_wp2_with fail
    refine bodyPost_ret (v := .tuple #[.agg #[.int .i64 0, .int .i64 0, .int .i64 0], .int .i64 3]) (by simp [results, Try.results13, go_sem, *]) rfl ⟨rfl, by first | exact t_w3 | go_grown⟩
  · obtain rfl := hA.symm
    have h12 : okS lo hi a = true ∧ inB a 20000000000000 now = true := by simpa [gOk] using hg
    obtain ⟨n1, n2⟩ := inB_t h12.2
    obtain ⟨k1, k2, k3, k4, k5⟩ := okS_t h12.1
    obtain ⟨m1, m2⟩ := moreN_b (show 0 ≤ now - a by omega) (by omega)
    have hmr := fun w => rmore (now - a) (by omega) (by omega) w
    have H1 := Lib.hid h12.1
    generalize moreN (now - a) = m at *
    have HM := Lib.hid hmr
    have H3 := Lib.hid hs
    clear hg h12 hmr hs
    have t_w := Below.refl w.heap.size w
    go_enter Try.func13, Try.ntmps13
    go_wp2_with fail
    refine (rbvalid H1.out _).mono ?_
    rintro e w1 ⟨rfl, g_w1⟩
    have s_w1 : Below w.heap.size w w1 := chain (by go_grown) g_w1
    have t_w1 := chain t_w s_w1
    have k0 : w1.cell? ⟨w.heap.size, 0, none⟩ = some (.int .i64 lo) := ((bcell g_w1).1 _ _ (by simp; try omega)).trans (by simp [go_sem])
    have k1 : w1.cell? ⟨w.heap.size, 1, none⟩ = some (.int .i64 hi) := ((bcell g_w1).1 _ _ (by simp; try omega)).trans (by simp [go_sem])
    have k2 : w1.cell? ⟨w.heap.size, 2, none⟩ = some (.int .i64 a) := ((bcell g_w1).1 _ _ (by simp; try omega)).trans (by simp [go_sem])
    have z_k_w1 := lt_of k0
    have r0 : w1.cell? ⟨w.heap.size + 1, 0, none⟩ = some (.int .i64 0) := ((bcell g_w1).1 _ _ (by simp; try omega)).trans (by simp [go_sem])
    have r1 : w1.cell? ⟨w.heap.size + 1, 1, none⟩ = some (.int .i64 0) := ((bcell g_w1).1 _ _ (by simp; try omega)).trans (by simp [go_sem])
    have r2 : w1.cell? ⟨w.heap.size + 1, 2, none⟩ = some (.int .i64 0) := ((bcell g_w1).1 _ _ (by simp; try omega)).trans (by simp [go_sem])
    have z_r_w1 := lt_of r0
    have rf : ∀ i, w1.frozen? ⟨w.heap.size + 1, i, none⟩ = false := fun i => ((bcell g_w1).2 _ _ (by simp; try omega)).trans (by simp [go_sem])
    clear g_w1 s_w1 t_w
    go_wp2_with fail
    refine (HM.out _).mono ?_
    rintro e w_59 ⟨rfl, hw⟩; obtain rfl := hw.symm
    clear hw
    go_wp2_with fail
    refine (rbvalid H3.out _).mono ?_
    rintro e w3 ⟨rfl, g_w3⟩
    have s_w3 : Below w1.heap.size w1 w3 := chain (by go_grown) g_w3
    have t_w3 := chain t_w1 s_w3
    replace rf := fkeep2 rf (lt_of r0) s_w3
    replace k0 := keep k0 s_w3
    have z_k0_w3 := lt_of k0
    replace k1 := keep k1 s_w3
    replace k2 := keep k2 s_w3
    replace r0 := keep r0 s_w3
    have z_r0_w3 := lt_of r0
    replace r1 := keep r1 s_w3
    replace r2 := keep r2 s_w3
    have g0 : w3.cell? ⟨w1.heap.size, 0, none⟩ = some (.int .i64 (lo - m)) := ((bcell g_w3).1 _ _ (by simp; try omega)).trans (by simp [go_sem])
    have g1 : w3.cell? ⟨w1.heap.size, 1, none⟩ = some (.int .i64 (hi + m)) := ((bcell g_w3).1 _ _ (by simp; try omega)).trans (by simp [go_sem])
    have g2 : w3.cell? ⟨w1.heap.size, 2, none⟩ = some (.int .i64 now) := ((bcell g_w3).1 _ _ (by simp; try omega)).trans (by simp [go_sem])
    have z_g_w3 := lt_of g0
    clear g_w3 s_w3 t_w1
    go_wp2_with fail
    refine bodyPost_ret (v := .tuple #[.agg #[.int .i64 (lo - m), .int .i64 (hi + m), .int .i64 now], .int .i64 0]) (by simp [results, Try.results13, go_sem, *]) rfl ⟨rfl, by first | exact t_w3 | go_grown⟩
end Go.Proofs.Ytkmkfjaokjcelaa
