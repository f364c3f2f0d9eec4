/- Contracts of package bound: Meet, the first span later or both at one time. -/
import Derived.Test.YtkmkfjaokjcelaaBndC
namespace Go.Proofs.Ytkmkfjaokjcelaa
open Go.ChangeShapes Go.WideShapes Go.ChangeAt Go.RowKit
set_option maxHeartbeats 4000000 in
theorem meet_gt {aL aH aA bL bH bA L H A E : Int} (hlt : bA < aA) (hv : MeetIs aL aH aA bL bH bA L H A E) (ho : okS aL aH aA = true) (ho2 : okS bL bH bA = true) (w : World) : Calls Try.prog 14 #[.agg #[.int .i64 aL, .int .i64 aH, .int .i64 aA], .agg #[.int .i64 bL, .int .i64 bH, .int .i64 bA]] w fun e w' => e = .returned (.tuple #[.agg #[.int .i64 L, .int .i64 H, .int .i64 A], .int .i64 E]) ∧ Below w.heap.size w w' := by
  have e1 : mA aA bA = aA := by simp only [mA]; rw [if_neg (by omega)]
  have e2 : mL aL aA bA = aL := by simp only [mL]; rw [if_neg (by omega)]
  have e3 : mH aH aA bA = aH := by simp only [mH]; rw [if_neg (by omega)]
  have e4 : mL bL bA aA = bL - moreN (aA - bA) := by simp only [mL]; rw [if_pos (by omega)]
  have e5 : mH bH bA aA = bH + moreN (aA - bA) := by simp only [mH]; rw [if_pos (by omega)]
  unfold MeetIs at hv
  rw [e1, e2, e3, e4, e5] at hv
  have hk2 := okS_t ho
  have hne : (aA == bA) = false := by simp; omega
  generalize hL : bL - moreN (aA - bA) = yL at *
  generalize hH : bH + moreN (aA - bA) = yH at *
  have hgr := fun w => grown ho2 (show bA ≤ aA by omega) (by omega) w
  rw [hL, hH] at hgr
  have GB := Lib.hid hgr
  have H1 := Lib.hid ho
  have H2 := Lib.hid ho2
  clear e1 e2 e3 e4 e5 hL hH hgr hk2
  rcases hv with ⟨hb, _⟩ | ⟨_, _, ⟨hb, rfl, rfl, rfl, rfl⟩ | ⟨h3, h4, lo, hi, l1, l2, l3, l4, l5, l6, hc⟩⟩
  · rw [ho, ho2] at hb; cases hb
  · have h4 : okS yL yH aA = false := by simpa [ho] using hb
    have H4 := Lib.hid h4
    clear hb h4 ho ho2
    have t_w := Below.refl w.heap.size w
    go_enter Try.func14, Try.ntmps14
    go_wp2_with fail
    go_region
    · go_wp2_with fail
      refine (svalid H1.out _).mono ?_
      rintro e w1 ⟨rfl, g_w1⟩
      have s_w1 : Below w.heap.size w w1 := chain (by go_grown) g_w1
      have t_w1 := chain t_w s_w1
      have p0 : w1.cell? ⟨w.heap.size, 0, none⟩ = some (.int .i64 aL) := ((bcell g_w1).1 _ _ (by simp; try omega)).trans (by simp [go_sem])
      have p1 : w1.cell? ⟨w.heap.size, 1, none⟩ = some (.int .i64 aH) := ((bcell g_w1).1 _ _ (by simp; try omega)).trans (by simp [go_sem])
      have p2 : w1.cell? ⟨w.heap.size, 2, none⟩ = some (.int .i64 aA) := ((bcell g_w1).1 _ _ (by simp; try omega)).trans (by simp [go_sem])
      have z_p_w1 := lt_of p0
      have q0 : w1.cell? ⟨w.heap.size + 1, 0, none⟩ = some (.int .i64 bL) := ((bcell g_w1).1 _ _ (by simp; try omega)).trans (by simp [go_sem])
      have q1 : w1.cell? ⟨w.heap.size + 1, 1, none⟩ = some (.int .i64 bH) := ((bcell g_w1).1 _ _ (by simp; try omega)).trans (by simp [go_sem])
      have q2 : w1.cell? ⟨w.heap.size + 1, 2, none⟩ = some (.int .i64 bA) := ((bcell g_w1).1 _ _ (by simp; try omega)).trans (by simp [go_sem])
      have z_q_w1 := lt_of q0
      have r0 : w1.cell? ⟨w.heap.size + 2, 0, none⟩ = some (.int .i64 0) := ((bcell g_w1).1 _ _ (by simp; try omega)).trans (by simp [go_sem])
      have r1 : w1.cell? ⟨w.heap.size + 2, 1, none⟩ = some (.int .i64 0) := ((bcell g_w1).1 _ _ (by simp; try omega)).trans (by simp [go_sem])
      have r2 : w1.cell? ⟨w.heap.size + 2, 2, none⟩ = some (.int .i64 0) := ((bcell g_w1).1 _ _ (by simp; try omega)).trans (by simp [go_sem])
      have z_r_w1 := lt_of r0
      have rf : ∀ i, w1.frozen? ⟨w.heap.size + 2, i, none⟩ = false := fun i => ((bcell g_w1).2 _ _ (by simp; try omega)).trans (by simp [go_sem])
      have m0 : w1.cell? ⟨w.heap.size + 3, 0, none⟩ = some (.int .i64 aL) := ((bcell g_w1).1 _ _ (by simp; try omega)).trans (by simp [go_sem])
      have m1 : w1.cell? ⟨w.heap.size + 3, 1, none⟩ = some (.int .i64 aH) := ((bcell g_w1).1 _ _ (by simp; try omega)).trans (by simp [go_sem])
      have m2 : w1.cell? ⟨w.heap.size + 3, 2, none⟩ = some (.int .i64 aA) := ((bcell g_w1).1 _ _ (by simp; try omega)).trans (by simp [go_sem])
      have z_m_w1 := lt_of m0
      have mf : ∀ i, w1.frozen? ⟨w.heap.size + 3, i, none⟩ = false := fun i => ((bcell g_w1).2 _ _ (by simp; try omega)).trans (by simp [go_sem])
      have n0 : w1.cell? ⟨w.heap.size + 4, 0, none⟩ = some (.int .i64 bL) := ((bcell g_w1).1 _ _ (by simp; try omega)).trans (by simp [go_sem])
      have n1 : w1.cell? ⟨w.heap.size + 4, 1, none⟩ = some (.int .i64 bH) := ((bcell g_w1).1 _ _ (by simp; try omega)).trans (by simp [go_sem])
      have n2 : w1.cell? ⟨w.heap.size + 4, 2, none⟩ = some (.int .i64 bA) := ((bcell g_w1).1 _ _ (by simp; try omega)).trans (by simp [go_sem])
      have z_n_w1 := lt_of n0
      have nf : ∀ i, w1.frozen? ⟨w.heap.size + 4, i, none⟩ = false := fun i => ((bcell g_w1).2 _ _ (by simp; try omega)).trans (by simp [go_sem])
      clear g_w1 s_w1 t_w
      go_wp2_with fail
      refine (svalid H2.out _).mono ?_
      rintro e w2 ⟨rfl, g_w2⟩
      have s_w2 : Below w1.heap.size w1 w2 := chain (by go_grown) g_w2
      have t_w2 := chain t_w1 s_w2
      replace rf := fkeep2 rf (lt_of r0) s_w2
      replace mf := fkeep2 mf (lt_of m0) s_w2
      replace nf := fkeep2 nf (lt_of n0) s_w2
      replace p0 := keep p0 s_w2
      have z_p0_w2 := lt_of p0
      replace p1 := keep p1 s_w2
      replace p2 := keep p2 s_w2
      replace q0 := keep q0 s_w2
      have z_q0_w2 := lt_of q0
      replace q1 := keep q1 s_w2
      replace q2 := keep q2 s_w2
      replace r0 := keep r0 s_w2
      have z_r0_w2 := lt_of r0
      replace r1 := keep r1 s_w2
      replace r2 := keep r2 s_w2
      replace m0 := keep m0 s_w2
      have z_m0_w2 := lt_of m0
      replace m1 := keep m1 s_w2
      replace m2 := keep m2 s_w2
      replace n0 := keep n0 s_w2
      have z_n0_w2 := lt_of n0
      replace n1 := keep n1 s_w2
      replace n2 := keep n2 s_w2
      clear g_w2 s_w2 z_p_w1 z_q_w1 z_r_w1 z_m_w1 z_n_w1 t_w1
      go_wp2_with fail
      refine (GB.out _).mono ?_
      rintro e w3 ⟨rfl, g_w3⟩
      have s_w3 : Below w2.heap.size w2 w3 := chain (by go_grown) g_w3
      have t_w3 := chain t_w2 s_w3
      replace rf := fkeep2 rf (lt_of r0) s_w3
      replace mf := fkeep2 mf (lt_of m0) s_w3
      replace nf := fkeep2 nf (lt_of n0) s_w3
      replace p0 := keep p0 s_w3
      have z_p0_w3 := lt_of p0
      replace p1 := keep p1 s_w3
      replace p2 := keep p2 s_w3
      replace q0 := keep q0 s_w3
      have z_q0_w3 := lt_of q0
      replace q1 := keep q1 s_w3
      replace q2 := keep q2 s_w3
      replace r0 := keep r0 s_w3
      have z_r0_w3 := lt_of r0
      replace r1 := keep r1 s_w3
      replace r2 := keep r2 s_w3
      replace m0 := keep m0 s_w3
      have z_m0_w3 := lt_of m0
      replace m1 := keep m1 s_w3
      replace m2 := keep m2 s_w3
      replace n0 := keep n0 s_w3
      have z_n0_w3 := lt_of n0
      replace n1 := keep n1 s_w3
      replace n2 := keep n2 s_w3
      clear g_w3 s_w3 z_p0_w2 z_q0_w2 z_r0_w2 z_m0_w2 z_n0_w2 t_w2
      go_wp2_with fail
      have p0n : (((w3.setCell ⟨w.heap.size + 4, 0, none⟩ (.int .i64 yL)).setCell ⟨w.heap.size + 4, 1, none⟩ (.int .i64 yH)).setCell ⟨w.heap.size + 4, 2, none⟩ (.int .i64 aA)).cell? _ = _ := (cset_ne (c := w.heap.size + 4) (cset_ne (c := w.heap.size + 4) (cset_ne (c := w.heap.size + 4) p0 (by omega) 0 (.int .i64 yL)) (by omega) 1 (.int .i64 yH)) (by omega) 2 (.int .i64 aA)); clear p0; have p0 := p0n; clear p0n
      have p1n : (((w3.setCell ⟨w.heap.size + 4, 0, none⟩ (.int .i64 yL)).setCell ⟨w.heap.size + 4, 1, none⟩ (.int .i64 yH)).setCell ⟨w.heap.size + 4, 2, none⟩ (.int .i64 aA)).cell? _ = _ := (cset_ne (c := w.heap.size + 4) (cset_ne (c := w.heap.size + 4) (cset_ne (c := w.heap.size + 4) p1 (by omega) 0 (.int .i64 yL)) (by omega) 1 (.int .i64 yH)) (by omega) 2 (.int .i64 aA)); clear p1; have p1 := p1n; clear p1n
      have p2n : (((w3.setCell ⟨w.heap.size + 4, 0, none⟩ (.int .i64 yL)).setCell ⟨w.heap.size + 4, 1, none⟩ (.int .i64 yH)).setCell ⟨w.heap.size + 4, 2, none⟩ (.int .i64 aA)).cell? _ = _ := (cset_ne (c := w.heap.size + 4) (cset_ne (c := w.heap.size + 4) (cset_ne (c := w.heap.size + 4) p2 (by omega) 0 (.int .i64 yL)) (by omega) 1 (.int .i64 yH)) (by omega) 2 (.int .i64 aA)); clear p2; have p2 := p2n; clear p2n
      have q0n : (((w3.setCell ⟨w.heap.size + 4, 0, none⟩ (.int .i64 yL)).setCell ⟨w.heap.size + 4, 1, none⟩ (.int .i64 yH)).setCell ⟨w.heap.size + 4, 2, none⟩ (.int .i64 aA)).cell? _ = _ := (cset_ne (c := w.heap.size + 4) (cset_ne (c := w.heap.size + 4) (cset_ne (c := w.heap.size + 4) q0 (by omega) 0 (.int .i64 yL)) (by omega) 1 (.int .i64 yH)) (by omega) 2 (.int .i64 aA)); clear q0; have q0 := q0n; clear q0n
      have q1n : (((w3.setCell ⟨w.heap.size + 4, 0, none⟩ (.int .i64 yL)).setCell ⟨w.heap.size + 4, 1, none⟩ (.int .i64 yH)).setCell ⟨w.heap.size + 4, 2, none⟩ (.int .i64 aA)).cell? _ = _ := (cset_ne (c := w.heap.size + 4) (cset_ne (c := w.heap.size + 4) (cset_ne (c := w.heap.size + 4) q1 (by omega) 0 (.int .i64 yL)) (by omega) 1 (.int .i64 yH)) (by omega) 2 (.int .i64 aA)); clear q1; have q1 := q1n; clear q1n
      have q2n : (((w3.setCell ⟨w.heap.size + 4, 0, none⟩ (.int .i64 yL)).setCell ⟨w.heap.size + 4, 1, none⟩ (.int .i64 yH)).setCell ⟨w.heap.size + 4, 2, none⟩ (.int .i64 aA)).cell? _ = _ := (cset_ne (c := w.heap.size + 4) (cset_ne (c := w.heap.size + 4) (cset_ne (c := w.heap.size + 4) q2 (by omega) 0 (.int .i64 yL)) (by omega) 1 (.int .i64 yH)) (by omega) 2 (.int .i64 aA)); clear q2; have q2 := q2n; clear q2n
      replace rf : ∀ i, (((w3.setCell ⟨w.heap.size + 4, 0, none⟩ (.int .i64 yL)).setCell ⟨w.heap.size + 4, 1, none⟩ (.int .i64 yH)).setCell ⟨w.heap.size + 4, 2, none⟩ (.int .i64 aA)).frozen? ⟨w.heap.size + 2, i, none⟩ = false := fun i => by simp only [World.frozen?_setCell]; exact rf i
      have r0n : (((w3.setCell ⟨w.heap.size + 4, 0, none⟩ (.int .i64 yL)).setCell ⟨w.heap.size + 4, 1, none⟩ (.int .i64 yH)).setCell ⟨w.heap.size + 4, 2, none⟩ (.int .i64 aA)).cell? _ = _ := (cset_ne (c := w.heap.size + 4) (cset_ne (c := w.heap.size + 4) (cset_ne (c := w.heap.size + 4) r0 (by omega) 0 (.int .i64 yL)) (by omega) 1 (.int .i64 yH)) (by omega) 2 (.int .i64 aA)); clear r0; have r0 := r0n; clear r0n
      have r1n : (((w3.setCell ⟨w.heap.size + 4, 0, none⟩ (.int .i64 yL)).setCell ⟨w.heap.size + 4, 1, none⟩ (.int .i64 yH)).setCell ⟨w.heap.size + 4, 2, none⟩ (.int .i64 aA)).cell? _ = _ := (cset_ne (c := w.heap.size + 4) (cset_ne (c := w.heap.size + 4) (cset_ne (c := w.heap.size + 4) r1 (by omega) 0 (.int .i64 yL)) (by omega) 1 (.int .i64 yH)) (by omega) 2 (.int .i64 aA)); clear r1; have r1 := r1n; clear r1n
      have r2n : (((w3.setCell ⟨w.heap.size + 4, 0, none⟩ (.int .i64 yL)).setCell ⟨w.heap.size + 4, 1, none⟩ (.int .i64 yH)).setCell ⟨w.heap.size + 4, 2, none⟩ (.int .i64 aA)).cell? _ = _ := (cset_ne (c := w.heap.size + 4) (cset_ne (c := w.heap.size + 4) (cset_ne (c := w.heap.size + 4) r2 (by omega) 0 (.int .i64 yL)) (by omega) 1 (.int .i64 yH)) (by omega) 2 (.int .i64 aA)); clear r2; have r2 := r2n; clear r2n
      replace mf : ∀ i, (((w3.setCell ⟨w.heap.size + 4, 0, none⟩ (.int .i64 yL)).setCell ⟨w.heap.size + 4, 1, none⟩ (.int .i64 yH)).setCell ⟨w.heap.size + 4, 2, none⟩ (.int .i64 aA)).frozen? ⟨w.heap.size + 3, i, none⟩ = false := fun i => by simp only [World.frozen?_setCell]; exact mf i
      have m0n : (((w3.setCell ⟨w.heap.size + 4, 0, none⟩ (.int .i64 yL)).setCell ⟨w.heap.size + 4, 1, none⟩ (.int .i64 yH)).setCell ⟨w.heap.size + 4, 2, none⟩ (.int .i64 aA)).cell? _ = _ := (cset_ne (c := w.heap.size + 4) (cset_ne (c := w.heap.size + 4) (cset_ne (c := w.heap.size + 4) m0 (by omega) 0 (.int .i64 yL)) (by omega) 1 (.int .i64 yH)) (by omega) 2 (.int .i64 aA)); clear m0; have m0 := m0n; clear m0n
      have m1n : (((w3.setCell ⟨w.heap.size + 4, 0, none⟩ (.int .i64 yL)).setCell ⟨w.heap.size + 4, 1, none⟩ (.int .i64 yH)).setCell ⟨w.heap.size + 4, 2, none⟩ (.int .i64 aA)).cell? _ = _ := (cset_ne (c := w.heap.size + 4) (cset_ne (c := w.heap.size + 4) (cset_ne (c := w.heap.size + 4) m1 (by omega) 0 (.int .i64 yL)) (by omega) 1 (.int .i64 yH)) (by omega) 2 (.int .i64 aA)); clear m1; have m1 := m1n; clear m1n
      have m2n : (((w3.setCell ⟨w.heap.size + 4, 0, none⟩ (.int .i64 yL)).setCell ⟨w.heap.size + 4, 1, none⟩ (.int .i64 yH)).setCell ⟨w.heap.size + 4, 2, none⟩ (.int .i64 aA)).cell? _ = _ := (cset_ne (c := w.heap.size + 4) (cset_ne (c := w.heap.size + 4) (cset_ne (c := w.heap.size + 4) m2 (by omega) 0 (.int .i64 yL)) (by omega) 1 (.int .i64 yH)) (by omega) 2 (.int .i64 aA)); clear m2; have m2 := m2n; clear m2n
      replace nf : ∀ i, (((w3.setCell ⟨w.heap.size + 4, 0, none⟩ (.int .i64 yL)).setCell ⟨w.heap.size + 4, 1, none⟩ (.int .i64 yH)).setCell ⟨w.heap.size + 4, 2, none⟩ (.int .i64 aA)).frozen? ⟨w.heap.size + 4, i, none⟩ = false := fun i => by simp only [World.frozen?_setCell]; exact nf i
      have n0n : (((w3.setCell ⟨w.heap.size + 4, 0, none⟩ (.int .i64 yL)).setCell ⟨w.heap.size + 4, 1, none⟩ (.int .i64 yH)).setCell ⟨w.heap.size + 4, 2, none⟩ (.int .i64 aA)).cell? ⟨w.heap.size + 4, 0, none⟩ = some (.int .i64 yL) := (cset_off (cset_off (cset_eq n0 (.int .i64 yL)) (by decide) _) (by decide) _)
      have n1n : (((w3.setCell ⟨w.heap.size + 4, 0, none⟩ (.int .i64 yL)).setCell ⟨w.heap.size + 4, 1, none⟩ (.int .i64 yH)).setCell ⟨w.heap.size + 4, 2, none⟩ (.int .i64 aA)).cell? ⟨w.heap.size + 4, 1, none⟩ = some (.int .i64 yH) := (cset_off (cset_eq (cset_off n1 (by decide) _) (.int .i64 yH)) (by decide) _)
      have n2n : (((w3.setCell ⟨w.heap.size + 4, 0, none⟩ (.int .i64 yL)).setCell ⟨w.heap.size + 4, 1, none⟩ (.int .i64 yH)).setCell ⟨w.heap.size + 4, 2, none⟩ (.int .i64 aA)).cell? ⟨w.heap.size + 4, 2, none⟩ = some (.int .i64 aA) := (cset_eq (cset_off (cset_off n2 (by decide) _) (by decide) _) (.int .i64 aA))
      have t_W_1 : Below w.heap.size w (((w3.setCell ⟨w.heap.size + 4, 0, none⟩ (.int .i64 yL)).setCell ⟨w.heap.size + 4, 1, none⟩ (.int .i64 yH)).setCell ⟨w.heap.size + 4, 2, none⟩ (.int .i64 aA)) := by go_grown
      clear n0 n1 n2 t_w3
      have n0 := n0n; clear n0n
      have n1 := n1n; clear n1n
      have n2 := n2n; clear n2n
      generalize ((w3.setCell ⟨w.heap.size + 4, 0, none⟩ (.int .i64 yL)).setCell ⟨w.heap.size + 4, 1, none⟩ (.int .i64 yH)).setCell ⟨w.heap.size + 4, 2, none⟩ (.int .i64 aA) = W_1 at *
      refine (svalid H1.out _).mono ?_
      rintro e w4 ⟨rfl, g_w4⟩
      have s_w4 : Below W_1.heap.size W_1 w4 := chain (by go_grown) g_w4
      have t_w4 := chain t_W_1 s_w4
      replace rf := fkeep2 rf (lt_of r0) s_w4
      replace mf := fkeep2 mf (lt_of m0) s_w4
      replace nf := fkeep2 nf (lt_of n0) s_w4
      replace p0 := keep p0 s_w4
      have z_p0_w4 := lt_of p0
      replace p1 := keep p1 s_w4
      replace p2 := keep p2 s_w4
      replace q0 := keep q0 s_w4
      have z_q0_w4 := lt_of q0
      replace q1 := keep q1 s_w4
      replace q2 := keep q2 s_w4
      replace r0 := keep r0 s_w4
      have z_r0_w4 := lt_of r0
      replace r1 := keep r1 s_w4
      replace r2 := keep r2 s_w4
      replace m0 := keep m0 s_w4
      have z_m0_w4 := lt_of m0
      replace m1 := keep m1 s_w4
      replace m2 := keep m2 s_w4
      replace n0 := keep n0 s_w4
      have z_n0_w4 := lt_of n0
      replace n1 := keep n1 s_w4
      replace n2 := keep n2 s_w4
      clear g_w4 s_w4 z_p0_w3 z_q0_w3 z_r0_w3 z_m0_w3 z_n0_w3 t_W_1
      go_wp2_with fail
      refine (svalid H4.out _).mono ?_
      rintro e w5 ⟨rfl, g_w5⟩
      have s_w5 : Below w4.heap.size w4 w5 := chain (by go_grown) g_w5
      have t_w5 := chain t_w4 s_w5
      replace rf := fkeep2 rf (lt_of r0) s_w5
      replace mf := fkeep2 mf (lt_of m0) s_w5
      replace nf := fkeep2 nf (lt_of n0) s_w5
      replace p0 := keep p0 s_w5
      have z_p0_w5 := lt_of p0
      replace p1 := keep p1 s_w5
      replace p2 := keep p2 s_w5
      replace q0 := keep q0 s_w5
      have z_q0_w5 := lt_of q0
      replace q1 := keep q1 s_w5
      replace q2 := keep q2 s_w5
      replace r0 := keep r0 s_w5
      have z_r0_w5 := lt_of r0
      replace r1 := keep r1 s_w5
      replace r2 := keep r2 s_w5
      replace m0 := keep m0 s_w5
      have z_m0_w5 := lt_of m0
      replace m1 := keep m1 s_w5
      replace m2 := keep m2 s_w5
      replace n0 := keep n0 s_w5
      have z_n0_w5 := lt_of n0
      replace n1 := keep n1 s_w5
      replace n2 := keep n2 s_w5
      clear g_w5 s_w5 z_p0_w4 z_q0_w4 z_r0_w4 z_m0_w4 z_n0_w4 t_w4
      go_wp2_with fail
      refine bodyPost_ret (v := .tuple #[.agg #[.int .i64 0, .int .i64 0, .int .i64 0], .int .i64 3]) (by simp [results, Try.results14, go_sem, *]) rfl ⟨rfl, by first | exact t_w5 | go_grown⟩
    · go_wp2_with fail
      refine (svalid H1.out _).mono ?_
      rintro e w1 ⟨rfl, g_w1⟩
      have s_w1 : Below w.heap.size w w1 := chain (by go_grown) g_w1
      have t_w1 := chain t_w s_w1
      have p0 : w1.cell? ⟨w.heap.size, 0, none⟩ = some (.int .i64 aL) := ((bcell g_w1).1 _ _ (by simp; try omega)).trans (by simp [go_sem])
      have p1 : w1.cell? ⟨w.heap.size, 1, none⟩ = some (.int .i64 aH) := ((bcell g_w1).1 _ _ (by simp; try omega)).trans (by simp [go_sem])
      have p2 : w1.cell? ⟨w.heap.size, 2, none⟩ = some (.int .i64 aA) := ((bcell g_w1).1 _ _ (by simp; try omega)).trans (by simp [go_sem])
      have z_p_w1 := lt_of p0
      have q0 : w1.cell? ⟨w.heap.size + 1, 0, none⟩ = some (.int .i64 bL) := ((bcell g_w1).1 _ _ (by simp; try omega)).trans (by simp [go_sem])
      have q1 : w1.cell? ⟨w.heap.size + 1, 1, none⟩ = some (.int .i64 bH) := ((bcell g_w1).1 _ _ (by simp; try omega)).trans (by simp [go_sem])
      have q2 : w1.cell? ⟨w.heap.size + 1, 2, none⟩ = some (.int .i64 bA) := ((bcell g_w1).1 _ _ (by simp; try omega)).trans (by simp [go_sem])
      have z_q_w1 := lt_of q0
      have r0 : w1.cell? ⟨w.heap.size + 2, 0, none⟩ = some (.int .i64 0) := ((bcell g_w1).1 _ _ (by simp; try omega)).trans (by simp [go_sem])
      have r1 : w1.cell? ⟨w.heap.size + 2, 1, none⟩ = some (.int .i64 0) := ((bcell g_w1).1 _ _ (by simp; try omega)).trans (by simp [go_sem])
      have r2 : w1.cell? ⟨w.heap.size + 2, 2, none⟩ = some (.int .i64 0) := ((bcell g_w1).1 _ _ (by simp; try omega)).trans (by simp [go_sem])
      have z_r_w1 := lt_of r0
      have rf : ∀ i, w1.frozen? ⟨w.heap.size + 2, i, none⟩ = false := fun i => ((bcell g_w1).2 _ _ (by simp; try omega)).trans (by simp [go_sem])
      have n0 : w1.cell? ⟨w.heap.size + 3, 0, none⟩ = some (.int .i64 bL) := ((bcell g_w1).1 _ _ (by simp; try omega)).trans (by simp [go_sem])
      have n1 : w1.cell? ⟨w.heap.size + 3, 1, none⟩ = some (.int .i64 bH) := ((bcell g_w1).1 _ _ (by simp; try omega)).trans (by simp [go_sem])
      have n2 : w1.cell? ⟨w.heap.size + 3, 2, none⟩ = some (.int .i64 bA) := ((bcell g_w1).1 _ _ (by simp; try omega)).trans (by simp [go_sem])
      have z_n_w1 := lt_of n0
      have nf : ∀ i, w1.frozen? ⟨w.heap.size + 3, i, none⟩ = false := fun i => ((bcell g_w1).2 _ _ (by simp; try omega)).trans (by simp [go_sem])
      have m0 : w1.cell? ⟨w.heap.size + 4, 0, none⟩ = some (.int .i64 aL) := ((bcell g_w1).1 _ _ (by simp; try omega)).trans (by simp [go_sem])
      have m1 : w1.cell? ⟨w.heap.size + 4, 1, none⟩ = some (.int .i64 aH) := ((bcell g_w1).1 _ _ (by simp; try omega)).trans (by simp [go_sem])
      have m2 : w1.cell? ⟨w.heap.size + 4, 2, none⟩ = some (.int .i64 aA) := ((bcell g_w1).1 _ _ (by simp; try omega)).trans (by simp [go_sem])
      have z_m_w1 := lt_of m0
      have mf : ∀ i, w1.frozen? ⟨w.heap.size + 4, i, none⟩ = false := fun i => ((bcell g_w1).2 _ _ (by simp; try omega)).trans (by simp [go_sem])
      clear g_w1 s_w1 t_w
      go_wp2_with fail
      refine (svalid H2.out _).mono ?_
      rintro e w2 ⟨rfl, g_w2⟩
      have s_w2 : Below w1.heap.size w1 w2 := chain (by go_grown) g_w2
      have t_w2 := chain t_w1 s_w2
      replace rf := fkeep2 rf (lt_of r0) s_w2
      replace nf := fkeep2 nf (lt_of n0) s_w2
      replace mf := fkeep2 mf (lt_of m0) s_w2
      replace p0 := keep p0 s_w2
      have z_p0_w2 := lt_of p0
      replace p1 := keep p1 s_w2
      replace p2 := keep p2 s_w2
      replace q0 := keep q0 s_w2
      have z_q0_w2 := lt_of q0
      replace q1 := keep q1 s_w2
      replace q2 := keep q2 s_w2
      replace r0 := keep r0 s_w2
      have z_r0_w2 := lt_of r0
      replace r1 := keep r1 s_w2
      replace r2 := keep r2 s_w2
      replace n0 := keep n0 s_w2
      have z_n0_w2 := lt_of n0
      replace n1 := keep n1 s_w2
      replace n2 := keep n2 s_w2
      replace m0 := keep m0 s_w2
      have z_m0_w2 := lt_of m0
      replace m1 := keep m1 s_w2
      replace m2 := keep m2 s_w2
      clear g_w2 s_w2 z_p_w1 z_q_w1 z_r_w1 z_n_w1 z_m_w1 t_w1
      go_wp2_with fail
      refine (GB.out _).mono ?_
      rintro e w3 ⟨rfl, g_w3⟩
      have s_w3 : Below w2.heap.size w2 w3 := chain (by go_grown) g_w3
      have t_w3 := chain t_w2 s_w3
      replace rf := fkeep2 rf (lt_of r0) s_w3
      replace nf := fkeep2 nf (lt_of n0) s_w3
      replace mf := fkeep2 mf (lt_of m0) s_w3
      replace p0 := keep p0 s_w3
      have z_p0_w3 := lt_of p0
      replace p1 := keep p1 s_w3
      replace p2 := keep p2 s_w3
      replace q0 := keep q0 s_w3
      have z_q0_w3 := lt_of q0
      replace q1 := keep q1 s_w3
      replace q2 := keep q2 s_w3
      replace r0 := keep r0 s_w3
      have z_r0_w3 := lt_of r0
      replace r1 := keep r1 s_w3
      replace r2 := keep r2 s_w3
      replace n0 := keep n0 s_w3
      have z_n0_w3 := lt_of n0
      replace n1 := keep n1 s_w3
      replace n2 := keep n2 s_w3
      replace m0 := keep m0 s_w3
      have z_m0_w3 := lt_of m0
      replace m1 := keep m1 s_w3
      replace m2 := keep m2 s_w3
      clear g_w3 s_w3 z_p0_w2 z_q0_w2 z_r0_w2 z_n0_w2 z_m0_w2 t_w2
      go_wp2_with fail
      have p0n : (((w3.setCell ⟨w.heap.size + 3, 0, none⟩ (.int .i64 yL)).setCell ⟨w.heap.size + 3, 1, none⟩ (.int .i64 yH)).setCell ⟨w.heap.size + 3, 2, none⟩ (.int .i64 aA)).cell? _ = _ := (cset_ne (c := w.heap.size + 3) (cset_ne (c := w.heap.size + 3) (cset_ne (c := w.heap.size + 3) p0 (by omega) 0 (.int .i64 yL)) (by omega) 1 (.int .i64 yH)) (by omega) 2 (.int .i64 aA)); clear p0; have p0 := p0n; clear p0n
      have p1n : (((w3.setCell ⟨w.heap.size + 3, 0, none⟩ (.int .i64 yL)).setCell ⟨w.heap.size + 3, 1, none⟩ (.int .i64 yH)).setCell ⟨w.heap.size + 3, 2, none⟩ (.int .i64 aA)).cell? _ = _ := (cset_ne (c := w.heap.size + 3) (cset_ne (c := w.heap.size + 3) (cset_ne (c := w.heap.size + 3) p1 (by omega) 0 (.int .i64 yL)) (by omega) 1 (.int .i64 yH)) (by omega) 2 (.int .i64 aA)); clear p1; have p1 := p1n; clear p1n
      have p2n : (((w3.setCell ⟨w.heap.size + 3, 0, none⟩ (.int .i64 yL)).setCell ⟨w.heap.size + 3, 1, none⟩ (.int .i64 yH)).setCell ⟨w.heap.size + 3, 2, none⟩ (.int .i64 aA)).cell? _ = _ := (cset_ne (c := w.heap.size + 3) (cset_ne (c := w.heap.size + 3) (cset_ne (c := w.heap.size + 3) p2 (by omega) 0 (.int .i64 yL)) (by omega) 1 (.int .i64 yH)) (by omega) 2 (.int .i64 aA)); clear p2; have p2 := p2n; clear p2n
      have q0n : (((w3.setCell ⟨w.heap.size + 3, 0, none⟩ (.int .i64 yL)).setCell ⟨w.heap.size + 3, 1, none⟩ (.int .i64 yH)).setCell ⟨w.heap.size + 3, 2, none⟩ (.int .i64 aA)).cell? _ = _ := (cset_ne (c := w.heap.size + 3) (cset_ne (c := w.heap.size + 3) (cset_ne (c := w.heap.size + 3) q0 (by omega) 0 (.int .i64 yL)) (by omega) 1 (.int .i64 yH)) (by omega) 2 (.int .i64 aA)); clear q0; have q0 := q0n; clear q0n
      have q1n : (((w3.setCell ⟨w.heap.size + 3, 0, none⟩ (.int .i64 yL)).setCell ⟨w.heap.size + 3, 1, none⟩ (.int .i64 yH)).setCell ⟨w.heap.size + 3, 2, none⟩ (.int .i64 aA)).cell? _ = _ := (cset_ne (c := w.heap.size + 3) (cset_ne (c := w.heap.size + 3) (cset_ne (c := w.heap.size + 3) q1 (by omega) 0 (.int .i64 yL)) (by omega) 1 (.int .i64 yH)) (by omega) 2 (.int .i64 aA)); clear q1; have q1 := q1n; clear q1n
      have q2n : (((w3.setCell ⟨w.heap.size + 3, 0, none⟩ (.int .i64 yL)).setCell ⟨w.heap.size + 3, 1, none⟩ (.int .i64 yH)).setCell ⟨w.heap.size + 3, 2, none⟩ (.int .i64 aA)).cell? _ = _ := (cset_ne (c := w.heap.size + 3) (cset_ne (c := w.heap.size + 3) (cset_ne (c := w.heap.size + 3) q2 (by omega) 0 (.int .i64 yL)) (by omega) 1 (.int .i64 yH)) (by omega) 2 (.int .i64 aA)); clear q2; have q2 := q2n; clear q2n
      replace rf : ∀ i, (((w3.setCell ⟨w.heap.size + 3, 0, none⟩ (.int .i64 yL)).setCell ⟨w.heap.size + 3, 1, none⟩ (.int .i64 yH)).setCell ⟨w.heap.size + 3, 2, none⟩ (.int .i64 aA)).frozen? ⟨w.heap.size + 2, i, none⟩ = false := fun i => by simp only [World.frozen?_setCell]; exact rf i
      have r0n : (((w3.setCell ⟨w.heap.size + 3, 0, none⟩ (.int .i64 yL)).setCell ⟨w.heap.size + 3, 1, none⟩ (.int .i64 yH)).setCell ⟨w.heap.size + 3, 2, none⟩ (.int .i64 aA)).cell? _ = _ := (cset_ne (c := w.heap.size + 3) (cset_ne (c := w.heap.size + 3) (cset_ne (c := w.heap.size + 3) r0 (by omega) 0 (.int .i64 yL)) (by omega) 1 (.int .i64 yH)) (by omega) 2 (.int .i64 aA)); clear r0; have r0 := r0n; clear r0n
      have r1n : (((w3.setCell ⟨w.heap.size + 3, 0, none⟩ (.int .i64 yL)).setCell ⟨w.heap.size + 3, 1, none⟩ (.int .i64 yH)).setCell ⟨w.heap.size + 3, 2, none⟩ (.int .i64 aA)).cell? _ = _ := (cset_ne (c := w.heap.size + 3) (cset_ne (c := w.heap.size + 3) (cset_ne (c := w.heap.size + 3) r1 (by omega) 0 (.int .i64 yL)) (by omega) 1 (.int .i64 yH)) (by omega) 2 (.int .i64 aA)); clear r1; have r1 := r1n; clear r1n
      have r2n : (((w3.setCell ⟨w.heap.size + 3, 0, none⟩ (.int .i64 yL)).setCell ⟨w.heap.size + 3, 1, none⟩ (.int .i64 yH)).setCell ⟨w.heap.size + 3, 2, none⟩ (.int .i64 aA)).cell? _ = _ := (cset_ne (c := w.heap.size + 3) (cset_ne (c := w.heap.size + 3) (cset_ne (c := w.heap.size + 3) r2 (by omega) 0 (.int .i64 yL)) (by omega) 1 (.int .i64 yH)) (by omega) 2 (.int .i64 aA)); clear r2; have r2 := r2n; clear r2n
      replace nf : ∀ i, (((w3.setCell ⟨w.heap.size + 3, 0, none⟩ (.int .i64 yL)).setCell ⟨w.heap.size + 3, 1, none⟩ (.int .i64 yH)).setCell ⟨w.heap.size + 3, 2, none⟩ (.int .i64 aA)).frozen? ⟨w.heap.size + 3, i, none⟩ = false := fun i => by simp only [World.frozen?_setCell]; exact nf i
      replace mf : ∀ i, (((w3.setCell ⟨w.heap.size + 3, 0, none⟩ (.int .i64 yL)).setCell ⟨w.heap.size + 3, 1, none⟩ (.int .i64 yH)).setCell ⟨w.heap.size + 3, 2, none⟩ (.int .i64 aA)).frozen? ⟨w.heap.size + 4, i, none⟩ = false := fun i => by simp only [World.frozen?_setCell]; exact mf i
      have m0n : (((w3.setCell ⟨w.heap.size + 3, 0, none⟩ (.int .i64 yL)).setCell ⟨w.heap.size + 3, 1, none⟩ (.int .i64 yH)).setCell ⟨w.heap.size + 3, 2, none⟩ (.int .i64 aA)).cell? _ = _ := (cset_ne (c := w.heap.size + 3) (cset_ne (c := w.heap.size + 3) (cset_ne (c := w.heap.size + 3) m0 (by omega) 0 (.int .i64 yL)) (by omega) 1 (.int .i64 yH)) (by omega) 2 (.int .i64 aA)); clear m0; have m0 := m0n; clear m0n
      have m1n : (((w3.setCell ⟨w.heap.size + 3, 0, none⟩ (.int .i64 yL)).setCell ⟨w.heap.size + 3, 1, none⟩ (.int .i64 yH)).setCell ⟨w.heap.size + 3, 2, none⟩ (.int .i64 aA)).cell? _ = _ := (cset_ne (c := w.heap.size + 3) (cset_ne (c := w.heap.size + 3) (cset_ne (c := w.heap.size + 3) m1 (by omega) 0 (.int .i64 yL)) (by omega) 1 (.int .i64 yH)) (by omega) 2 (.int .i64 aA)); clear m1; have m1 := m1n; clear m1n
      have m2n : (((w3.setCell ⟨w.heap.size + 3, 0, none⟩ (.int .i64 yL)).setCell ⟨w.heap.size + 3, 1, none⟩ (.int .i64 yH)).setCell ⟨w.heap.size + 3, 2, none⟩ (.int .i64 aA)).cell? _ = _ := (cset_ne (c := w.heap.size + 3) (cset_ne (c := w.heap.size + 3) (cset_ne (c := w.heap.size + 3) m2 (by omega) 0 (.int .i64 yL)) (by omega) 1 (.int .i64 yH)) (by omega) 2 (.int .i64 aA)); clear m2; have m2 := m2n; clear m2n
      have n0n : (((w3.setCell ⟨w.heap.size + 3, 0, none⟩ (.int .i64 yL)).setCell ⟨w.heap.size + 3, 1, none⟩ (.int .i64 yH)).setCell ⟨w.heap.size + 3, 2, none⟩ (.int .i64 aA)).cell? ⟨w.heap.size + 3, 0, none⟩ = some (.int .i64 yL) := (cset_off (cset_off (cset_eq n0 (.int .i64 yL)) (by decide) _) (by decide) _)
      have n1n : (((w3.setCell ⟨w.heap.size + 3, 0, none⟩ (.int .i64 yL)).setCell ⟨w.heap.size + 3, 1, none⟩ (.int .i64 yH)).setCell ⟨w.heap.size + 3, 2, none⟩ (.int .i64 aA)).cell? ⟨w.heap.size + 3, 1, none⟩ = some (.int .i64 yH) := (cset_off (cset_eq (cset_off n1 (by decide) _) (.int .i64 yH)) (by decide) _)
      have n2n : (((w3.setCell ⟨w.heap.size + 3, 0, none⟩ (.int .i64 yL)).setCell ⟨w.heap.size + 3, 1, none⟩ (.int .i64 yH)).setCell ⟨w.heap.size + 3, 2, none⟩ (.int .i64 aA)).cell? ⟨w.heap.size + 3, 2, none⟩ = some (.int .i64 aA) := (cset_eq (cset_off (cset_off n2 (by decide) _) (by decide) _) (.int .i64 aA))
      have t_W_1 : Below w.heap.size w (((w3.setCell ⟨w.heap.size + 3, 0, none⟩ (.int .i64 yL)).setCell ⟨w.heap.size + 3, 1, none⟩ (.int .i64 yH)).setCell ⟨w.heap.size + 3, 2, none⟩ (.int .i64 aA)) := by go_grown
      clear n0 n1 n2 t_w3
      have n0 := n0n; clear n0n
      have n1 := n1n; clear n1n
      have n2 := n2n; clear n2n
      generalize ((w3.setCell ⟨w.heap.size + 3, 0, none⟩ (.int .i64 yL)).setCell ⟨w.heap.size + 3, 1, none⟩ (.int .i64 yH)).setCell ⟨w.heap.size + 3, 2, none⟩ (.int .i64 aA) = W_1 at *
      refine (svalid H1.out _).mono ?_
      rintro e w4 ⟨rfl, g_w4⟩
      have s_w4 : Below W_1.heap.size W_1 w4 := chain (by go_grown) g_w4
      have t_w4 := chain t_W_1 s_w4
      replace rf := fkeep2 rf (lt_of r0) s_w4
      replace nf := fkeep2 nf (lt_of n0) s_w4
      replace mf := fkeep2 mf (lt_of m0) s_w4
      replace p0 := keep p0 s_w4
      have z_p0_w4 := lt_of p0
      replace p1 := keep p1 s_w4
      replace p2 := keep p2 s_w4
      replace q0 := keep q0 s_w4
      have z_q0_w4 := lt_of q0
      replace q1 := keep q1 s_w4
      replace q2 := keep q2 s_w4
      replace r0 := keep r0 s_w4
      have z_r0_w4 := lt_of r0
      replace r1 := keep r1 s_w4
      replace r2 := keep r2 s_w4
      replace n0 := keep n0 s_w4
      have z_n0_w4 := lt_of n0
      replace n1 := keep n1 s_w4
      replace n2 := keep n2 s_w4
      replace m0 := keep m0 s_w4
      have z_m0_w4 := lt_of m0
      replace m1 := keep m1 s_w4
      replace m2 := keep m2 s_w4
      clear g_w4 s_w4 z_p0_w3 z_q0_w3 z_r0_w3 z_n0_w3 z_m0_w3 t_W_1
      go_wp2_with fail
      refine (svalid H4.out _).mono ?_
      rintro e w5 ⟨rfl, g_w5⟩
      have s_w5 : Below w4.heap.size w4 w5 := chain (by go_grown) g_w5
      have t_w5 := chain t_w4 s_w5
      replace rf := fkeep2 rf (lt_of r0) s_w5
      replace nf := fkeep2 nf (lt_of n0) s_w5
      replace mf := fkeep2 mf (lt_of m0) s_w5
      replace p0 := keep p0 s_w5
      have z_p0_w5 := lt_of p0
      replace p1 := keep p1 s_w5
      replace p2 := keep p2 s_w5
      replace q0 := keep q0 s_w5
      have z_q0_w5 := lt_of q0
      replace q1 := keep q1 s_w5
      replace q2 := keep q2 s_w5
      replace r0 := keep r0 s_w5
      have z_r0_w5 := lt_of r0
      replace r1 := keep r1 s_w5
      replace r2 := keep r2 s_w5
      replace n0 := keep n0 s_w5
      have z_n0_w5 := lt_of n0
      replace n1 := keep n1 s_w5
      replace n2 := keep n2 s_w5
      replace m0 := keep m0 s_w5
      have z_m0_w5 := lt_of m0
      replace m1 := keep m1 s_w5
      replace m2 := keep m2 s_w5
      clear g_w5 s_w5 z_p0_w4 z_q0_w4 z_r0_w4 z_n0_w4 z_m0_w4 t_w4
      go_wp2_with fail
      refine bodyPost_ret (v := .tuple #[.agg #[.int .i64 0, .int .i64 0, .int .i64 0], .int .i64 3]) (by simp [results, Try.results14, go_sem, *]) rfl ⟨rfl, by first | exact t_w5 | go_grown⟩
  · have H4 := Lib.hid h4
    have hm : (if aL < yL then yL else aL) = lo := by split <;> omega
    have hn : (if yH < aH then yH else aH) = hi := by split <;> omega
    clear h3 h4 ho ho2 l1 l2 l3 l4 l5 l6
    rcases hc with ⟨hgt, rfl, rfl, rfl, rfl⟩ | ⟨hle, hl, hh, hA, rfl⟩
    · have t_w := Below.refl w.heap.size w
      go_enter Try.func14, Try.ntmps14
      go_wp2_with fail
      go_region
      · go_wp2_with fail
        refine (svalid H1.out _).mono ?_
        rintro e w1 ⟨rfl, g_w1⟩
        have s_w1 : Below w.heap.size w w1 := chain (by go_grown) g_w1
        have t_w1 := chain t_w s_w1
        have p0 : w1.cell? ⟨w.heap.size, 0, none⟩ = some (.int .i64 aL) := ((bcell g_w1).1 _ _ (by simp; try omega)).trans (by simp [go_sem])
        have p1 : w1.cell? ⟨w.heap.size, 1, none⟩ = some (.int .i64 aH) := ((bcell g_w1).1 _ _ (by simp; try omega)).trans (by simp [go_sem])
        have p2 : w1.cell? ⟨w.heap.size, 2, none⟩ = some (.int .i64 aA) := ((bcell g_w1).1 _ _ (by simp; try omega)).trans (by simp [go_sem])
        have z_p_w1 := lt_of p0
        have q0 : w1.cell? ⟨w.heap.size + 1, 0, none⟩ = some (.int .i64 bL) := ((bcell g_w1).1 _ _ (by simp; try omega)).trans (by simp [go_sem])
        have q1 : w1.cell? ⟨w.heap.size + 1, 1, none⟩ = some (.int .i64 bH) := ((bcell g_w1).1 _ _ (by simp; try omega)).trans (by simp [go_sem])
        have q2 : w1.cell? ⟨w.heap.size + 1, 2, none⟩ = some (.int .i64 bA) := ((bcell g_w1).1 _ _ (by simp; try omega)).trans (by simp [go_sem])
        have z_q_w1 := lt_of q0
        have r0 : w1.cell? ⟨w.heap.size + 2, 0, none⟩ = some (.int .i64 0) := ((bcell g_w1).1 _ _ (by simp; try omega)).trans (by simp [go_sem])
        have r1 : w1.cell? ⟨w.heap.size + 2, 1, none⟩ = some (.int .i64 0) := ((bcell g_w1).1 _ _ (by simp; try omega)).trans (by simp [go_sem])
        have r2 : w1.cell? ⟨w.heap.size + 2, 2, none⟩ = some (.int .i64 0) := ((bcell g_w1).1 _ _ (by simp; try omega)).trans (by simp [go_sem])
        have z_r_w1 := lt_of r0
        have rf : ∀ i, w1.frozen? ⟨w.heap.size + 2, i, none⟩ = false := fun i => ((bcell g_w1).2 _ _ (by simp; try omega)).trans (by simp [go_sem])
        have m0 : w1.cell? ⟨w.heap.size + 3, 0, none⟩ = some (.int .i64 aL) := ((bcell g_w1).1 _ _ (by simp; try omega)).trans (by simp [go_sem])
        have m1 : w1.cell? ⟨w.heap.size + 3, 1, none⟩ = some (.int .i64 aH) := ((bcell g_w1).1 _ _ (by simp; try omega)).trans (by simp [go_sem])
        have m2 : w1.cell? ⟨w.heap.size + 3, 2, none⟩ = some (.int .i64 aA) := ((bcell g_w1).1 _ _ (by simp; try omega)).trans (by simp [go_sem])
        have z_m_w1 := lt_of m0
        have mf : ∀ i, w1.frozen? ⟨w.heap.size + 3, i, none⟩ = false := fun i => ((bcell g_w1).2 _ _ (by simp; try omega)).trans (by simp [go_sem])
        have n0 : w1.cell? ⟨w.heap.size + 4, 0, none⟩ = some (.int .i64 bL) := ((bcell g_w1).1 _ _ (by simp; try omega)).trans (by simp [go_sem])
        have n1 : w1.cell? ⟨w.heap.size + 4, 1, none⟩ = some (.int .i64 bH) := ((bcell g_w1).1 _ _ (by simp; try omega)).trans (by simp [go_sem])
        have n2 : w1.cell? ⟨w.heap.size + 4, 2, none⟩ = some (.int .i64 bA) := ((bcell g_w1).1 _ _ (by simp; try omega)).trans (by simp [go_sem])
        have z_n_w1 := lt_of n0
        have nf : ∀ i, w1.frozen? ⟨w.heap.size + 4, i, none⟩ = false := fun i => ((bcell g_w1).2 _ _ (by simp; try omega)).trans (by simp [go_sem])
        clear g_w1 s_w1 t_w
        go_wp2_with fail
        refine (svalid H2.out _).mono ?_
        rintro e w2 ⟨rfl, g_w2⟩
        have s_w2 : Below w1.heap.size w1 w2 := chain (by go_grown) g_w2
        have t_w2 := chain t_w1 s_w2
        replace rf := fkeep2 rf (lt_of r0) s_w2
        replace mf := fkeep2 mf (lt_of m0) s_w2
        replace nf := fkeep2 nf (lt_of n0) s_w2
        replace p0 := keep p0 s_w2
        have z_p0_w2 := lt_of p0
        replace p1 := keep p1 s_w2
        replace p2 := keep p2 s_w2
        replace q0 := keep q0 s_w2
        have z_q0_w2 := lt_of q0
        replace q1 := keep q1 s_w2
        replace q2 := keep q2 s_w2
        replace r0 := keep r0 s_w2
        have z_r0_w2 := lt_of r0
        replace r1 := keep r1 s_w2
        replace r2 := keep r2 s_w2
        replace m0 := keep m0 s_w2
        have z_m0_w2 := lt_of m0
        replace m1 := keep m1 s_w2
        replace m2 := keep m2 s_w2
        replace n0 := keep n0 s_w2
        have z_n0_w2 := lt_of n0
        replace n1 := keep n1 s_w2
        replace n2 := keep n2 s_w2
        clear g_w2 s_w2 z_p_w1 z_q_w1 z_r_w1 z_m_w1 z_n_w1 t_w1
        go_wp2_with fail
        refine (GB.out _).mono ?_
        rintro e w3 ⟨rfl, g_w3⟩
        have s_w3 : Below w2.heap.size w2 w3 := chain (by go_grown) g_w3
        have t_w3 := chain t_w2 s_w3
        replace rf := fkeep2 rf (lt_of r0) s_w3
        replace mf := fkeep2 mf (lt_of m0) s_w3
        replace nf := fkeep2 nf (lt_of n0) s_w3
        replace p0 := keep p0 s_w3
        have z_p0_w3 := lt_of p0
        replace p1 := keep p1 s_w3
        replace p2 := keep p2 s_w3
        replace q0 := keep q0 s_w3
        have z_q0_w3 := lt_of q0
        replace q1 := keep q1 s_w3
        replace q2 := keep q2 s_w3
        replace r0 := keep r0 s_w3
        have z_r0_w3 := lt_of r0
        replace r1 := keep r1 s_w3
        replace r2 := keep r2 s_w3
        replace m0 := keep m0 s_w3
        have z_m0_w3 := lt_of m0
        replace m1 := keep m1 s_w3
        replace m2 := keep m2 s_w3
        replace n0 := keep n0 s_w3
        have z_n0_w3 := lt_of n0
        replace n1 := keep n1 s_w3
        replace n2 := keep n2 s_w3
        clear g_w3 s_w3 z_p0_w2 z_q0_w2 z_r0_w2 z_m0_w2 z_n0_w2 t_w2
        go_wp2_with fail
        have p0n : (((w3.setCell ⟨w.heap.size + 4, 0, none⟩ (.int .i64 yL)).setCell ⟨w.heap.size + 4, 1, none⟩ (.int .i64 yH)).setCell ⟨w.heap.size + 4, 2, none⟩ (.int .i64 aA)).cell? _ = _ := (cset_ne (c := w.heap.size + 4) (cset_ne (c := w.heap.size + 4) (cset_ne (c := w.heap.size + 4) p0 (by omega) 0 (.int .i64 yL)) (by omega) 1 (.int .i64 yH)) (by omega) 2 (.int .i64 aA)); clear p0; have p0 := p0n; clear p0n
        have p1n : (((w3.setCell ⟨w.heap.size + 4, 0, none⟩ (.int .i64 yL)).setCell ⟨w.heap.size + 4, 1, none⟩ (.int .i64 yH)).setCell ⟨w.heap.size + 4, 2, none⟩ (.int .i64 aA)).cell? _ = _ := (cset_ne (c := w.heap.size + 4) (cset_ne (c := w.heap.size + 4) (cset_ne (c := w.heap.size + 4) p1 (by omega) 0 (.int .i64 yL)) (by omega) 1 (.int .i64 yH)) (by omega) 2 (.int .i64 aA)); clear p1; have p1 := p1n; clear p1n
        have p2n : (((w3.setCell ⟨w.heap.size + 4, 0, none⟩ (.int .i64 yL)).setCell ⟨w.heap.size + 4, 1, none⟩ (.int .i64 yH)).setCell ⟨w.heap.size + 4, 2, none⟩ (.int .i64 aA)).cell? _ = _ := (cset_ne (c := w.heap.size + 4) (cset_ne (c := w.heap.size + 4) (cset_ne (c := w.heap.size + 4) p2 (by omega) 0 (.int .i64 yL)) (by omega) 1 (.int .i64 yH)) (by omega) 2 (.int .i64 aA)); clear p2; have p2 := p2n; clear p2n
        have q0n : (((w3.setCell ⟨w.heap.size + 4, 0, none⟩ (.int .i64 yL)).setCell ⟨w.heap.size + 4, 1, none⟩ (.int .i64 yH)).setCell ⟨w.heap.size + 4, 2, none⟩ (.int .i64 aA)).cell? _ = _ := (cset_ne (c := w.heap.size + 4) (cset_ne (c := w.heap.size + 4) (cset_ne (c := w.heap.size + 4) q0 (by omega) 0 (.int .i64 yL)) (by omega) 1 (.int .i64 yH)) (by omega) 2 (.int .i64 aA)); clear q0; have q0 := q0n; clear q0n
        have q1n : (((w3.setCell ⟨w.heap.size + 4, 0, none⟩ (.int .i64 yL)).setCell ⟨w.heap.size + 4, 1, none⟩ (.int .i64 yH)).setCell ⟨w.heap.size + 4, 2, none⟩ (.int .i64 aA)).cell? _ = _ := (cset_ne (c := w.heap.size + 4) (cset_ne (c := w.heap.size + 4) (cset_ne (c := w.heap.size + 4) q1 (by omega) 0 (.int .i64 yL)) (by omega) 1 (.int .i64 yH)) (by omega) 2 (.int .i64 aA)); clear q1; have q1 := q1n; clear q1n
        have q2n : (((w3.setCell ⟨w.heap.size + 4, 0, none⟩ (.int .i64 yL)).setCell ⟨w.heap.size + 4, 1, none⟩ (.int .i64 yH)).setCell ⟨w.heap.size + 4, 2, none⟩ (.int .i64 aA)).cell? _ = _ := (cset_ne (c := w.heap.size + 4) (cset_ne (c := w.heap.size + 4) (cset_ne (c := w.heap.size + 4) q2 (by omega) 0 (.int .i64 yL)) (by omega) 1 (.int .i64 yH)) (by omega) 2 (.int .i64 aA)); clear q2; have q2 := q2n; clear q2n
        replace rf : ∀ i, (((w3.setCell ⟨w.heap.size + 4, 0, none⟩ (.int .i64 yL)).setCell ⟨w.heap.size + 4, 1, none⟩ (.int .i64 yH)).setCell ⟨w.heap.size + 4, 2, none⟩ (.int .i64 aA)).frozen? ⟨w.heap.size + 2, i, none⟩ = false := fun i => by simp only [World.frozen?_setCell]; exact rf i
        have r0n : (((w3.setCell ⟨w.heap.size + 4, 0, none⟩ (.int .i64 yL)).setCell ⟨w.heap.size + 4, 1, none⟩ (.int .i64 yH)).setCell ⟨w.heap.size + 4, 2, none⟩ (.int .i64 aA)).cell? _ = _ := (cset_ne (c := w.heap.size + 4) (cset_ne (c := w.heap.size + 4) (cset_ne (c := w.heap.size + 4) r0 (by omega) 0 (.int .i64 yL)) (by omega) 1 (.int .i64 yH)) (by omega) 2 (.int .i64 aA)); clear r0; have r0 := r0n; clear r0n
        have r1n : (((w3.setCell ⟨w.heap.size + 4, 0, none⟩ (.int .i64 yL)).setCell ⟨w.heap.size + 4, 1, none⟩ (.int .i64 yH)).setCell ⟨w.heap.size + 4, 2, none⟩ (.int .i64 aA)).cell? _ = _ := (cset_ne (c := w.heap.size + 4) (cset_ne (c := w.heap.size + 4) (cset_ne (c := w.heap.size + 4) r1 (by omega) 0 (.int .i64 yL)) (by omega) 1 (.int .i64 yH)) (by omega) 2 (.int .i64 aA)); clear r1; have r1 := r1n; clear r1n
        have r2n : (((w3.setCell ⟨w.heap.size + 4, 0, none⟩ (.int .i64 yL)).setCell ⟨w.heap.size + 4, 1, none⟩ (.int .i64 yH)).setCell ⟨w.heap.size + 4, 2, none⟩ (.int .i64 aA)).cell? _ = _ := (cset_ne (c := w.heap.size + 4) (cset_ne (c := w.heap.size + 4) (cset_ne (c := w.heap.size + 4) r2 (by omega) 0 (.int .i64 yL)) (by omega) 1 (.int .i64 yH)) (by omega) 2 (.int .i64 aA)); clear r2; have r2 := r2n; clear r2n
        replace mf : ∀ i, (((w3.setCell ⟨w.heap.size + 4, 0, none⟩ (.int .i64 yL)).setCell ⟨w.heap.size + 4, 1, none⟩ (.int .i64 yH)).setCell ⟨w.heap.size + 4, 2, none⟩ (.int .i64 aA)).frozen? ⟨w.heap.size + 3, i, none⟩ = false := fun i => by simp only [World.frozen?_setCell]; exact mf i
        have m0n : (((w3.setCell ⟨w.heap.size + 4, 0, none⟩ (.int .i64 yL)).setCell ⟨w.heap.size + 4, 1, none⟩ (.int .i64 yH)).setCell ⟨w.heap.size + 4, 2, none⟩ (.int .i64 aA)).cell? _ = _ := (cset_ne (c := w.heap.size + 4) (cset_ne (c := w.heap.size + 4) (cset_ne (c := w.heap.size + 4) m0 (by omega) 0 (.int .i64 yL)) (by omega) 1 (.int .i64 yH)) (by omega) 2 (.int .i64 aA)); clear m0; have m0 := m0n; clear m0n
        have m1n : (((w3.setCell ⟨w.heap.size + 4, 0, none⟩ (.int .i64 yL)).setCell ⟨w.heap.size + 4, 1, none⟩ (.int .i64 yH)).setCell ⟨w.heap.size + 4, 2, none⟩ (.int .i64 aA)).cell? _ = _ := (cset_ne (c := w.heap.size + 4) (cset_ne (c := w.heap.size + 4) (cset_ne (c := w.heap.size + 4) m1 (by omega) 0 (.int .i64 yL)) (by omega) 1 (.int .i64 yH)) (by omega) 2 (.int .i64 aA)); clear m1; have m1 := m1n; clear m1n
        have m2n : (((w3.setCell ⟨w.heap.size + 4, 0, none⟩ (.int .i64 yL)).setCell ⟨w.heap.size + 4, 1, none⟩ (.int .i64 yH)).setCell ⟨w.heap.size + 4, 2, none⟩ (.int .i64 aA)).cell? _ = _ := (cset_ne (c := w.heap.size + 4) (cset_ne (c := w.heap.size + 4) (cset_ne (c := w.heap.size + 4) m2 (by omega) 0 (.int .i64 yL)) (by omega) 1 (.int .i64 yH)) (by omega) 2 (.int .i64 aA)); clear m2; have m2 := m2n; clear m2n
        replace nf : ∀ i, (((w3.setCell ⟨w.heap.size + 4, 0, none⟩ (.int .i64 yL)).setCell ⟨w.heap.size + 4, 1, none⟩ (.int .i64 yH)).setCell ⟨w.heap.size + 4, 2, none⟩ (.int .i64 aA)).frozen? ⟨w.heap.size + 4, i, none⟩ = false := fun i => by simp only [World.frozen?_setCell]; exact nf i
        have n0n : (((w3.setCell ⟨w.heap.size + 4, 0, none⟩ (.int .i64 yL)).setCell ⟨w.heap.size + 4, 1, none⟩ (.int .i64 yH)).setCell ⟨w.heap.size + 4, 2, none⟩ (.int .i64 aA)).cell? ⟨w.heap.size + 4, 0, none⟩ = some (.int .i64 yL) := (cset_off (cset_off (cset_eq n0 (.int .i64 yL)) (by decide) _) (by decide) _)
        have n1n : (((w3.setCell ⟨w.heap.size + 4, 0, none⟩ (.int .i64 yL)).setCell ⟨w.heap.size + 4, 1, none⟩ (.int .i64 yH)).setCell ⟨w.heap.size + 4, 2, none⟩ (.int .i64 aA)).cell? ⟨w.heap.size + 4, 1, none⟩ = some (.int .i64 yH) := (cset_off (cset_eq (cset_off n1 (by decide) _) (.int .i64 yH)) (by decide) _)
        have n2n : (((w3.setCell ⟨w.heap.size + 4, 0, none⟩ (.int .i64 yL)).setCell ⟨w.heap.size + 4, 1, none⟩ (.int .i64 yH)).setCell ⟨w.heap.size + 4, 2, none⟩ (.int .i64 aA)).cell? ⟨w.heap.size + 4, 2, none⟩ = some (.int .i64 aA) := (cset_eq (cset_off (cset_off n2 (by decide) _) (by decide) _) (.int .i64 aA))
        have t_W_2 : Below w.heap.size w (((w3.setCell ⟨w.heap.size + 4, 0, none⟩ (.int .i64 yL)).setCell ⟨w.heap.size + 4, 1, none⟩ (.int .i64 yH)).setCell ⟨w.heap.size + 4, 2, none⟩ (.int .i64 aA)) := by go_grown
        clear n0 n1 n2 t_w3
        have n0 := n0n; clear n0n
        have n1 := n1n; clear n1n
        have n2 := n2n; clear n2n
        generalize ((w3.setCell ⟨w.heap.size + 4, 0, none⟩ (.int .i64 yL)).setCell ⟨w.heap.size + 4, 1, none⟩ (.int .i64 yH)).setCell ⟨w.heap.size + 4, 2, none⟩ (.int .i64 aA) = W_2 at *
        refine (svalid H1.out _).mono ?_
        rintro e w4 ⟨rfl, g_w4⟩
        have s_w4 : Below W_2.heap.size W_2 w4 := chain (by go_grown) g_w4
        have t_w4 := chain t_W_2 s_w4
        replace rf := fkeep2 rf (lt_of r0) s_w4
        replace mf := fkeep2 mf (lt_of m0) s_w4
        replace nf := fkeep2 nf (lt_of n0) s_w4
        replace p0 := keep p0 s_w4
        have z_p0_w4 := lt_of p0
        replace p1 := keep p1 s_w4
        replace p2 := keep p2 s_w4
        replace q0 := keep q0 s_w4
        have z_q0_w4 := lt_of q0
        replace q1 := keep q1 s_w4
        replace q2 := keep q2 s_w4
        replace r0 := keep r0 s_w4
        have z_r0_w4 := lt_of r0
        replace r1 := keep r1 s_w4
        replace r2 := keep r2 s_w4
        replace m0 := keep m0 s_w4
        have z_m0_w4 := lt_of m0
        replace m1 := keep m1 s_w4
        replace m2 := keep m2 s_w4
        replace n0 := keep n0 s_w4
        have z_n0_w4 := lt_of n0
        replace n1 := keep n1 s_w4
        replace n2 := keep n2 s_w4
        clear g_w4 s_w4 z_p0_w3 z_q0_w3 z_r0_w3 z_m0_w3 z_n0_w3 t_W_2
        go_wp2_with fail
        refine (svalid H4.out _).mono ?_
        rintro e w5 ⟨rfl, g_w5⟩
        have s_w5 : Below w4.heap.size w4 w5 := chain (by go_grown) g_w5
        have t_w5 := chain t_w4 s_w5
        replace rf := fkeep2 rf (lt_of r0) s_w5
        replace mf := fkeep2 mf (lt_of m0) s_w5
        replace nf := fkeep2 nf (lt_of n0) s_w5
        replace p0 := keep p0 s_w5
        have z_p0_w5 := lt_of p0
        replace p1 := keep p1 s_w5
        replace p2 := keep p2 s_w5
        replace q0 := keep q0 s_w5
        have z_q0_w5 := lt_of q0
        replace q1 := keep q1 s_w5
        replace q2 := keep q2 s_w5
        replace r0 := keep r0 s_w5
        have z_r0_w5 := lt_of r0
        replace r1 := keep r1 s_w5
        replace r2 := keep r2 s_w5
        replace m0 := keep m0 s_w5
        have z_m0_w5 := lt_of m0
        replace m1 := keep m1 s_w5
        replace m2 := keep m2 s_w5
        replace n0 := keep n0 s_w5
        have z_n0_w5 := lt_of n0
        replace n1 := keep n1 s_w5
        replace n2 := keep n2 s_w5
        clear g_w5 s_w5 z_p0_w4 z_q0_w4 z_r0_w4 z_m0_w4 z_n0_w4 t_w4
        go_wp2_with fail
        refine bodyPost_ret (v := .tuple #[.agg #[.int .i64 0, .int .i64 0, .int .i64 0], .int .i64 16]) (by simp [results, Try.results14, go_sem, *]) rfl ⟨rfl, by go_grown⟩
      · go_wp2_with fail
        refine (svalid H1.out _).mono ?_
        rintro e w1 ⟨rfl, g_w1⟩
        have s_w1 : Below w.heap.size w w1 := chain (by go_grown) g_w1
        have t_w1 := chain t_w s_w1
        have p0 : w1.cell? ⟨w.heap.size, 0, none⟩ = some (.int .i64 aL) := ((bcell g_w1).1 _ _ (by simp; try omega)).trans (by simp [go_sem])
        have p1 : w1.cell? ⟨w.heap.size, 1, none⟩ = some (.int .i64 aH) := ((bcell g_w1).1 _ _ (by simp; try omega)).trans (by simp [go_sem])
        have p2 : w1.cell? ⟨w.heap.size, 2, none⟩ = some (.int .i64 aA) := ((bcell g_w1).1 _ _ (by simp; try omega)).trans (by simp [go_sem])
        have z_p_w1 := lt_of p0
        have q0 : w1.cell? ⟨w.heap.size + 1, 0, none⟩ = some (.int .i64 bL) := ((bcell g_w1).1 _ _ (by simp; try omega)).trans (by simp [go_sem])
        have q1 : w1.cell? ⟨w.heap.size + 1, 1, none⟩ = some (.int .i64 bH) := ((bcell g_w1).1 _ _ (by simp; try omega)).trans (by simp [go_sem])
        have q2 : w1.cell? ⟨w.heap.size + 1, 2, none⟩ = some (.int .i64 bA) := ((bcell g_w1).1 _ _ (by simp; try omega)).trans (by simp [go_sem])
        have z_q_w1 := lt_of q0
        have r0 : w1.cell? ⟨w.heap.size + 2, 0, none⟩ = some (.int .i64 0) := ((bcell g_w1).1 _ _ (by simp; try omega)).trans (by simp [go_sem])
        have r1 : w1.cell? ⟨w.heap.size + 2, 1, none⟩ = some (.int .i64 0) := ((bcell g_w1).1 _ _ (by simp; try omega)).trans (by simp [go_sem])
        have r2 : w1.cell? ⟨w.heap.size + 2, 2, none⟩ = some (.int .i64 0) := ((bcell g_w1).1 _ _ (by simp; try omega)).trans (by simp [go_sem])
        have z_r_w1 := lt_of r0
        have rf : ∀ i, w1.frozen? ⟨w.heap.size + 2, i, none⟩ = false := fun i => ((bcell g_w1).2 _ _ (by simp; try omega)).trans (by simp [go_sem])
        have n0 : w1.cell? ⟨w.heap.size + 3, 0, none⟩ = some (.int .i64 bL) := ((bcell g_w1).1 _ _ (by simp; try omega)).trans (by simp [go_sem])
        have n1 : w1.cell? ⟨w.heap.size + 3, 1, none⟩ = some (.int .i64 bH) := ((bcell g_w1).1 _ _ (by simp; try omega)).trans (by simp [go_sem])
        have n2 : w1.cell? ⟨w.heap.size + 3, 2, none⟩ = some (.int .i64 bA) := ((bcell g_w1).1 _ _ (by simp; try omega)).trans (by simp [go_sem])
        have z_n_w1 := lt_of n0
        have nf : ∀ i, w1.frozen? ⟨w.heap.size + 3, i, none⟩ = false := fun i => ((bcell g_w1).2 _ _ (by simp; try omega)).trans (by simp [go_sem])
        have m0 : w1.cell? ⟨w.heap.size + 4, 0, none⟩ = some (.int .i64 aL) := ((bcell g_w1).1 _ _ (by simp; try omega)).trans (by simp [go_sem])
        have m1 : w1.cell? ⟨w.heap.size + 4, 1, none⟩ = some (.int .i64 aH) := ((bcell g_w1).1 _ _ (by simp; try omega)).trans (by simp [go_sem])
        have m2 : w1.cell? ⟨w.heap.size + 4, 2, none⟩ = some (.int .i64 aA) := ((bcell g_w1).1 _ _ (by simp; try omega)).trans (by simp [go_sem])
        have z_m_w1 := lt_of m0
        have mf : ∀ i, w1.frozen? ⟨w.heap.size + 4, i, none⟩ = false := fun i => ((bcell g_w1).2 _ _ (by simp; try omega)).trans (by simp [go_sem])
        clear g_w1 s_w1 t_w
        go_wp2_with fail
        refine (svalid H2.out _).mono ?_
        rintro e w2 ⟨rfl, g_w2⟩
        have s_w2 : Below w1.heap.size w1 w2 := chain (by go_grown) g_w2
        have t_w2 := chain t_w1 s_w2
        replace rf := fkeep2 rf (lt_of r0) s_w2
        replace nf := fkeep2 nf (lt_of n0) s_w2
        replace mf := fkeep2 mf (lt_of m0) s_w2
        replace p0 := keep p0 s_w2
        have z_p0_w2 := lt_of p0
        replace p1 := keep p1 s_w2
        replace p2 := keep p2 s_w2
        replace q0 := keep q0 s_w2
        have z_q0_w2 := lt_of q0
        replace q1 := keep q1 s_w2
        replace q2 := keep q2 s_w2
        replace r0 := keep r0 s_w2
        have z_r0_w2 := lt_of r0
        replace r1 := keep r1 s_w2
        replace r2 := keep r2 s_w2
        replace n0 := keep n0 s_w2
        have z_n0_w2 := lt_of n0
        replace n1 := keep n1 s_w2
        replace n2 := keep n2 s_w2
        replace m0 := keep m0 s_w2
        have z_m0_w2 := lt_of m0
        replace m1 := keep m1 s_w2
        replace m2 := keep m2 s_w2
        clear g_w2 s_w2 z_p_w1 z_q_w1 z_r_w1 z_n_w1 z_m_w1 t_w1
        go_wp2_with fail
        refine (GB.out _).mono ?_
        rintro e w3 ⟨rfl, g_w3⟩
        have s_w3 : Below w2.heap.size w2 w3 := chain (by go_grown) g_w3
        have t_w3 := chain t_w2 s_w3
        replace rf := fkeep2 rf (lt_of r0) s_w3
        replace nf := fkeep2 nf (lt_of n0) s_w3
        replace mf := fkeep2 mf (lt_of m0) s_w3
        replace p0 := keep p0 s_w3
        have z_p0_w3 := lt_of p0
        replace p1 := keep p1 s_w3
        replace p2 := keep p2 s_w3
        replace q0 := keep q0 s_w3
        have z_q0_w3 := lt_of q0
        replace q1 := keep q1 s_w3
        replace q2 := keep q2 s_w3
        replace r0 := keep r0 s_w3
        have z_r0_w3 := lt_of r0
        replace r1 := keep r1 s_w3
        replace r2 := keep r2 s_w3
        replace n0 := keep n0 s_w3
        have z_n0_w3 := lt_of n0
        replace n1 := keep n1 s_w3
        replace n2 := keep n2 s_w3
        replace m0 := keep m0 s_w3
        have z_m0_w3 := lt_of m0
        replace m1 := keep m1 s_w3
        replace m2 := keep m2 s_w3
        clear g_w3 s_w3 z_p0_w2 z_q0_w2 z_r0_w2 z_n0_w2 z_m0_w2 t_w2
        go_wp2_with fail
        have p0n : (((w3.setCell ⟨w.heap.size + 3, 0, none⟩ (.int .i64 yL)).setCell ⟨w.heap.size + 3, 1, none⟩ (.int .i64 yH)).setCell ⟨w.heap.size + 3, 2, none⟩ (.int .i64 aA)).cell? _ = _ := (cset_ne (c := w.heap.size + 3) (cset_ne (c := w.heap.size + 3) (cset_ne (c := w.heap.size + 3) p0 (by omega) 0 (.int .i64 yL)) (by omega) 1 (.int .i64 yH)) (by omega) 2 (.int .i64 aA)); clear p0; have p0 := p0n; clear p0n
        have p1n : (((w3.setCell ⟨w.heap.size + 3, 0, none⟩ (.int .i64 yL)).setCell ⟨w.heap.size + 3, 1, none⟩ (.int .i64 yH)).setCell ⟨w.heap.size + 3, 2, none⟩ (.int .i64 aA)).cell? _ = _ := (cset_ne (c := w.heap.size + 3) (cset_ne (c := w.heap.size + 3) (cset_ne (c := w.heap.size + 3) p1 (by omega) 0 (.int .i64 yL)) (by omega) 1 (.int .i64 yH)) (by omega) 2 (.int .i64 aA)); clear p1; have p1 := p1n; clear p1n
        have p2n : (((w3.setCell ⟨w.heap.size + 3, 0, none⟩ (.int .i64 yL)).setCell ⟨w.heap.size + 3, 1, none⟩ (.int .i64 yH)).setCell ⟨w.heap.size + 3, 2, none⟩ (.int .i64 aA)).cell? _ = _ := (cset_ne (c := w.heap.size + 3) (cset_ne (c := w.heap.size + 3) (cset_ne (c := w.heap.size + 3) p2 (by omega) 0 (.int .i64 yL)) (by omega) 1 (.int .i64 yH)) (by omega) 2 (.int .i64 aA)); clear p2; have p2 := p2n; clear p2n
        have q0n : (((w3.setCell ⟨w.heap.size + 3, 0, none⟩ (.int .i64 yL)).setCell ⟨w.heap.size + 3, 1, none⟩ (.int .i64 yH)).setCell ⟨w.heap.size + 3, 2, none⟩ (.int .i64 aA)).cell? _ = _ := (cset_ne (c := w.heap.size + 3) (cset_ne (c := w.heap.size + 3) (cset_ne (c := w.heap.size + 3) q0 (by omega) 0 (.int .i64 yL)) (by omega) 1 (.int .i64 yH)) (by omega) 2 (.int .i64 aA)); clear q0; have q0 := q0n; clear q0n
        have q1n : (((w3.setCell ⟨w.heap.size + 3, 0, none⟩ (.int .i64 yL)).setCell ⟨w.heap.size + 3, 1, none⟩ (.int .i64 yH)).setCell ⟨w.heap.size + 3, 2, none⟩ (.int .i64 aA)).cell? _ = _ := (cset_ne (c := w.heap.size + 3) (cset_ne (c := w.heap.size + 3) (cset_ne (c := w.heap.size + 3) q1 (by omega) 0 (.int .i64 yL)) (by omega) 1 (.int .i64 yH)) (by omega) 2 (.int .i64 aA)); clear q1; have q1 := q1n; clear q1n
        have q2n : (((w3.setCell ⟨w.heap.size + 3, 0, none⟩ (.int .i64 yL)).setCell ⟨w.heap.size + 3, 1, none⟩ (.int .i64 yH)).setCell ⟨w.heap.size + 3, 2, none⟩ (.int .i64 aA)).cell? _ = _ := (cset_ne (c := w.heap.size + 3) (cset_ne (c := w.heap.size + 3) (cset_ne (c := w.heap.size + 3) q2 (by omega) 0 (.int .i64 yL)) (by omega) 1 (.int .i64 yH)) (by omega) 2 (.int .i64 aA)); clear q2; have q2 := q2n; clear q2n
        replace rf : ∀ i, (((w3.setCell ⟨w.heap.size + 3, 0, none⟩ (.int .i64 yL)).setCell ⟨w.heap.size + 3, 1, none⟩ (.int .i64 yH)).setCell ⟨w.heap.size + 3, 2, none⟩ (.int .i64 aA)).frozen? ⟨w.heap.size + 2, i, none⟩ = false := fun i => by simp only [World.frozen?_setCell]; exact rf i
        have r0n : (((w3.setCell ⟨w.heap.size + 3, 0, none⟩ (.int .i64 yL)).setCell ⟨w.heap.size + 3, 1, none⟩ (.int .i64 yH)).setCell ⟨w.heap.size + 3, 2, none⟩ (.int .i64 aA)).cell? _ = _ := (cset_ne (c := w.heap.size + 3) (cset_ne (c := w.heap.size + 3) (cset_ne (c := w.heap.size + 3) r0 (by omega) 0 (.int .i64 yL)) (by omega) 1 (.int .i64 yH)) (by omega) 2 (.int .i64 aA)); clear r0; have r0 := r0n; clear r0n
        have r1n : (((w3.setCell ⟨w.heap.size + 3, 0, none⟩ (.int .i64 yL)).setCell ⟨w.heap.size + 3, 1, none⟩ (.int .i64 yH)).setCell ⟨w.heap.size + 3, 2, none⟩ (.int .i64 aA)).cell? _ = _ := (cset_ne (c := w.heap.size + 3) (cset_ne (c := w.heap.size + 3) (cset_ne (c := w.heap.size + 3) r1 (by omega) 0 (.int .i64 yL)) (by omega) 1 (.int .i64 yH)) (by omega) 2 (.int .i64 aA)); clear r1; have r1 := r1n; clear r1n
        have r2n : (((w3.setCell ⟨w.heap.size + 3, 0, none⟩ (.int .i64 yL)).setCell ⟨w.heap.size + 3, 1, none⟩ (.int .i64 yH)).setCell ⟨w.heap.size + 3, 2, none⟩ (.int .i64 aA)).cell? _ = _ := (cset_ne (c := w.heap.size + 3) (cset_ne (c := w.heap.size + 3) (cset_ne (c := w.heap.size + 3) r2 (by omega) 0 (.int .i64 yL)) (by omega) 1 (.int .i64 yH)) (by omega) 2 (.int .i64 aA)); clear r2; have r2 := r2n; clear r2n
        replace nf : ∀ i, (((w3.setCell ⟨w.heap.size + 3, 0, none⟩ (.int .i64 yL)).setCell ⟨w.heap.size + 3, 1, none⟩ (.int .i64 yH)).setCell ⟨w.heap.size + 3, 2, none⟩ (.int .i64 aA)).frozen? ⟨w.heap.size + 3, i, none⟩ = false := fun i => by simp only [World.frozen?_setCell]; exact nf i
        replace mf : ∀ i, (((w3.setCell ⟨w.heap.size + 3, 0, none⟩ (.int .i64 yL)).setCell ⟨w.heap.size + 3, 1, none⟩ (.int .i64 yH)).setCell ⟨w.heap.size + 3, 2, none⟩ (.int .i64 aA)).frozen? ⟨w.heap.size + 4, i, none⟩ = false := fun i => by simp only [World.frozen?_setCell]; exact mf i
        have m0n : (((w3.setCell ⟨w.heap.size + 3, 0, none⟩ (.int .i64 yL)).setCell ⟨w.heap.size + 3, 1, none⟩ (.int .i64 yH)).setCell ⟨w.heap.size + 3, 2, none⟩ (.int .i64 aA)).cell? _ = _ := (cset_ne (c := w.heap.size + 3) (cset_ne (c := w.heap.size + 3) (cset_ne (c := w.heap.size + 3) m0 (by omega) 0 (.int .i64 yL)) (by omega) 1 (.int .i64 yH)) (by omega) 2 (.int .i64 aA)); clear m0; have m0 := m0n; clear m0n
        have m1n : (((w3.setCell ⟨w.heap.size + 3, 0, none⟩ (.int .i64 yL)).setCell ⟨w.heap.size + 3, 1, none⟩ (.int .i64 yH)).setCell ⟨w.heap.size + 3, 2, none⟩ (.int .i64 aA)).cell? _ = _ := (cset_ne (c := w.heap.size + 3) (cset_ne (c := w.heap.size + 3) (cset_ne (c := w.heap.size + 3) m1 (by omega) 0 (.int .i64 yL)) (by omega) 1 (.int .i64 yH)) (by omega) 2 (.int .i64 aA)); clear m1; have m1 := m1n; clear m1n
        have m2n : (((w3.setCell ⟨w.heap.size + 3, 0, none⟩ (.int .i64 yL)).setCell ⟨w.heap.size + 3, 1, none⟩ (.int .i64 yH)).setCell ⟨w.heap.size + 3, 2, none⟩ (.int .i64 aA)).cell? _ = _ := (cset_ne (c := w.heap.size + 3) (cset_ne (c := w.heap.size + 3) (cset_ne (c := w.heap.size + 3) m2 (by omega) 0 (.int .i64 yL)) (by omega) 1 (.int .i64 yH)) (by omega) 2 (.int .i64 aA)); clear m2; have m2 := m2n; clear m2n
        have n0n : (((w3.setCell ⟨w.heap.size + 3, 0, none⟩ (.int .i64 yL)).setCell ⟨w.heap.size + 3, 1, none⟩ (.int .i64 yH)).setCell ⟨w.heap.size + 3, 2, none⟩ (.int .i64 aA)).cell? ⟨w.heap.size + 3, 0, none⟩ = some (.int .i64 yL) := (cset_off (cset_off (cset_eq n0 (.int .i64 yL)) (by decide) _) (by decide) _)
        have n1n : (((w3.setCell ⟨w.heap.size + 3, 0, none⟩ (.int .i64 yL)).setCell ⟨w.heap.size + 3, 1, none⟩ (.int .i64 yH)).setCell ⟨w.heap.size + 3, 2, none⟩ (.int .i64 aA)).cell? ⟨w.heap.size + 3, 1, none⟩ = some (.int .i64 yH) := (cset_off (cset_eq (cset_off n1 (by decide) _) (.int .i64 yH)) (by decide) _)
        have n2n : (((w3.setCell ⟨w.heap.size + 3, 0, none⟩ (.int .i64 yL)).setCell ⟨w.heap.size + 3, 1, none⟩ (.int .i64 yH)).setCell ⟨w.heap.size + 3, 2, none⟩ (.int .i64 aA)).cell? ⟨w.heap.size + 3, 2, none⟩ = some (.int .i64 aA) := (cset_eq (cset_off (cset_off n2 (by decide) _) (by decide) _) (.int .i64 aA))
        have t_W_2 : Below w.heap.size w (((w3.setCell ⟨w.heap.size + 3, 0, none⟩ (.int .i64 yL)).setCell ⟨w.heap.size + 3, 1, none⟩ (.int .i64 yH)).setCell ⟨w.heap.size + 3, 2, none⟩ (.int .i64 aA)) := by go_grown
        clear n0 n1 n2 t_w3
        have n0 := n0n; clear n0n
        have n1 := n1n; clear n1n
        have n2 := n2n; clear n2n
        generalize ((w3.setCell ⟨w.heap.size + 3, 0, none⟩ (.int .i64 yL)).setCell ⟨w.heap.size + 3, 1, none⟩ (.int .i64 yH)).setCell ⟨w.heap.size + 3, 2, none⟩ (.int .i64 aA) = W_2 at *
        refine (svalid H1.out _).mono ?_
        rintro e w4 ⟨rfl, g_w4⟩
        have s_w4 : Below W_2.heap.size W_2 w4 := chain (by go_grown) g_w4
        have t_w4 := chain t_W_2 s_w4
        replace rf := fkeep2 rf (lt_of r0) s_w4
        replace nf := fkeep2 nf (lt_of n0) s_w4
        replace mf := fkeep2 mf (lt_of m0) s_w4
        replace p0 := keep p0 s_w4
        have z_p0_w4 := lt_of p0
        replace p1 := keep p1 s_w4
        replace p2 := keep p2 s_w4
        replace q0 := keep q0 s_w4
        have z_q0_w4 := lt_of q0
        replace q1 := keep q1 s_w4
        replace q2 := keep q2 s_w4
        replace r0 := keep r0 s_w4
        have z_r0_w4 := lt_of r0
        replace r1 := keep r1 s_w4
        replace r2 := keep r2 s_w4
        replace n0 := keep n0 s_w4
        have z_n0_w4 := lt_of n0
        replace n1 := keep n1 s_w4
        replace n2 := keep n2 s_w4
        replace m0 := keep m0 s_w4
        have z_m0_w4 := lt_of m0
        replace m1 := keep m1 s_w4
        replace m2 := keep m2 s_w4
        clear g_w4 s_w4 z_p0_w3 z_q0_w3 z_r0_w3 z_n0_w3 z_m0_w3 t_W_2
        go_wp2_with fail
        refine (svalid H4.out _).mono ?_
        rintro e w5 ⟨rfl, g_w5⟩
        have s_w5 : Below w4.heap.size w4 w5 := chain (by go_grown) g_w5
        have t_w5 := chain t_w4 s_w5
        replace rf := fkeep2 rf (lt_of r0) s_w5
        replace nf := fkeep2 nf (lt_of n0) s_w5
        replace mf := fkeep2 mf (lt_of m0) s_w5
        replace p0 := keep p0 s_w5
        have z_p0_w5 := lt_of p0
        replace p1 := keep p1 s_w5
        replace p2 := keep p2 s_w5
        replace q0 := keep q0 s_w5
        have z_q0_w5 := lt_of q0
        replace q1 := keep q1 s_w5
        replace q2 := keep q2 s_w5
        replace r0 := keep r0 s_w5
        have z_r0_w5 := lt_of r0
        replace r1 := keep r1 s_w5
        replace r2 := keep r2 s_w5
        replace n0 := keep n0 s_w5
        have z_n0_w5 := lt_of n0
        replace n1 := keep n1 s_w5
        replace n2 := keep n2 s_w5
        replace m0 := keep m0 s_w5
        have z_m0_w5 := lt_of m0
        replace m1 := keep m1 s_w5
        replace m2 := keep m2 s_w5
        clear g_w5 s_w5 z_p0_w4 z_q0_w4 z_r0_w4 z_n0_w4 z_m0_w4 t_w4
        go_wp2_with fail
        refine bodyPost_ret (v := .tuple #[.agg #[.int .i64 0, .int .i64 0, .int .i64 0], .int .i64 16]) (by simp [results, Try.results14, go_sem, *]) rfl ⟨rfl, by go_grown⟩
    · obtain rfl := hl.symm; obtain rfl := hh.symm; obtain rfl := hA.symm
      clear hl hh hA
      have t_w := Below.refl w.heap.size w
      go_enter Try.func14, Try.ntmps14
      go_wp2_with fail
      go_region
      · go_wp2_with fail
        refine (svalid H1.out _).mono ?_
        rintro e w1 ⟨rfl, g_w1⟩
        have s_w1 : Below w.heap.size w w1 := chain (by go_grown) g_w1
        have t_w1 := chain t_w s_w1
        have p0 : w1.cell? ⟨w.heap.size, 0, none⟩ = some (.int .i64 aL) := ((bcell g_w1).1 _ _ (by simp; try omega)).trans (by simp [go_sem])
        have p1 : w1.cell? ⟨w.heap.size, 1, none⟩ = some (.int .i64 aH) := ((bcell g_w1).1 _ _ (by simp; try omega)).trans (by simp [go_sem])
        have p2 : w1.cell? ⟨w.heap.size, 2, none⟩ = some (.int .i64 aA) := ((bcell g_w1).1 _ _ (by simp; try omega)).trans (by simp [go_sem])
        have z_p_w1 := lt_of p0
        have q0 : w1.cell? ⟨w.heap.size + 1, 0, none⟩ = some (.int .i64 bL) := ((bcell g_w1).1 _ _ (by simp; try omega)).trans (by simp [go_sem])
        have q1 : w1.cell? ⟨w.heap.size + 1, 1, none⟩ = some (.int .i64 bH) := ((bcell g_w1).1 _ _ (by simp; try omega)).trans (by simp [go_sem])
        have q2 : w1.cell? ⟨w.heap.size + 1, 2, none⟩ = some (.int .i64 bA) := ((bcell g_w1).1 _ _ (by simp; try omega)).trans (by simp [go_sem])
        have z_q_w1 := lt_of q0
        have r0 : w1.cell? ⟨w.heap.size + 2, 0, none⟩ = some (.int .i64 0) := ((bcell g_w1).1 _ _ (by simp; try omega)).trans (by simp [go_sem])
        have r1 : w1.cell? ⟨w.heap.size + 2, 1, none⟩ = some (.int .i64 0) := ((bcell g_w1).1 _ _ (by simp; try omega)).trans (by simp [go_sem])
        have r2 : w1.cell? ⟨w.heap.size + 2, 2, none⟩ = some (.int .i64 0) := ((bcell g_w1).1 _ _ (by simp; try omega)).trans (by simp [go_sem])
        have z_r_w1 := lt_of r0
        have rf : ∀ i, w1.frozen? ⟨w.heap.size + 2, i, none⟩ = false := fun i => ((bcell g_w1).2 _ _ (by simp; try omega)).trans (by simp [go_sem])
        have m0 : w1.cell? ⟨w.heap.size + 3, 0, none⟩ = some (.int .i64 aL) := ((bcell g_w1).1 _ _ (by simp; try omega)).trans (by simp [go_sem])
        have m1 : w1.cell? ⟨w.heap.size + 3, 1, none⟩ = some (.int .i64 aH) := ((bcell g_w1).1 _ _ (by simp; try omega)).trans (by simp [go_sem])
        have m2 : w1.cell? ⟨w.heap.size + 3, 2, none⟩ = some (.int .i64 aA) := ((bcell g_w1).1 _ _ (by simp; try omega)).trans (by simp [go_sem])
        have z_m_w1 := lt_of m0
        have mf : ∀ i, w1.frozen? ⟨w.heap.size + 3, i, none⟩ = false := fun i => ((bcell g_w1).2 _ _ (by simp; try omega)).trans (by simp [go_sem])
        have n0 : w1.cell? ⟨w.heap.size + 4, 0, none⟩ = some (.int .i64 bL) := ((bcell g_w1).1 _ _ (by simp; try omega)).trans (by simp [go_sem])
        have n1 : w1.cell? ⟨w.heap.size + 4, 1, none⟩ = some (.int .i64 bH) := ((bcell g_w1).1 _ _ (by simp; try omega)).trans (by simp [go_sem])
        have n2 : w1.cell? ⟨w.heap.size + 4, 2, none⟩ = some (.int .i64 bA) := ((bcell g_w1).1 _ _ (by simp; try omega)).trans (by simp [go_sem])
        have z_n_w1 := lt_of n0
        have nf : ∀ i, w1.frozen? ⟨w.heap.size + 4, i, none⟩ = false := fun i => ((bcell g_w1).2 _ _ (by simp; try omega)).trans (by simp [go_sem])
        clear g_w1 s_w1 t_w
        go_wp2_with fail
        refine (svalid H2.out _).mono ?_
        rintro e w2 ⟨rfl, g_w2⟩
        have s_w2 : Below w1.heap.size w1 w2 := chain (by go_grown) g_w2
        have t_w2 := chain t_w1 s_w2
        replace rf := fkeep2 rf (lt_of r0) s_w2
        replace mf := fkeep2 mf (lt_of m0) s_w2
        replace nf := fkeep2 nf (lt_of n0) s_w2
        replace p0 := keep p0 s_w2
        have z_p0_w2 := lt_of p0
        replace p1 := keep p1 s_w2
        replace p2 := keep p2 s_w2
        replace q0 := keep q0 s_w2
        have z_q0_w2 := lt_of q0
        replace q1 := keep q1 s_w2
        replace q2 := keep q2 s_w2
        replace r0 := keep r0 s_w2
        have z_r0_w2 := lt_of r0
        replace r1 := keep r1 s_w2
        replace r2 := keep r2 s_w2
        replace m0 := keep m0 s_w2
        have z_m0_w2 := lt_of m0
        replace m1 := keep m1 s_w2
        replace m2 := keep m2 s_w2
        replace n0 := keep n0 s_w2
        have z_n0_w2 := lt_of n0
        replace n1 := keep n1 s_w2
        replace n2 := keep n2 s_w2
        clear g_w2 s_w2 z_p_w1 z_q_w1 z_r_w1 z_m_w1 z_n_w1 t_w1
        go_wp2_with fail
        refine (GB.out _).mono ?_
        rintro e w3 ⟨rfl, g_w3⟩
        have s_w3 : Below w2.heap.size w2 w3 := chain (by go_grown) g_w3
        have t_w3 := chain t_w2 s_w3
        replace rf := fkeep2 rf (lt_of r0) s_w3
        replace mf := fkeep2 mf (lt_of m0) s_w3
        replace nf := fkeep2 nf (lt_of n0) s_w3
        replace p0 := keep p0 s_w3
        have z_p0_w3 := lt_of p0
        replace p1 := keep p1 s_w3
        replace p2 := keep p2 s_w3
        replace q0 := keep q0 s_w3
        have z_q0_w3 := lt_of q0
        replace q1 := keep q1 s_w3
        replace q2 := keep q2 s_w3
        replace r0 := keep r0 s_w3
        have z_r0_w3 := lt_of r0
        replace r1 := keep r1 s_w3
        replace r2 := keep r2 s_w3
        replace m0 := keep m0 s_w3
        have z_m0_w3 := lt_of m0
        replace m1 := keep m1 s_w3
        replace m2 := keep m2 s_w3
        replace n0 := keep n0 s_w3
        have z_n0_w3 := lt_of n0
        replace n1 := keep n1 s_w3
        replace n2 := keep n2 s_w3
        clear g_w3 s_w3 z_p0_w2 z_q0_w2 z_r0_w2 z_m0_w2 z_n0_w2 t_w2
        go_wp2_with fail
        have p0n : (((w3.setCell ⟨w.heap.size + 4, 0, none⟩ (.int .i64 yL)).setCell ⟨w.heap.size + 4, 1, none⟩ (.int .i64 yH)).setCell ⟨w.heap.size + 4, 2, none⟩ (.int .i64 aA)).cell? _ = _ := (cset_ne (c := w.heap.size + 4) (cset_ne (c := w.heap.size + 4) (cset_ne (c := w.heap.size + 4) p0 (by omega) 0 (.int .i64 yL)) (by omega) 1 (.int .i64 yH)) (by omega) 2 (.int .i64 aA)); clear p0; have p0 := p0n; clear p0n
        have p1n : (((w3.setCell ⟨w.heap.size + 4, 0, none⟩ (.int .i64 yL)).setCell ⟨w.heap.size + 4, 1, none⟩ (.int .i64 yH)).setCell ⟨w.heap.size + 4, 2, none⟩ (.int .i64 aA)).cell? _ = _ := (cset_ne (c := w.heap.size + 4) (cset_ne (c := w.heap.size + 4) (cset_ne (c := w.heap.size + 4) p1 (by omega) 0 (.int .i64 yL)) (by omega) 1 (.int .i64 yH)) (by omega) 2 (.int .i64 aA)); clear p1; have p1 := p1n; clear p1n
        have p2n : (((w3.setCell ⟨w.heap.size + 4, 0, none⟩ (.int .i64 yL)).setCell ⟨w.heap.size + 4, 1, none⟩ (.int .i64 yH)).setCell ⟨w.heap.size + 4, 2, none⟩ (.int .i64 aA)).cell? _ = _ := (cset_ne (c := w.heap.size + 4) (cset_ne (c := w.heap.size + 4) (cset_ne (c := w.heap.size + 4) p2 (by omega) 0 (.int .i64 yL)) (by omega) 1 (.int .i64 yH)) (by omega) 2 (.int .i64 aA)); clear p2; have p2 := p2n; clear p2n
        have q0n : (((w3.setCell ⟨w.heap.size + 4, 0, none⟩ (.int .i64 yL)).setCell ⟨w.heap.size + 4, 1, none⟩ (.int .i64 yH)).setCell ⟨w.heap.size + 4, 2, none⟩ (.int .i64 aA)).cell? _ = _ := (cset_ne (c := w.heap.size + 4) (cset_ne (c := w.heap.size + 4) (cset_ne (c := w.heap.size + 4) q0 (by omega) 0 (.int .i64 yL)) (by omega) 1 (.int .i64 yH)) (by omega) 2 (.int .i64 aA)); clear q0; have q0 := q0n; clear q0n
        have q1n : (((w3.setCell ⟨w.heap.size + 4, 0, none⟩ (.int .i64 yL)).setCell ⟨w.heap.size + 4, 1, none⟩ (.int .i64 yH)).setCell ⟨w.heap.size + 4, 2, none⟩ (.int .i64 aA)).cell? _ = _ := (cset_ne (c := w.heap.size + 4) (cset_ne (c := w.heap.size + 4) (cset_ne (c := w.heap.size + 4) q1 (by omega) 0 (.int .i64 yL)) (by omega) 1 (.int .i64 yH)) (by omega) 2 (.int .i64 aA)); clear q1; have q1 := q1n; clear q1n
        have q2n : (((w3.setCell ⟨w.heap.size + 4, 0, none⟩ (.int .i64 yL)).setCell ⟨w.heap.size + 4, 1, none⟩ (.int .i64 yH)).setCell ⟨w.heap.size + 4, 2, none⟩ (.int .i64 aA)).cell? _ = _ := (cset_ne (c := w.heap.size + 4) (cset_ne (c := w.heap.size + 4) (cset_ne (c := w.heap.size + 4) q2 (by omega) 0 (.int .i64 yL)) (by omega) 1 (.int .i64 yH)) (by omega) 2 (.int .i64 aA)); clear q2; have q2 := q2n; clear q2n
        replace rf : ∀ i, (((w3.setCell ⟨w.heap.size + 4, 0, none⟩ (.int .i64 yL)).setCell ⟨w.heap.size + 4, 1, none⟩ (.int .i64 yH)).setCell ⟨w.heap.size + 4, 2, none⟩ (.int .i64 aA)).frozen? ⟨w.heap.size + 2, i, none⟩ = false := fun i => by simp only [World.frozen?_setCell]; exact rf i
        have r0n : (((w3.setCell ⟨w.heap.size + 4, 0, none⟩ (.int .i64 yL)).setCell ⟨w.heap.size + 4, 1, none⟩ (.int .i64 yH)).setCell ⟨w.heap.size + 4, 2, none⟩ (.int .i64 aA)).cell? _ = _ := (cset_ne (c := w.heap.size + 4) (cset_ne (c := w.heap.size + 4) (cset_ne (c := w.heap.size + 4) r0 (by omega) 0 (.int .i64 yL)) (by omega) 1 (.int .i64 yH)) (by omega) 2 (.int .i64 aA)); clear r0; have r0 := r0n; clear r0n
        have r1n : (((w3.setCell ⟨w.heap.size + 4, 0, none⟩ (.int .i64 yL)).setCell ⟨w.heap.size + 4, 1, none⟩ (.int .i64 yH)).setCell ⟨w.heap.size + 4, 2, none⟩ (.int .i64 aA)).cell? _ = _ := (cset_ne (c := w.heap.size + 4) (cset_ne (c := w.heap.size + 4) (cset_ne (c := w.heap.size + 4) r1 (by omega) 0 (.int .i64 yL)) (by omega) 1 (.int .i64 yH)) (by omega) 2 (.int .i64 aA)); clear r1; have r1 := r1n; clear r1n
        have r2n : (((w3.setCell ⟨w.heap.size + 4, 0, none⟩ (.int .i64 yL)).setCell ⟨w.heap.size + 4, 1, none⟩ (.int .i64 yH)).setCell ⟨w.heap.size + 4, 2, none⟩ (.int .i64 aA)).cell? _ = _ := (cset_ne (c := w.heap.size + 4) (cset_ne (c := w.heap.size + 4) (cset_ne (c := w.heap.size + 4) r2 (by omega) 0 (.int .i64 yL)) (by omega) 1 (.int .i64 yH)) (by omega) 2 (.int .i64 aA)); clear r2; have r2 := r2n; clear r2n
        replace mf : ∀ i, (((w3.setCell ⟨w.heap.size + 4, 0, none⟩ (.int .i64 yL)).setCell ⟨w.heap.size + 4, 1, none⟩ (.int .i64 yH)).setCell ⟨w.heap.size + 4, 2, none⟩ (.int .i64 aA)).frozen? ⟨w.heap.size + 3, i, none⟩ = false := fun i => by simp only [World.frozen?_setCell]; exact mf i
        have m0n : (((w3.setCell ⟨w.heap.size + 4, 0, none⟩ (.int .i64 yL)).setCell ⟨w.heap.size + 4, 1, none⟩ (.int .i64 yH)).setCell ⟨w.heap.size + 4, 2, none⟩ (.int .i64 aA)).cell? _ = _ := (cset_ne (c := w.heap.size + 4) (cset_ne (c := w.heap.size + 4) (cset_ne (c := w.heap.size + 4) m0 (by omega) 0 (.int .i64 yL)) (by omega) 1 (.int .i64 yH)) (by omega) 2 (.int .i64 aA)); clear m0; have m0 := m0n; clear m0n
        have m1n : (((w3.setCell ⟨w.heap.size + 4, 0, none⟩ (.int .i64 yL)).setCell ⟨w.heap.size + 4, 1, none⟩ (.int .i64 yH)).setCell ⟨w.heap.size + 4, 2, none⟩ (.int .i64 aA)).cell? _ = _ := (cset_ne (c := w.heap.size + 4) (cset_ne (c := w.heap.size + 4) (cset_ne (c := w.heap.size + 4) m1 (by omega) 0 (.int .i64 yL)) (by omega) 1 (.int .i64 yH)) (by omega) 2 (.int .i64 aA)); clear m1; have m1 := m1n; clear m1n
        have m2n : (((w3.setCell ⟨w.heap.size + 4, 0, none⟩ (.int .i64 yL)).setCell ⟨w.heap.size + 4, 1, none⟩ (.int .i64 yH)).setCell ⟨w.heap.size + 4, 2, none⟩ (.int .i64 aA)).cell? _ = _ := (cset_ne (c := w.heap.size + 4) (cset_ne (c := w.heap.size + 4) (cset_ne (c := w.heap.size + 4) m2 (by omega) 0 (.int .i64 yL)) (by omega) 1 (.int .i64 yH)) (by omega) 2 (.int .i64 aA)); clear m2; have m2 := m2n; clear m2n
        replace nf : ∀ i, (((w3.setCell ⟨w.heap.size + 4, 0, none⟩ (.int .i64 yL)).setCell ⟨w.heap.size + 4, 1, none⟩ (.int .i64 yH)).setCell ⟨w.heap.size + 4, 2, none⟩ (.int .i64 aA)).frozen? ⟨w.heap.size + 4, i, none⟩ = false := fun i => by simp only [World.frozen?_setCell]; exact nf i
        have n0n : (((w3.setCell ⟨w.heap.size + 4, 0, none⟩ (.int .i64 yL)).setCell ⟨w.heap.size + 4, 1, none⟩ (.int .i64 yH)).setCell ⟨w.heap.size + 4, 2, none⟩ (.int .i64 aA)).cell? ⟨w.heap.size + 4, 0, none⟩ = some (.int .i64 yL) := (cset_off (cset_off (cset_eq n0 (.int .i64 yL)) (by decide) _) (by decide) _)
        have n1n : (((w3.setCell ⟨w.heap.size + 4, 0, none⟩ (.int .i64 yL)).setCell ⟨w.heap.size + 4, 1, none⟩ (.int .i64 yH)).setCell ⟨w.heap.size + 4, 2, none⟩ (.int .i64 aA)).cell? ⟨w.heap.size + 4, 1, none⟩ = some (.int .i64 yH) := (cset_off (cset_eq (cset_off n1 (by decide) _) (.int .i64 yH)) (by decide) _)
        have n2n : (((w3.setCell ⟨w.heap.size + 4, 0, none⟩ (.int .i64 yL)).setCell ⟨w.heap.size + 4, 1, none⟩ (.int .i64 yH)).setCell ⟨w.heap.size + 4, 2, none⟩ (.int .i64 aA)).cell? ⟨w.heap.size + 4, 2, none⟩ = some (.int .i64 aA) := (cset_eq (cset_off (cset_off n2 (by decide) _) (by decide) _) (.int .i64 aA))
        have t_W_3 : Below w.heap.size w (((w3.setCell ⟨w.heap.size + 4, 0, none⟩ (.int .i64 yL)).setCell ⟨w.heap.size + 4, 1, none⟩ (.int .i64 yH)).setCell ⟨w.heap.size + 4, 2, none⟩ (.int .i64 aA)) := by go_grown
        clear n0 n1 n2 t_w3
        have n0 := n0n; clear n0n
        have n1 := n1n; clear n1n
        have n2 := n2n; clear n2n
        generalize ((w3.setCell ⟨w.heap.size + 4, 0, none⟩ (.int .i64 yL)).setCell ⟨w.heap.size + 4, 1, none⟩ (.int .i64 yH)).setCell ⟨w.heap.size + 4, 2, none⟩ (.int .i64 aA) = W_3 at *
        refine (svalid H1.out _).mono ?_
        rintro e w4 ⟨rfl, g_w4⟩
        have s_w4 : Below W_3.heap.size W_3 w4 := chain (by go_grown) g_w4
        have t_w4 := chain t_W_3 s_w4
        replace rf := fkeep2 rf (lt_of r0) s_w4
        replace mf := fkeep2 mf (lt_of m0) s_w4
        replace nf := fkeep2 nf (lt_of n0) s_w4
        replace p0 := keep p0 s_w4
        have z_p0_w4 := lt_of p0
        replace p1 := keep p1 s_w4
        replace p2 := keep p2 s_w4
        replace q0 := keep q0 s_w4
        have z_q0_w4 := lt_of q0
        replace q1 := keep q1 s_w4
        replace q2 := keep q2 s_w4
        replace r0 := keep r0 s_w4
        have z_r0_w4 := lt_of r0
        replace r1 := keep r1 s_w4
        replace r2 := keep r2 s_w4
        replace m0 := keep m0 s_w4
        have z_m0_w4 := lt_of m0
        replace m1 := keep m1 s_w4
        replace m2 := keep m2 s_w4
        replace n0 := keep n0 s_w4
        have z_n0_w4 := lt_of n0
        replace n1 := keep n1 s_w4
        replace n2 := keep n2 s_w4
        clear g_w4 s_w4 z_p0_w3 z_q0_w3 z_r0_w3 z_m0_w3 z_n0_w3 t_W_3
        go_wp2_with fail
        refine (svalid H4.out _).mono ?_
        rintro e w5 ⟨rfl, g_w5⟩
        have s_w5 : Below w4.heap.size w4 w5 := chain (by go_grown) g_w5
        have t_w5 := chain t_w4 s_w5
        replace rf := fkeep2 rf (lt_of r0) s_w5
        replace mf := fkeep2 mf (lt_of m0) s_w5
        replace nf := fkeep2 nf (lt_of n0) s_w5
        replace p0 := keep p0 s_w5
        have z_p0_w5 := lt_of p0
        replace p1 := keep p1 s_w5
        replace p2 := keep p2 s_w5
        replace q0 := keep q0 s_w5
        have z_q0_w5 := lt_of q0
        replace q1 := keep q1 s_w5
        replace q2 := keep q2 s_w5
        replace r0 := keep r0 s_w5
        have z_r0_w5 := lt_of r0
        replace r1 := keep r1 s_w5
        replace r2 := keep r2 s_w5
        replace m0 := keep m0 s_w5
        have z_m0_w5 := lt_of m0
        replace m1 := keep m1 s_w5
        replace m2 := keep m2 s_w5
        replace n0 := keep n0 s_w5
        have z_n0_w5 := lt_of n0
        replace n1 := keep n1 s_w5
        replace n2 := keep n2 s_w5
        clear g_w5 s_w5 z_p0_w4 z_q0_w4 z_r0_w4 z_m0_w4 z_n0_w4 t_w4
        go_wp2_with fail
        refine bodyPost_ret (v := .tuple #[.agg #[.int .i64 lo, .int .i64 hi, .int .i64 aA], .int .i64 0]) (by simp [results, Try.results14, go_sem, *]) rfl ⟨rfl, by go_grown⟩
      · go_wp2_with fail
        refine (svalid H1.out _).mono ?_
        rintro e w1 ⟨rfl, g_w1⟩
        have s_w1 : Below w.heap.size w w1 := chain (by go_grown) g_w1
        have t_w1 := chain t_w s_w1
        have p0 : w1.cell? ⟨w.heap.size, 0, none⟩ = some (.int .i64 aL) := ((bcell g_w1).1 _ _ (by simp; try omega)).trans (by simp [go_sem])
        have p1 : w1.cell? ⟨w.heap.size, 1, none⟩ = some (.int .i64 aH) := ((bcell g_w1).1 _ _ (by simp; try omega)).trans (by simp [go_sem])
        have p2 : w1.cell? ⟨w.heap.size, 2, none⟩ = some (.int .i64 aA) := ((bcell g_w1).1 _ _ (by simp; try omega)).trans (by simp [go_sem])
        have z_p_w1 := lt_of p0
        have q0 : w1.cell? ⟨w.heap.size + 1, 0, none⟩ = some (.int .i64 bL) := ((bcell g_w1).1 _ _ (by simp; try omega)).trans (by simp [go_sem])
        have q1 : w1.cell? ⟨w.heap.size + 1, 1, none⟩ = some (.int .i64 bH) := ((bcell g_w1).1 _ _ (by simp; try omega)).trans (by simp [go_sem])
        have q2 : w1.cell? ⟨w.heap.size + 1, 2, none⟩ = some (.int .i64 bA) := ((bcell g_w1).1 _ _ (by simp; try omega)).trans (by simp [go_sem])
        have z_q_w1 := lt_of q0
        have r0 : w1.cell? ⟨w.heap.size + 2, 0, none⟩ = some (.int .i64 0) := ((bcell g_w1).1 _ _ (by simp; try omega)).trans (by simp [go_sem])
        have r1 : w1.cell? ⟨w.heap.size + 2, 1, none⟩ = some (.int .i64 0) := ((bcell g_w1).1 _ _ (by simp; try omega)).trans (by simp [go_sem])
        have r2 : w1.cell? ⟨w.heap.size + 2, 2, none⟩ = some (.int .i64 0) := ((bcell g_w1).1 _ _ (by simp; try omega)).trans (by simp [go_sem])
        have z_r_w1 := lt_of r0
        have rf : ∀ i, w1.frozen? ⟨w.heap.size + 2, i, none⟩ = false := fun i => ((bcell g_w1).2 _ _ (by simp; try omega)).trans (by simp [go_sem])
        have n0 : w1.cell? ⟨w.heap.size + 3, 0, none⟩ = some (.int .i64 bL) := ((bcell g_w1).1 _ _ (by simp; try omega)).trans (by simp [go_sem])
        have n1 : w1.cell? ⟨w.heap.size + 3, 1, none⟩ = some (.int .i64 bH) := ((bcell g_w1).1 _ _ (by simp; try omega)).trans (by simp [go_sem])
        have n2 : w1.cell? ⟨w.heap.size + 3, 2, none⟩ = some (.int .i64 bA) := ((bcell g_w1).1 _ _ (by simp; try omega)).trans (by simp [go_sem])
        have z_n_w1 := lt_of n0
        have nf : ∀ i, w1.frozen? ⟨w.heap.size + 3, i, none⟩ = false := fun i => ((bcell g_w1).2 _ _ (by simp; try omega)).trans (by simp [go_sem])
        have m0 : w1.cell? ⟨w.heap.size + 4, 0, none⟩ = some (.int .i64 aL) := ((bcell g_w1).1 _ _ (by simp; try omega)).trans (by simp [go_sem])
        have m1 : w1.cell? ⟨w.heap.size + 4, 1, none⟩ = some (.int .i64 aH) := ((bcell g_w1).1 _ _ (by simp; try omega)).trans (by simp [go_sem])
        have m2 : w1.cell? ⟨w.heap.size + 4, 2, none⟩ = some (.int .i64 aA) := ((bcell g_w1).1 _ _ (by simp; try omega)).trans (by simp [go_sem])
        have z_m_w1 := lt_of m0
        have mf : ∀ i, w1.frozen? ⟨w.heap.size + 4, i, none⟩ = false := fun i => ((bcell g_w1).2 _ _ (by simp; try omega)).trans (by simp [go_sem])
        clear g_w1 s_w1 t_w
        go_wp2_with fail
        refine (svalid H2.out _).mono ?_
        rintro e w2 ⟨rfl, g_w2⟩
        have s_w2 : Below w1.heap.size w1 w2 := chain (by go_grown) g_w2
        have t_w2 := chain t_w1 s_w2
        replace rf := fkeep2 rf (lt_of r0) s_w2
        replace nf := fkeep2 nf (lt_of n0) s_w2
        replace mf := fkeep2 mf (lt_of m0) s_w2
        replace p0 := keep p0 s_w2
        have z_p0_w2 := lt_of p0
        replace p1 := keep p1 s_w2
        replace p2 := keep p2 s_w2
        replace q0 := keep q0 s_w2
        have z_q0_w2 := lt_of q0
        replace q1 := keep q1 s_w2
        replace q2 := keep q2 s_w2
        replace r0 := keep r0 s_w2
        have z_r0_w2 := lt_of r0
        replace r1 := keep r1 s_w2
        replace r2 := keep r2 s_w2
        replace n0 := keep n0 s_w2
        have z_n0_w2 := lt_of n0
        replace n1 := keep n1 s_w2
        replace n2 := keep n2 s_w2
        replace m0 := keep m0 s_w2
        have z_m0_w2 := lt_of m0
        replace m1 := keep m1 s_w2
        replace m2 := keep m2 s_w2
        clear g_w2 s_w2 z_p_w1 z_q_w1 z_r_w1 z_n_w1 z_m_w1 t_w1
        go_wp2_with fail
        refine (GB.out _).mono ?_
        rintro e w3 ⟨rfl, g_w3⟩
        have s_w3 : Below w2.heap.size w2 w3 := chain (by go_grown) g_w3
        have t_w3 := chain t_w2 s_w3
        replace rf := fkeep2 rf (lt_of r0) s_w3
        replace nf := fkeep2 nf (lt_of n0) s_w3
        replace mf := fkeep2 mf (lt_of m0) s_w3
        replace p0 := keep p0 s_w3
        have z_p0_w3 := lt_of p0
        replace p1 := keep p1 s_w3
        replace p2 := keep p2 s_w3
        replace q0 := keep q0 s_w3
        have z_q0_w3 := lt_of q0
        replace q1 := keep q1 s_w3
        replace q2 := keep q2 s_w3
        replace r0 := keep r0 s_w3
        have z_r0_w3 := lt_of r0
        replace r1 := keep r1 s_w3
        replace r2 := keep r2 s_w3
        replace n0 := keep n0 s_w3
        have z_n0_w3 := lt_of n0
        replace n1 := keep n1 s_w3
        replace n2 := keep n2 s_w3
        replace m0 := keep m0 s_w3
        have z_m0_w3 := lt_of m0
        replace m1 := keep m1 s_w3
        replace m2 := keep m2 s_w3
        clear g_w3 s_w3 z_p0_w2 z_q0_w2 z_r0_w2 z_n0_w2 z_m0_w2 t_w2
        go_wp2_with fail
        have p0n : (((w3.setCell ⟨w.heap.size + 3, 0, none⟩ (.int .i64 yL)).setCell ⟨w.heap.size + 3, 1, none⟩ (.int .i64 yH)).setCell ⟨w.heap.size + 3, 2, none⟩ (.int .i64 aA)).cell? _ = _ := (cset_ne (c := w.heap.size + 3) (cset_ne (c := w.heap.size + 3) (cset_ne (c := w.heap.size + 3) p0 (by omega) 0 (.int .i64 yL)) (by omega) 1 (.int .i64 yH)) (by omega) 2 (.int .i64 aA)); clear p0; have p0 := p0n; clear p0n
        have p1n : (((w3.setCell ⟨w.heap.size + 3, 0, none⟩ (.int .i64 yL)).setCell ⟨w.heap.size + 3, 1, none⟩ (.int .i64 yH)).setCell ⟨w.heap.size + 3, 2, none⟩ (.int .i64 aA)).cell? _ = _ := (cset_ne (c := w.heap.size + 3) (cset_ne (c := w.heap.size + 3) (cset_ne (c := w.heap.size + 3) p1 (by omega) 0 (.int .i64 yL)) (by omega) 1 (.int .i64 yH)) (by omega) 2 (.int .i64 aA)); clear p1; have p1 := p1n; clear p1n
        have p2n : (((w3.setCell ⟨w.heap.size + 3, 0, none⟩ (.int .i64 yL)).setCell ⟨w.heap.size + 3, 1, none⟩ (.int .i64 yH)).setCell ⟨w.heap.size + 3, 2, none⟩ (.int .i64 aA)).cell? _ = _ := (cset_ne (c := w.heap.size + 3) (cset_ne (c := w.heap.size + 3) (cset_ne (c := w.heap.size + 3) p2 (by omega) 0 (.int .i64 yL)) (by omega) 1 (.int .i64 yH)) (by omega) 2 (.int .i64 aA)); clear p2; have p2 := p2n; clear p2n
        have q0n : (((w3.setCell ⟨w.heap.size + 3, 0, none⟩ (.int .i64 yL)).setCell ⟨w.heap.size + 3, 1, none⟩ (.int .i64 yH)).setCell ⟨w.heap.size + 3, 2, none⟩ (.int .i64 aA)).cell? _ = _ := (cset_ne (c := w.heap.size + 3) (cset_ne (c := w.heap.size + 3) (cset_ne (c := w.heap.size + 3) q0 (by omega) 0 (.int .i64 yL)) (by omega) 1 (.int .i64 yH)) (by omega) 2 (.int .i64 aA)); clear q0; have q0 := q0n; clear q0n
        have q1n : (((w3.setCell ⟨w.heap.size + 3, 0, none⟩ (.int .i64 yL)).setCell ⟨w.heap.size + 3, 1, none⟩ (.int .i64 yH)).setCell ⟨w.heap.size + 3, 2, none⟩ (.int .i64 aA)).cell? _ = _ := (cset_ne (c := w.heap.size + 3) (cset_ne (c := w.heap.size + 3) (cset_ne (c := w.heap.size + 3) q1 (by omega) 0 (.int .i64 yL)) (by omega) 1 (.int .i64 yH)) (by omega) 2 (.int .i64 aA)); clear q1; have q1 := q1n; clear q1n
        have q2n : (((w3.setCell ⟨w.heap.size + 3, 0, none⟩ (.int .i64 yL)).setCell ⟨w.heap.size + 3, 1, none⟩ (.int .i64 yH)).setCell ⟨w.heap.size + 3, 2, none⟩ (.int .i64 aA)).cell? _ = _ := (cset_ne (c := w.heap.size + 3) (cset_ne (c := w.heap.size + 3) (cset_ne (c := w.heap.size + 3) q2 (by omega) 0 (.int .i64 yL)) (by omega) 1 (.int .i64 yH)) (by omega) 2 (.int .i64 aA)); clear q2; have q2 := q2n; clear q2n
        replace rf : ∀ i, (((w3.setCell ⟨w.heap.size + 3, 0, none⟩ (.int .i64 yL)).setCell ⟨w.heap.size + 3, 1, none⟩ (.int .i64 yH)).setCell ⟨w.heap.size + 3, 2, none⟩ (.int .i64 aA)).frozen? ⟨w.heap.size + 2, i, none⟩ = false := fun i => by simp only [World.frozen?_setCell]; exact rf i
        have r0n : (((w3.setCell ⟨w.heap.size + 3, 0, none⟩ (.int .i64 yL)).setCell ⟨w.heap.size + 3, 1, none⟩ (.int .i64 yH)).setCell ⟨w.heap.size + 3, 2, none⟩ (.int .i64 aA)).cell? _ = _ := (cset_ne (c := w.heap.size + 3) (cset_ne (c := w.heap.size + 3) (cset_ne (c := w.heap.size + 3) r0 (by omega) 0 (.int .i64 yL)) (by omega) 1 (.int .i64 yH)) (by omega) 2 (.int .i64 aA)); clear r0; have r0 := r0n; clear r0n
        have r1n : (((w3.setCell ⟨w.heap.size + 3, 0, none⟩ (.int .i64 yL)).setCell ⟨w.heap.size + 3, 1, none⟩ (.int .i64 yH)).setCell ⟨w.heap.size + 3, 2, none⟩ (.int .i64 aA)).cell? _ = _ := (cset_ne (c := w.heap.size + 3) (cset_ne (c := w.heap.size + 3) (cset_ne (c := w.heap.size + 3) r1 (by omega) 0 (.int .i64 yL)) (by omega) 1 (.int .i64 yH)) (by omega) 2 (.int .i64 aA)); clear r1; have r1 := r1n; clear r1n
        have r2n : (((w3.setCell ⟨w.heap.size + 3, 0, none⟩ (.int .i64 yL)).setCell ⟨w.heap.size + 3, 1, none⟩ (.int .i64 yH)).setCell ⟨w.heap.size + 3, 2, none⟩ (.int .i64 aA)).cell? _ = _ := (cset_ne (c := w.heap.size + 3) (cset_ne (c := w.heap.size + 3) (cset_ne (c := w.heap.size + 3) r2 (by omega) 0 (.int .i64 yL)) (by omega) 1 (.int .i64 yH)) (by omega) 2 (.int .i64 aA)); clear r2; have r2 := r2n; clear r2n
        replace nf : ∀ i, (((w3.setCell ⟨w.heap.size + 3, 0, none⟩ (.int .i64 yL)).setCell ⟨w.heap.size + 3, 1, none⟩ (.int .i64 yH)).setCell ⟨w.heap.size + 3, 2, none⟩ (.int .i64 aA)).frozen? ⟨w.heap.size + 3, i, none⟩ = false := fun i => by simp only [World.frozen?_setCell]; exact nf i
        replace mf : ∀ i, (((w3.setCell ⟨w.heap.size + 3, 0, none⟩ (.int .i64 yL)).setCell ⟨w.heap.size + 3, 1, none⟩ (.int .i64 yH)).setCell ⟨w.heap.size + 3, 2, none⟩ (.int .i64 aA)).frozen? ⟨w.heap.size + 4, i, none⟩ = false := fun i => by simp only [World.frozen?_setCell]; exact mf i
        have m0n : (((w3.setCell ⟨w.heap.size + 3, 0, none⟩ (.int .i64 yL)).setCell ⟨w.heap.size + 3, 1, none⟩ (.int .i64 yH)).setCell ⟨w.heap.size + 3, 2, none⟩ (.int .i64 aA)).cell? _ = _ := (cset_ne (c := w.heap.size + 3) (cset_ne (c := w.heap.size + 3) (cset_ne (c := w.heap.size + 3) m0 (by omega) 0 (.int .i64 yL)) (by omega) 1 (.int .i64 yH)) (by omega) 2 (.int .i64 aA)); clear m0; have m0 := m0n; clear m0n
        have m1n : (((w3.setCell ⟨w.heap.size + 3, 0, none⟩ (.int .i64 yL)).setCell ⟨w.heap.size + 3, 1, none⟩ (.int .i64 yH)).setCell ⟨w.heap.size + 3, 2, none⟩ (.int .i64 aA)).cell? _ = _ := (cset_ne (c := w.heap.size + 3) (cset_ne (c := w.heap.size + 3) (cset_ne (c := w.heap.size + 3) m1 (by omega) 0 (.int .i64 yL)) (by omega) 1 (.int .i64 yH)) (by omega) 2 (.int .i64 aA)); clear m1; have m1 := m1n; clear m1n
        have m2n : (((w3.setCell ⟨w.heap.size + 3, 0, none⟩ (.int .i64 yL)).setCell ⟨w.heap.size + 3, 1, none⟩ (.int .i64 yH)).setCell ⟨w.heap.size + 3, 2, none⟩ (.int .i64 aA)).cell? _ = _ := (cset_ne (c := w.heap.size + 3) (cset_ne (c := w.heap.size + 3) (cset_ne (c := w.heap.size + 3) m2 (by omega) 0 (.int .i64 yL)) (by omega) 1 (.int .i64 yH)) (by omega) 2 (.int .i64 aA)); clear m2; have m2 := m2n; clear m2n
        have n0n : (((w3.setCell ⟨w.heap.size + 3, 0, none⟩ (.int .i64 yL)).setCell ⟨w.heap.size + 3, 1, none⟩ (.int .i64 yH)).setCell ⟨w.heap.size + 3, 2, none⟩ (.int .i64 aA)).cell? ⟨w.heap.size + 3, 0, none⟩ = some (.int .i64 yL) := (cset_off (cset_off (cset_eq n0 (.int .i64 yL)) (by decide) _) (by decide) _)
        have n1n : (((w3.setCell ⟨w.heap.size + 3, 0, none⟩ (.int .i64 yL)).setCell ⟨w.heap.size + 3, 1, none⟩ (.int .i64 yH)).setCell ⟨w.heap.size + 3, 2, none⟩ (.int .i64 aA)).cell? ⟨w.heap.size + 3, 1, none⟩ = some (.int .i64 yH) := (cset_off (cset_eq (cset_off n1 (by decide) _) (.int .i64 yH)) (by decide) _)
        have n2n : (((w3.setCell ⟨w.heap.size + 3, 0, none⟩ (.int .i64 yL)).setCell ⟨w.heap.size + 3, 1, none⟩ (.int .i64 yH)).setCell ⟨w.heap.size + 3, 2, none⟩ (.int .i64 aA)).cell? ⟨w.heap.size + 3, 2, none⟩ = some (.int .i64 aA) := (cset_eq (cset_off (cset_off n2 (by decide) _) (by decide) _) (.int .i64 aA))
        have t_W_3 : Below w.heap.size w (((w3.setCell ⟨w.heap.size + 3, 0, none⟩ (.int .i64 yL)).setCell ⟨w.heap.size + 3, 1, none⟩ (.int .i64 yH)).setCell ⟨w.heap.size + 3, 2, none⟩ (.int .i64 aA)) := by go_grown
        clear n0 n1 n2 t_w3
        have n0 := n0n; clear n0n
        have n1 := n1n; clear n1n
        have n2 := n2n; clear n2n
        generalize ((w3.setCell ⟨w.heap.size + 3, 0, none⟩ (.int .i64 yL)).setCell ⟨w.heap.size + 3, 1, none⟩ (.int .i64 yH)).setCell ⟨w.heap.size + 3, 2, none⟩ (.int .i64 aA) = W_3 at *
        refine (svalid H1.out _).mono ?_
        rintro e w4 ⟨rfl, g_w4⟩
        have s_w4 : Below W_3.heap.size W_3 w4 := chain (by go_grown) g_w4
        have t_w4 := chain t_W_3 s_w4
        replace rf := fkeep2 rf (lt_of r0) s_w4
        replace nf := fkeep2 nf (lt_of n0) s_w4
        replace mf := fkeep2 mf (lt_of m0) s_w4
        replace p0 := keep p0 s_w4
        have z_p0_w4 := lt_of p0
        replace p1 := keep p1 s_w4
        replace p2 := keep p2 s_w4
        replace q0 := keep q0 s_w4
        have z_q0_w4 := lt_of q0
        replace q1 := keep q1 s_w4
        replace q2 := keep q2 s_w4
        replace r0 := keep r0 s_w4
        have z_r0_w4 := lt_of r0
        replace r1 := keep r1 s_w4
        replace r2 := keep r2 s_w4
        replace n0 := keep n0 s_w4
        have z_n0_w4 := lt_of n0
        replace n1 := keep n1 s_w4
        replace n2 := keep n2 s_w4
        replace m0 := keep m0 s_w4
        have z_m0_w4 := lt_of m0
        replace m1 := keep m1 s_w4
        replace m2 := keep m2 s_w4
        clear g_w4 s_w4 z_p0_w3 z_q0_w3 z_r0_w3 z_n0_w3 z_m0_w3 t_W_3
        go_wp2_with fail
        refine (svalid H4.out _).mono ?_
        rintro e w5 ⟨rfl, g_w5⟩
        have s_w5 : Below w4.heap.size w4 w5 := chain (by go_grown) g_w5
        have t_w5 := chain t_w4 s_w5
        replace rf := fkeep2 rf (lt_of r0) s_w5
        replace nf := fkeep2 nf (lt_of n0) s_w5
        replace mf := fkeep2 mf (lt_of m0) s_w5
        replace p0 := keep p0 s_w5
        have z_p0_w5 := lt_of p0
        replace p1 := keep p1 s_w5
        replace p2 := keep p2 s_w5
        replace q0 := keep q0 s_w5
        have z_q0_w5 := lt_of q0
        replace q1 := keep q1 s_w5
        replace q2 := keep q2 s_w5
        replace r0 := keep r0 s_w5
        have z_r0_w5 := lt_of r0
        replace r1 := keep r1 s_w5
        replace r2 := keep r2 s_w5
        replace n0 := keep n0 s_w5
        have z_n0_w5 := lt_of n0
        replace n1 := keep n1 s_w5
        replace n2 := keep n2 s_w5
        replace m0 := keep m0 s_w5
        have z_m0_w5 := lt_of m0
        replace m1 := keep m1 s_w5
        replace m2 := keep m2 s_w5
        clear g_w5 s_w5 z_p0_w4 z_q0_w4 z_r0_w4 z_n0_w4 z_m0_w4 t_w4
        go_wp2_with fail
        refine bodyPost_ret (v := .tuple #[.agg #[.int .i64 lo, .int .i64 hi, .int .i64 aA], .int .i64 0]) (by simp [results, Try.results14, go_sem, *]) rfl ⟨rfl, by go_grown⟩
end Go.Proofs.Ytkmkfjaokjcelaa
