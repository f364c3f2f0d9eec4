/- Contracts of package bound: Meet. -/
import Derived.Test.YtkmkfjaokjcelaaBndB
namespace Go.Proofs.Ytkmkfjaokjcelaa
open Go.ChangeShapes Go.WideShapes Go.ChangeAt Go.RowKit
/-- a bound of a span (its time xa), as it stands when the two meet (the other's time ya) -/
def mL (x xa ya : Int) : Int := if xa ≤ ya then x - moreN (ya - xa) else x
def mH (x xa ya : Int) : Int := if xa ≤ ya then x + moreN (ya - xa) else x
def mA (aA bA : Int) : Int := if aA < bA then bA else aA
def MeetIs (aL aH aA bL bH bA L H A E : Int) : Prop :=
  ((okS aL aH aA && okS bL bH bA) = false ∧ L = 0 ∧ H = 0 ∧ A = 0 ∧ E = 1) ∨
  (okS aL aH aA = true ∧ okS bL bH bA = true ∧
    (((okS (mL aL aA bA) (mH aH aA bA) (mA aA bA) && okS (mL bL bA aA) (mH bH bA aA) (mA aA bA)) = false ∧ L = 0 ∧ H = 0 ∧ A = 0 ∧ E = 3) ∨
     (okS (mL aL aA bA) (mH aH aA bA) (mA aA bA) = true ∧ okS (mL bL bA aA) (mH bH bA aA) (mA aA bA) = true ∧ ∃ lo hi, mL aL aA bA ≤ lo ∧ mL bL bA aA ≤ lo ∧ (lo ≤ mL aL aA bA ∨ lo ≤ mL bL bA aA) ∧ hi ≤ mH aH aA bA ∧ hi ≤ mH bH bA aA ∧ (mH aH aA bA ≤ hi ∨ mH bH bA aA ≤ hi) ∧
       ((hi < lo ∧ L = 0 ∧ H = 0 ∧ A = 0 ∧ E = 16) ∨ (lo ≤ hi ∧ L = lo ∧ H = hi ∧ A = mA aA bA ∧ E = 0)))))
theorem meet_exists (aL aH aA bL bH bA : Int) : ∃ L H A E, MeetIs aL aH aA bL bH bA L H A E := by
  rcases h1 : okS aL aH aA with _ | _
  · exact ⟨0, 0, 0, 1, .inl ⟨by simp [h1], rfl, rfl, rfl, rfl⟩⟩
  · rcases h2 : okS bL bH bA with _ | _
    · exact ⟨0, 0, 0, 1, .inl ⟨by simp [h2], rfl, rfl, rfl, rfl⟩⟩
    · rcases h3 : (okS (mL aL aA bA) (mH aH aA bA) (mA aA bA) && okS (mL bL bA aA) (mH bH bA aA) (mA aA bA)) with _ | _
      · exact ⟨0, 0, 0, 3, .inr ⟨h1, h2, .inl ⟨h3, rfl, rfl, rfl, rfl⟩⟩⟩
      · simp only [Bool.and_eq_true] at h3
        by_cases hl : max (mL aL aA bA) (mL bL bA aA) ≤ min (mH aH aA bA) (mH bH bA aA)
        · exact ⟨_, _, _, 0, .inr ⟨h1, h2, .inr ⟨h3.1, h3.2, max (mL aL aA bA) (mL bL bA aA), min (mH aH aA bA) (mH bH bA aA), by omega, by omega, by omega, by omega, by omega, by omega, .inr ⟨hl, rfl, rfl, rfl, rfl⟩⟩⟩⟩
        · exact ⟨0, 0, 0, 16, .inr ⟨h1, h2, .inr ⟨h3.1, h3.2, max (mL aL aA bA) (mL bL bA aA), min (mH aH aA bA) (mH bH bA aA), by omega, by omega, by omega, by omega, by omega, by omega, .inl ⟨by omega, rfl, rfl, rfl, rfl⟩⟩⟩⟩
set_option maxHeartbeats 4000000 in
theorem meet_bad {aL aH aA bL bH bA : Int} (h : (okS aL aH aA && okS bL bH bA) = false) (w : World) : Calls Try.prog 14 #[.agg #[.int .i64 aL, .int .i64 aH, .int .i64 aA], .agg #[.int .i64 bL, .int .i64 bH, .int .i64 bA]] w fun e w' => e = .returned (.tuple #[.agg #[.int .i64 0, .int .i64 0, .int .i64 0], .int .i64 1]) ∧ Below w.heap.size w w' := by
  rcases h1 : okS aL aH aA with _ | _
  · have H1 := Lib.hid h1
    clear h h1
    have t_w := Below.refl w.heap.size w
    go_enter Try.func14, Try.ntmps14
    go_wp2_with fail
    go_region
    · go_wp2_with fail
      refine (svalid H1.out _).mono ?_
      rintro e w1 ⟨rfl, g_w1⟩
      have s_w1 : Below w.heap.size w w1 := chain (by go_grown) g_w1
      have t_w1 := chain t_w s_w1
      have p0 : w1.cell? ⟨w.heap.size, 0, none⟩ = some (.int .i64 aL) := ((bcell g_w1).1 _ _ (by simp; try omega)).trans (by simp [go_sem])
      have p1 : w1.cell? ⟨w.heap.size, 1, none⟩ = some (.int .i64 aH) := ((bcell g_w1).1 _ _ (by simp; try omega)).trans (by simp [go_sem])
      have p2 : w1.cell? ⟨w.heap.size, 2, none⟩ = some (.int .i64 aA) := ((bcell g_w1).1 _ _ (by simp; try omega)).trans (by simp [go_sem])
      have z_p_w1 := lt_of p0
      have q0 : w1.cell? ⟨w.heap.size + 1, 0, none⟩ = some (.int .i64 bL) := ((bcell g_w1).1 _ _ (by simp; try omega)).trans (by simp [go_sem])
      have q1 : w1.cell? ⟨w.heap.size + 1, 1, none⟩ = some (.int .i64 bH) := ((bcell g_w1).1 _ _ (by simp; try omega)).trans (by simp [go_sem])
      have q2 : w1.cell? ⟨w.heap.size + 1, 2, none⟩ = some (.int .i64 bA) := ((bcell g_w1).1 _ _ (by simp; try omega)).trans (by simp [go_sem])
      have z_q_w1 := lt_of q0
      have r0 : w1.cell? ⟨w.heap.size + 2, 0, none⟩ = some (.int .i64 0) := ((bcell g_w1).1 _ _ (by simp; try omega)).trans (by simp [go_sem])
      have r1 : w1.cell? ⟨w.heap.size + 2, 1, none⟩ = some (.int .i64 0) := ((bcell g_w1).1 _ _ (by simp; try omega)).trans (by simp [go_sem])
      have r2 : w1.cell? ⟨w.heap.size + 2, 2, none⟩ = some (.int .i64 0) := ((bcell g_w1).1 _ _ (by simp; try omega)).trans (by simp [go_sem])
      have z_r_w1 := lt_of r0
      have rf : ∀ i, w1.frozen? ⟨w.heap.size + 2, i, none⟩ = false := fun i => ((bcell g_w1).2 _ _ (by simp; try omega)).trans (by simp [go_sem])
      have m0 : w1.cell? ⟨w.heap.size + 3, 0, none⟩ = some (.int .i64 aL) := ((bcell g_w1).1 _ _ (by simp; try omega)).trans (by simp [go_sem])
      have m1 : w1.cell? ⟨w.heap.size + 3, 1, none⟩ = some (.int .i64 aH) := ((bcell g_w1).1 _ _ (by simp; try omega)).trans (by simp [go_sem])
      have m2 : w1.cell? ⟨w.heap.size + 3, 2, none⟩ = some (.int .i64 aA) := ((bcell g_w1).1 _ _ (by simp; try omega)).trans (by simp [go_sem])
      have z_m_w1 := lt_of m0
      have mf : ∀ i, w1.frozen? ⟨w.heap.size + 3, i, none⟩ = false := fun i => ((bcell g_w1).2 _ _ (by simp; try omega)).trans (by simp [go_sem])
      have n0 : w1.cell? ⟨w.heap.size + 4, 0, none⟩ = some (.int .i64 bL) := ((bcell g_w1).1 _ _ (by simp; try omega)).trans (by simp [go_sem])
      have n1 : w1.cell? ⟨w.heap.size + 4, 1, none⟩ = some (.int .i64 bH) := ((bcell g_w1).1 _ _ (by simp; try omega)).trans (by simp [go_sem])
      have n2 : w1.cell? ⟨w.heap.size + 4, 2, none⟩ = some (.int .i64 bA) := ((bcell g_w1).1 _ _ (by simp; try omega)).trans (by simp [go_sem])
      have z_n_w1 := lt_of n0
      have nf : ∀ i, w1.frozen? ⟨w.heap.size + 4, i, none⟩ = false := fun i => ((bcell g_w1).2 _ _ (by simp; try omega)).trans (by simp [go_sem])
      clear g_w1 s_w1 t_w
      go_wp2_with fail
      refine bodyPost_ret (v := .tuple #[.agg #[.int .i64 0, .int .i64 0, .int .i64 0], .int .i64 1]) (by simp [results, Try.results14, go_sem, *]) rfl ⟨rfl, by first | exact t_w1 | go_grown⟩
    · go_wp2_with fail
      refine (svalid H1.out _).mono ?_
      rintro e w1 ⟨rfl, g_w1⟩
      have s_w1 : Below w.heap.size w w1 := chain (by go_grown) g_w1
      have t_w1 := chain t_w s_w1
      have p0 : w1.cell? ⟨w.heap.size, 0, none⟩ = some (.int .i64 aL) := ((bcell g_w1).1 _ _ (by simp; try omega)).trans (by simp [go_sem])
      have p1 : w1.cell? ⟨w.heap.size, 1, none⟩ = some (.int .i64 aH) := ((bcell g_w1).1 _ _ (by simp; try omega)).trans (by simp [go_sem])
      have p2 : w1.cell? ⟨w.heap.size, 2, none⟩ = some (.int .i64 aA) := ((bcell g_w1).1 _ _ (by simp; try omega)).trans (by simp [go_sem])
      have z_p_w1 := lt_of p0
      have q0 : w1.cell? ⟨w.heap.size + 1, 0, none⟩ = some (.int .i64 bL) := ((bcell g_w1).1 _ _ (by simp; try omega)).trans (by simp [go_sem])
      have q1 : w1.cell? ⟨w.heap.size + 1, 1, none⟩ = some (.int .i64 bH) := ((bcell g_w1).1 _ _ (by simp; try omega)).trans (by simp [go_sem])
      have q2 : w1.cell? ⟨w.heap.size + 1, 2, none⟩ = some (.int .i64 bA) := ((bcell g_w1).1 _ _ (by simp; try omega)).trans (by simp [go_sem])
      have z_q_w1 := lt_of q0
      have r0 : w1.cell? ⟨w.heap.size + 2, 0, none⟩ = some (.int .i64 0) := ((bcell g_w1).1 _ _ (by simp; try omega)).trans (by simp [go_sem])
      have r1 : w1.cell? ⟨w.heap.size + 2, 1, none⟩ = some (.int .i64 0) := ((bcell g_w1).1 _ _ (by simp; try omega)).trans (by simp [go_sem])
      have r2 : w1.cell? ⟨w.heap.size + 2, 2, none⟩ = some (.int .i64 0) := ((bcell g_w1).1 _ _ (by simp; try omega)).trans (by simp [go_sem])
      have z_r_w1 := lt_of r0
      have rf : ∀ i, w1.frozen? ⟨w.heap.size + 2, i, none⟩ = false := fun i => ((bcell g_w1).2 _ _ (by simp; try omega)).trans (by simp [go_sem])
      have n0 : w1.cell? ⟨w.heap.size + 3, 0, none⟩ = some (.int .i64 bL) := ((bcell g_w1).1 _ _ (by simp; try omega)).trans (by simp [go_sem])
      have n1 : w1.cell? ⟨w.heap.size + 3, 1, none⟩ = some (.int .i64 bH) := ((bcell g_w1).1 _ _ (by simp; try omega)).trans (by simp [go_sem])
      have n2 : w1.cell? ⟨w.heap.size + 3, 2, none⟩ = some (.int .i64 bA) := ((bcell g_w1).1 _ _ (by simp; try omega)).trans (by simp [go_sem])
      have z_n_w1 := lt_of n0
      have nf : ∀ i, w1.frozen? ⟨w.heap.size + 3, i, none⟩ = false := fun i => ((bcell g_w1).2 _ _ (by simp; try omega)).trans (by simp [go_sem])
      have m0 : w1.cell? ⟨w.heap.size + 4, 0, none⟩ = some (.int .i64 aL) := ((bcell g_w1).1 _ _ (by simp; try omega)).trans (by simp [go_sem])
      have m1 : w1.cell? ⟨w.heap.size + 4, 1, none⟩ = some (.int .i64 aH) := ((bcell g_w1).1 _ _ (by simp; try omega)).trans (by simp [go_sem])
      have m2 : w1.cell? ⟨w.heap.size + 4, 2, none⟩ = some (.int .i64 aA) := ((bcell g_w1).1 _ _ (by simp; try omega)).trans (by simp [go_sem])
      have z_m_w1 := lt_of m0
      have mf : ∀ i, w1.frozen? ⟨w.heap.size + 4, i, none⟩ = false := fun i => ((bcell g_w1).2 _ _ (by simp; try omega)).trans (by simp [go_sem])
      clear g_w1 s_w1 t_w
      go_wp2_with fail
      refine bodyPost_ret (v := .tuple #[.agg #[.int .i64 0, .int .i64 0, .int .i64 0], .int .i64 1]) (by simp [results, Try.results14, go_sem, *]) rfl ⟨rfl, by first | exact t_w1 | go_grown⟩
  · have h2 : okS bL bH bA = false := by simpa [h1] using h
    have H1 := Lib.hid h1
    have H2 := Lib.hid h2
    clear h h1 h2
    have t_w := Below.refl w.heap.size w
    go_enter Try.func14, Try.ntmps14
    go_wp2_with fail
    go_region
    · go_wp2_with fail
      refine (svalid H1.out _).mono ?_
      rintro e w1 ⟨rfl, g_w1⟩
      have s_w1 : Below w.heap.size w w1 := chain (by go_grown) g_w1
      have t_w1 := chain t_w s_w1
      have p0 : w1.cell? ⟨w.heap.size, 0, none⟩ = some (.int .i64 aL) := ((bcell g_w1).1 _ _ (by simp; try omega)).trans (by simp [go_sem])
      have p1 : w1.cell? ⟨w.heap.size, 1, none⟩ = some (.int .i64 aH) := ((bcell g_w1).1 _ _ (by simp; try omega)).trans (by simp [go_sem])
      have p2 : w1.cell? ⟨w.heap.size, 2, none⟩ = some (.int .i64 aA) := ((bcell g_w1).1 _ _ (by simp; try omega)).trans (by simp [go_sem])
      have z_p_w1 := lt_of p0
      have q0 : w1.cell? ⟨w.heap.size + 1, 0, none⟩ = some (.int .i64 bL) := ((bcell g_w1).1 _ _ (by simp; try omega)).trans (by simp [go_sem])
      have q1 : w1.cell? ⟨w.heap.size + 1, 1, none⟩ = some (.int .i64 bH) := ((bcell g_w1).1 _ _ (by simp; try omega)).trans (by simp [go_sem])
      have q2 : w1.cell? ⟨w.heap.size + 1, 2, none⟩ = some (.int .i64 bA) := ((bcell g_w1).1 _ _ (by simp; try omega)).trans (by simp [go_sem])
      have z_q_w1 := lt_of q0
      have r0 : w1.cell? ⟨w.heap.size + 2, 0, none⟩ = some (.int .i64 0) := ((bcell g_w1).1 _ _ (by simp; try omega)).trans (by simp [go_sem])
      have r1 : w1.cell? ⟨w.heap.size + 2, 1, none⟩ = some (.int .i64 0) := ((bcell g_w1).1 _ _ (by simp; try omega)).trans (by simp [go_sem])
      have r2 : w1.cell? ⟨w.heap.size + 2, 2, none⟩ = some (.int .i64 0) := ((bcell g_w1).1 _ _ (by simp; try omega)).trans (by simp [go_sem])
      have z_r_w1 := lt_of r0
      have rf : ∀ i, w1.frozen? ⟨w.heap.size + 2, i, none⟩ = false := fun i => ((bcell g_w1).2 _ _ (by simp; try omega)).trans (by simp [go_sem])
      have m0 : w1.cell? ⟨w.heap.size + 3, 0, none⟩ = some (.int .i64 aL) := ((bcell g_w1).1 _ _ (by simp; try omega)).trans (by simp [go_sem])
      have m1 : w1.cell? ⟨w.heap.size + 3, 1, none⟩ = some (.int .i64 aH) := ((bcell g_w1).1 _ _ (by simp; try omega)).trans (by simp [go_sem])
      have m2 : w1.cell? ⟨w.heap.size + 3, 2, none⟩ = some (.int .i64 aA) := ((bcell g_w1).1 _ _ (by simp; try omega)).trans (by simp [go_sem])
      have z_m_w1 := lt_of m0
      have mf : ∀ i, w1.frozen? ⟨w.heap.size + 3, i, none⟩ = false := fun i => ((bcell g_w1).2 _ _ (by simp; try omega)).trans (by simp [go_sem])
      have n0 : w1.cell? ⟨w.heap.size + 4, 0, none⟩ = some (.int .i64 bL) := ((bcell g_w1).1 _ _ (by simp; try omega)).trans (by simp [go_sem])
      have n1 : w1.cell? ⟨w.heap.size + 4, 1, none⟩ = some (.int .i64 bH) := ((bcell g_w1).1 _ _ (by simp; try omega)).trans (by simp [go_sem])
      have n2 : w1.cell? ⟨w.heap.size + 4, 2, none⟩ = some (.int .i64 bA) := ((bcell g_w1).1 _ _ (by simp; try omega)).trans (by simp [go_sem])
      have z_n_w1 := lt_of n0
      have nf : ∀ i, w1.frozen? ⟨w.heap.size + 4, i, none⟩ = false := fun i => ((bcell g_w1).2 _ _ (by simp; try omega)).trans (by simp [go_sem])
      clear g_w1 s_w1 t_w
      go_wp2_with fail
      refine (svalid H2.out _).mono ?_
      rintro e w2 ⟨rfl, g_w2⟩
      have s_w2 : Below w1.heap.size w1 w2 := chain (by go_grown) g_w2
      have t_w2 := chain t_w1 s_w2
      replace rf := fkeep2 rf (lt_of r0) s_w2
      replace mf := fkeep2 mf (lt_of m0) s_w2
      replace nf := fkeep2 nf (lt_of n0) s_w2
      replace p0 := keep p0 s_w2
      have z_p0_w2 := lt_of p0
      replace p1 := keep p1 s_w2
      replace p2 := keep p2 s_w2
      replace q0 := keep q0 s_w2
      have z_q0_w2 := lt_of q0
      replace q1 := keep q1 s_w2
      replace q2 := keep q2 s_w2
      replace r0 := keep r0 s_w2
      have z_r0_w2 := lt_of r0
      replace r1 := keep r1 s_w2
      replace r2 := keep r2 s_w2
      replace m0 := keep m0 s_w2
      have z_m0_w2 := lt_of m0
      replace m1 := keep m1 s_w2
      replace m2 := keep m2 s_w2
      replace n0 := keep n0 s_w2
      have z_n0_w2 := lt_of n0
      replace n1 := keep n1 s_w2
      replace n2 := keep n2 s_w2
      clear g_w2 s_w2 z_p_w1 z_q_w1 z_r_w1 z_m_w1 z_n_w1 t_w1
      go_wp2_with fail
      refine bodyPost_ret (v := .tuple #[.agg #[.int .i64 0, .int .i64 0, .int .i64 0], .int .i64 1]) (by simp [results, Try.results14, go_sem, *]) rfl ⟨rfl, by first | exact t_w2 | go_grown⟩
    · go_wp2_with fail
      refine (svalid H1.out _).mono ?_
      rintro e w1 ⟨rfl, g_w1⟩
      have s_w1 : Below w.heap.size w w1 := chain (by go_grown) g_w1
      have t_w1 := chain t_w s_w1
      have p0 : w1.cell? ⟨w.heap.size, 0, none⟩ = some (.int .i64 aL) := ((bcell g_w1).1 _ _ (by simp; try omega)).trans (by simp [go_sem])
      have p1 : w1.cell? ⟨w.heap.size, 1, none⟩ = some (.int .i64 aH) := ((bcell g_w1).1 _ _ (by simp; try omega)).trans (by simp [go_sem])
      have p2 : w1.cell? ⟨w.heap.size, 2, none⟩ = some (.int .i64 aA) := ((bcell g_w1).1 _ _ (by simp; try omega)).trans (by simp [go_sem])
      have z_p_w1 := lt_of p0
      have q0 : w1.cell? ⟨w.heap.size + 1, 0, none⟩ = some (.int .i64 bL) := ((bcell g_w1).1 _ _ (by simp; try omega)).trans (by simp [go_sem])
      have q1 : w1.cell? ⟨w.heap.size + 1, 1, none⟩ = some (.int .i64 bH) := ((bcell g_w1).1 _ _ (by simp; try omega)).trans (by simp [go_sem])
      have q2 : w1.cell? ⟨w.heap.size + 1, 2, none⟩ = some (.int .i64 bA) := ((bcell g_w1).1 _ _ (by simp; try omega)).trans (by simp [go_sem])
      have z_q_w1 := lt_of q0
      have r0 : w1.cell? ⟨w.heap.size + 2, 0, none⟩ = some (.int .i64 0) := ((bcell g_w1).1 _ _ (by simp; try omega)).trans (by simp [go_sem])
      have r1 : w1.cell? ⟨w.heap.size + 2, 1, none⟩ = some (.int .i64 0) := ((bcell g_w1).1 _ _ (by simp; try omega)).trans (by simp [go_sem])
      have r2 : w1.cell? ⟨w.heap.size + 2, 2, none⟩ = some (.int .i64 0) := ((bcell g_w1).1 _ _ (by simp; try omega)).trans (by simp [go_sem])
      have z_r_w1 := lt_of r0
      have rf : ∀ i, w1.frozen? ⟨w.heap.size + 2, i, none⟩ = false := fun i => ((bcell g_w1).2 _ _ (by simp; try omega)).trans (by simp [go_sem])
      have n0 : w1.cell? ⟨w.heap.size + 3, 0, none⟩ = some (.int .i64 bL) := ((bcell g_w1).1 _ _ (by simp; try omega)).trans (by simp [go_sem])
      have n1 : w1.cell? ⟨w.heap.size + 3, 1, none⟩ = some (.int .i64 bH) := ((bcell g_w1).1 _ _ (by simp; try omega)).trans (by simp [go_sem])
      have n2 : w1.cell? ⟨w.heap.size + 3, 2, none⟩ = some (.int .i64 bA) := ((bcell g_w1).1 _ _ (by simp; try omega)).trans (by simp [go_sem])
      have z_n_w1 := lt_of n0
      have nf : ∀ i, w1.frozen? ⟨w.heap.size + 3, i, none⟩ = false := fun i => ((bcell g_w1).2 _ _ (by simp; try omega)).trans (by simp [go_sem])
      have m0 : w1.cell? ⟨w.heap.size + 4, 0, none⟩ = some (.int .i64 aL) := ((bcell g_w1).1 _ _ (by simp; try omega)).trans (by simp [go_sem])
      have m1 : w1.cell? ⟨w.heap.size + 4, 1, none⟩ = some (.int .i64 aH) := ((bcell g_w1).1 _ _ (by simp; try omega)).trans (by simp [go_sem])
      have m2 : w1.cell? ⟨w.heap.size + 4, 2, none⟩ = some (.int .i64 aA) := ((bcell g_w1).1 _ _ (by simp; try omega)).trans (by simp [go_sem])
      have z_m_w1 := lt_of m0
      have mf : ∀ i, w1.frozen? ⟨w.heap.size + 4, i, none⟩ = false := fun i => ((bcell g_w1).2 _ _ (by simp; try omega)).trans (by simp [go_sem])
      clear g_w1 s_w1 t_w
      go_wp2_with fail
      refine (svalid H2.out _).mono ?_
      rintro e w2 ⟨rfl, g_w2⟩
      have s_w2 : Below w1.heap.size w1 w2 := chain (by go_grown) g_w2
      have t_w2 := chain t_w1 s_w2
      replace rf := fkeep2 rf (lt_of r0) s_w2
      replace nf := fkeep2 nf (lt_of n0) s_w2
      replace mf := fkeep2 mf (lt_of m0) s_w2
      replace p0 := keep p0 s_w2
      have z_p0_w2 := lt_of p0
      replace p1 := keep p1 s_w2
      replace p2 := keep p2 s_w2
      replace q0 := keep q0 s_w2
      have z_q0_w2 := lt_of q0
      replace q1 := keep q1 s_w2
      replace q2 := keep q2 s_w2
      replace r0 := keep r0 s_w2
      have z_r0_w2 := lt_of r0
      replace r1 := keep r1 s_w2
      replace r2 := keep r2 s_w2
      replace n0 := keep n0 s_w2
      have z_n0_w2 := lt_of n0
      replace n1 := keep n1 s_w2
      replace n2 := keep n2 s_w2
      replace m0 := keep m0 s_w2
      have z_m0_w2 := lt_of m0
      replace m1 := keep m1 s_w2
      replace m2 := keep m2 s_w2
      clear g_w2 s_w2 z_p_w1 z_q_w1 z_r_w1 z_n_w1 z_m_w1 t_w1
      go_wp2_with fail
      refine bodyPost_ret (v := .tuple #[.agg #[.int .i64 0, .int .i64 0, .int .i64 0], .int .i64 1]) (by simp [results, Try.results14, go_sem, *]) rfl ⟨rfl, by first | exact t_w2 | go_grown⟩
set_option maxHeartbeats 4000000 in
theorem meet_lt {aL aH aA bL bH bA L H A E : Int} (hlt : aA < bA) (hv : MeetIs aL aH aA bL bH bA L H A E) (ho : okS aL aH aA = true) (ho2 : okS bL bH bA = true) (w : World) : Calls Try.prog 14 #[.agg #[.int .i64 aL, .int .i64 aH, .int .i64 aA], .agg #[.int .i64 bL, .int .i64 bH, .int .i64 bA]] w fun e w' => e = .returned (.tuple #[.agg #[.int .i64 L, .int .i64 H, .int .i64 A], .int .i64 E]) ∧ Below w.heap.size w w' := by
  have e1 : mA aA bA = bA := by simp [mA, hlt]
  have e2 : mL bL bA aA = bL := by simp only [mL]; rw [if_neg (by omega)]
  have e3 : mH bH bA aA = bH := by simp only [mH]; rw [if_neg (by omega)]
  have e4 : mL aL aA bA = aL - moreN (bA - aA) := by simp only [mL]; rw [if_pos (by omega)]
  have e5 : mH aH aA bA = aH + moreN (bA - aA) := by simp only [mH]; rw [if_pos (by omega)]
  unfold MeetIs at hv
  rw [e1, e2, e3, e4, e5] at hv
  have hk2 := okS_t ho2
  have hne : (aA == bA) = false := by simp; omega
  generalize hL : aL - moreN (bA - aA) = xL at *
  generalize hH : aH + moreN (bA - aA) = xH at *
  have hgr := fun w => grown ho (show aA ≤ bA by omega) (by omega) w
  rw [hL, hH] at hgr
  have GA := Lib.hid hgr
  have H1 := Lib.hid ho
  have H2 := Lib.hid ho2
  clear e1 e2 e3 e4 e5 hL hH hgr hk2
  rcases hv with ⟨hb, _⟩ | ⟨_, _, ⟨hb, rfl, rfl, rfl, rfl⟩ | ⟨h3, h4, lo, hi, l1, l2, l3, l4, l5, l6, hc⟩⟩
  · rw [ho, ho2] at hb; cases hb
  · have h3 : okS xL xH bA = false := by simpa [ho2] using hb
    have H3 := Lib.hid h3
    clear hb h3 ho ho2
    have t_w := Below.refl w.heap.size w
    go_enter Try.func14, Try.ntmps14
    go_wp2_with fail
    go_region
    · go_wp2_with fail
      refine (svalid H1.out _).mono ?_
      rintro e w1 ⟨rfl, g_w1⟩
      have s_w1 : Below w.heap.size w w1 := chain (by go_grown) g_w1
      have t_w1 := chain t_w s_w1
      have p0 : w1.cell? ⟨w.heap.size, 0, none⟩ = some (.int .i64 aL) := ((bcell g_w1).1 _ _ (by simp; try omega)).trans (by simp [go_sem])
      have p1 : w1.cell? ⟨w.heap.size, 1, none⟩ = some (.int .i64 aH) := ((bcell g_w1).1 _ _ (by simp; try omega)).trans (by simp [go_sem])
      have p2 : w1.cell? ⟨w.heap.size, 2, none⟩ = some (.int .i64 aA) := ((bcell g_w1).1 _ _ (by simp; try omega)).trans (by simp [go_sem])
      have z_p_w1 := lt_of p0
      have q0 : w1.cell? ⟨w.heap.size + 1, 0, none⟩ = some (.int .i64 bL) := ((bcell g_w1).1 _ _ (by simp; try omega)).trans (by simp [go_sem])
      have q1 : w1.cell? ⟨w.heap.size + 1, 1, none⟩ = some (.int .i64 bH) := ((bcell g_w1).1 _ _ (by simp; try omega)).trans (by simp [go_sem])
      have q2 : w1.cell? ⟨w.heap.size + 1, 2, none⟩ = some (.int .i64 bA) := ((bcell g_w1).1 _ _ (by simp; try omega)).trans (by simp [go_sem])
      have z_q_w1 := lt_of q0
      have r0 : w1.cell? ⟨w.heap.size + 2, 0, none⟩ = some (.int .i64 0) := ((bcell g_w1).1 _ _ (by simp; try omega)).trans (by simp [go_sem])
      have r1 : w1.cell? ⟨w.heap.size + 2, 1, none⟩ = some (.int .i64 0) := ((bcell g_w1).1 _ _ (by simp; try omega)).trans (by simp [go_sem])
      have r2 : w1.cell? ⟨w.heap.size + 2, 2, none⟩ = some (.int .i64 0) := ((bcell g_w1).1 _ _ (by simp; try omega)).trans (by simp [go_sem])
      have z_r_w1 := lt_of r0
      have rf : ∀ i, w1.frozen? ⟨w.heap.size + 2, i, none⟩ = false := fun i => ((bcell g_w1).2 _ _ (by simp; try omega)).trans (by simp [go_sem])
      have m0 : w1.cell? ⟨w.heap.size + 3, 0, none⟩ = some (.int .i64 aL) := ((bcell g_w1).1 _ _ (by simp; try omega)).trans (by simp [go_sem])
      have m1 : w1.cell? ⟨w.heap.size + 3, 1, none⟩ = some (.int .i64 aH) := ((bcell g_w1).1 _ _ (by simp; try omega)).trans (by simp [go_sem])
      have m2 : w1.cell? ⟨w.heap.size + 3, 2, none⟩ = some (.int .i64 aA) := ((bcell g_w1).1 _ _ (by simp; try omega)).trans (by simp [go_sem])
      have z_m_w1 := lt_of m0
      have mf : ∀ i, w1.frozen? ⟨w.heap.size + 3, i, none⟩ = false := fun i => ((bcell g_w1).2 _ _ (by simp; try omega)).trans (by simp [go_sem])
      have n0 : w1.cell? ⟨w.heap.size + 4, 0, none⟩ = some (.int .i64 bL) := ((bcell g_w1).1 _ _ (by simp; try omega)).trans (by simp [go_sem])
      have n1 : w1.cell? ⟨w.heap.size + 4, 1, none⟩ = some (.int .i64 bH) := ((bcell g_w1).1 _ _ (by simp; try omega)).trans (by simp [go_sem])
      have n2 : w1.cell? ⟨w.heap.size + 4, 2, none⟩ = some (.int .i64 bA) := ((bcell g_w1).1 _ _ (by simp; try omega)).trans (by simp [go_sem])
      have z_n_w1 := lt_of n0
      have nf : ∀ i, w1.frozen? ⟨w.heap.size + 4, i, none⟩ = false := fun i => ((bcell g_w1).2 _ _ (by simp; try omega)).trans (by simp [go_sem])
      clear g_w1 s_w1 t_w
      go_wp2_with fail
      refine (svalid H2.out _).mono ?_
      rintro e w2 ⟨rfl, g_w2⟩
      have s_w2 : Below w1.heap.size w1 w2 := chain (by go_grown) g_w2
      have t_w2 := chain t_w1 s_w2
      replace rf := fkeep2 rf (lt_of r0) s_w2
      replace mf := fkeep2 mf (lt_of m0) s_w2
      replace nf := fkeep2 nf (lt_of n0) s_w2
      replace p0 := keep p0 s_w2
      have z_p0_w2 := lt_of p0
      replace p1 := keep p1 s_w2
      replace p2 := keep p2 s_w2
      replace q0 := keep q0 s_w2
      have z_q0_w2 := lt_of q0
      replace q1 := keep q1 s_w2
      replace q2 := keep q2 s_w2
      replace r0 := keep r0 s_w2
      have z_r0_w2 := lt_of r0
      replace r1 := keep r1 s_w2
      replace r2 := keep r2 s_w2
      replace m0 := keep m0 s_w2
      have z_m0_w2 := lt_of m0
      replace m1 := keep m1 s_w2
      replace m2 := keep m2 s_w2
      replace n0 := keep n0 s_w2
      have z_n0_w2 := lt_of n0
      replace n1 := keep n1 s_w2
      replace n2 := keep n2 s_w2
      clear g_w2 s_w2 z_p_w1 z_q_w1 z_r_w1 z_m_w1 z_n_w1 t_w1
      go_wp2_with fail
      refine (GA.out _).mono ?_
      rintro e w3 ⟨rfl, g_w3⟩
      have s_w3 : Below w2.heap.size w2 w3 := chain (by go_grown) g_w3
      have t_w3 := chain t_w2 s_w3
      replace rf := fkeep2 rf (lt_of r0) s_w3
      replace mf := fkeep2 mf (lt_of m0) s_w3
      replace nf := fkeep2 nf (lt_of n0) s_w3
      replace p0 := keep p0 s_w3
      have z_p0_w3 := lt_of p0
      replace p1 := keep p1 s_w3
      replace p2 := keep p2 s_w3
      replace q0 := keep q0 s_w3
      have z_q0_w3 := lt_of q0
      replace q1 := keep q1 s_w3
      replace q2 := keep q2 s_w3
      replace r0 := keep r0 s_w3
      have z_r0_w3 := lt_of r0
      replace r1 := keep r1 s_w3
      replace r2 := keep r2 s_w3
      replace m0 := keep m0 s_w3
      have z_m0_w3 := lt_of m0
      replace m1 := keep m1 s_w3
      replace m2 := keep m2 s_w3
      replace n0 := keep n0 s_w3
      have z_n0_w3 := lt_of n0
      replace n1 := keep n1 s_w3
      replace n2 := keep n2 s_w3
      clear g_w3 s_w3 z_p0_w2 z_q0_w2 z_r0_w2 z_m0_w2 z_n0_w2 t_w2
      go_wp2_with fail
      have p0n : (((w3.setCell ⟨w.heap.size + 3, 0, none⟩ (.int .i64 xL)).setCell ⟨w.heap.size + 3, 1, none⟩ (.int .i64 xH)).setCell ⟨w.heap.size + 3, 2, none⟩ (.int .i64 bA)).cell? _ = _ := (cset_ne (c := w.heap.size + 3) (cset_ne (c := w.heap.size + 3) (cset_ne (c := w.heap.size + 3) p0 (by omega) 0 (.int .i64 xL)) (by omega) 1 (.int .i64 xH)) (by omega) 2 (.int .i64 bA)); clear p0; have p0 := p0n; clear p0n
      have p1n : (((w3.setCell ⟨w.heap.size + 3, 0, none⟩ (.int .i64 xL)).setCell ⟨w.heap.size + 3, 1, none⟩ (.int .i64 xH)).setCell ⟨w.heap.size + 3, 2, none⟩ (.int .i64 bA)).cell? _ = _ := (cset_ne (c := w.heap.size + 3) (cset_ne (c := w.heap.size + 3) (cset_ne (c := w.heap.size + 3) p1 (by omega) 0 (.int .i64 xL)) (by omega) 1 (.int .i64 xH)) (by omega) 2 (.int .i64 bA)); clear p1; have p1 := p1n; clear p1n
      have p2n : (((w3.setCell ⟨w.heap.size + 3, 0, none⟩ (.int .i64 xL)).setCell ⟨w.heap.size + 3, 1, none⟩ (.int .i64 xH)).setCell ⟨w.heap.size + 3, 2, none⟩ (.int .i64 bA)).cell? _ = _ := (cset_ne (c := w.heap.size + 3) (cset_ne (c := w.heap.size + 3) (cset_ne (c := w.heap.size + 3) p2 (by omega) 0 (.int .i64 xL)) (by omega) 1 (.int .i64 xH)) (by omega) 2 (.int .i64 bA)); clear p2; have p2 := p2n; clear p2n
      have q0n : (((w3.setCell ⟨w.heap.size + 3, 0, none⟩ (.int .i64 xL)).setCell ⟨w.heap.size + 3, 1, none⟩ (.int .i64 xH)).setCell ⟨w.heap.size + 3, 2, none⟩ (.int .i64 bA)).cell? _ = _ := (cset_ne (c := w.heap.size + 3) (cset_ne (c := w.heap.size + 3) (cset_ne (c := w.heap.size + 3) q0 (by omega) 0 (.int .i64 xL)) (by omega) 1 (.int .i64 xH)) (by omega) 2 (.int .i64 bA)); clear q0; have q0 := q0n; clear q0n
      have q1n : (((w3.setCell ⟨w.heap.size + 3, 0, none⟩ (.int .i64 xL)).setCell ⟨w.heap.size + 3, 1, none⟩ (.int .i64 xH)).setCell ⟨w.heap.size + 3, 2, none⟩ (.int .i64 bA)).cell? _ = _ := (cset_ne (c := w.heap.size + 3) (cset_ne (c := w.heap.size + 3) (cset_ne (c := w.heap.size + 3) q1 (by omega) 0 (.int .i64 xL)) (by omega) 1 (.int .i64 xH)) (by omega) 2 (.int .i64 bA)); clear q1; have q1 := q1n; clear q1n
      have q2n : (((w3.setCell ⟨w.heap.size + 3, 0, none⟩ (.int .i64 xL)).setCell ⟨w.heap.size + 3, 1, none⟩ (.int .i64 xH)).setCell ⟨w.heap.size + 3, 2, none⟩ (.int .i64 bA)).cell? _ = _ := (cset_ne (c := w.heap.size + 3) (cset_ne (c := w.heap.size + 3) (cset_ne (c := w.heap.size + 3) q2 (by omega) 0 (.int .i64 xL)) (by omega) 1 (.int .i64 xH)) (by omega) 2 (.int .i64 bA)); clear q2; have q2 := q2n; clear q2n
      replace rf : ∀ i, (((w3.setCell ⟨w.heap.size + 3, 0, none⟩ (.int .i64 xL)).setCell ⟨w.heap.size + 3, 1, none⟩ (.int .i64 xH)).setCell ⟨w.heap.size + 3, 2, none⟩ (.int .i64 bA)).frozen? ⟨w.heap.size + 2, i, none⟩ = false := fun i => by simp only [World.frozen?_setCell]; exact rf i
      have r0n : (((w3.setCell ⟨w.heap.size + 3, 0, none⟩ (.int .i64 xL)).setCell ⟨w.heap.size + 3, 1, none⟩ (.int .i64 xH)).setCell ⟨w.heap.size + 3, 2, none⟩ (.int .i64 bA)).cell? _ = _ := (cset_ne (c := w.heap.size + 3) (cset_ne (c := w.heap.size + 3) (cset_ne (c := w.heap.size + 3) r0 (by omega) 0 (.int .i64 xL)) (by omega) 1 (.int .i64 xH)) (by omega) 2 (.int .i64 bA)); clear r0; have r0 := r0n; clear r0n
      have r1n : (((w3.setCell ⟨w.heap.size + 3, 0, none⟩ (.int .i64 xL)).setCell ⟨w.heap.size + 3, 1, none⟩ (.int .i64 xH)).setCell ⟨w.heap.size + 3, 2, none⟩ (.int .i64 bA)).cell? _ = _ := (cset_ne (c := w.heap.size + 3) (cset_ne (c := w.heap.size + 3) (cset_ne (c := w.heap.size + 3) r1 (by omega) 0 (.int .i64 xL)) (by omega) 1 (.int .i64 xH)) (by omega) 2 (.int .i64 bA)); clear r1; have r1 := r1n; clear r1n
      have r2n : (((w3.setCell ⟨w.heap.size + 3, 0, none⟩ (.int .i64 xL)).setCell ⟨w.heap.size + 3, 1, none⟩ (.int .i64 xH)).setCell ⟨w.heap.size + 3, 2, none⟩ (.int .i64 bA)).cell? _ = _ := (cset_ne (c := w.heap.size + 3) (cset_ne (c := w.heap.size + 3) (cset_ne (c := w.heap.size + 3) r2 (by omega) 0 (.int .i64 xL)) (by omega) 1 (.int .i64 xH)) (by omega) 2 (.int .i64 bA)); clear r2; have r2 := r2n; clear r2n
      replace mf : ∀ i, (((w3.setCell ⟨w.heap.size + 3, 0, none⟩ (.int .i64 xL)).setCell ⟨w.heap.size + 3, 1, none⟩ (.int .i64 xH)).setCell ⟨w.heap.size + 3, 2, none⟩ (.int .i64 bA)).frozen? ⟨w.heap.size + 3, i, none⟩ = false := fun i => by simp only [World.frozen?_setCell]; exact mf i
      replace nf : ∀ i, (((w3.setCell ⟨w.heap.size + 3, 0, none⟩ (.int .i64 xL)).setCell ⟨w.heap.size + 3, 1, none⟩ (.int .i64 xH)).setCell ⟨w.heap.size + 3, 2, none⟩ (.int .i64 bA)).frozen? ⟨w.heap.size + 4, i, none⟩ = false := fun i => by simp only [World.frozen?_setCell]; exact nf i
      have n0n : (((w3.setCell ⟨w.heap.size + 3, 0, none⟩ (.int .i64 xL)).setCell ⟨w.heap.size + 3, 1, none⟩ (.int .i64 xH)).setCell ⟨w.heap.size + 3, 2, none⟩ (.int .i64 bA)).cell? _ = _ := (cset_ne (c := w.heap.size + 3) (cset_ne (c := w.heap.size + 3) (cset_ne (c := w.heap.size + 3) n0 (by omega) 0 (.int .i64 xL)) (by omega) 1 (.int .i64 xH)) (by omega) 2 (.int .i64 bA)); clear n0; have n0 := n0n; clear n0n
      have n1n : (((w3.setCell ⟨w.heap.size + 3, 0, none⟩ (.int .i64 xL)).setCell ⟨w.heap.size + 3, 1, none⟩ (.int .i64 xH)).setCell ⟨w.heap.size + 3, 2, none⟩ (.int .i64 bA)).cell? _ = _ := (cset_ne (c := w.heap.size + 3) (cset_ne (c := w.heap.size + 3) (cset_ne (c := w.heap.size + 3) n1 (by omega) 0 (.int .i64 xL)) (by omega) 1 (.int .i64 xH)) (by omega) 2 (.int .i64 bA)); clear n1; have n1 := n1n; clear n1n
      have n2n : (((w3.setCell ⟨w.heap.size + 3, 0, none⟩ (.int .i64 xL)).setCell ⟨w.heap.size + 3, 1, none⟩ (.int .i64 xH)).setCell ⟨w.heap.size + 3, 2, none⟩ (.int .i64 bA)).cell? _ = _ := (cset_ne (c := w.heap.size + 3) (cset_ne (c := w.heap.size + 3) (cset_ne (c := w.heap.size + 3) n2 (by omega) 0 (.int .i64 xL)) (by omega) 1 (.int .i64 xH)) (by omega) 2 (.int .i64 bA)); clear n2; have n2 := n2n; clear n2n
      have m0n : (((w3.setCell ⟨w.heap.size + 3, 0, none⟩ (.int .i64 xL)).setCell ⟨w.heap.size + 3, 1, none⟩ (.int .i64 xH)).setCell ⟨w.heap.size + 3, 2, none⟩ (.int .i64 bA)).cell? ⟨w.heap.size + 3, 0, none⟩ = some (.int .i64 xL) := (cset_off (cset_off (cset_eq m0 (.int .i64 xL)) (by decide) _) (by decide) _)
      have m1n : (((w3.setCell ⟨w.heap.size + 3, 0, none⟩ (.int .i64 xL)).setCell ⟨w.heap.size + 3, 1, none⟩ (.int .i64 xH)).setCell ⟨w.heap.size + 3, 2, none⟩ (.int .i64 bA)).cell? ⟨w.heap.size + 3, 1, none⟩ = some (.int .i64 xH) := (cset_off (cset_eq (cset_off m1 (by decide) _) (.int .i64 xH)) (by decide) _)
      have m2n : (((w3.setCell ⟨w.heap.size + 3, 0, none⟩ (.int .i64 xL)).setCell ⟨w.heap.size + 3, 1, none⟩ (.int .i64 xH)).setCell ⟨w.heap.size + 3, 2, none⟩ (.int .i64 bA)).cell? ⟨w.heap.size + 3, 2, none⟩ = some (.int .i64 bA) := (cset_eq (cset_off (cset_off m2 (by decide) _) (by decide) _) (.int .i64 bA))
      have t_W_1 : Below w.heap.size w (((w3.setCell ⟨w.heap.size + 3, 0, none⟩ (.int .i64 xL)).setCell ⟨w.heap.size + 3, 1, none⟩ (.int .i64 xH)).setCell ⟨w.heap.size + 3, 2, none⟩ (.int .i64 bA)) := by go_grown
      clear m0 m1 m2 t_w3
      have m0 := m0n; clear m0n
      have m1 := m1n; clear m1n
      have m2 := m2n; clear m2n
      generalize ((w3.setCell ⟨w.heap.size + 3, 0, none⟩ (.int .i64 xL)).setCell ⟨w.heap.size + 3, 1, none⟩ (.int .i64 xH)).setCell ⟨w.heap.size + 3, 2, none⟩ (.int .i64 bA) = W_1 at *
      refine (svalid H3.out _).mono ?_
      rintro e w4 ⟨rfl, g_w4⟩
      have s_w4 : Below W_1.heap.size W_1 w4 := chain (by go_grown) g_w4
      have t_w4 := chain t_W_1 s_w4
      replace rf := fkeep2 rf (lt_of r0) s_w4
      replace mf := fkeep2 mf (lt_of m0) s_w4
      replace nf := fkeep2 nf (lt_of n0) s_w4
      replace p0 := keep p0 s_w4
      have z_p0_w4 := lt_of p0
      replace p1 := keep p1 s_w4
      replace p2 := keep p2 s_w4
      replace q0 := keep q0 s_w4
      have z_q0_w4 := lt_of q0
      replace q1 := keep q1 s_w4
      replace q2 := keep q2 s_w4
      replace r0 := keep r0 s_w4
      have z_r0_w4 := lt_of r0
      replace r1 := keep r1 s_w4
      replace r2 := keep r2 s_w4
      replace m0 := keep m0 s_w4
      have z_m0_w4 := lt_of m0
      replace m1 := keep m1 s_w4
      replace m2 := keep m2 s_w4
      replace n0 := keep n0 s_w4
      have z_n0_w4 := lt_of n0
      replace n1 := keep n1 s_w4
      replace n2 := keep n2 s_w4
      clear g_w4 s_w4 z_p0_w3 z_q0_w3 z_r0_w3 z_m0_w3 z_n0_w3 t_W_1
      go_wp2_with fail
      refine bodyPost_ret (v := .tuple #[.agg #[.int .i64 0, .int .i64 0, .int .i64 0], .int .i64 3]) (by simp [results, Try.results14, go_sem, *]) rfl ⟨rfl, by first | exact t_w4 | go_grown⟩
    · go_wp2_with fail
      refine (svalid H1.out _).mono ?_
      rintro e w1 ⟨rfl, g_w1⟩
      have s_w1 : Below w.heap.size w w1 := chain (by go_grown) g_w1
      have t_w1 := chain t_w s_w1
      have p0 : w1.cell? ⟨w.heap.size, 0, none⟩ = some (.int .i64 aL) := ((bcell g_w1).1 _ _ (by simp; try omega)).trans (by simp [go_sem])
      have p1 : w1.cell? ⟨w.heap.size, 1, none⟩ = some (.int .i64 aH) := ((bcell g_w1).1 _ _ (by simp; try omega)).trans (by simp [go_sem])
      have p2 : w1.cell? ⟨w.heap.size, 2, none⟩ = some (.int .i64 aA) := ((bcell g_w1).1 _ _ (by simp; try omega)).trans (by simp [go_sem])
      have z_p_w1 := lt_of p0
      have q0 : w1.cell? ⟨w.heap.size + 1, 0, none⟩ = some (.int .i64 bL) := ((bcell g_w1).1 _ _ (by simp; try omega)).trans (by simp [go_sem])
      have q1 : w1.cell? ⟨w.heap.size + 1, 1, none⟩ = some (.int .i64 bH) := ((bcell g_w1).1 _ _ (by simp; try omega)).trans (by simp [go_sem])
      have q2 : w1.cell? ⟨w.heap.size + 1, 2, none⟩ = some (.int .i64 bA) := ((bcell g_w1).1 _ _ (by simp; try omega)).trans (by simp [go_sem])
      have z_q_w1 := lt_of q0
      have r0 : w1.cell? ⟨w.heap.size + 2, 0, none⟩ = some (.int .i64 0) := ((bcell g_w1).1 _ _ (by simp; try omega)).trans (by simp [go_sem])
      have r1 : w1.cell? ⟨w.heap.size + 2, 1, none⟩ = some (.int .i64 0) := ((bcell g_w1).1 _ _ (by simp; try omega)).trans (by simp [go_sem])
      have r2 : w1.cell? ⟨w.heap.size + 2, 2, none⟩ = some (.int .i64 0) := ((bcell g_w1).1 _ _ (by simp; try omega)).trans (by simp [go_sem])
      have z_r_w1 := lt_of r0
      have rf : ∀ i, w1.frozen? ⟨w.heap.size + 2, i, none⟩ = false := fun i => ((bcell g_w1).2 _ _ (by simp; try omega)).trans (by simp [go_sem])
      have n0 : w1.cell? ⟨w.heap.size + 3, 0, none⟩ = some (.int .i64 bL) := ((bcell g_w1).1 _ _ (by simp; try omega)).trans (by simp [go_sem])
      have n1 : w1.cell? ⟨w.heap.size + 3, 1, none⟩ = some (.int .i64 bH) := ((bcell g_w1).1 _ _ (by simp; try omega)).trans (by simp [go_sem])
      have n2 : w1.cell? ⟨w.heap.size + 3, 2, none⟩ = some (.int .i64 bA) := ((bcell g_w1).1 _ _ (by simp; try omega)).trans (by simp [go_sem])
      have z_n_w1 := lt_of n0
      have nf : ∀ i, w1.frozen? ⟨w.heap.size + 3, i, none⟩ = false := fun i => ((bcell g_w1).2 _ _ (by simp; try omega)).trans (by simp [go_sem])
      have m0 : w1.cell? ⟨w.heap.size + 4, 0, none⟩ = some (.int .i64 aL) := ((bcell g_w1).1 _ _ (by simp; try omega)).trans (by simp [go_sem])
      have m1 : w1.cell? ⟨w.heap.size + 4, 1, none⟩ = some (.int .i64 aH) := ((bcell g_w1).1 _ _ (by simp; try omega)).trans (by simp [go_sem])
      have m2 : w1.cell? ⟨w.heap.size + 4, 2, none⟩ = some (.int .i64 aA) := ((bcell g_w1).1 _ _ (by simp; try omega)).trans (by simp [go_sem])
      have z_m_w1 := lt_of m0
      have mf : ∀ i, w1.frozen? ⟨w.heap.size + 4, i, none⟩ = false := fun i => ((bcell g_w1).2 _ _ (by simp; try omega)).trans (by simp [go_sem])
      clear g_w1 s_w1 t_w
      go_wp2_with fail
      refine (svalid H2.out _).mono ?_
      rintro e w2 ⟨rfl, g_w2⟩
      have s_w2 : Below w1.heap.size w1 w2 := chain (by go_grown) g_w2
      have t_w2 := chain t_w1 s_w2
      replace rf := fkeep2 rf (lt_of r0) s_w2
      replace nf := fkeep2 nf (lt_of n0) s_w2
      replace mf := fkeep2 mf (lt_of m0) s_w2
      replace p0 := keep p0 s_w2
      have z_p0_w2 := lt_of p0
      replace p1 := keep p1 s_w2
      replace p2 := keep p2 s_w2
      replace q0 := keep q0 s_w2
      have z_q0_w2 := lt_of q0
      replace q1 := keep q1 s_w2
      replace q2 := keep q2 s_w2
      replace r0 := keep r0 s_w2
      have z_r0_w2 := lt_of r0
      replace r1 := keep r1 s_w2
      replace r2 := keep r2 s_w2
      replace n0 := keep n0 s_w2
      have z_n0_w2 := lt_of n0
      replace n1 := keep n1 s_w2
      replace n2 := keep n2 s_w2
      replace m0 := keep m0 s_w2
      have z_m0_w2 := lt_of m0
      replace m1 := keep m1 s_w2
      replace m2 := keep m2 s_w2
      clear g_w2 s_w2 z_p_w1 z_q_w1 z_r_w1 z_n_w1 z_m_w1 t_w1
      go_wp2_with fail
      refine (GA.out _).mono ?_
      rintro e w3 ⟨rfl, g_w3⟩
      have s_w3 : Below w2.heap.size w2 w3 := chain (by go_grown) g_w3
      have t_w3 := chain t_w2 s_w3
      replace rf := fkeep2 rf (lt_of r0) s_w3
      replace nf := fkeep2 nf (lt_of n0) s_w3
      replace mf := fkeep2 mf (lt_of m0) s_w3
      replace p0 := keep p0 s_w3
      have z_p0_w3 := lt_of p0
      replace p1 := keep p1 s_w3
      replace p2 := keep p2 s_w3
      replace q0 := keep q0 s_w3
      have z_q0_w3 := lt_of q0
      replace q1 := keep q1 s_w3
      replace q2 := keep q2 s_w3
      replace r0 := keep r0 s_w3
      have z_r0_w3 := lt_of r0
      replace r1 := keep r1 s_w3
      replace r2 := keep r2 s_w3
      replace n0 := keep n0 s_w3
      have z_n0_w3 := lt_of n0
      replace n1 := keep n1 s_w3
      replace n2 := keep n2 s_w3
      replace m0 := keep m0 s_w3
      have z_m0_w3 := lt_of m0
      replace m1 := keep m1 s_w3
      replace m2 := keep m2 s_w3
      clear g_w3 s_w3 z_p0_w2 z_q0_w2 z_r0_w2 z_n0_w2 z_m0_w2 t_w2
      go_wp2_with fail
      have p0n : (((w3.setCell ⟨w.heap.size + 4, 0, none⟩ (.int .i64 xL)).setCell ⟨w.heap.size + 4, 1, none⟩ (.int .i64 xH)).setCell ⟨w.heap.size + 4, 2, none⟩ (.int .i64 bA)).cell? _ = _ := (cset_ne (c := w.heap.size + 4) (cset_ne (c := w.heap.size + 4) (cset_ne (c := w.heap.size + 4) p0 (by omega) 0 (.int .i64 xL)) (by omega) 1 (.int .i64 xH)) (by omega) 2 (.int .i64 bA)); clear p0; have p0 := p0n; clear p0n
      have p1n : (((w3.setCell ⟨w.heap.size + 4, 0, none⟩ (.int .i64 xL)).setCell ⟨w.heap.size + 4, 1, none⟩ (.int .i64 xH)).setCell ⟨w.heap.size + 4, 2, none⟩ (.int .i64 bA)).cell? _ = _ := (cset_ne (c := w.heap.size + 4) (cset_ne (c := w.heap.size + 4) (cset_ne (c := w.heap.size + 4) p1 (by omega) 0 (.int .i64 xL)) (by omega) 1 (.int .i64 xH)) (by omega) 2 (.int .i64 bA)); clear p1; have p1 := p1n; clear p1n
      have p2n : (((w3.setCell ⟨w.heap.size + 4, 0, none⟩ (.int .i64 xL)).setCell ⟨w.heap.size + 4, 1, none⟩ (.int .i64 xH)).setCell ⟨w.heap.size + 4, 2, none⟩ (.int .i64 bA)).cell? _ = _ := (cset_ne (c := w.heap.size + 4) (cset_ne (c := w.heap.size + 4) (cset_ne (c := w.heap.size + 4) p2 (by omega) 0 (.int .i64 xL)) (by omega) 1 (.int .i64 xH)) (by omega) 2 (.int .i64 bA)); clear p2; have p2 := p2n; clear p2n
      have q0n : (((w3.setCell ⟨w.heap.size + 4, 0, none⟩ (.int .i64 xL)).setCell ⟨w.heap.size + 4, 1, none⟩ (.int .i64 xH)).setCell ⟨w.heap.size + 4, 2, none⟩ (.int .i64 bA)).cell? _ = _ := (cset_ne (c := w.heap.size + 4) (cset_ne (c := w.heap.size + 4) (cset_ne (c := w.heap.size + 4) q0 (by omega) 0 (.int .i64 xL)) (by omega) 1 (.int .i64 xH)) (by omega) 2 (.int .i64 bA)); clear q0; have q0 := q0n; clear q0n
      have q1n : (((w3.setCell ⟨w.heap.size + 4, 0, none⟩ (.int .i64 xL)).setCell ⟨w.heap.size + 4, 1, none⟩ (.int .i64 xH)).setCell ⟨w.heap.size + 4, 2, none⟩ (.int .i64 bA)).cell? _ = _ := (cset_ne (c := w.heap.size + 4) (cset_ne (c := w.heap.size + 4) (cset_ne (c := w.heap.size + 4) q1 (by omega) 0 (.int .i64 xL)) (by omega) 1 (.int .i64 xH)) (by omega) 2 (.int .i64 bA)); clear q1; have q1 := q1n; clear q1n
      have q2n : (((w3.setCell ⟨w.heap.size + 4, 0, none⟩ (.int .i64 xL)).setCell ⟨w.heap.size + 4, 1, none⟩ (.int .i64 xH)).setCell ⟨w.heap.size + 4, 2, none⟩ (.int .i64 bA)).cell? _ = _ := (cset_ne (c := w.heap.size + 4) (cset_ne (c := w.heap.size + 4) (cset_ne (c := w.heap.size + 4) q2 (by omega) 0 (.int .i64 xL)) (by omega) 1 (.int .i64 xH)) (by omega) 2 (.int .i64 bA)); clear q2; have q2 := q2n; clear q2n
      replace rf : ∀ i, (((w3.setCell ⟨w.heap.size + 4, 0, none⟩ (.int .i64 xL)).setCell ⟨w.heap.size + 4, 1, none⟩ (.int .i64 xH)).setCell ⟨w.heap.size + 4, 2, none⟩ (.int .i64 bA)).frozen? ⟨w.heap.size + 2, i, none⟩ = false := fun i => by simp only [World.frozen?_setCell]; exact rf i
      have r0n : (((w3.setCell ⟨w.heap.size + 4, 0, none⟩ (.int .i64 xL)).setCell ⟨w.heap.size + 4, 1, none⟩ (.int .i64 xH)).setCell ⟨w.heap.size + 4, 2, none⟩ (.int .i64 bA)).cell? _ = _ := (cset_ne (c := w.heap.size + 4) (cset_ne (c := w.heap.size + 4) (cset_ne (c := w.heap.size + 4) r0 (by omega) 0 (.int .i64 xL)) (by omega) 1 (.int .i64 xH)) (by omega) 2 (.int .i64 bA)); clear r0; have r0 := r0n; clear r0n
      have r1n : (((w3.setCell ⟨w.heap.size + 4, 0, none⟩ (.int .i64 xL)).setCell ⟨w.heap.size + 4, 1, none⟩ (.int .i64 xH)).setCell ⟨w.heap.size + 4, 2, none⟩ (.int .i64 bA)).cell? _ = _ := (cset_ne (c := w.heap.size + 4) (cset_ne (c := w.heap.size + 4) (cset_ne (c := w.heap.size + 4) r1 (by omega) 0 (.int .i64 xL)) (by omega) 1 (.int .i64 xH)) (by omega) 2 (.int .i64 bA)); clear r1; have r1 := r1n; clear r1n
      have r2n : (((w3.setCell ⟨w.heap.size + 4, 0, none⟩ (.int .i64 xL)).setCell ⟨w.heap.size + 4, 1, none⟩ (.int .i64 xH)).setCell ⟨w.heap.size + 4, 2, none⟩ (.int .i64 bA)).cell? _ = _ := (cset_ne (c := w.heap.size + 4) (cset_ne (c := w.heap.size + 4) (cset_ne (c := w.heap.size + 4) r2 (by omega) 0 (.int .i64 xL)) (by omega) 1 (.int .i64 xH)) (by omega) 2 (.int .i64 bA)); clear r2; have r2 := r2n; clear r2n
      replace nf : ∀ i, (((w3.setCell ⟨w.heap.size + 4, 0, none⟩ (.int .i64 xL)).setCell ⟨w.heap.size + 4, 1, none⟩ (.int .i64 xH)).setCell ⟨w.heap.size + 4, 2, none⟩ (.int .i64 bA)).frozen? ⟨w.heap.size + 3, i, none⟩ = false := fun i => by simp only [World.frozen?_setCell]; exact nf i
      have n0n : (((w3.setCell ⟨w.heap.size + 4, 0, none⟩ (.int .i64 xL)).setCell ⟨w.heap.size + 4, 1, none⟩ (.int .i64 xH)).setCell ⟨w.heap.size + 4, 2, none⟩ (.int .i64 bA)).cell? _ = _ := (cset_ne (c := w.heap.size + 4) (cset_ne (c := w.heap.size + 4) (cset_ne (c := w.heap.size + 4) n0 (by omega) 0 (.int .i64 xL)) (by omega) 1 (.int .i64 xH)) (by omega) 2 (.int .i64 bA)); clear n0; have n0 := n0n; clear n0n
      have n1n : (((w3.setCell ⟨w.heap.size + 4, 0, none⟩ (.int .i64 xL)).setCell ⟨w.heap.size + 4, 1, none⟩ (.int .i64 xH)).setCell ⟨w.heap.size + 4, 2, none⟩ (.int .i64 bA)).cell? _ = _ := (cset_ne (c := w.heap.size + 4) (cset_ne (c := w.heap.size + 4) (cset_ne (c := w.heap.size + 4) n1 (by omega) 0 (.int .i64 xL)) (by omega) 1 (.int .i64 xH)) (by omega) 2 (.int .i64 bA)); clear n1; have n1 := n1n; clear n1n
      have n2n : (((w3.setCell ⟨w.heap.size + 4, 0, none⟩ (.int .i64 xL)).setCell ⟨w.heap.size + 4, 1, none⟩ (.int .i64 xH)).setCell ⟨w.heap.size + 4, 2, none⟩ (.int .i64 bA)).cell? _ = _ := (cset_ne (c := w.heap.size + 4) (cset_ne (c := w.heap.size + 4) (cset_ne (c := w.heap.size + 4) n2 (by omega) 0 (.int .i64 xL)) (by omega) 1 (.int .i64 xH)) (by omega) 2 (.int .i64 bA)); clear n2; have n2 := n2n; clear n2n
      replace mf : ∀ i, (((w3.setCell ⟨w.heap.size + 4, 0, none⟩ (.int .i64 xL)).setCell ⟨w.heap.size + 4, 1, none⟩ (.int .i64 xH)).setCell ⟨w.heap.size + 4, 2, none⟩ (.int .i64 bA)).frozen? ⟨w.heap.size + 4, i, none⟩ = false := fun i => by simp only [World.frozen?_setCell]; exact mf i
      have m0n : (((w3.setCell ⟨w.heap.size + 4, 0, none⟩ (.int .i64 xL)).setCell ⟨w.heap.size + 4, 1, none⟩ (.int .i64 xH)).setCell ⟨w.heap.size + 4, 2, none⟩ (.int .i64 bA)).cell? ⟨w.heap.size + 4, 0, none⟩ = some (.int .i64 xL) := (cset_off (cset_off (cset_eq m0 (.int .i64 xL)) (by decide) _) (by decide) _)
      have m1n : (((w3.setCell ⟨w.heap.size + 4, 0, none⟩ (.int .i64 xL)).setCell ⟨w.heap.size + 4, 1, none⟩ (.int .i64 xH)).setCell ⟨w.heap.size + 4, 2, none⟩ (.int .i64 bA)).cell? ⟨w.heap.size + 4, 1, none⟩ = some (.int .i64 xH) := (cset_off (cset_eq (cset_off m1 (by decide) _) (.int .i64 xH)) (by decide) _)
      have m2n : (((w3.setCell ⟨w.heap.size + 4, 0, none⟩ (.int .i64 xL)).setCell ⟨w.heap.size + 4, 1, none⟩ (.int .i64 xH)).setCell ⟨w.heap.size + 4, 2, none⟩ (.int .i64 bA)).cell? ⟨w.heap.size + 4, 2, none⟩ = some (.int .i64 bA) := (cset_eq (cset_off (cset_off m2 (by decide) _) (by decide) _) (.int .i64 bA))
      have t_W_1 : Below w.heap.size w (((w3.setCell ⟨w.heap.size + 4, 0, none⟩ (.int .i64 xL)).setCell ⟨w.heap.size + 4, 1, none⟩ (.int .i64 xH)).setCell ⟨w.heap.size + 4, 2, none⟩ (.int .i64 bA)) := by go_grown
      clear m0 m1 m2 t_w3
      have m0 := m0n; clear m0n
      have m1 := m1n; clear m1n
      have m2 := m2n; clear m2n
      generalize ((w3.setCell ⟨w.heap.size + 4, 0, none⟩ (.int .i64 xL)).setCell ⟨w.heap.size + 4, 1, none⟩ (.int .i64 xH)).setCell ⟨w.heap.size + 4, 2, none⟩ (.int .i64 bA) = W_1 at *
      refine (svalid H3.out _).mono ?_
      rintro e w4 ⟨rfl, g_w4⟩
      have s_w4 : Below W_1.heap.size W_1 w4 := chain (by go_grown) g_w4
      have t_w4 := chain t_W_1 s_w4
      replace rf := fkeep2 rf (lt_of r0) s_w4
      replace nf := fkeep2 nf (lt_of n0) s_w4
      replace mf := fkeep2 mf (lt_of m0) s_w4
      replace p0 := keep p0 s_w4
      have z_p0_w4 := lt_of p0
      replace p1 := keep p1 s_w4
      replace p2 := keep p2 s_w4
      replace q0 := keep q0 s_w4
      have z_q0_w4 := lt_of q0
      replace q1 := keep q1 s_w4
      replace q2 := keep q2 s_w4
      replace r0 := keep r0 s_w4
      have z_r0_w4 := lt_of r0
      replace r1 := keep r1 s_w4
      replace r2 := keep r2 s_w4
      replace n0 := keep n0 s_w4
      have z_n0_w4 := lt_of n0
      replace n1 := keep n1 s_w4
      replace n2 := keep n2 s_w4
      replace m0 := keep m0 s_w4
      have z_m0_w4 := lt_of m0
      replace m1 := keep m1 s_w4
      replace m2 := keep m2 s_w4
      clear g_w4 s_w4 z_p0_w3 z_q0_w3 z_r0_w3 z_n0_w3 z_m0_w3 t_W_1
      go_wp2_with fail
      refine bodyPost_ret (v := .tuple #[.agg #[.int .i64 0, .int .i64 0, .int .i64 0], .int .i64 3]) (by simp [results, Try.results14, go_sem, *]) rfl ⟨rfl, by first | exact t_w4 | go_grown⟩
  · have H3 := Lib.hid h3
    have hm : (if xL < bL then bL else xL) = lo := by split <;> omega
    have hn : (if bH < xH then bH else xH) = hi := by split <;> omega
    clear h3 h4 ho ho2 l1 l2 l3 l4 l5 l6
    rcases hc with ⟨hgt, rfl, rfl, rfl, rfl⟩ | ⟨hle, hl, hh, hA, rfl⟩
    · have t_w := Below.refl w.heap.size w
      go_enter Try.func14, Try.ntmps14
      go_wp2_with fail
      go_region
      · go_wp2_with fail
        refine (svalid H1.out _).mono ?_
        rintro e w1 ⟨rfl, g_w1⟩
        have s_w1 : Below w.heap.size w w1 := chain (by go_grown) g_w1
        have t_w1 := chain t_w s_w1
        have p0 : w1.cell? ⟨w.heap.size, 0, none⟩ = some (.int .i64 aL) := ((bcell g_w1).1 _ _ (by simp; try omega)).trans (by simp [go_sem])
        have p1 : w1.cell? ⟨w.heap.size, 1, none⟩ = some (.int .i64 aH) := ((bcell g_w1).1 _ _ (by simp; try omega)).trans (by simp [go_sem])
        have p2 : w1.cell? ⟨w.heap.size, 2, none⟩ = some (.int .i64 aA) := ((bcell g_w1).1 _ _ (by simp; try omega)).trans (by simp [go_sem])
        have z_p_w1 := lt_of p0
        have q0 : w1.cell? ⟨w.heap.size + 1, 0, none⟩ = some (.int .i64 bL) := ((bcell g_w1).1 _ _ (by simp; try omega)).trans (by simp [go_sem])
        have q1 : w1.cell? ⟨w.heap.size + 1, 1, none⟩ = some (.int .i64 bH) := ((bcell g_w1).1 _ _ (by simp; try omega)).trans (by simp [go_sem])
        have q2 : w1.cell? ⟨w.heap.size + 1, 2, none⟩ = some (.int .i64 bA) := ((bcell g_w1).1 _ _ (by simp; try omega)).trans (by simp [go_sem])
        have z_q_w1 := lt_of q0
        have r0 : w1.cell? ⟨w.heap.size + 2, 0, none⟩ = some (.int .i64 0) := ((bcell g_w1).1 _ _ (by simp; try omega)).trans (by simp [go_sem])
        have r1 : w1.cell? ⟨w.heap.size + 2, 1, none⟩ = some (.int .i64 0) := ((bcell g_w1).1 _ _ (by simp; try omega)).trans (by simp [go_sem])
        have r2 : w1.cell? ⟨w.heap.size + 2, 2, none⟩ = some (.int .i64 0) := ((bcell g_w1).1 _ _ (by simp; try omega)).trans (by simp [go_sem])
        have z_r_w1 := lt_of r0
        have rf : ∀ i, w1.frozen? ⟨w.heap.size + 2, i, none⟩ = false := fun i => ((bcell g_w1).2 _ _ (by simp; try omega)).trans (by simp [go_sem])
        have m0 : w1.cell? ⟨w.heap.size + 3, 0, none⟩ = some (.int .i64 aL) := ((bcell g_w1).1 _ _ (by simp; try omega)).trans (by simp [go_sem])
        have m1 : w1.cell? ⟨w.heap.size + 3, 1, none⟩ = some (.int .i64 aH) := ((bcell g_w1).1 _ _ (by simp; try omega)).trans (by simp [go_sem])
        have m2 : w1.cell? ⟨w.heap.size + 3, 2, none⟩ = some (.int .i64 aA) := ((bcell g_w1).1 _ _ (by simp; try omega)).trans (by simp [go_sem])
        have z_m_w1 := lt_of m0
        have mf : ∀ i, w1.frozen? ⟨w.heap.size + 3, i, none⟩ = false := fun i => ((bcell g_w1).2 _ _ (by simp; try omega)).trans (by simp [go_sem])
        have n0 : w1.cell? ⟨w.heap.size + 4, 0, none⟩ = some (.int .i64 bL) := ((bcell g_w1).1 _ _ (by simp; try omega)).trans (by simp [go_sem])
        have n1 : w1.cell? ⟨w.heap.size + 4, 1, none⟩ = some (.int .i64 bH) := ((bcell g_w1).1 _ _ (by simp; try omega)).trans (by simp [go_sem])
        have n2 : w1.cell? ⟨w.heap.size + 4, 2, none⟩ = some (.int .i64 bA) := ((bcell g_w1).1 _ _ (by simp; try omega)).trans (by simp [go_sem])
        have z_n_w1 := lt_of n0
        have nf : ∀ i, w1.frozen? ⟨w.heap.size + 4, i, none⟩ = false := fun i => ((bcell g_w1).2 _ _ (by simp; try omega)).trans (by simp [go_sem])
        clear g_w1 s_w1 t_w
        go_wp2_with fail
        refine (svalid H2.out _).mono ?_
        rintro e w2 ⟨rfl, g_w2⟩
        have s_w2 : Below w1.heap.size w1 w2 := chain (by go_grown) g_w2
        have t_w2 := chain t_w1 s_w2
        replace rf := fkeep2 rf (lt_of r0) s_w2
        replace mf := fkeep2 mf (lt_of m0) s_w2
        replace nf := fkeep2 nf (lt_of n0) s_w2
        replace p0 := keep p0 s_w2
        have z_p0_w2 := lt_of p0
        replace p1 := keep p1 s_w2
        replace p2 := keep p2 s_w2
        replace q0 := keep q0 s_w2
        have z_q0_w2 := lt_of q0
        replace q1 := keep q1 s_w2
        replace q2 := keep q2 s_w2
        replace r0 := keep r0 s_w2
        have z_r0_w2 := lt_of r0
        replace r1 := keep r1 s_w2
        replace r2 := keep r2 s_w2
        replace m0 := keep m0 s_w2
        have z_m0_w2 := lt_of m0
        replace m1 := keep m1 s_w2
        replace m2 := keep m2 s_w2
        replace n0 := keep n0 s_w2
        have z_n0_w2 := lt_of n0
        replace n1 := keep n1 s_w2
        replace n2 := keep n2 s_w2
        clear g_w2 s_w2 z_p_w1 z_q_w1 z_r_w1 z_m_w1 z_n_w1 t_w1
        go_wp2_with fail
        refine (GA.out _).mono ?_
        rintro e w3 ⟨rfl, g_w3⟩
        have s_w3 : Below w2.heap.size w2 w3 := chain (by go_grown) g_w3
        have t_w3 := chain t_w2 s_w3
        replace rf := fkeep2 rf (lt_of r0) s_w3
        replace mf := fkeep2 mf (lt_of m0) s_w3
        replace nf := fkeep2 nf (lt_of n0) s_w3
        replace p0 := keep p0 s_w3
        have z_p0_w3 := lt_of p0
        replace p1 := keep p1 s_w3
        replace p2 := keep p2 s_w3
        replace q0 := keep q0 s_w3
        have z_q0_w3 := lt_of q0
        replace q1 := keep q1 s_w3
        replace q2 := keep q2 s_w3
        replace r0 := keep r0 s_w3
        have z_r0_w3 := lt_of r0
        replace r1 := keep r1 s_w3
        replace r2 := keep r2 s_w3
        replace m0 := keep m0 s_w3
        have z_m0_w3 := lt_of m0
        replace m1 := keep m1 s_w3
        replace m2 := keep m2 s_w3
        replace n0 := keep n0 s_w3
        have z_n0_w3 := lt_of n0
        replace n1 := keep n1 s_w3
        replace n2 := keep n2 s_w3
        clear g_w3 s_w3 z_p0_w2 z_q0_w2 z_r0_w2 z_m0_w2 z_n0_w2 t_w2
        go_wp2_with fail
        have p0n : (((w3.setCell ⟨w.heap.size + 3, 0, none⟩ (.int .i64 xL)).setCell ⟨w.heap.size + 3, 1, none⟩ (.int .i64 xH)).setCell ⟨w.heap.size + 3, 2, none⟩ (.int .i64 bA)).cell? _ = _ := (cset_ne (c := w.heap.size + 3) (cset_ne (c := w.heap.size + 3) (cset_ne (c := w.heap.size + 3) p0 (by omega) 0 (.int .i64 xL)) (by omega) 1 (.int .i64 xH)) (by omega) 2 (.int .i64 bA)); clear p0; have p0 := p0n; clear p0n
        have p1n : (((w3.setCell ⟨w.heap.size + 3, 0, none⟩ (.int .i64 xL)).setCell ⟨w.heap.size + 3, 1, none⟩ (.int .i64 xH)).setCell ⟨w.heap.size + 3, 2, none⟩ (.int .i64 bA)).cell? _ = _ := (cset_ne (c := w.heap.size + 3) (cset_ne (c := w.heap.size + 3) (cset_ne (c := w.heap.size + 3) p1 (by omega) 0 (.int .i64 xL)) (by omega) 1 (.int .i64 xH)) (by omega) 2 (.int .i64 bA)); clear p1; have p1 := p1n; clear p1n
        have p2n : (((w3.setCell ⟨w.heap.size + 3, 0, none⟩ (.int .i64 xL)).setCell ⟨w.heap.size + 3, 1, none⟩ (.int .i64 xH)).setCell ⟨w.heap.size + 3, 2, none⟩ (.int .i64 bA)).cell? _ = _ := (cset_ne (c := w.heap.size + 3) (cset_ne (c := w.heap.size + 3) (cset_ne (c := w.heap.size + 3) p2 (by omega) 0 (.int .i64 xL)) (by omega) 1 (.int .i64 xH)) (by omega) 2 (.int .i64 bA)); clear p2; have p2 := p2n; clear p2n
        have q0n : (((w3.setCell ⟨w.heap.size + 3, 0, none⟩ (.int .i64 xL)).setCell ⟨w.heap.size + 3, 1, none⟩ (.int .i64 xH)).setCell ⟨w.heap.size + 3, 2, none⟩ (.int .i64 bA)).cell? _ = _ := (cset_ne (c := w.heap.size + 3) (cset_ne (c := w.heap.size + 3) (cset_ne (c := w.heap.size + 3) q0 (by omega) 0 (.int .i64 xL)) (by omega) 1 (.int .i64 xH)) (by omega) 2 (.int .i64 bA)); clear q0; have q0 := q0n; clear q0n
        have q1n : (((w3.setCell ⟨w.heap.size + 3, 0, none⟩ (.int .i64 xL)).setCell ⟨w.heap.size + 3, 1, none⟩ (.int .i64 xH)).setCell ⟨w.heap.size + 3, 2, none⟩ (.int .i64 bA)).cell? _ = _ := (cset_ne (c := w.heap.size + 3) (cset_ne (c := w.heap.size + 3) (cset_ne (c := w.heap.size + 3) q1 (by omega) 0 (.int .i64 xL)) (by omega) 1 (.int .i64 xH)) (by omega) 2 (.int .i64 bA)); clear q1; have q1 := q1n; clear q1n
        have q2n : (((w3.setCell ⟨w.heap.size + 3, 0, none⟩ (.int .i64 xL)).setCell ⟨w.heap.size + 3, 1, none⟩ (.int .i64 xH)).setCell ⟨w.heap.size + 3, 2, none⟩ (.int .i64 bA)).cell? _ = _ := (cset_ne (c := w.heap.size + 3) (cset_ne (c := w.heap.size + 3) (cset_ne (c := w.heap.size + 3) q2 (by omega) 0 (.int .i64 xL)) (by omega) 1 (.int .i64 xH)) (by omega) 2 (.int .i64 bA)); clear q2; have q2 := q2n; clear q2n
        replace rf : ∀ i, (((w3.setCell ⟨w.heap.size + 3, 0, none⟩ (.int .i64 xL)).setCell ⟨w.heap.size + 3, 1, none⟩ (.int .i64 xH)).setCell ⟨w.heap.size + 3, 2, none⟩ (.int .i64 bA)).frozen? ⟨w.heap.size + 2, i, none⟩ = false := fun i => by simp only [World.frozen?_setCell]; exact rf i
        have r0n : (((w3.setCell ⟨w.heap.size + 3, 0, none⟩ (.int .i64 xL)).setCell ⟨w.heap.size + 3, 1, none⟩ (.int .i64 xH)).setCell ⟨w.heap.size + 3, 2, none⟩ (.int .i64 bA)).cell? _ = _ := (cset_ne (c := w.heap.size + 3) (cset_ne (c := w.heap.size + 3) (cset_ne (c := w.heap.size + 3) r0 (by omega) 0 (.int .i64 xL)) (by omega) 1 (.int .i64 xH)) (by omega) 2 (.int .i64 bA)); clear r0; have r0 := r0n; clear r0n
        have r1n : (((w3.setCell ⟨w.heap.size + 3, 0, none⟩ (.int .i64 xL)).setCell ⟨w.heap.size + 3, 1, none⟩ (.int .i64 xH)).setCell ⟨w.heap.size + 3, 2, none⟩ (.int .i64 bA)).cell? _ = _ := (cset_ne (c := w.heap.size + 3) (cset_ne (c := w.heap.size + 3) (cset_ne (c := w.heap.size + 3) r1 (by omega) 0 (.int .i64 xL)) (by omega) 1 (.int .i64 xH)) (by omega) 2 (.int .i64 bA)); clear r1; have r1 := r1n; clear r1n
        have r2n : (((w3.setCell ⟨w.heap.size + 3, 0, none⟩ (.int .i64 xL)).setCell ⟨w.heap.size + 3, 1, none⟩ (.int .i64 xH)).setCell ⟨w.heap.size + 3, 2, none⟩ (.int .i64 bA)).cell? _ = _ := (cset_ne (c := w.heap.size + 3) (cset_ne (c := w.heap.size + 3) (cset_ne (c := w.heap.size + 3) r2 (by omega) 0 (.int .i64 xL)) (by omega) 1 (.int .i64 xH)) (by omega) 2 (.int .i64 bA)); clear r2; have r2 := r2n; clear r2n
        replace mf : ∀ i, (((w3.setCell ⟨w.heap.size + 3, 0, none⟩ (.int .i64 xL)).setCell ⟨w.heap.size + 3, 1, none⟩ (.int .i64 xH)).setCell ⟨w.heap.size + 3, 2, none⟩ (.int .i64 bA)).frozen? ⟨w.heap.size + 3, i, none⟩ = false := fun i => by simp only [World.frozen?_setCell]; exact mf i
        replace nf : ∀ i, (((w3.setCell ⟨w.heap.size + 3, 0, none⟩ (.int .i64 xL)).setCell ⟨w.heap.size + 3, 1, none⟩ (.int .i64 xH)).setCell ⟨w.heap.size + 3, 2, none⟩ (.int .i64 bA)).frozen? ⟨w.heap.size + 4, i, none⟩ = false := fun i => by simp only [World.frozen?_setCell]; exact nf i
        have n0n : (((w3.setCell ⟨w.heap.size + 3, 0, none⟩ (.int .i64 xL)).setCell ⟨w.heap.size + 3, 1, none⟩ (.int .i64 xH)).setCell ⟨w.heap.size + 3, 2, none⟩ (.int .i64 bA)).cell? _ = _ := (cset_ne (c := w.heap.size + 3) (cset_ne (c := w.heap.size + 3) (cset_ne (c := w.heap.size + 3) n0 (by omega) 0 (.int .i64 xL)) (by omega) 1 (.int .i64 xH)) (by omega) 2 (.int .i64 bA)); clear n0; have n0 := n0n; clear n0n
        have n1n : (((w3.setCell ⟨w.heap.size + 3, 0, none⟩ (.int .i64 xL)).setCell ⟨w.heap.size + 3, 1, none⟩ (.int .i64 xH)).setCell ⟨w.heap.size + 3, 2, none⟩ (.int .i64 bA)).cell? _ = _ := (cset_ne (c := w.heap.size + 3) (cset_ne (c := w.heap.size + 3) (cset_ne (c := w.heap.size + 3) n1 (by omega) 0 (.int .i64 xL)) (by omega) 1 (.int .i64 xH)) (by omega) 2 (.int .i64 bA)); clear n1; have n1 := n1n; clear n1n
        have n2n : (((w3.setCell ⟨w.heap.size + 3, 0, none⟩ (.int .i64 xL)).setCell ⟨w.heap.size + 3, 1, none⟩ (.int .i64 xH)).setCell ⟨w.heap.size + 3, 2, none⟩ (.int .i64 bA)).cell? _ = _ := (cset_ne (c := w.heap.size + 3) (cset_ne (c := w.heap.size + 3) (cset_ne (c := w.heap.size + 3) n2 (by omega) 0 (.int .i64 xL)) (by omega) 1 (.int .i64 xH)) (by omega) 2 (.int .i64 bA)); clear n2; have n2 := n2n; clear n2n
        have m0n : (((w3.setCell ⟨w.heap.size + 3, 0, none⟩ (.int .i64 xL)).setCell ⟨w.heap.size + 3, 1, none⟩ (.int .i64 xH)).setCell ⟨w.heap.size + 3, 2, none⟩ (.int .i64 bA)).cell? ⟨w.heap.size + 3, 0, none⟩ = some (.int .i64 xL) := (cset_off (cset_off (cset_eq m0 (.int .i64 xL)) (by decide) _) (by decide) _)
        have m1n : (((w3.setCell ⟨w.heap.size + 3, 0, none⟩ (.int .i64 xL)).setCell ⟨w.heap.size + 3, 1, none⟩ (.int .i64 xH)).setCell ⟨w.heap.size + 3, 2, none⟩ (.int .i64 bA)).cell? ⟨w.heap.size + 3, 1, none⟩ = some (.int .i64 xH) := (cset_off (cset_eq (cset_off m1 (by decide) _) (.int .i64 xH)) (by decide) _)
        have m2n : (((w3.setCell ⟨w.heap.size + 3, 0, none⟩ (.int .i64 xL)).setCell ⟨w.heap.size + 3, 1, none⟩ (.int .i64 xH)).setCell ⟨w.heap.size + 3, 2, none⟩ (.int .i64 bA)).cell? ⟨w.heap.size + 3, 2, none⟩ = some (.int .i64 bA) := (cset_eq (cset_off (cset_off m2 (by decide) _) (by decide) _) (.int .i64 bA))
        have t_W_2 : Below w.heap.size w (((w3.setCell ⟨w.heap.size + 3, 0, none⟩ (.int .i64 xL)).setCell ⟨w.heap.size + 3, 1, none⟩ (.int .i64 xH)).setCell ⟨w.heap.size + 3, 2, none⟩ (.int .i64 bA)) := by go_grown
        clear m0 m1 m2 t_w3
        have m0 := m0n; clear m0n
        have m1 := m1n; clear m1n
        have m2 := m2n; clear m2n
        generalize ((w3.setCell ⟨w.heap.size + 3, 0, none⟩ (.int .i64 xL)).setCell ⟨w.heap.size + 3, 1, none⟩ (.int .i64 xH)).setCell ⟨w.heap.size + 3, 2, none⟩ (.int .i64 bA) = W_2 at *
        refine (svalid H3.out _).mono ?_
        rintro e w4 ⟨rfl, g_w4⟩
        have s_w4 : Below W_2.heap.size W_2 w4 := chain (by go_grown) g_w4
        have t_w4 := chain t_W_2 s_w4
        replace rf := fkeep2 rf (lt_of r0) s_w4
        replace mf := fkeep2 mf (lt_of m0) s_w4
        replace nf := fkeep2 nf (lt_of n0) s_w4
        replace p0 := keep p0 s_w4
        have z_p0_w4 := lt_of p0
        replace p1 := keep p1 s_w4
        replace p2 := keep p2 s_w4
        replace q0 := keep q0 s_w4
        have z_q0_w4 := lt_of q0
        replace q1 := keep q1 s_w4
        replace q2 := keep q2 s_w4
        replace r0 := keep r0 s_w4
        have z_r0_w4 := lt_of r0
        replace r1 := keep r1 s_w4
        replace r2 := keep r2 s_w4
        replace m0 := keep m0 s_w4
        have z_m0_w4 := lt_of m0
        replace m1 := keep m1 s_w4
        replace m2 := keep m2 s_w4
        replace n0 := keep n0 s_w4
        have z_n0_w4 := lt_of n0
        replace n1 := keep n1 s_w4
        replace n2 := keep n2 s_w4
        clear g_w4 s_w4 z_p0_w3 z_q0_w3 z_r0_w3 z_m0_w3 z_n0_w3 t_W_2
        go_wp2_with fail
        refine (svalid H2.out _).mono ?_
        rintro e w5 ⟨rfl, g_w5⟩
        have s_w5 : Below w4.heap.size w4 w5 := chain (by go_grown) g_w5
        have t_w5 := chain t_w4 s_w5
        replace rf := fkeep2 rf (lt_of r0) s_w5
        replace mf := fkeep2 mf (lt_of m0) s_w5
        replace nf := fkeep2 nf (lt_of n0) s_w5
        replace p0 := keep p0 s_w5
        have z_p0_w5 := lt_of p0
        replace p1 := keep p1 s_w5
        replace p2 := keep p2 s_w5
        replace q0 := keep q0 s_w5
        have z_q0_w5 := lt_of q0
        replace q1 := keep q1 s_w5
        replace q2 := keep q2 s_w5
        replace r0 := keep r0 s_w5
        have z_r0_w5 := lt_of r0
        replace r1 := keep r1 s_w5
        replace r2 := keep r2 s_w5
        replace m0 := keep m0 s_w5
        have z_m0_w5 := lt_of m0
        replace m1 := keep m1 s_w5
        replace m2 := keep m2 s_w5
        replace n0 := keep n0 s_w5
        have z_n0_w5 := lt_of n0
        replace n1 := keep n1 s_w5
        replace n2 := keep n2 s_w5
        clear g_w5 s_w5 z_p0_w4 z_q0_w4 z_r0_w4 z_m0_w4 z_n0_w4 t_w4
        go_wp2_with fail
        refine bodyPost_ret (v := .tuple #[.agg #[.int .i64 0, .int .i64 0, .int .i64 0], .int .i64 16]) (by simp [results, Try.results14, go_sem, *]) rfl ⟨rfl, by go_grown⟩
      · go_wp2_with fail
        refine (svalid H1.out _).mono ?_
        rintro e w1 ⟨rfl, g_w1⟩
        have s_w1 : Below w.heap.size w w1 := chain (by go_grown) g_w1
        have t_w1 := chain t_w s_w1
        have p0 : w1.cell? ⟨w.heap.size, 0, none⟩ = some (.int .i64 aL) := ((bcell g_w1).1 _ _ (by simp; try omega)).trans (by simp [go_sem])
        have p1 : w1.cell? ⟨w.heap.size, 1, none⟩ = some (.int .i64 aH) := ((bcell g_w1).1 _ _ (by simp; try omega)).trans (by simp [go_sem])
        have p2 : w1.cell? ⟨w.heap.size, 2, none⟩ = some (.int .i64 aA) := ((bcell g_w1).1 _ _ (by simp; try omega)).trans (by simp [go_sem])
        have z_p_w1 := lt_of p0
        have q0 : w1.cell? ⟨w.heap.size + 1, 0, none⟩ = some (.int .i64 bL) := ((bcell g_w1).1 _ _ (by simp; try omega)).trans (by simp [go_sem])
        have q1 : w1.cell? ⟨w.heap.size + 1, 1, none⟩ = some (.int .i64 bH) := ((bcell g_w1).1 _ _ (by simp; try omega)).trans (by simp [go_sem])
        have q2 : w1.cell? ⟨w.heap.size + 1, 2, none⟩ = some (.int .i64 bA) := ((bcell g_w1).1 _ _ (by simp; try omega)).trans (by simp [go_sem])
        have z_q_w1 := lt_of q0
        have r0 : w1.cell? ⟨w.heap.size + 2, 0, none⟩ = some (.int .i64 0) := ((bcell g_w1).1 _ _ (by simp; try omega)).trans (by simp [go_sem])
        have r1 : w1.cell? ⟨w.heap.size + 2, 1, none⟩ = some (.int .i64 0) := ((bcell g_w1).1 _ _ (by simp; try omega)).trans (by simp [go_sem])
        have r2 : w1.cell? ⟨w.heap.size + 2, 2, none⟩ = some (.int .i64 0) := ((bcell g_w1).1 _ _ (by simp; try omega)).trans (by simp [go_sem])
        have z_r_w1 := lt_of r0
        have rf : ∀ i, w1.frozen? ⟨w.heap.size + 2, i, none⟩ = false := fun i => ((bcell g_w1).2 _ _ (by simp; try omega)).trans (by simp [go_sem])
        have n0 : w1.cell? ⟨w.heap.size + 3, 0, none⟩ = some (.int .i64 bL) := ((bcell g_w1).1 _ _ (by simp; try omega)).trans (by simp [go_sem])
        have n1 : w1.cell? ⟨w.heap.size + 3, 1, none⟩ = some (.int .i64 bH) := ((bcell g_w1).1 _ _ (by simp; try omega)).trans (by simp [go_sem])
        have n2 : w1.cell? ⟨w.heap.size + 3, 2, none⟩ = some (.int .i64 bA) := ((bcell g_w1).1 _ _ (by simp; try omega)).trans (by simp [go_sem])
        have z_n_w1 := lt_of n0
        have nf : ∀ i, w1.frozen? ⟨w.heap.size + 3, i, none⟩ = false := fun i => ((bcell g_w1).2 _ _ (by simp; try omega)).trans (by simp [go_sem])
        have m0 : w1.cell? ⟨w.heap.size + 4, 0, none⟩ = some (.int .i64 aL) := ((bcell g_w1).1 _ _ (by simp; try omega)).trans (by simp [go_sem])
        have m1 : w1.cell? ⟨w.heap.size + 4, 1, none⟩ = some (.int .i64 aH) := ((bcell g_w1).1 _ _ (by simp; try omega)).trans (by simp [go_sem])
        have m2 : w1.cell? ⟨w.heap.size + 4, 2, none⟩ = some (.int .i64 aA) := ((bcell g_w1).1 _ _ (by simp; try omega)).trans (by simp [go_sem])
        have z_m_w1 := lt_of m0
        have mf : ∀ i, w1.frozen? ⟨w.heap.size + 4, i, none⟩ = false := fun i => ((bcell g_w1).2 _ _ (by simp; try omega)).trans (by simp [go_sem])
        clear g_w1 s_w1 t_w
        go_wp2_with fail
        refine (svalid H2.out _).mono ?_
        rintro e w2 ⟨rfl, g_w2⟩
        have s_w2 : Below w1.heap.size w1 w2 := chain (by go_grown) g_w2
        have t_w2 := chain t_w1 s_w2
        replace rf := fkeep2 rf (lt_of r0) s_w2
        replace nf := fkeep2 nf (lt_of n0) s_w2
        replace mf := fkeep2 mf (lt_of m0) s_w2
        replace p0 := keep p0 s_w2
        have z_p0_w2 := lt_of p0
        replace p1 := keep p1 s_w2
        replace p2 := keep p2 s_w2
        replace q0 := keep q0 s_w2
        have z_q0_w2 := lt_of q0
        replace q1 := keep q1 s_w2
        replace q2 := keep q2 s_w2
        replace r0 := keep r0 s_w2
        have z_r0_w2 := lt_of r0
        replace r1 := keep r1 s_w2
        replace r2 := keep r2 s_w2
        replace n0 := keep n0 s_w2
        have z_n0_w2 := lt_of n0
        replace n1 := keep n1 s_w2
        replace n2 := keep n2 s_w2
        replace m0 := keep m0 s_w2
        have z_m0_w2 := lt_of m0
        replace m1 := keep m1 s_w2
        replace m2 := keep m2 s_w2
        clear g_w2 s_w2 z_p_w1 z_q_w1 z_r_w1 z_n_w1 z_m_w1 t_w1
        go_wp2_with fail
        refine (GA.out _).mono ?_
        rintro e w3 ⟨rfl, g_w3⟩
        have s_w3 : Below w2.heap.size w2 w3 := chain (by go_grown) g_w3
        have t_w3 := chain t_w2 s_w3
        replace rf := fkeep2 rf (lt_of r0) s_w3
        replace nf := fkeep2 nf (lt_of n0) s_w3
        replace mf := fkeep2 mf (lt_of m0) s_w3
        replace p0 := keep p0 s_w3
        have z_p0_w3 := lt_of p0
        replace p1 := keep p1 s_w3
        replace p2 := keep p2 s_w3
        replace q0 := keep q0 s_w3
        have z_q0_w3 := lt_of q0
        replace q1 := keep q1 s_w3
        replace q2 := keep q2 s_w3
        replace r0 := keep r0 s_w3
        have z_r0_w3 := lt_of r0
        replace r1 := keep r1 s_w3
        replace r2 := keep r2 s_w3
        replace n0 := keep n0 s_w3
        have z_n0_w3 := lt_of n0
        replace n1 := keep n1 s_w3
        replace n2 := keep n2 s_w3
        replace m0 := keep m0 s_w3
        have z_m0_w3 := lt_of m0
        replace m1 := keep m1 s_w3
        replace m2 := keep m2 s_w3
        clear g_w3 s_w3 z_p0_w2 z_q0_w2 z_r0_w2 z_n0_w2 z_m0_w2 t_w2
        go_wp2_with fail
        have p0n : (((w3.setCell ⟨w.heap.size + 4, 0, none⟩ (.int .i64 xL)).setCell ⟨w.heap.size + 4, 1, none⟩ (.int .i64 xH)).setCell ⟨w.heap.size + 4, 2, none⟩ (.int .i64 bA)).cell? _ = _ := (cset_ne (c := w.heap.size + 4) (cset_ne (c := w.heap.size + 4) (cset_ne (c := w.heap.size + 4) p0 (by omega) 0 (.int .i64 xL)) (by omega) 1 (.int .i64 xH)) (by omega) 2 (.int .i64 bA)); clear p0; have p0 := p0n; clear p0n
        have p1n : (((w3.setCell ⟨w.heap.size + 4, 0, none⟩ (.int .i64 xL)).setCell ⟨w.heap.size + 4, 1, none⟩ (.int .i64 xH)).setCell ⟨w.heap.size + 4, 2, none⟩ (.int .i64 bA)).cell? _ = _ := (cset_ne (c := w.heap.size + 4) (cset_ne (c := w.heap.size + 4) (cset_ne (c := w.heap.size + 4) p1 (by omega) 0 (.int .i64 xL)) (by omega) 1 (.int .i64 xH)) (by omega) 2 (.int .i64 bA)); clear p1; have p1 := p1n; clear p1n
        have p2n : (((w3.setCell ⟨w.heap.size + 4, 0, none⟩ (.int .i64 xL)).setCell ⟨w.heap.size + 4, 1, none⟩ (.int .i64 xH)).setCell ⟨w.heap.size + 4, 2, none⟩ (.int .i64 bA)).cell? _ = _ := (cset_ne (c := w.heap.size + 4) (cset_ne (c := w.heap.size + 4) (cset_ne (c := w.heap.size + 4) p2 (by omega) 0 (.int .i64 xL)) (by omega) 1 (.int .i64 xH)) (by omega) 2 (.int .i64 bA)); clear p2; have p2 := p2n; clear p2n
        have q0n : (((w3.setCell ⟨w.heap.size + 4, 0, none⟩ (.int .i64 xL)).setCell ⟨w.heap.size + 4, 1, none⟩ (.int .i64 xH)).setCell ⟨w.heap.size + 4, 2, none⟩ (.int .i64 bA)).cell? _ = _ := (cset_ne (c := w.heap.size + 4) (cset_ne (c := w.heap.size + 4) (cset_ne (c := w.heap.size + 4) q0 (by omega) 0 (.int .i64 xL)) (by omega) 1 (.int .i64 xH)) (by omega) 2 (.int .i64 bA)); clear q0; have q0 := q0n; clear q0n
        have q1n : (((w3.setCell ⟨w.heap.size + 4, 0, none⟩ (.int .i64 xL)).setCell ⟨w.heap.size + 4, 1, none⟩ (.int .i64 xH)).setCell ⟨w.heap.size + 4, 2, none⟩ (.int .i64 bA)).cell? _ = _ := (cset_ne (c := w.heap.size + 4) (cset_ne (c := w.heap.size + 4) (cset_ne (c := w.heap.size + 4) q1 (by omega) 0 (.int .i64 xL)) (by omega) 1 (.int .i64 xH)) (by omega) 2 (.int .i64 bA)); clear q1; have q1 := q1n; clear q1n
        have q2n : (((w3.setCell ⟨w.heap.size + 4, 0, none⟩ (.int .i64 xL)).setCell ⟨w.heap.size + 4, 1, none⟩ (.int .i64 xH)).setCell ⟨w.heap.size + 4, 2, none⟩ (.int .i64 bA)).cell? _ = _ := (cset_ne (c := w.heap.size + 4) (cset_ne (c := w.heap.size + 4) (cset_ne (c := w.heap.size + 4) q2 (by omega) 0 (.int .i64 xL)) (by omega) 1 (.int .i64 xH)) (by omega) 2 (.int .i64 bA)); clear q2; have q2 := q2n; clear q2n
        replace rf : ∀ i, (((w3.setCell ⟨w.heap.size + 4, 0, none⟩ (.int .i64 xL)).setCell ⟨w.heap.size + 4, 1, none⟩ (.int .i64 xH)).setCell ⟨w.heap.size + 4, 2, none⟩ (.int .i64 bA)).frozen? ⟨w.heap.size + 2, i, none⟩ = false := fun i => by simp only [World.frozen?_setCell]; exact rf i
        have r0n : (((w3.setCell ⟨w.heap.size + 4, 0, none⟩ (.int .i64 xL)).setCell ⟨w.heap.size + 4, 1, none⟩ (.int .i64 xH)).setCell ⟨w.heap.size + 4, 2, none⟩ (.int .i64 bA)).cell? _ = _ := (cset_ne (c := w.heap.size + 4) (cset_ne (c := w.heap.size + 4) (cset_ne (c := w.heap.size + 4) r0 (by omega) 0 (.int .i64 xL)) (by omega) 1 (.int .i64 xH)) (by omega) 2 (.int .i64 bA)); clear r0; have r0 := r0n; clear r0n
        have r1n : (((w3.setCell ⟨w.heap.size + 4, 0, none⟩ (.int .i64 xL)).setCell ⟨w.heap.size + 4, 1, none⟩ (.int .i64 xH)).setCell ⟨w.heap.size + 4, 2, none⟩ (.int .i64 bA)).cell? _ = _ := (cset_ne (c := w.heap.size + 4) (cset_ne (c := w.heap.size + 4) (cset_ne (c := w.heap.size + 4) r1 (by omega) 0 (.int .i64 xL)) (by omega) 1 (.int .i64 xH)) (by omega) 2 (.int .i64 bA)); clear r1; have r1 := r1n; clear r1n
        have r2n : (((w3.setCell ⟨w.heap.size + 4, 0, none⟩ (.int .i64 xL)).setCell ⟨w.heap.size + 4, 1, none⟩ (.int .i64 xH)).setCell ⟨w.heap.size + 4, 2, none⟩ (.int .i64 bA)).cell? _ = _ := (cset_ne (c := w.heap.size + 4) (cset_ne (c := w.heap.size + 4) (cset_ne (c := w.heap.size + 4) r2 (by omega) 0 (.int .i64 xL)) (by omega) 1 (.int .i64 xH)) (by omega) 2 (.int .i64 bA)); clear r2; have r2 := r2n; clear r2n
        replace nf : ∀ i, (((w3.setCell ⟨w.heap.size + 4, 0, none⟩ (.int .i64 xL)).setCell ⟨w.heap.size + 4, 1, none⟩ (.int .i64 xH)).setCell ⟨w.heap.size + 4, 2, none⟩ (.int .i64 bA)).frozen? ⟨w.heap.size + 3, i, none⟩ = false := fun i => by simp only [World.frozen?_setCell]; exact nf i
        have n0n : (((w3.setCell ⟨w.heap.size + 4, 0, none⟩ (.int .i64 xL)).setCell ⟨w.heap.size + 4, 1, none⟩ (.int .i64 xH)).setCell ⟨w.heap.size + 4, 2, none⟩ (.int .i64 bA)).cell? _ = _ := (cset_ne (c := w.heap.size + 4) (cset_ne (c := w.heap.size + 4) (cset_ne (c := w.heap.size + 4) n0 (by omega) 0 (.int .i64 xL)) (by omega) 1 (.int .i64 xH)) (by omega) 2 (.int .i64 bA)); clear n0; have n0 := n0n; clear n0n
        have n1n : (((w3.setCell ⟨w.heap.size + 4, 0, none⟩ (.int .i64 xL)).setCell ⟨w.heap.size + 4, 1, none⟩ (.int .i64 xH)).setCell ⟨w.heap.size + 4, 2, none⟩ (.int .i64 bA)).cell? _ = _ := (cset_ne (c := w.heap.size + 4) (cset_ne (c := w.heap.size + 4) (cset_ne (c := w.heap.size + 4) n1 (by omega) 0 (.int .i64 xL)) (by omega) 1 (.int .i64 xH)) (by omega) 2 (.int .i64 bA)); clear n1; have n1 := n1n; clear n1n
        have n2n : (((w3.setCell ⟨w.heap.size + 4, 0, none⟩ (.int .i64 xL)).setCell ⟨w.heap.size + 4, 1, none⟩ (.int .i64 xH)).setCell ⟨w.heap.size + 4, 2, none⟩ (.int .i64 bA)).cell? _ = _ := (cset_ne (c := w.heap.size + 4) (cset_ne (c := w.heap.size + 4) (cset_ne (c := w.heap.size + 4) n2 (by omega) 0 (.int .i64 xL)) (by omega) 1 (.int .i64 xH)) (by omega) 2 (.int .i64 bA)); clear n2; have n2 := n2n; clear n2n
        replace mf : ∀ i, (((w3.setCell ⟨w.heap.size + 4, 0, none⟩ (.int .i64 xL)).setCell ⟨w.heap.size + 4, 1, none⟩ (.int .i64 xH)).setCell ⟨w.heap.size + 4, 2, none⟩ (.int .i64 bA)).frozen? ⟨w.heap.size + 4, i, none⟩ = false := fun i => by simp only [World.frozen?_setCell]; exact mf i
        have m0n : (((w3.setCell ⟨w.heap.size + 4, 0, none⟩ (.int .i64 xL)).setCell ⟨w.heap.size + 4, 1, none⟩ (.int .i64 xH)).setCell ⟨w.heap.size + 4, 2, none⟩ (.int .i64 bA)).cell? ⟨w.heap.size + 4, 0, none⟩ = some (.int .i64 xL) := (cset_off (cset_off (cset_eq m0 (.int .i64 xL)) (by decide) _) (by decide) _)
        have m1n : (((w3.setCell ⟨w.heap.size + 4, 0, none⟩ (.int .i64 xL)).setCell ⟨w.heap.size + 4, 1, none⟩ (.int .i64 xH)).setCell ⟨w.heap.size + 4, 2, none⟩ (.int .i64 bA)).cell? ⟨w.heap.size + 4, 1, none⟩ = some (.int .i64 xH) := (cset_off (cset_eq (cset_off m1 (by decide) _) (.int .i64 xH)) (by decide) _)
        have m2n : (((w3.setCell ⟨w.heap.size + 4, 0, none⟩ (.int .i64 xL)).setCell ⟨w.heap.size + 4, 1, none⟩ (.int .i64 xH)).setCell ⟨w.heap.size + 4, 2, none⟩ (.int .i64 bA)).cell? ⟨w.heap.size + 4, 2, none⟩ = some (.int .i64 bA) := (cset_eq (cset_off (cset_off m2 (by decide) _) (by decide) _) (.int .i64 bA))
        have t_W_2 : Below w.heap.size w (((w3.setCell ⟨w.heap.size + 4, 0, none⟩ (.int .i64 xL)).setCell ⟨w.heap.size + 4, 1, none⟩ (.int .i64 xH)).setCell ⟨w.heap.size + 4, 2, none⟩ (.int .i64 bA)) := by go_grown
        clear m0 m1 m2 t_w3
        have m0 := m0n; clear m0n
        have m1 := m1n; clear m1n
        have m2 := m2n; clear m2n
        generalize ((w3.setCell ⟨w.heap.size + 4, 0, none⟩ (.int .i64 xL)).setCell ⟨w.heap.size + 4, 1, none⟩ (.int .i64 xH)).setCell ⟨w.heap.size + 4, 2, none⟩ (.int .i64 bA) = W_2 at *
        refine (svalid H3.out _).mono ?_
        rintro e w4 ⟨rfl, g_w4⟩
        have s_w4 : Below W_2.heap.size W_2 w4 := chain (by go_grown) g_w4
        have t_w4 := chain t_W_2 s_w4
        replace rf := fkeep2 rf (lt_of r0) s_w4
        replace nf := fkeep2 nf (lt_of n0) s_w4
        replace mf := fkeep2 mf (lt_of m0) s_w4
        replace p0 := keep p0 s_w4
        have z_p0_w4 := lt_of p0
        replace p1 := keep p1 s_w4
        replace p2 := keep p2 s_w4
        replace q0 := keep q0 s_w4
        have z_q0_w4 := lt_of q0
        replace q1 := keep q1 s_w4
        replace q2 := keep q2 s_w4
        replace r0 := keep r0 s_w4
        have z_r0_w4 := lt_of r0
        replace r1 := keep r1 s_w4
        replace r2 := keep r2 s_w4
        replace n0 := keep n0 s_w4
        have z_n0_w4 := lt_of n0
        replace n1 := keep n1 s_w4
        replace n2 := keep n2 s_w4
        replace m0 := keep m0 s_w4
        have z_m0_w4 := lt_of m0
        replace m1 := keep m1 s_w4
        replace m2 := keep m2 s_w4
        clear g_w4 s_w4 z_p0_w3 z_q0_w3 z_r0_w3 z_n0_w3 z_m0_w3 t_W_2
        go_wp2_with fail
        refine (svalid H2.out _).mono ?_
        rintro e w5 ⟨rfl, g_w5⟩
        have s_w5 : Below w4.heap.size w4 w5 := chain (by go_grown) g_w5
        have t_w5 := chain t_w4 s_w5
        replace rf := fkeep2 rf (lt_of r0) s_w5
        replace nf := fkeep2 nf (lt_of n0) s_w5
        replace mf := fkeep2 mf (lt_of m0) s_w5
        replace p0 := keep p0 s_w5
        have z_p0_w5 := lt_of p0
        replace p1 := keep p1 s_w5
        replace p2 := keep p2 s_w5
        replace q0 := keep q0 s_w5
        have z_q0_w5 := lt_of q0
        replace q1 := keep q1 s_w5
        replace q2 := keep q2 s_w5
        replace r0 := keep r0 s_w5
        have z_r0_w5 := lt_of r0
        replace r1 := keep r1 s_w5
        replace r2 := keep r2 s_w5
        replace n0 := keep n0 s_w5
        have z_n0_w5 := lt_of n0
        replace n1 := keep n1 s_w5
        replace n2 := keep n2 s_w5
        replace m0 := keep m0 s_w5
        have z_m0_w5 := lt_of m0
        replace m1 := keep m1 s_w5
        replace m2 := keep m2 s_w5
        clear g_w5 s_w5 z_p0_w4 z_q0_w4 z_r0_w4 z_n0_w4 z_m0_w4 t_w4
        go_wp2_with fail
        refine bodyPost_ret (v := .tuple #[.agg #[.int .i64 0, .int .i64 0, .int .i64 0], .int .i64 16]) (by simp [results, Try.results14, go_sem, *]) rfl ⟨rfl, by go_grown⟩
    · obtain rfl := hl.symm; obtain rfl := hh.symm; obtain rfl := hA.symm
      clear hl hh hA
      have t_w := Below.refl w.heap.size w
      go_enter Try.func14, Try.ntmps14
      go_wp2_with fail
      go_region
      · go_wp2_with fail
        refine (svalid H1.out _).mono ?_
        rintro e w1 ⟨rfl, g_w1⟩
        have s_w1 : Below w.heap.size w w1 := chain (by go_grown) g_w1
        have t_w1 := chain t_w s_w1
        have p0 : w1.cell? ⟨w.heap.size, 0, none⟩ = some (.int .i64 aL) := ((bcell g_w1).1 _ _ (by simp; try omega)).trans (by simp [go_sem])
        have p1 : w1.cell? ⟨w.heap.size, 1, none⟩ = some (.int .i64 aH) := ((bcell g_w1).1 _ _ (by simp; try omega)).trans (by simp [go_sem])
        have p2 : w1.cell? ⟨w.heap.size, 2, none⟩ = some (.int .i64 aA) := ((bcell g_w1).1 _ _ (by simp; try omega)).trans (by simp [go_sem])
        have z_p_w1 := lt_of p0
        have q0 : w1.cell? ⟨w.heap.size + 1, 0, none⟩ = some (.int .i64 bL) := ((bcell g_w1).1 _ _ (by simp; try omega)).trans (by simp [go_sem])
        have q1 : w1.cell? ⟨w.heap.size + 1, 1, none⟩ = some (.int .i64 bH) := ((bcell g_w1).1 _ _ (by simp; try omega)).trans (by simp [go_sem])
        have q2 : w1.cell? ⟨w.heap.size + 1, 2, none⟩ = some (.int .i64 bA) := ((bcell g_w1).1 _ _ (by simp; try omega)).trans (by simp [go_sem])
        have z_q_w1 := lt_of q0
        have r0 : w1.cell? ⟨w.heap.size + 2, 0, none⟩ = some (.int .i64 0) := ((bcell g_w1).1 _ _ (by simp; try omega)).trans (by simp [go_sem])
        have r1 : w1.cell? ⟨w.heap.size + 2, 1, none⟩ = some (.int .i64 0) := ((bcell g_w1).1 _ _ (by simp; try omega)).trans (by simp [go_sem])
        have r2 : w1.cell? ⟨w.heap.size + 2, 2, none⟩ = some (.int .i64 0) := ((bcell g_w1).1 _ _ (by simp; try omega)).trans (by simp [go_sem])
        have z_r_w1 := lt_of r0
        have rf : ∀ i, w1.frozen? ⟨w.heap.size + 2, i, none⟩ = false := fun i => ((bcell g_w1).2 _ _ (by simp; try omega)).trans (by simp [go_sem])
        have m0 : w1.cell? ⟨w.heap.size + 3, 0, none⟩ = some (.int .i64 aL) := ((bcell g_w1).1 _ _ (by simp; try omega)).trans (by simp [go_sem])
        have m1 : w1.cell? ⟨w.heap.size + 3, 1, none⟩ = some (.int .i64 aH) := ((bcell g_w1).1 _ _ (by simp; try omega)).trans (by simp [go_sem])
        have m2 : w1.cell? ⟨w.heap.size + 3, 2, none⟩ = some (.int .i64 aA) := ((bcell g_w1).1 _ _ (by simp; try omega)).trans (by simp [go_sem])
        have z_m_w1 := lt_of m0
        have mf : ∀ i, w1.frozen? ⟨w.heap.size + 3, i, none⟩ = false := fun i => ((bcell g_w1).2 _ _ (by simp; try omega)).trans (by simp [go_sem])
        have n0 : w1.cell? ⟨w.heap.size + 4, 0, none⟩ = some (.int .i64 bL) := ((bcell g_w1).1 _ _ (by simp; try omega)).trans (by simp [go_sem])
        have n1 : w1.cell? ⟨w.heap.size + 4, 1, none⟩ = some (.int .i64 bH) := ((bcell g_w1).1 _ _ (by simp; try omega)).trans (by simp [go_sem])
        have n2 : w1.cell? ⟨w.heap.size + 4, 2, none⟩ = some (.int .i64 bA) := ((bcell g_w1).1 _ _ (by simp; try omega)).trans (by simp [go_sem])
        have z_n_w1 := lt_of n0
        have nf : ∀ i, w1.frozen? ⟨w.heap.size + 4, i, none⟩ = false := fun i => ((bcell g_w1).2 _ _ (by simp; try omega)).trans (by simp [go_sem])
        clear g_w1 s_w1 t_w
        go_wp2_with fail
        refine (svalid H2.out _).mono ?_
        rintro e w2 ⟨rfl, g_w2⟩
        have s_w2 : Below w1.heap.size w1 w2 := chain (by go_grown) g_w2
        have t_w2 := chain t_w1 s_w2
        replace rf := fkeep2 rf (lt_of r0) s_w2
        replace mf := fkeep2 mf (lt_of m0) s_w2
        replace nf := fkeep2 nf (lt_of n0) s_w2
        replace p0 := keep p0 s_w2
        have z_p0_w2 := lt_of p0
        replace p1 := keep p1 s_w2
        replace p2 := keep p2 s_w2
        replace q0 := keep q0 s_w2
        have z_q0_w2 := lt_of q0
        replace q1 := keep q1 s_w2
        replace q2 := keep q2 s_w2
        replace r0 := keep r0 s_w2
        have z_r0_w2 := lt_of r0
        replace r1 := keep r1 s_w2
        replace r2 := keep r2 s_w2
        replace m0 := keep m0 s_w2
        have z_m0_w2 := lt_of m0
        replace m1 := keep m1 s_w2
        replace m2 := keep m2 s_w2
        replace n0 := keep n0 s_w2
        have z_n0_w2 := lt_of n0
        replace n1 := keep n1 s_w2
        replace n2 := keep n2 s_w2
        clear g_w2 s_w2 z_p_w1 z_q_w1 z_r_w1 z_m_w1 z_n_w1 t_w1
        go_wp2_with fail
        refine (GA.out _).mono ?_
        rintro e w3 ⟨rfl, g_w3⟩
        have s_w3 : Below w2.heap.size w2 w3 := chain (by go_grown) g_w3
        have t_w3 := chain t_w2 s_w3
        replace rf := fkeep2 rf (lt_of r0) s_w3
        replace mf := fkeep2 mf (lt_of m0) s_w3
        replace nf := fkeep2 nf (lt_of n0) s_w3
        replace p0 := keep p0 s_w3
        have z_p0_w3 := lt_of p0
        replace p1 := keep p1 s_w3
        replace p2 := keep p2 s_w3
        replace q0 := keep q0 s_w3
        have z_q0_w3 := lt_of q0
        replace q1 := keep q1 s_w3
        replace q2 := keep q2 s_w3
        replace r0 := keep r0 s_w3
        have z_r0_w3 := lt_of r0
        replace r1 := keep r1 s_w3
        replace r2 := keep r2 s_w3
        replace m0 := keep m0 s_w3
        have z_m0_w3 := lt_of m0
        replace m1 := keep m1 s_w3
        replace m2 := keep m2 s_w3
        replace n0 := keep n0 s_w3
        have z_n0_w3 := lt_of n0
        replace n1 := keep n1 s_w3
        replace n2 := keep n2 s_w3
        clear g_w3 s_w3 z_p0_w2 z_q0_w2 z_r0_w2 z_m0_w2 z_n0_w2 t_w2
        go_wp2_with fail
        have p0n : (((w3.setCell ⟨w.heap.size + 3, 0, none⟩ (.int .i64 xL)).setCell ⟨w.heap.size + 3, 1, none⟩ (.int .i64 xH)).setCell ⟨w.heap.size + 3, 2, none⟩ (.int .i64 bA)).cell? _ = _ := (cset_ne (c := w.heap.size + 3) (cset_ne (c := w.heap.size + 3) (cset_ne (c := w.heap.size + 3) p0 (by omega) 0 (.int .i64 xL)) (by omega) 1 (.int .i64 xH)) (by omega) 2 (.int .i64 bA)); clear p0; have p0 := p0n; clear p0n
        have p1n : (((w3.setCell ⟨w.heap.size + 3, 0, none⟩ (.int .i64 xL)).setCell ⟨w.heap.size + 3, 1, none⟩ (.int .i64 xH)).setCell ⟨w.heap.size + 3, 2, none⟩ (.int .i64 bA)).cell? _ = _ := (cset_ne (c := w.heap.size + 3) (cset_ne (c := w.heap.size + 3) (cset_ne (c := w.heap.size + 3) p1 (by omega) 0 (.int .i64 xL)) (by omega) 1 (.int .i64 xH)) (by omega) 2 (.int .i64 bA)); clear p1; have p1 := p1n; clear p1n
        have p2n : (((w3.setCell ⟨w.heap.size + 3, 0, none⟩ (.int .i64 xL)).setCell ⟨w.heap.size + 3, 1, none⟩ (.int .i64 xH)).setCell ⟨w.heap.size + 3, 2, none⟩ (.int .i64 bA)).cell? _ = _ := (cset_ne (c := w.heap.size + 3) (cset_ne (c := w.heap.size + 3) (cset_ne (c := w.heap.size + 3) p2 (by omega) 0 (.int .i64 xL)) (by omega) 1 (.int .i64 xH)) (by omega) 2 (.int .i64 bA)); clear p2; have p2 := p2n; clear p2n
        have q0n : (((w3.setCell ⟨w.heap.size + 3, 0, none⟩ (.int .i64 xL)).setCell ⟨w.heap.size + 3, 1, none⟩ (.int .i64 xH)).setCell ⟨w.heap.size + 3, 2, none⟩ (.int .i64 bA)).cell? _ = _ := (cset_ne (c := w.heap.size + 3) (cset_ne (c := w.heap.size + 3) (cset_ne (c := w.heap.size + 3) q0 (by omega) 0 (.int .i64 xL)) (by omega) 1 (.int .i64 xH)) (by omega) 2 (.int .i64 bA)); clear q0; have q0 := q0n; clear q0n
        have q1n : (((w3.setCell ⟨w.heap.size + 3, 0, none⟩ (.int .i64 xL)).setCell ⟨w.heap.size + 3, 1, none⟩ (.int .i64 xH)).setCell ⟨w.heap.size + 3, 2, none⟩ (.int .i64 bA)).cell? _ = _ := (cset_ne (c := w.heap.size + 3) (cset_ne (c := w.heap.size + 3) (cset_ne (c := w.heap.size + 3) q1 (by omega) 0 (.int .i64 xL)) (by omega) 1 (.int .i64 xH)) (by omega) 2 (.int .i64 bA)); clear q1; have q1 := q1n; clear q1n
        have q2n : (((w3.setCell ⟨w.heap.size + 3, 0, none⟩ (.int .i64 xL)).setCell ⟨w.heap.size + 3, 1, none⟩ (.int .i64 xH)).setCell ⟨w.heap.size + 3, 2, none⟩ (.int .i64 bA)).cell? _ = _ := (cset_ne (c := w.heap.size + 3) (cset_ne (c := w.heap.size + 3) (cset_ne (c := w.heap.size + 3) q2 (by omega) 0 (.int .i64 xL)) (by omega) 1 (.int .i64 xH)) (by omega) 2 (.int .i64 bA)); clear q2; have q2 := q2n; clear q2n
        replace rf : ∀ i, (((w3.setCell ⟨w.heap.size + 3, 0, none⟩ (.int .i64 xL)).setCell ⟨w.heap.size + 3, 1, none⟩ (.int .i64 xH)).setCell ⟨w.heap.size + 3, 2, none⟩ (.int .i64 bA)).frozen? ⟨w.heap.size + 2, i, none⟩ = false := fun i => by simp only [World.frozen?_setCell]; exact rf i
        have r0n : (((w3.setCell ⟨w.heap.size + 3, 0, none⟩ (.int .i64 xL)).setCell ⟨w.heap.size + 3, 1, none⟩ (.int .i64 xH)).setCell ⟨w.heap.size + 3, 2, none⟩ (.int .i64 bA)).cell? _ = _ := (cset_ne (c := w.heap.size + 3) (cset_ne (c := w.heap.size + 3) (cset_ne (c := w.heap.size + 3) r0 (by omega) 0 (.int .i64 xL)) (by omega) 1 (.int .i64 xH)) (by omega) 2 (.int .i64 bA)); clear r0; have r0 := r0n; clear r0n
        have r1n : (((w3.setCell ⟨w.heap.size + 3, 0, none⟩ (.int .i64 xL)).setCell ⟨w.heap.size + 3, 1, none⟩ (.int .i64 xH)).setCell ⟨w.heap.size + 3, 2, none⟩ (.int .i64 bA)).cell? _ = _ := (cset_ne (c := w.heap.size + 3) (cset_ne (c := w.heap.size + 3) (cset_ne (c := w.heap.size + 3) r1 (by omega) 0 (.int .i64 xL)) (by omega) 1 (.int .i64 xH)) (by omega) 2 (.int .i64 bA)); clear r1; have r1 := r1n; clear r1n
        have r2n : (((w3.setCell ⟨w.heap.size + 3, 0, none⟩ (.int .i64 xL)).setCell ⟨w.heap.size + 3, 1, none⟩ (.int .i64 xH)).setCell ⟨w.heap.size + 3, 2, none⟩ (.int .i64 bA)).cell? _ = _ := (cset_ne (c := w.heap.size + 3) (cset_ne (c := w.heap.size + 3) (cset_ne (c := w.heap.size + 3) r2 (by omega) 0 (.int .i64 xL)) (by omega) 1 (.int .i64 xH)) (by omega) 2 (.int .i64 bA)); clear r2; have r2 := r2n; clear r2n
        replace mf : ∀ i, (((w3.setCell ⟨w.heap.size + 3, 0, none⟩ (.int .i64 xL)).setCell ⟨w.heap.size + 3, 1, none⟩ (.int .i64 xH)).setCell ⟨w.heap.size + 3, 2, none⟩ (.int .i64 bA)).frozen? ⟨w.heap.size + 3, i, none⟩ = false := fun i => by simp only [World.frozen?_setCell]; exact mf i
        replace nf : ∀ i, (((w3.setCell ⟨w.heap.size + 3, 0, none⟩ (.int .i64 xL)).setCell ⟨w.heap.size + 3, 1, none⟩ (.int .i64 xH)).setCell ⟨w.heap.size + 3, 2, none⟩ (.int .i64 bA)).frozen? ⟨w.heap.size + 4, i, none⟩ = false := fun i => by simp only [World.frozen?_setCell]; exact nf i
        have n0n : (((w3.setCell ⟨w.heap.size + 3, 0, none⟩ (.int .i64 xL)).setCell ⟨w.heap.size + 3, 1, none⟩ (.int .i64 xH)).setCell ⟨w.heap.size + 3, 2, none⟩ (.int .i64 bA)).cell? _ = _ := (cset_ne (c := w.heap.size + 3) (cset_ne (c := w.heap.size + 3) (cset_ne (c := w.heap.size + 3) n0 (by omega) 0 (.int .i64 xL)) (by omega) 1 (.int .i64 xH)) (by omega) 2 (.int .i64 bA)); clear n0; have n0 := n0n; clear n0n
        have n1n : (((w3.setCell ⟨w.heap.size + 3, 0, none⟩ (.int .i64 xL)).setCell ⟨w.heap.size + 3, 1, none⟩ (.int .i64 xH)).setCell ⟨w.heap.size + 3, 2, none⟩ (.int .i64 bA)).cell? _ = _ := (cset_ne (c := w.heap.size + 3) (cset_ne (c := w.heap.size + 3) (cset_ne (c := w.heap.size + 3) n1 (by omega) 0 (.int .i64 xL)) (by omega) 1 (.int .i64 xH)) (by omega) 2 (.int .i64 bA)); clear n1; have n1 := n1n; clear n1n
        have n2n : (((w3.setCell ⟨w.heap.size + 3, 0, none⟩ (.int .i64 xL)).setCell ⟨w.heap.size + 3, 1, none⟩ (.int .i64 xH)).setCell ⟨w.heap.size + 3, 2, none⟩ (.int .i64 bA)).cell? _ = _ := (cset_ne (c := w.heap.size + 3) (cset_ne (c := w.heap.size + 3) (cset_ne (c := w.heap.size + 3) n2 (by omega) 0 (.int .i64 xL)) (by omega) 1 (.int .i64 xH)) (by omega) 2 (.int .i64 bA)); clear n2; have n2 := n2n; clear n2n
        have m0n : (((w3.setCell ⟨w.heap.size + 3, 0, none⟩ (.int .i64 xL)).setCell ⟨w.heap.size + 3, 1, none⟩ (.int .i64 xH)).setCell ⟨w.heap.size + 3, 2, none⟩ (.int .i64 bA)).cell? ⟨w.heap.size + 3, 0, none⟩ = some (.int .i64 xL) := (cset_off (cset_off (cset_eq m0 (.int .i64 xL)) (by decide) _) (by decide) _)
        have m1n : (((w3.setCell ⟨w.heap.size + 3, 0, none⟩ (.int .i64 xL)).setCell ⟨w.heap.size + 3, 1, none⟩ (.int .i64 xH)).setCell ⟨w.heap.size + 3, 2, none⟩ (.int .i64 bA)).cell? ⟨w.heap.size + 3, 1, none⟩ = some (.int .i64 xH) := (cset_off (cset_eq (cset_off m1 (by decide) _) (.int .i64 xH)) (by decide) _)
        have m2n : (((w3.setCell ⟨w.heap.size + 3, 0, none⟩ (.int .i64 xL)).setCell ⟨w.heap.size + 3, 1, none⟩ (.int .i64 xH)).setCell ⟨w.heap.size + 3, 2, none⟩ (.int .i64 bA)).cell? ⟨w.heap.size + 3, 2, none⟩ = some (.int .i64 bA) := (cset_eq (cset_off (cset_off m2 (by decide) _) (by decide) _) (.int .i64 bA))
        have t_W_3 : Below w.heap.size w (((w3.setCell ⟨w.heap.size + 3, 0, none⟩ (.int .i64 xL)).setCell ⟨w.heap.size + 3, 1, none⟩ (.int .i64 xH)).setCell ⟨w.heap.size + 3, 2, none⟩ (.int .i64 bA)) := by go_grown
        clear m0 m1 m2 t_w3
        have m0 := m0n; clear m0n
        have m1 := m1n; clear m1n
        have m2 := m2n; clear m2n
        generalize ((w3.setCell ⟨w.heap.size + 3, 0, none⟩ (.int .i64 xL)).setCell ⟨w.heap.size + 3, 1, none⟩ (.int .i64 xH)).setCell ⟨w.heap.size + 3, 2, none⟩ (.int .i64 bA) = W_3 at *
        refine (svalid H3.out _).mono ?_
        rintro e w4 ⟨rfl, g_w4⟩
        have s_w4 : Below W_3.heap.size W_3 w4 := chain (by go_grown) g_w4
        have t_w4 := chain t_W_3 s_w4
        replace rf := fkeep2 rf (lt_of r0) s_w4
        replace mf := fkeep2 mf (lt_of m0) s_w4
        replace nf := fkeep2 nf (lt_of n0) s_w4
        replace p0 := keep p0 s_w4
        have z_p0_w4 := lt_of p0
        replace p1 := keep p1 s_w4
        replace p2 := keep p2 s_w4
        replace q0 := keep q0 s_w4
        have z_q0_w4 := lt_of q0
        replace q1 := keep q1 s_w4
        replace q2 := keep q2 s_w4
        replace r0 := keep r0 s_w4
        have z_r0_w4 := lt_of r0
        replace r1 := keep r1 s_w4
        replace r2 := keep r2 s_w4
        replace m0 := keep m0 s_w4
        have z_m0_w4 := lt_of m0
        replace m1 := keep m1 s_w4
        replace m2 := keep m2 s_w4
        replace n0 := keep n0 s_w4
        have z_n0_w4 := lt_of n0
        replace n1 := keep n1 s_w4
        replace n2 := keep n2 s_w4
        clear g_w4 s_w4 z_p0_w3 z_q0_w3 z_r0_w3 z_m0_w3 z_n0_w3 t_W_3
        go_wp2_with fail
        refine (svalid H2.out _).mono ?_
        rintro e w5 ⟨rfl, g_w5⟩
        have s_w5 : Below w4.heap.size w4 w5 := chain (by go_grown) g_w5
        have t_w5 := chain t_w4 s_w5
        replace rf := fkeep2 rf (lt_of r0) s_w5
        replace mf := fkeep2 mf (lt_of m0) s_w5
        replace nf := fkeep2 nf (lt_of n0) s_w5
        replace p0 := keep p0 s_w5
        have z_p0_w5 := lt_of p0
        replace p1 := keep p1 s_w5
        replace p2 := keep p2 s_w5
        replace q0 := keep q0 s_w5
        have z_q0_w5 := lt_of q0
        replace q1 := keep q1 s_w5
        replace q2 := keep q2 s_w5
        replace r0 := keep r0 s_w5
        have z_r0_w5 := lt_of r0
        replace r1 := keep r1 s_w5
        replace r2 := keep r2 s_w5
        replace m0 := keep m0 s_w5
        have z_m0_w5 := lt_of m0
        replace m1 := keep m1 s_w5
        replace m2 := keep m2 s_w5
        replace n0 := keep n0 s_w5
        have z_n0_w5 := lt_of n0
        replace n1 := keep n1 s_w5
        replace n2 := keep n2 s_w5
        clear g_w5 s_w5 z_p0_w4 z_q0_w4 z_r0_w4 z_m0_w4 z_n0_w4 t_w4
        go_wp2_with fail
        refine bodyPost_ret (v := .tuple #[.agg #[.int .i64 lo, .int .i64 hi, .int .i64 bA], .int .i64 0]) (by simp [results, Try.results14, go_sem, *]) rfl ⟨rfl, by go_grown⟩
      · go_wp2_with fail
        refine (svalid H1.out _).mono ?_
        rintro e w1 ⟨rfl, g_w1⟩
        have s_w1 : Below w.heap.size w w1 := chain (by go_grown) g_w1
        have t_w1 := chain t_w s_w1
        have p0 : w1.cell? ⟨w.heap.size, 0, none⟩ = some (.int .i64 aL) := ((bcell g_w1).1 _ _ (by simp; try omega)).trans (by simp [go_sem])
        have p1 : w1.cell? ⟨w.heap.size, 1, none⟩ = some (.int .i64 aH) := ((bcell g_w1).1 _ _ (by simp; try omega)).trans (by simp [go_sem])
        have p2 : w1.cell? ⟨w.heap.size, 2, none⟩ = some (.int .i64 aA) := ((bcell g_w1).1 _ _ (by simp; try omega)).trans (by simp [go_sem])
        have z_p_w1 := lt_of p0
        have q0 : w1.cell? ⟨w.heap.size + 1, 0, none⟩ = some (.int .i64 bL) := ((bcell g_w1).1 _ _ (by simp; try omega)).trans (by simp [go_sem])
        have q1 : w1.cell? ⟨w.heap.size + 1, 1, none⟩ = some (.int .i64 bH) := ((bcell g_w1).1 _ _ (by simp; try omega)).trans (by simp [go_sem])
        have q2 : w1.cell? ⟨w.heap.size + 1, 2, none⟩ = some (.int .i64 bA) := ((bcell g_w1).1 _ _ (by simp; try omega)).trans (by simp [go_sem])
        have z_q_w1 := lt_of q0
        have r0 : w1.cell? ⟨w.heap.size + 2, 0, none⟩ = some (.int .i64 0) := ((bcell g_w1).1 _ _ (by simp; try omega)).trans (by simp [go_sem])
        have r1 : w1.cell? ⟨w.heap.size + 2, 1, none⟩ = some (.int .i64 0) := ((bcell g_w1).1 _ _ (by simp; try omega)).trans (by simp [go_sem])
        have r2 : w1.cell? ⟨w.heap.size + 2, 2, none⟩ = some (.int .i64 0) := ((bcell g_w1).1 _ _ (by simp; try omega)).trans (by simp [go_sem])
        have z_r_w1 := lt_of r0
        have rf : ∀ i, w1.frozen? ⟨w.heap.size + 2, i, none⟩ = false := fun i => ((bcell g_w1).2 _ _ (by simp; try omega)).trans (by simp [go_sem])
        have n0 : w1.cell? ⟨w.heap.size + 3, 0, none⟩ = some (.int .i64 bL) := ((bcell g_w1).1 _ _ (by simp; try omega)).trans (by simp [go_sem])
        have n1 : w1.cell? ⟨w.heap.size + 3, 1, none⟩ = some (.int .i64 bH) := ((bcell g_w1).1 _ _ (by simp; try omega)).trans (by simp [go_sem])
        have n2 : w1.cell? ⟨w.heap.size + 3, 2, none⟩ = some (.int .i64 bA) := ((bcell g_w1).1 _ _ (by simp; try omega)).trans (by simp [go_sem])
        have z_n_w1 := lt_of n0
        have nf : ∀ i, w1.frozen? ⟨w.heap.size + 3, i, none⟩ = false := fun i => ((bcell g_w1).2 _ _ (by simp; try omega)).trans (by simp [go_sem])
        have m0 : w1.cell? ⟨w.heap.size + 4, 0, none⟩ = some (.int .i64 aL) := ((bcell g_w1).1 _ _ (by simp; try omega)).trans (by simp [go_sem])
        have m1 : w1.cell? ⟨w.heap.size + 4, 1, none⟩ = some (.int .i64 aH) := ((bcell g_w1).1 _ _ (by simp; try omega)).trans (by simp [go_sem])
        have m2 : w1.cell? ⟨w.heap.size + 4, 2, none⟩ = some (.int .i64 aA) := ((bcell g_w1).1 _ _ (by simp; try omega)).trans (by simp [go_sem])
        have z_m_w1 := lt_of m0
        have mf : ∀ i, w1.frozen? ⟨w.heap.size + 4, i, none⟩ = false := fun i => ((bcell g_w1).2 _ _ (by simp; try omega)).trans (by simp [go_sem])
        clear g_w1 s_w1 t_w
        go_wp2_with fail
        refine (svalid H2.out _).mono ?_
        rintro e w2 ⟨rfl, g_w2⟩
        have s_w2 : Below w1.heap.size w1 w2 := chain (by go_grown) g_w2
        have t_w2 := chain t_w1 s_w2
        replace rf := fkeep2 rf (lt_of r0) s_w2
        replace nf := fkeep2 nf (lt_of n0) s_w2
        replace mf := fkeep2 mf (lt_of m0) s_w2
        replace p0 := keep p0 s_w2
        have z_p0_w2 := lt_of p0
        replace p1 := keep p1 s_w2
        replace p2 := keep p2 s_w2
        replace q0 := keep q0 s_w2
        have z_q0_w2 := lt_of q0
        replace q1 := keep q1 s_w2
        replace q2 := keep q2 s_w2
        replace r0 := keep r0 s_w2
        have z_r0_w2 := lt_of r0
        replace r1 := keep r1 s_w2
        replace r2 := keep r2 s_w2
        replace n0 := keep n0 s_w2
        have z_n0_w2 := lt_of n0
        replace n1 := keep n1 s_w2
        replace n2 := keep n2 s_w2
        replace m0 := keep m0 s_w2
        have z_m0_w2 := lt_of m0
        replace m1 := keep m1 s_w2
        replace m2 := keep m2 s_w2
        clear g_w2 s_w2 z_p_w1 z_q_w1 z_r_w1 z_n_w1 z_m_w1 t_w1
        go_wp2_with fail
        refine (GA.out _).mono ?_
        rintro e w3 ⟨rfl, g_w3⟩
        have s_w3 : Below w2.heap.size w2 w3 := chain (by go_grown) g_w3
        have t_w3 := chain t_w2 s_w3
        replace rf := fkeep2 rf (lt_of r0) s_w3
        replace nf := fkeep2 nf (lt_of n0) s_w3
        replace mf := fkeep2 mf (lt_of m0) s_w3
        replace p0 := keep p0 s_w3
        have z_p0_w3 := lt_of p0
        replace p1 := keep p1 s_w3
        replace p2 := keep p2 s_w3
        replace q0 := keep q0 s_w3
        have z_q0_w3 := lt_of q0
        replace q1 := keep q1 s_w3
        replace q2 := keep q2 s_w3
        replace r0 := keep r0 s_w3
        have z_r0_w3 := lt_of r0
        replace r1 := keep r1 s_w3
        replace r2 := keep r2 s_w3
        replace n0 := keep n0 s_w3
        have z_n0_w3 := lt_of n0
        replace n1 := keep n1 s_w3
        replace n2 := keep n2 s_w3
        replace m0 := keep m0 s_w3
        have z_m0_w3 := lt_of m0
        replace m1 := keep m1 s_w3
        replace m2 := keep m2 s_w3
        clear g_w3 s_w3 z_p0_w2 z_q0_w2 z_r0_w2 z_n0_w2 z_m0_w2 t_w2
        go_wp2_with fail
        have p0n : (((w3.setCell ⟨w.heap.size + 4, 0, none⟩ (.int .i64 xL)).setCell ⟨w.heap.size + 4, 1, none⟩ (.int .i64 xH)).setCell ⟨w.heap.size + 4, 2, none⟩ (.int .i64 bA)).cell? _ = _ := (cset_ne (c := w.heap.size + 4) (cset_ne (c := w.heap.size + 4) (cset_ne (c := w.heap.size + 4) p0 (by omega) 0 (.int .i64 xL)) (by omega) 1 (.int .i64 xH)) (by omega) 2 (.int .i64 bA)); clear p0; have p0 := p0n; clear p0n
        have p1n : (((w3.setCell ⟨w.heap.size + 4, 0, none⟩ (.int .i64 xL)).setCell ⟨w.heap.size + 4, 1, none⟩ (.int .i64 xH)).setCell ⟨w.heap.size + 4, 2, none⟩ (.int .i64 bA)).cell? _ = _ := (cset_ne (c := w.heap.size + 4) (cset_ne (c := w.heap.size + 4) (cset_ne (c := w.heap.size + 4) p1 (by omega) 0 (.int .i64 xL)) (by omega) 1 (.int .i64 xH)) (by omega) 2 (.int .i64 bA)); clear p1; have p1 := p1n; clear p1n
        have p2n : (((w3.setCell ⟨w.heap.size + 4, 0, none⟩ (.int .i64 xL)).setCell ⟨w.heap.size + 4, 1, none⟩ (.int .i64 xH)).setCell ⟨w.heap.size + 4, 2, none⟩ (.int .i64 bA)).cell? _ = _ := (cset_ne (c := w.heap.size + 4) (cset_ne (c := w.heap.size + 4) (cset_ne (c := w.heap.size + 4) p2 (by omega) 0 (.int .i64 xL)) (by omega) 1 (.int .i64 xH)) (by omega) 2 (.int .i64 bA)); clear p2; have p2 := p2n; clear p2n
        have q0n : (((w3.setCell ⟨w.heap.size + 4, 0, none⟩ (.int .i64 xL)).setCell ⟨w.heap.size + 4, 1, none⟩ (.int .i64 xH)).setCell ⟨w.heap.size + 4, 2, none⟩ (.int .i64 bA)).cell? _ = _ := (cset_ne (c := w.heap.size + 4) (cset_ne (c := w.heap.size + 4) (cset_ne (c := w.heap.size + 4) q0 (by omega) 0 (.int .i64 xL)) (by omega) 1 (.int .i64 xH)) (by omega) 2 (.int .i64 bA)); clear q0; have q0 := q0n; clear q0n
        have q1n : (((w3.setCell ⟨w.heap.size + 4, 0, none⟩ (.int .i64 xL)).setCell ⟨w.heap.size + 4, 1, none⟩ (.int .i64 xH)).setCell ⟨w.heap.size + 4, 2, none⟩ (.int .i64 bA)).cell? _ = _ := (cset_ne (c := w.heap.size + 4) (cset_ne (c := w.heap.size + 4) (cset_ne (c := w.heap.size + 4) q1 (by omega) 0 (.int .i64 xL)) (by omega) 1 (.int .i64 xH)) (by omega) 2 (.int .i64 bA)); clear q1; have q1 := q1n; clear q1n
        have q2n : (((w3.setCell ⟨w.heap.size + 4, 0, none⟩ (.int .i64 xL)).setCell ⟨w.heap.size + 4, 1, none⟩ (.int .i64 xH)).setCell ⟨w.heap.size + 4, 2, none⟩ (.int .i64 bA)).cell? _ = _ := (cset_ne (c := w.heap.size + 4) (cset_ne (c := w.heap.size + 4) (cset_ne (c := w.heap.size + 4) q2 (by omega) 0 (.int .i64 xL)) (by omega) 1 (.int .i64 xH)) (by omega) 2 (.int .i64 bA)); clear q2; have q2 := q2n; clear q2n
        replace rf : ∀ i, (((w3.setCell ⟨w.heap.size + 4, 0, none⟩ (.int .i64 xL)).setCell ⟨w.heap.size + 4, 1, none⟩ (.int .i64 xH)).setCell ⟨w.heap.size + 4, 2, none⟩ (.int .i64 bA)).frozen? ⟨w.heap.size + 2, i, none⟩ = false := fun i => by simp only [World.frozen?_setCell]; exact rf i
        have r0n : (((w3.setCell ⟨w.heap.size + 4, 0, none⟩ (.int .i64 xL)).setCell ⟨w.heap.size + 4, 1, none⟩ (.int .i64 xH)).setCell ⟨w.heap.size + 4, 2, none⟩ (.int .i64 bA)).cell? _ = _ := (cset_ne (c := w.heap.size + 4) (cset_ne (c := w.heap.size + 4) (cset_ne (c := w.heap.size + 4) r0 (by omega) 0 (.int .i64 xL)) (by omega) 1 (.int .i64 xH)) (by omega) 2 (.int .i64 bA)); clear r0; have r0 := r0n; clear r0n
        have r1n : (((w3.setCell ⟨w.heap.size + 4, 0, none⟩ (.int .i64 xL)).setCell ⟨w.heap.size + 4, 1, none⟩ (.int .i64 xH)).setCell ⟨w.heap.size + 4, 2, none⟩ (.int .i64 bA)).cell? _ = _ := (cset_ne (c := w.heap.size + 4) (cset_ne (c := w.heap.size + 4) (cset_ne (c := w.heap.size + 4) r1 (by omega) 0 (.int .i64 xL)) (by omega) 1 (.int .i64 xH)) (by omega) 2 (.int .i64 bA)); clear r1; have r1 := r1n; clear r1n
        have r2n : (((w3.setCell ⟨w.heap.size + 4, 0, none⟩ (.int .i64 xL)).setCell ⟨w.heap.size + 4, 1, none⟩ (.int .i64 xH)).setCell ⟨w.heap.size + 4, 2, none⟩ (.int .i64 bA)).cell? _ = _ := (cset_ne (c := w.heap.size + 4) (cset_ne (c := w.heap.size + 4) (cset_ne (c := w.heap.size + 4) r2 (by omega) 0 (.int .i64 xL)) (by omega) 1 (.int .i64 xH)) (by omega) 2 (.int .i64 bA)); clear r2; have r2 := r2n; clear r2n
        replace nf : ∀ i, (((w3.setCell ⟨w.heap.size + 4, 0, none⟩ (.int .i64 xL)).setCell ⟨w.heap.size + 4, 1, none⟩ (.int .i64 xH)).setCell ⟨w.heap.size + 4, 2, none⟩ (.int .i64 bA)).frozen? ⟨w.heap.size + 3, i, none⟩ = false := fun i => by simp only [World.frozen?_setCell]; exact nf i
        have n0n : (((w3.setCell ⟨w.heap.size + 4, 0, none⟩ (.int .i64 xL)).setCell ⟨w.heap.size + 4, 1, none⟩ (.int .i64 xH)).setCell ⟨w.heap.size + 4, 2, none⟩ (.int .i64 bA)).cell? _ = _ := (cset_ne (c := w.heap.size + 4) (cset_ne (c := w.heap.size + 4) (cset_ne (c := w.heap.size + 4) n0 (by omega) 0 (.int .i64 xL)) (by omega) 1 (.int .i64 xH)) (by omega) 2 (.int .i64 bA)); clear n0; have n0 := n0n; clear n0n
        have n1n : (((w3.setCell ⟨w.heap.size + 4, 0, none⟩ (.int .i64 xL)).setCell ⟨w.heap.size + 4, 1, none⟩ (.int .i64 xH)).setCell ⟨w.heap.size + 4, 2, none⟩ (.int .i64 bA)).cell? _ = _ := (cset_ne (c := w.heap.size + 4) (cset_ne (c := w.heap.size + 4) (cset_ne (c := w.heap.size + 4) n1 (by omega) 0 (.int .i64 xL)) (by omega) 1 (.int .i64 xH)) (by omega) 2 (.int .i64 bA)); clear n1; have n1 := n1n; clear n1n
        have n2n : (((w3.setCell ⟨w.heap.size + 4, 0, none⟩ (.int .i64 xL)).setCell ⟨w.heap.size + 4, 1, none⟩ (.int .i64 xH)).setCell ⟨w.heap.size + 4, 2, none⟩ (.int .i64 bA)).cell? _ = _ := (cset_ne (c := w.heap.size + 4) (cset_ne (c := w.heap.size + 4) (cset_ne (c := w.heap.size + 4) n2 (by omega) 0 (.int .i64 xL)) (by omega) 1 (.int .i64 xH)) (by omega) 2 (.int .i64 bA)); clear n2; have n2 := n2n; clear n2n
        replace mf : ∀ i, (((w3.setCell ⟨w.heap.size + 4, 0, none⟩ (.int .i64 xL)).setCell ⟨w.heap.size + 4, 1, none⟩ (.int .i64 xH)).setCell ⟨w.heap.size + 4, 2, none⟩ (.int .i64 bA)).frozen? ⟨w.heap.size + 4, i, none⟩ = false := fun i => by simp only [World.frozen?_setCell]; exact mf i
        have m0n : (((w3.setCell ⟨w.heap.size + 4, 0, none⟩ (.int .i64 xL)).setCell ⟨w.heap.size + 4, 1, none⟩ (.int .i64 xH)).setCell ⟨w.heap.size + 4, 2, none⟩ (.int .i64 bA)).cell? ⟨w.heap.size + 4, 0, none⟩ = some (.int .i64 xL) := (cset_off (cset_off (cset_eq m0 (.int .i64 xL)) (by decide) _) (by decide) _)
        have m1n : (((w3.setCell ⟨w.heap.size + 4, 0, none⟩ (.int .i64 xL)).setCell ⟨w.heap.size + 4, 1, none⟩ (.int .i64 xH)).setCell ⟨w.heap.size + 4, 2, none⟩ (.int .i64 bA)).cell? ⟨w.heap.size + 4, 1, none⟩ = some (.int .i64 xH) := (cset_off (cset_eq (cset_off m1 (by decide) _) (.int .i64 xH)) (by decide) _)
        have m2n : (((w3.setCell ⟨w.heap.size + 4, 0, none⟩ (.int .i64 xL)).setCell ⟨w.heap.size + 4, 1, none⟩ (.int .i64 xH)).setCell ⟨w.heap.size + 4, 2, none⟩ (.int .i64 bA)).cell? ⟨w.heap.size + 4, 2, none⟩ = some (.int .i64 bA) := (cset_eq (cset_off (cset_off m2 (by decide) _) (by decide) _) (.int .i64 bA))
        have t_W_3 : Below w.heap.size w (((w3.setCell ⟨w.heap.size + 4, 0, none⟩ (.int .i64 xL)).setCell ⟨w.heap.size + 4, 1, none⟩ (.int .i64 xH)).setCell ⟨w.heap.size + 4, 2, none⟩ (.int .i64 bA)) := by go_grown
        clear m0 m1 m2 t_w3
        have m0 := m0n; clear m0n
        have m1 := m1n; clear m1n
        have m2 := m2n; clear m2n
        generalize ((w3.setCell ⟨w.heap.size + 4, 0, none⟩ (.int .i64 xL)).setCell ⟨w.heap.size + 4, 1, none⟩ (.int .i64 xH)).setCell ⟨w.heap.size + 4, 2, none⟩ (.int .i64 bA) = W_3 at *
        refine (svalid H3.out _).mono ?_
        rintro e w4 ⟨rfl, g_w4⟩
        have s_w4 : Below W_3.heap.size W_3 w4 := chain (by go_grown) g_w4
        have t_w4 := chain t_W_3 s_w4
        replace rf := fkeep2 rf (lt_of r0) s_w4
        replace nf := fkeep2 nf (lt_of n0) s_w4
        replace mf := fkeep2 mf (lt_of m0) s_w4
        replace p0 := keep p0 s_w4
        have z_p0_w4 := lt_of p0
        replace p1 := keep p1 s_w4
        replace p2 := keep p2 s_w4
        replace q0 := keep q0 s_w4
        have z_q0_w4 := lt_of q0
        replace q1 := keep q1 s_w4
        replace q2 := keep q2 s_w4
        replace r0 := keep r0 s_w4
        have z_r0_w4 := lt_of r0
        replace r1 := keep r1 s_w4
        replace r2 := keep r2 s_w4
        replace n0 := keep n0 s_w4
        have z_n0_w4 := lt_of n0
        replace n1 := keep n1 s_w4
        replace n2 := keep n2 s_w4
        replace m0 := keep m0 s_w4
        have z_m0_w4 := lt_of m0
        replace m1 := keep m1 s_w4
        replace m2 := keep m2 s_w4
        clear g_w4 s_w4 z_p0_w3 z_q0_w3 z_r0_w3 z_n0_w3 z_m0_w3 t_W_3
        go_wp2_with fail
        refine (svalid H2.out _).mono ?_
        rintro e w5 ⟨rfl, g_w5⟩
        have s_w5 : Below w4.heap.size w4 w5 := chain (by go_grown) g_w5
        have t_w5 := chain t_w4 s_w5
        replace rf := fkeep2 rf (lt_of r0) s_w5
        replace nf := fkeep2 nf (lt_of n0) s_w5
        replace mf := fkeep2 mf (lt_of m0) s_w5
        replace p0 := keep p0 s_w5
        have z_p0_w5 := lt_of p0
        replace p1 := keep p1 s_w5
        replace p2 := keep p2 s_w5
        replace q0 := keep q0 s_w5
        have z_q0_w5 := lt_of q0
        replace q1 := keep q1 s_w5
        replace q2 := keep q2 s_w5
        replace r0 := keep r0 s_w5
        have z_r0_w5 := lt_of r0
        replace r1 := keep r1 s_w5
        replace r2 := keep r2 s_w5
        replace n0 := keep n0 s_w5
        have z_n0_w5 := lt_of n0
        replace n1 := keep n1 s_w5
        replace n2 := keep n2 s_w5
        replace m0 := keep m0 s_w5
        have z_m0_w5 := lt_of m0
        replace m1 := keep m1 s_w5
        replace m2 := keep m2 s_w5
        clear g_w5 s_w5 z_p0_w4 z_q0_w4 z_r0_w4 z_n0_w4 z_m0_w4 t_w4
        go_wp2_with fail
        refine bodyPost_ret (v := .tuple #[.agg #[.int .i64 lo, .int .i64 hi, .int .i64 bA], .int .i64 0]) (by simp [results, Try.results14, go_sem, *]) rfl ⟨rfl, by go_grown⟩
end Go.Proofs.Ytkmkfjaokjcelaa
