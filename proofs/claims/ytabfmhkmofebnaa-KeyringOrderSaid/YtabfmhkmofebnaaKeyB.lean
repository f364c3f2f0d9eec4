/- Contracts of package keyring: Root, Learn, Age. -/
import Derived.Test.YtabfmhkmofebnaaKeyA
namespace Go.Proofs.Ytabfmhkmofebnaa
open Go.ChangeShapes Go.WideShapes Go.ChangeAt Go.RowKit
theorem root1 {a q : Int} (h : oka a = true) (hq : a / 2000 = q) (w : World) : Calls Try.prog 15 #[.int .i64 a] w fun e w' => e = .returned (.agg #[.int .i64 q, .int .i64 (q + 2)]) ∧ Below w.heap.size w w' := by
  obtain ⟨h0, h1⟩ := oka_t h
  have q0 : 0 ≤ q := by omega
  have q1 : q ≤ 500000 := by omega
  have H := Lib.hid h; have HQ := Lib.hid hq; clear h hq
  have t_w := Below.refl w.heap.size w
  go_enter Try.func15, Try.ntmps15
  go_wp2_with fail
  refine (epoch1 H.out HQ.out _).mono ?_
  rintro e x1 ⟨rfl, g_x1⟩
  have s_x1 : Below w.heap.size w x1 := chain (by go_grown) g_x1
  have t_x1 := chain t_w s_x1
  have r0 : x1.cell? ⟨w.heap.size, 0, none⟩ = some (.int .i64 0) := ((bcell g_x1).1 _ _ (by simp; try omega)).trans (by simp [go_sem])
  have r1 : x1.cell? ⟨w.heap.size, 1, none⟩ = some (.int .i64 0) := ((bcell g_x1).1 _ _ (by simp; try omega)).trans (by simp [go_sem])
  have z_r_x1 := lt_of r0
  have rf : ∀ i, x1.frozen? ⟨w.heap.size, i, none⟩ = false := fun i => ((bcell g_x1).2 _ _ (by simp; try omega)).trans (by simp [go_sem])
  clear g_x1 s_x1 t_w
  go_wp2_with fail
  refine bodyPost_ret (v := .agg #[.int .i64 q, .int .i64 (q + 2)]) (by simp [results, Try.results15, go_sem, *]) rfl ⟨rfl, by first | exact t_x1 | go_grown⟩
theorem root0 {a : Int} (h : oka a = false) (w : World) : Calls Try.prog 15 #[.int .i64 a] w fun e w' => e = .returned (.agg #[.int .i64 0, .int .i64 0]) ∧ Below w.heap.size w w' := by
  have H := Lib.hid h; clear h
  have t_w := Below.refl w.heap.size w
  go_enter Try.func15, Try.ntmps15
  go_wp2_with fail
  refine (epoch0 H.out _).mono ?_
  rintro e x1 ⟨rfl, g_x1⟩
  have s_x1 : Below w.heap.size w x1 := chain (by go_grown) g_x1
  have t_x1 := chain t_w s_x1
  have r0 : x1.cell? ⟨w.heap.size, 0, none⟩ = some (.int .i64 0) := ((bcell g_x1).1 _ _ (by simp; try omega)).trans (by simp [go_sem])
  have r1 : x1.cell? ⟨w.heap.size, 1, none⟩ = some (.int .i64 0) := ((bcell g_x1).1 _ _ (by simp; try omega)).trans (by simp [go_sem])
  have z_r_x1 := lt_of r0
  have rf : ∀ i, x1.frozen? ⟨w.heap.size, i, none⟩ = false := fun i => ((bcell g_x1).2 _ _ (by simp; try omega)).trans (by simp [go_sem])
  clear g_x1 s_x1 t_w
  go_wp2_with fail
  refine bodyPost_ret (v := .agg #[.int .i64 0, .int .i64 0]) (by simp [results, Try.results15, go_sem, *]) rfl ⟨rfl, by first | exact t_x1 | go_grown⟩
theorem fld (x y : Int) (w : World) : Sem.run Try.prog (Instr.field 51 (.agg #[.int .i64 x, .int .i64 y]) 0) w = .ok (.agg #[.int .i64 x, .int .i64 y]) w := by kernel_rfl
/-- whether a node learns -/
def lrn (f n g m a : Int) : Bool := oka a && knb f n (a / 2000) && knb g m (a / 2000) && decide (m ≤ a / 2000 + 2)
def lrF (f n g m a : Int) : Int := if lrn f n g m a = true then (if g < f then g else f) else f
def lrN (f n g m a : Int) : Int := if lrn f n g m a = true then (if n < m then m else n) else n
theorem okr_b {f n : Int} (h : okr f n = true) : 0 ≤ f ∧ f ≤ 500000 ∧ 0 ≤ n ∧ n ≤ 500002 := by
  have : (f = 0 ∧ n = 0) ∨ (0 ≤ f ∧ f ≤ 500000 ∧ f + 1 ≤ n ∧ n ≤ 500002) := by simpa [okr] using h
  omega
theorem knb_t {f n e : Int} (h : knb f n e = true) : okr f n = true ∧ f ≤ e ∧ e < n := by simpa [knb] using h
set_option maxHeartbeats 1000000 in
theorem learn {f n g m a x y : Int} (hx : lrF f n g m a = x) (hy : lrN f n g m a = y) (w : World) :
    Calls Try.prog 17 #[.agg #[.int .i64 f, .int .i64 n], .agg #[.int .i64 g, .int .i64 m], .int .i64 a] w fun e w' => e = .returned (.agg #[.int .i64 x, .int .i64 y]) ∧ Below w.heap.size w w' := by
  rcases ha : oka a with _ | _
  · obtain rfl : f = x := by rw [← hx]; simp [lrF, lrn, ha]
    obtain rfl : n = y := by rw [← hy]; simp [lrN, lrn, ha]
    have HA := Lib.hid ha; clear ha hx hy
    have t_w := Below.refl w.heap.size w
    go_enter Try.func17, Try.ntmps17
    go_wp2_with fail
    go_region
    · go_wp2_with fail
      refine (epoch0 HA.out _).mono ?_
      rintro e x1 ⟨rfl, g_x1⟩
      have s_x1 : Below w.heap.size w x1 := chain (by go_grown) g_x1
      have t_x1 := chain t_w s_x1
      have p0 : x1.cell? ⟨w.heap.size, 0, none⟩ = some (.int .i64 f) := ((bcell g_x1).1 _ _ (by simp; try omega)).trans (by simp [go_sem])
      have p1 : x1.cell? ⟨w.heap.size, 1, none⟩ = some (.int .i64 n) := ((bcell g_x1).1 _ _ (by simp; try omega)).trans (by simp [go_sem])
      have z_p_x1 := lt_of p0
      have q0 : x1.cell? ⟨w.heap.size + 1, 0, none⟩ = some (.int .i64 g) := ((bcell g_x1).1 _ _ (by simp; try omega)).trans (by simp [go_sem])
      have q1 : x1.cell? ⟨w.heap.size + 1, 1, none⟩ = some (.int .i64 m) := ((bcell g_x1).1 _ _ (by simp; try omega)).trans (by simp [go_sem])
      have z_q_x1 := lt_of q0
      have r0 : x1.cell? ⟨w.heap.size + 2, 0, none⟩ = some (.int .i64 0) := ((bcell g_x1).1 _ _ (by simp; try omega)).trans (by simp [go_sem])
      have r1 : x1.cell? ⟨w.heap.size + 2, 1, none⟩ = some (.int .i64 0) := ((bcell g_x1).1 _ _ (by simp; try omega)).trans (by simp [go_sem])
      have z_r_x1 := lt_of r0
      have rf : ∀ i, x1.frozen? ⟨w.heap.size + 2, i, none⟩ = false := fun i => ((bcell g_x1).2 _ _ (by simp; try omega)).trans (by simp [go_sem])
      have a0 : x1.cell? ⟨w.heap.size + 3, 0, none⟩ = some (.int .i64 f) := ((bcell g_x1).1 _ _ (by simp; try omega)).trans (by simp [go_sem])
      have a1 : x1.cell? ⟨w.heap.size + 3, 1, none⟩ = some (.int .i64 n) := ((bcell g_x1).1 _ _ (by simp; try omega)).trans (by simp [go_sem])
      have z_a_x1 := lt_of a0
      have b0 : x1.cell? ⟨w.heap.size + 4, 0, none⟩ = some (.int .i64 g) := ((bcell g_x1).1 _ _ (by simp; try omega)).trans (by simp [go_sem])
      have b1 : x1.cell? ⟨w.heap.size + 4, 1, none⟩ = some (.int .i64 m) := ((bcell g_x1).1 _ _ (by simp; try omega)).trans (by simp [go_sem])
      have z_b_x1 := lt_of b0
      clear g_x1 s_x1 t_w
      go_wp2_with fail
      refine bodyPost_ret (v := .agg #[.int .i64 f, .int .i64 n]) (by simp [results, Try.results17, go_sem, *]) rfl ⟨rfl, by go_grown⟩
    · go_wp2_with fail
      refine (epoch0 HA.out _).mono ?_
      rintro e x1 ⟨rfl, g_x1⟩
      have s_x1 : Below w.heap.size w x1 := chain (by go_grown) g_x1
      have t_x1 := chain t_w s_x1
      have p0 : x1.cell? ⟨w.heap.size, 0, none⟩ = some (.int .i64 f) := ((bcell g_x1).1 _ _ (by simp; try omega)).trans (by simp [go_sem])
      have p1 : x1.cell? ⟨w.heap.size, 1, none⟩ = some (.int .i64 n) := ((bcell g_x1).1 _ _ (by simp; try omega)).trans (by simp [go_sem])
      have z_p_x1 := lt_of p0
      have q0 : x1.cell? ⟨w.heap.size + 1, 0, none⟩ = some (.int .i64 g) := ((bcell g_x1).1 _ _ (by simp; try omega)).trans (by simp [go_sem])
      have q1 : x1.cell? ⟨w.heap.size + 1, 1, none⟩ = some (.int .i64 m) := ((bcell g_x1).1 _ _ (by simp; try omega)).trans (by simp [go_sem])
      have z_q_x1 := lt_of q0
      have r0 : x1.cell? ⟨w.heap.size + 2, 0, none⟩ = some (.int .i64 0) := ((bcell g_x1).1 _ _ (by simp; try omega)).trans (by simp [go_sem])
      have r1 : x1.cell? ⟨w.heap.size + 2, 1, none⟩ = some (.int .i64 0) := ((bcell g_x1).1 _ _ (by simp; try omega)).trans (by simp [go_sem])
      have z_r_x1 := lt_of r0
      have rf : ∀ i, x1.frozen? ⟨w.heap.size + 2, i, none⟩ = false := fun i => ((bcell g_x1).2 _ _ (by simp; try omega)).trans (by simp [go_sem])
      have b0 : x1.cell? ⟨w.heap.size + 3, 0, none⟩ = some (.int .i64 g) := ((bcell g_x1).1 _ _ (by simp; try omega)).trans (by simp [go_sem])
      have b1 : x1.cell? ⟨w.heap.size + 3, 1, none⟩ = some (.int .i64 m) := ((bcell g_x1).1 _ _ (by simp; try omega)).trans (by simp [go_sem])
      have z_b_x1 := lt_of b0
      have a0 : x1.cell? ⟨w.heap.size + 4, 0, none⟩ = some (.int .i64 f) := ((bcell g_x1).1 _ _ (by simp; try omega)).trans (by simp [go_sem])
      have a1 : x1.cell? ⟨w.heap.size + 4, 1, none⟩ = some (.int .i64 n) := ((bcell g_x1).1 _ _ (by simp; try omega)).trans (by simp [go_sem])
      have z_a_x1 := lt_of a0
      clear g_x1 s_x1 t_w
      go_wp2_with fail
      refine bodyPost_ret (v := .agg #[.int .i64 f, .int .i64 n]) (by simp [results, Try.results17, go_sem, *]) rfl ⟨rfl, by go_grown⟩
  · obtain ⟨h0, h1⟩ := oka_t ha
    generalize hq : a / 2000 = q at *
    have q0 : 0 ≤ q := by omega
    have q1 : q ≤ 500000 := by omega
    have HA := Lib.hid ha; have HQ := Lib.hid hq
    rcases hk : knb f n q with _ | _
    · obtain rfl : f = x := by rw [← hx]; simp [lrF, lrn, hq, hk]
      obtain rfl : n = y := by rw [← hy]; simp [lrN, lrn, hq, hk]
      have HK := Lib.hid hk; clear ha hq hk hx hy
      have t_w := Below.refl w.heap.size w
      go_enter Try.func17, Try.ntmps17
      go_wp2_with fail
      go_region
      · go_wp2_with fail
        refine (epoch1 HA.out HQ.out _).mono ?_
        rintro e x1 ⟨rfl, g_x1⟩
        have s_x1 : Below w.heap.size w x1 := chain (by go_grown) g_x1
        have t_x1 := chain t_w s_x1
        have p0 : x1.cell? ⟨w.heap.size, 0, none⟩ = some (.int .i64 f) := ((bcell g_x1).1 _ _ (by simp; try omega)).trans (by simp [go_sem])
        have p1 : x1.cell? ⟨w.heap.size, 1, none⟩ = some (.int .i64 n) := ((bcell g_x1).1 _ _ (by simp; try omega)).trans (by simp [go_sem])
        have z_p_x1 := lt_of p0
        have q0 : x1.cell? ⟨w.heap.size + 1, 0, none⟩ = some (.int .i64 g) := ((bcell g_x1).1 _ _ (by simp; try omega)).trans (by simp [go_sem])
        have q1 : x1.cell? ⟨w.heap.size + 1, 1, none⟩ = some (.int .i64 m) := ((bcell g_x1).1 _ _ (by simp; try omega)).trans (by simp [go_sem])
        have z_q_x1 := lt_of q0
        have r0 : x1.cell? ⟨w.heap.size + 2, 0, none⟩ = some (.int .i64 0) := ((bcell g_x1).1 _ _ (by simp; try omega)).trans (by simp [go_sem])
        have r1 : x1.cell? ⟨w.heap.size + 2, 1, none⟩ = some (.int .i64 0) := ((bcell g_x1).1 _ _ (by simp; try omega)).trans (by simp [go_sem])
        have z_r_x1 := lt_of r0
        have rf : ∀ i, x1.frozen? ⟨w.heap.size + 2, i, none⟩ = false := fun i => ((bcell g_x1).2 _ _ (by simp; try omega)).trans (by simp [go_sem])
        have a0 : x1.cell? ⟨w.heap.size + 3, 0, none⟩ = some (.int .i64 f) := ((bcell g_x1).1 _ _ (by simp; try omega)).trans (by simp [go_sem])
        have a1 : x1.cell? ⟨w.heap.size + 3, 1, none⟩ = some (.int .i64 n) := ((bcell g_x1).1 _ _ (by simp; try omega)).trans (by simp [go_sem])
        have z_a_x1 := lt_of a0
        have b0 : x1.cell? ⟨w.heap.size + 4, 0, none⟩ = some (.int .i64 g) := ((bcell g_x1).1 _ _ (by simp; try omega)).trans (by simp [go_sem])
        have b1 : x1.cell? ⟨w.heap.size + 4, 1, none⟩ = some (.int .i64 m) := ((bcell g_x1).1 _ _ (by simp; try omega)).trans (by simp [go_sem])
        have z_b_x1 := lt_of b0
        clear g_x1 s_x1 t_w
        go_wp2_with fail
        refine (has HK.out _).mono ?_
        rintro e x2 ⟨rfl, g_x2⟩
        have s_x2 : Below x1.heap.size x1 x2 := chain (by go_grown) g_x2
        have t_x2 := chain t_x1 s_x2
        replace rf := fkeep2 rf (lt_of r0) s_x2
        replace p0 := keep p0 s_x2
        have z_p0_x2 := lt_of p0
        replace p1 := keep p1 s_x2
        replace q0 := keep q0 s_x2
        have z_q0_x2 := lt_of q0
        replace q1 := keep q1 s_x2
        replace r0 := keep r0 s_x2
        have z_r0_x2 := lt_of r0
        replace r1 := keep r1 s_x2
        replace a0 := keep a0 s_x2
        have z_a0_x2 := lt_of a0
        replace a1 := keep a1 s_x2
        replace b0 := keep b0 s_x2
        have z_b0_x2 := lt_of b0
        replace b1 := keep b1 s_x2
        clear g_x2 s_x2 z_p_x1 z_q_x1 z_r_x1 z_a_x1 z_b_x1 t_x1
        go_wp2_with fail
        refine bodyPost_ret (v := .agg #[.int .i64 f, .int .i64 n]) (by simp [results, Try.results17, go_sem, *]) rfl ⟨rfl, by go_grown⟩
      · go_wp2_with fail
        refine (epoch1 HA.out HQ.out _).mono ?_
        rintro e x1 ⟨rfl, g_x1⟩
        have s_x1 : Below w.heap.size w x1 := chain (by go_grown) g_x1
        have t_x1 := chain t_w s_x1
        have p0 : x1.cell? ⟨w.heap.size, 0, none⟩ = some (.int .i64 f) := ((bcell g_x1).1 _ _ (by simp; try omega)).trans (by simp [go_sem])
        have p1 : x1.cell? ⟨w.heap.size, 1, none⟩ = some (.int .i64 n) := ((bcell g_x1).1 _ _ (by simp; try omega)).trans (by simp [go_sem])
        have z_p_x1 := lt_of p0
        have q0 : x1.cell? ⟨w.heap.size + 1, 0, none⟩ = some (.int .i64 g) := ((bcell g_x1).1 _ _ (by simp; try omega)).trans (by simp [go_sem])
        have q1 : x1.cell? ⟨w.heap.size + 1, 1, none⟩ = some (.int .i64 m) := ((bcell g_x1).1 _ _ (by simp; try omega)).trans (by simp [go_sem])
        have z_q_x1 := lt_of q0
        have r0 : x1.cell? ⟨w.heap.size + 2, 0, none⟩ = some (.int .i64 0) := ((bcell g_x1).1 _ _ (by simp; try omega)).trans (by simp [go_sem])
        have r1 : x1.cell? ⟨w.heap.size + 2, 1, none⟩ = some (.int .i64 0) := ((bcell g_x1).1 _ _ (by simp; try omega)).trans (by simp [go_sem])
        have z_r_x1 := lt_of r0
        have rf : ∀ i, x1.frozen? ⟨w.heap.size + 2, i, none⟩ = false := fun i => ((bcell g_x1).2 _ _ (by simp; try omega)).trans (by simp [go_sem])
        have b0 : x1.cell? ⟨w.heap.size + 3, 0, none⟩ = some (.int .i64 g) := ((bcell g_x1).1 _ _ (by simp; try omega)).trans (by simp [go_sem])
        have b1 : x1.cell? ⟨w.heap.size + 3, 1, none⟩ = some (.int .i64 m) := ((bcell g_x1).1 _ _ (by simp; try omega)).trans (by simp [go_sem])
        have z_b_x1 := lt_of b0
        have a0 : x1.cell? ⟨w.heap.size + 4, 0, none⟩ = some (.int .i64 f) := ((bcell g_x1).1 _ _ (by simp; try omega)).trans (by simp [go_sem])
        have a1 : x1.cell? ⟨w.heap.size + 4, 1, none⟩ = some (.int .i64 n) := ((bcell g_x1).1 _ _ (by simp; try omega)).trans (by simp [go_sem])
        have z_a_x1 := lt_of a0
        clear g_x1 s_x1 t_w
        go_wp2_with fail
        refine (has HK.out _).mono ?_
        rintro e x2 ⟨rfl, g_x2⟩
        have s_x2 : Below x1.heap.size x1 x2 := chain (by go_grown) g_x2
        have t_x2 := chain t_x1 s_x2
        replace rf := fkeep2 rf (lt_of r0) s_x2
        replace p0 := keep p0 s_x2
        have z_p0_x2 := lt_of p0
        replace p1 := keep p1 s_x2
        replace q0 := keep q0 s_x2
        have z_q0_x2 := lt_of q0
        replace q1 := keep q1 s_x2
        replace r0 := keep r0 s_x2
        have z_r0_x2 := lt_of r0
        replace r1 := keep r1 s_x2
        replace b0 := keep b0 s_x2
        have z_b0_x2 := lt_of b0
        replace b1 := keep b1 s_x2
        replace a0 := keep a0 s_x2
        have z_a0_x2 := lt_of a0
        replace a1 := keep a1 s_x2
        clear g_x2 s_x2 z_p_x1 z_q_x1 z_r_x1 z_b_x1 z_a_x1 t_x1
        go_wp2_with fail
        refine bodyPost_ret (v := .agg #[.int .i64 f, .int .i64 n]) (by simp [results, Try.results17, go_sem, *]) rfl ⟨rfl, by go_grown⟩
    · rcases hm : knb g m q with _ | _
      · obtain rfl : f = x := by rw [← hx]; simp [lrF, lrn, hq, hm]
        obtain rfl : n = y := by rw [← hy]; simp [lrN, lrn, hq, hm]
        have HK := Lib.hid hk; have HM := Lib.hid hm; clear ha hq hk hm hx hy
        have t_w := Below.refl w.heap.size w
        go_enter Try.func17, Try.ntmps17
        go_wp2_with fail
        go_region
        · go_wp2_with fail
          refine (epoch1 HA.out HQ.out _).mono ?_
          rintro e x1 ⟨rfl, g_x1⟩
          have s_x1 : Below w.heap.size w x1 := chain (by go_grown) g_x1
          have t_x1 := chain t_w s_x1
          have p0 : x1.cell? ⟨w.heap.size, 0, none⟩ = some (.int .i64 f) := ((bcell g_x1).1 _ _ (by simp; try omega)).trans (by simp [go_sem])
          have p1 : x1.cell? ⟨w.heap.size, 1, none⟩ = some (.int .i64 n) := ((bcell g_x1).1 _ _ (by simp; try omega)).trans (by simp [go_sem])
          have z_p_x1 := lt_of p0
          have q0 : x1.cell? ⟨w.heap.size + 1, 0, none⟩ = some (.int .i64 g) := ((bcell g_x1).1 _ _ (by simp; try omega)).trans (by simp [go_sem])
          have q1 : x1.cell? ⟨w.heap.size + 1, 1, none⟩ = some (.int .i64 m) := ((bcell g_x1).1 _ _ (by simp; try omega)).trans (by simp [go_sem])
          have z_q_x1 := lt_of q0
          have r0 : x1.cell? ⟨w.heap.size + 2, 0, none⟩ = some (.int .i64 0) := ((bcell g_x1).1 _ _ (by simp; try omega)).trans (by simp [go_sem])
          have r1 : x1.cell? ⟨w.heap.size + 2, 1, none⟩ = some (.int .i64 0) := ((bcell g_x1).1 _ _ (by simp; try omega)).trans (by simp [go_sem])
          have z_r_x1 := lt_of r0
          have rf : ∀ i, x1.frozen? ⟨w.heap.size + 2, i, none⟩ = false := fun i => ((bcell g_x1).2 _ _ (by simp; try omega)).trans (by simp [go_sem])
          have a0 : x1.cell? ⟨w.heap.size + 3, 0, none⟩ = some (.int .i64 f) := ((bcell g_x1).1 _ _ (by simp; try omega)).trans (by simp [go_sem])
          have a1 : x1.cell? ⟨w.heap.size + 3, 1, none⟩ = some (.int .i64 n) := ((bcell g_x1).1 _ _ (by simp; try omega)).trans (by simp [go_sem])
          have z_a_x1 := lt_of a0
          have b0 : x1.cell? ⟨w.heap.size + 4, 0, none⟩ = some (.int .i64 g) := ((bcell g_x1).1 _ _ (by simp; try omega)).trans (by simp [go_sem])
          have b1 : x1.cell? ⟨w.heap.size + 4, 1, none⟩ = some (.int .i64 m) := ((bcell g_x1).1 _ _ (by simp; try omega)).trans (by simp [go_sem])
          have z_b_x1 := lt_of b0
          clear g_x1 s_x1 t_w
          go_wp2_with fail
          refine (has HK.out _).mono ?_
          rintro e x2 ⟨rfl, g_x2⟩
          have s_x2 : Below x1.heap.size x1 x2 := chain (by go_grown) g_x2
          have t_x2 := chain t_x1 s_x2
          replace rf := fkeep2 rf (lt_of r0) s_x2
          replace p0 := keep p0 s_x2
          have z_p0_x2 := lt_of p0
          replace p1 := keep p1 s_x2
          replace q0 := keep q0 s_x2
          have z_q0_x2 := lt_of q0
          replace q1 := keep q1 s_x2
          replace r0 := keep r0 s_x2
          have z_r0_x2 := lt_of r0
          replace r1 := keep r1 s_x2
          replace a0 := keep a0 s_x2
          have z_a0_x2 := lt_of a0
          replace a1 := keep a1 s_x2
          replace b0 := keep b0 s_x2
          have z_b0_x2 := lt_of b0
          replace b1 := keep b1 s_x2
          clear g_x2 s_x2 z_p_x1 z_q_x1 z_r_x1 z_a_x1 z_b_x1 t_x1
          go_wp2_with fail
          refine (has HM.out _).mono ?_
          rintro e x3 ⟨rfl, g_x3⟩
          have s_x3 : Below x2.heap.size x2 x3 := chain (by go_grown) g_x3
          have t_x3 := chain t_x2 s_x3
          replace rf := fkeep2 rf (lt_of r0) s_x3
          replace p0 := keep p0 s_x3
          have z_p0_x3 := lt_of p0
          replace p1 := keep p1 s_x3
          replace q0 := keep q0 s_x3
          have z_q0_x3 := lt_of q0
          replace q1 := keep q1 s_x3
          replace r0 := keep r0 s_x3
          have z_r0_x3 := lt_of r0
          replace r1 := keep r1 s_x3
          replace a0 := keep a0 s_x3
          have z_a0_x3 := lt_of a0
          replace a1 := keep a1 s_x3
          replace b0 := keep b0 s_x3
          have z_b0_x3 := lt_of b0
          replace b1 := keep b1 s_x3
          clear g_x3 s_x3 z_p0_x2 z_q0_x2 z_r0_x2 z_a0_x2 z_b0_x2 t_x2
          go_wp2_with fail
          refine bodyPost_ret (v := .agg #[.int .i64 f, .int .i64 n]) (by simp [results, Try.results17, go_sem, *]) rfl ⟨rfl, by go_grown⟩
        · go_wp2_with fail
          refine (epoch1 HA.out HQ.out _).mono ?_
          rintro e x1 ⟨rfl, g_x1⟩
          have s_x1 : Below w.heap.size w x1 := chain (by go_grown) g_x1
          have t_x1 := chain t_w s_x1
          have p0 : x1.cell? ⟨w.heap.size, 0, none⟩ = some (.int .i64 f) := ((bcell g_x1).1 _ _ (by simp; try omega)).trans (by simp [go_sem])
          have p1 : x1.cell? ⟨w.heap.size, 1, none⟩ = some (.int .i64 n) := ((bcell g_x1).1 _ _ (by simp; try omega)).trans (by simp [go_sem])
          have z_p_x1 := lt_of p0
          have q0 : x1.cell? ⟨w.heap.size + 1, 0, none⟩ = some (.int .i64 g) := ((bcell g_x1).1 _ _ (by simp; try omega)).trans (by simp [go_sem])
          have q1 : x1.cell? ⟨w.heap.size + 1, 1, none⟩ = some (.int .i64 m) := ((bcell g_x1).1 _ _ (by simp; try omega)).trans (by simp [go_sem])
          have z_q_x1 := lt_of q0
          have r0 : x1.cell? ⟨w.heap.size + 2, 0, none⟩ = some (.int .i64 0) := ((bcell g_x1).1 _ _ (by simp; try omega)).trans (by simp [go_sem])
          have r1 : x1.cell? ⟨w.heap.size + 2, 1, none⟩ = some (.int .i64 0) := ((bcell g_x1).1 _ _ (by simp; try omega)).trans (by simp [go_sem])
          have z_r_x1 := lt_of r0
          have rf : ∀ i, x1.frozen? ⟨w.heap.size + 2, i, none⟩ = false := fun i => ((bcell g_x1).2 _ _ (by simp; try omega)).trans (by simp [go_sem])
          have b0 : x1.cell? ⟨w.heap.size + 3, 0, none⟩ = some (.int .i64 g) := ((bcell g_x1).1 _ _ (by simp; try omega)).trans (by simp [go_sem])
          have b1 : x1.cell? ⟨w.heap.size + 3, 1, none⟩ = some (.int .i64 m) := ((bcell g_x1).1 _ _ (by simp; try omega)).trans (by simp [go_sem])
          have z_b_x1 := lt_of b0
          have a0 : x1.cell? ⟨w.heap.size + 4, 0, none⟩ = some (.int .i64 f) := ((bcell g_x1).1 _ _ (by simp; try omega)).trans (by simp [go_sem])
          have a1 : x1.cell? ⟨w.heap.size + 4, 1, none⟩ = some (.int .i64 n) := ((bcell g_x1).1 _ _ (by simp; try omega)).trans (by simp [go_sem])
          have z_a_x1 := lt_of a0
          clear g_x1 s_x1 t_w
          go_wp2_with fail
          refine (has HK.out _).mono ?_
          rintro e x2 ⟨rfl, g_x2⟩
          have s_x2 : Below x1.heap.size x1 x2 := chain (by go_grown) g_x2
          have t_x2 := chain t_x1 s_x2
          replace rf := fkeep2 rf (lt_of r0) s_x2
          replace p0 := keep p0 s_x2
          have z_p0_x2 := lt_of p0
          replace p1 := keep p1 s_x2
          replace q0 := keep q0 s_x2
          have z_q0_x2 := lt_of q0
          replace q1 := keep q1 s_x2
          replace r0 := keep r0 s_x2
          have z_r0_x2 := lt_of r0
          replace r1 := keep r1 s_x2
          replace b0 := keep b0 s_x2
          have z_b0_x2 := lt_of b0
          replace b1 := keep b1 s_x2
          replace a0 := keep a0 s_x2
          have z_a0_x2 := lt_of a0
          replace a1 := keep a1 s_x2
          clear g_x2 s_x2 z_p_x1 z_q_x1 z_r_x1 z_b_x1 z_a_x1 t_x1
          go_wp2_with fail
          refine (has HM.out _).mono ?_
          rintro e x3 ⟨rfl, g_x3⟩
          have s_x3 : Below x2.heap.size x2 x3 := chain (by go_grown) g_x3
          have t_x3 := chain t_x2 s_x3
          replace rf := fkeep2 rf (lt_of r0) s_x3
          replace p0 := keep p0 s_x3
          have z_p0_x3 := lt_of p0
          replace p1 := keep p1 s_x3
          replace q0 := keep q0 s_x3
          have z_q0_x3 := lt_of q0
          replace q1 := keep q1 s_x3
          replace r0 := keep r0 s_x3
          have z_r0_x3 := lt_of r0
          replace r1 := keep r1 s_x3
          replace b0 := keep b0 s_x3
          have z_b0_x3 := lt_of b0
          replace b1 := keep b1 s_x3
          replace a0 := keep a0 s_x3
          have z_a0_x3 := lt_of a0
          replace a1 := keep a1 s_x3
          clear g_x3 s_x3 z_p0_x2 z_q0_x2 z_r0_x2 z_b0_x2 z_a0_x2 t_x2
          go_wp2_with fail
          refine bodyPost_ret (v := .agg #[.int .i64 f, .int .i64 n]) (by simp [results, Try.results17, go_sem, *]) rfl ⟨rfl, by go_grown⟩
      · have m0 := okr_b (knb_t hm).1
        obtain ⟨m0, m1, m2, m3⟩ := m0
        have HK := Lib.hid hk; have HM := Lib.hid hm
        by_cases hc : m ≤ q + 2
        · have hl : lrn f n g m a = true := by simp [lrn, ha, hq, hk, hm, hc]
          have hf : (if g < f then g else f) = x := by rw [← hx]; simp [lrF, hl]
          have hn : (if n < m then m else n) = y := by rw [← hy]; simp [lrN, hl]
          have HF := Lib.hid hf; have HN := Lib.hid hn
          clear ha hq hk hm hx hy hl hf hn
          have hfld := fld x y
          have t_w := Below.refl w.heap.size w
          go_enter Try.func17, Try.ntmps17
          go_wp2_with fail
          go_region
          · go_wp2_with fail
            refine (epoch1 HA.out HQ.out _).mono ?_
            rintro e x1 ⟨rfl, g_x1⟩
            have s_x1 : Below w.heap.size w x1 := chain (by go_grown) g_x1
            have t_x1 := chain t_w s_x1
            have p0 : x1.cell? ⟨w.heap.size, 0, none⟩ = some (.int .i64 f) := ((bcell g_x1).1 _ _ (by simp; try omega)).trans (by simp [go_sem])
            have p1 : x1.cell? ⟨w.heap.size, 1, none⟩ = some (.int .i64 n) := ((bcell g_x1).1 _ _ (by simp; try omega)).trans (by simp [go_sem])
            have z_p_x1 := lt_of p0
            have q0 : x1.cell? ⟨w.heap.size + 1, 0, none⟩ = some (.int .i64 g) := ((bcell g_x1).1 _ _ (by simp; try omega)).trans (by simp [go_sem])
            have q1 : x1.cell? ⟨w.heap.size + 1, 1, none⟩ = some (.int .i64 m) := ((bcell g_x1).1 _ _ (by simp; try omega)).trans (by simp [go_sem])
            have z_q_x1 := lt_of q0
            have r0 : x1.cell? ⟨w.heap.size + 2, 0, none⟩ = some (.int .i64 0) := ((bcell g_x1).1 _ _ (by simp; try omega)).trans (by simp [go_sem])
            have r1 : x1.cell? ⟨w.heap.size + 2, 1, none⟩ = some (.int .i64 0) := ((bcell g_x1).1 _ _ (by simp; try omega)).trans (by simp [go_sem])
            have z_r_x1 := lt_of r0
            have rf : ∀ i, x1.frozen? ⟨w.heap.size + 2, i, none⟩ = false := fun i => ((bcell g_x1).2 _ _ (by simp; try omega)).trans (by simp [go_sem])
            have a0 : x1.cell? ⟨w.heap.size + 3, 0, none⟩ = some (.int .i64 f) := ((bcell g_x1).1 _ _ (by simp; try omega)).trans (by simp [go_sem])
            have a1 : x1.cell? ⟨w.heap.size + 3, 1, none⟩ = some (.int .i64 n) := ((bcell g_x1).1 _ _ (by simp; try omega)).trans (by simp [go_sem])
            have z_a_x1 := lt_of a0
            have b0 : x1.cell? ⟨w.heap.size + 4, 0, none⟩ = some (.int .i64 g) := ((bcell g_x1).1 _ _ (by simp; try omega)).trans (by simp [go_sem])
            have b1 : x1.cell? ⟨w.heap.size + 4, 1, none⟩ = some (.int .i64 m) := ((bcell g_x1).1 _ _ (by simp; try omega)).trans (by simp [go_sem])
            have z_b_x1 := lt_of b0
            clear g_x1 s_x1 t_w
            go_wp2_with fail
            refine (has HK.out _).mono ?_
            rintro e x2 ⟨rfl, g_x2⟩
            have s_x2 : Below x1.heap.size x1 x2 := chain (by go_grown) g_x2
            have t_x2 := chain t_x1 s_x2
            replace rf := fkeep2 rf (lt_of r0) s_x2
            replace p0 := keep p0 s_x2
            have z_p0_x2 := lt_of p0
            replace p1 := keep p1 s_x2
            replace q0 := keep q0 s_x2
            have z_q0_x2 := lt_of q0
            replace q1 := keep q1 s_x2
            replace r0 := keep r0 s_x2
            have z_r0_x2 := lt_of r0
            replace r1 := keep r1 s_x2
            replace a0 := keep a0 s_x2
            have z_a0_x2 := lt_of a0
            replace a1 := keep a1 s_x2
            replace b0 := keep b0 s_x2
            have z_b0_x2 := lt_of b0
            replace b1 := keep b1 s_x2
            clear g_x2 s_x2 z_p_x1 z_q_x1 z_r_x1 z_a_x1 z_b_x1 t_x1
            go_wp2_with fail
            refine (has HM.out _).mono ?_
            rintro e x3 ⟨rfl, g_x3⟩
            have s_x3 : Below x2.heap.size x2 x3 := chain (by go_grown) g_x3
            have t_x3 := chain t_x2 s_x3
            replace rf := fkeep2 rf (lt_of r0) s_x3
            replace p0 := keep p0 s_x3
            have z_p0_x3 := lt_of p0
            replace p1 := keep p1 s_x3
            replace q0 := keep q0 s_x3
            have z_q0_x3 := lt_of q0
            replace q1 := keep q1 s_x3
            replace r0 := keep r0 s_x3
            have z_r0_x3 := lt_of r0
            replace r1 := keep r1 s_x3
            replace a0 := keep a0 s_x3
            have z_a0_x3 := lt_of a0
            replace a1 := keep a1 s_x3
            replace b0 := keep b0 s_x3
            have z_b0_x3 := lt_of b0
            replace b1 := keep b1 s_x3
            clear g_x3 s_x3 z_p0_x2 z_q0_x2 z_r0_x2 z_a0_x2 z_b0_x2 t_x2
            go_wp2_with fail
            refine (joined HF.out HN.out _).mono ?_
            rintro e x4 ⟨rfl, g_x4⟩
            have s_x4 : Below x3.heap.size x3 x4 := chain (by go_grown) g_x4
            have t_x4 := chain t_x3 s_x4
            replace rf := fkeep2 rf (lt_of r0) s_x4
            replace p0 := keep p0 s_x4
            have z_p0_x4 := lt_of p0
            replace p1 := keep p1 s_x4
            replace q0 := keep q0 s_x4
            have z_q0_x4 := lt_of q0
            replace q1 := keep q1 s_x4
            replace r0 := keep r0 s_x4
            have z_r0_x4 := lt_of r0
            replace r1 := keep r1 s_x4
            replace a0 := keep a0 s_x4
            have z_a0_x4 := lt_of a0
            replace a1 := keep a1 s_x4
            replace b0 := keep b0 s_x4
            have z_b0_x4 := lt_of b0
            replace b1 := keep b1 s_x4
            clear g_x4 s_x4 z_p0_x3 z_q0_x3 z_r0_x3 z_a0_x3 z_b0_x3 t_x3
            go_wp2_with fail
            refine bodyPost_ret (v := .agg #[.int .i64 x, .int .i64 y]) (by simp [results, Try.results17, go_sem, *]) rfl ⟨rfl, by go_grown⟩
          · go_wp2_with fail
            refine (epoch1 HA.out HQ.out _).mono ?_
            rintro e x1 ⟨rfl, g_x1⟩
            have s_x1 : Below w.heap.size w x1 := chain (by go_grown) g_x1
            have t_x1 := chain t_w s_x1
            have p0 : x1.cell? ⟨w.heap.size, 0, none⟩ = some (.int .i64 f) := ((bcell g_x1).1 _ _ (by simp; try omega)).trans (by simp [go_sem])
            have p1 : x1.cell? ⟨w.heap.size, 1, none⟩ = some (.int .i64 n) := ((bcell g_x1).1 _ _ (by simp; try omega)).trans (by simp [go_sem])
            have z_p_x1 := lt_of p0
            have q0 : x1.cell? ⟨w.heap.size + 1, 0, none⟩ = some (.int .i64 g) := ((bcell g_x1).1 _ _ (by simp; try omega)).trans (by simp [go_sem])
            have q1 : x1.cell? ⟨w.heap.size + 1, 1, none⟩ = some (.int .i64 m) := ((bcell g_x1).1 _ _ (by simp; try omega)).trans (by simp [go_sem])
            have z_q_x1 := lt_of q0
            have r0 : x1.cell? ⟨w.heap.size + 2, 0, none⟩ = some (.int .i64 0) := ((bcell g_x1).1 _ _ (by simp; try omega)).trans (by simp [go_sem])
            have r1 : x1.cell? ⟨w.heap.size + 2, 1, none⟩ = some (.int .i64 0) := ((bcell g_x1).1 _ _ (by simp; try omega)).trans (by simp [go_sem])
            have z_r_x1 := lt_of r0
            have rf : ∀ i, x1.frozen? ⟨w.heap.size + 2, i, none⟩ = false := fun i => ((bcell g_x1).2 _ _ (by simp; try omega)).trans (by simp [go_sem])
            have b0 : x1.cell? ⟨w.heap.size + 3, 0, none⟩ = some (.int .i64 g) := ((bcell g_x1).1 _ _ (by simp; try omega)).trans (by simp [go_sem])
            have b1 : x1.cell? ⟨w.heap.size + 3, 1, none⟩ = some (.int .i64 m) := ((bcell g_x1).1 _ _ (by simp; try omega)).trans (by simp [go_sem])
            have z_b_x1 := lt_of b0
            have a0 : x1.cell? ⟨w.heap.size + 4, 0, none⟩ = some (.int .i64 f) := ((bcell g_x1).1 _ _ (by simp; try omega)).trans (by simp [go_sem])
            have a1 : x1.cell? ⟨w.heap.size + 4, 1, none⟩ = some (.int .i64 n) := ((bcell g_x1).1 _ _ (by simp; try omega)).trans (by simp [go_sem])
            have z_a_x1 := lt_of a0
            clear g_x1 s_x1 t_w
            go_wp2_with fail
            refine (has HK.out _).mono ?_
            rintro e x2 ⟨rfl, g_x2⟩
            have s_x2 : Below x1.heap.size x1 x2 := chain (by go_grown) g_x2
            have t_x2 := chain t_x1 s_x2
            replace rf := fkeep2 rf (lt_of r0) s_x2
            replace p0 := keep p0 s_x2
            have z_p0_x2 := lt_of p0
            replace p1 := keep p1 s_x2
            replace q0 := keep q0 s_x2
            have z_q0_x2 := lt_of q0
            replace q1 := keep q1 s_x2
            replace r0 := keep r0 s_x2
            have z_r0_x2 := lt_of r0
            replace r1 := keep r1 s_x2
            replace b0 := keep b0 s_x2
            have z_b0_x2 := lt_of b0
            replace b1 := keep b1 s_x2
            replace a0 := keep a0 s_x2
            have z_a0_x2 := lt_of a0
            replace a1 := keep a1 s_x2
            clear g_x2 s_x2 z_p_x1 z_q_x1 z_r_x1 z_b_x1 z_a_x1 t_x1
            go_wp2_with fail
            refine (has HM.out _).mono ?_
            rintro e x3 ⟨rfl, g_x3⟩
            have s_x3 : Below x2.heap.size x2 x3 := chain (by go_grown) g_x3
            have t_x3 := chain t_x2 s_x3
            replace rf := fkeep2 rf (lt_of r0) s_x3
            replace p0 := keep p0 s_x3
            have z_p0_x3 := lt_of p0
            replace p1 := keep p1 s_x3
            replace q0 := keep q0 s_x3
            have z_q0_x3 := lt_of q0
            replace q1 := keep q1 s_x3
            replace r0 := keep r0 s_x3
            have z_r0_x3 := lt_of r0
            replace r1 := keep r1 s_x3
            replace b0 := keep b0 s_x3
            have z_b0_x3 := lt_of b0
            replace b1 := keep b1 s_x3
            replace a0 := keep a0 s_x3
            have z_a0_x3 := lt_of a0
            replace a1 := keep a1 s_x3
            clear g_x3 s_x3 z_p0_x2 z_q0_x2 z_r0_x2 z_b0_x2 z_a0_x2 t_x2
            go_wp2_with fail
            refine (joined HF.out HN.out _).mono ?_
            rintro e x4 ⟨rfl, g_x4⟩
            have s_x4 : Below x3.heap.size x3 x4 := chain (by go_grown) g_x4
            have t_x4 := chain t_x3 s_x4
            replace rf := fkeep2 rf (lt_of r0) s_x4
            replace p0 := keep p0 s_x4
            have z_p0_x4 := lt_of p0
            replace p1 := keep p1 s_x4
            replace q0 := keep q0 s_x4
            have z_q0_x4 := lt_of q0
            replace q1 := keep q1 s_x4
            replace r0 := keep r0 s_x4
            have z_r0_x4 := lt_of r0
            replace r1 := keep r1 s_x4
            replace b0 := keep b0 s_x4
            have z_b0_x4 := lt_of b0
            replace b1 := keep b1 s_x4
            replace a0 := keep a0 s_x4
            have z_a0_x4 := lt_of a0
            replace a1 := keep a1 s_x4
            clear g_x4 s_x4 z_p0_x3 z_q0_x3 z_r0_x3 z_b0_x3 z_a0_x3 t_x3
            go_wp2_with fail
            refine bodyPost_ret (v := .agg #[.int .i64 x, .int .i64 y]) (by simp [results, Try.results17, go_sem, *]) rfl ⟨rfl, by go_grown⟩
        · have hl : lrn f n g m a = false := by simp [lrn, ha, hq, hk, hm, hc]
          obtain rfl : f = x := by rw [← hx]; simp [lrF, hl]
          obtain rfl : n = y := by rw [← hy]; simp [lrN, hl]
          clear ha hq hk hm hx hy hl
          have t_w := Below.refl w.heap.size w
          go_enter Try.func17, Try.ntmps17
          go_wp2_with fail
          go_region
          · go_wp2_with fail
            refine (epoch1 HA.out HQ.out _).mono ?_
            rintro e x1 ⟨rfl, g_x1⟩
            have s_x1 : Below w.heap.size w x1 := chain (by go_grown) g_x1
            have t_x1 := chain t_w s_x1
            have p0 : x1.cell? ⟨w.heap.size, 0, none⟩ = some (.int .i64 f) := ((bcell g_x1).1 _ _ (by simp; try omega)).trans (by simp [go_sem])
            have p1 : x1.cell? ⟨w.heap.size, 1, none⟩ = some (.int .i64 n) := ((bcell g_x1).1 _ _ (by simp; try omega)).trans (by simp [go_sem])
            have z_p_x1 := lt_of p0
            have q0 : x1.cell? ⟨w.heap.size + 1, 0, none⟩ = some (.int .i64 g) := ((bcell g_x1).1 _ _ (by simp; try omega)).trans (by simp [go_sem])
            have q1 : x1.cell? ⟨w.heap.size + 1, 1, none⟩ = some (.int .i64 m) := ((bcell g_x1).1 _ _ (by simp; try omega)).trans (by simp [go_sem])
            have z_q_x1 := lt_of q0
            have r0 : x1.cell? ⟨w.heap.size + 2, 0, none⟩ = some (.int .i64 0) := ((bcell g_x1).1 _ _ (by simp; try omega)).trans (by simp [go_sem])
            have r1 : x1.cell? ⟨w.heap.size + 2, 1, none⟩ = some (.int .i64 0) := ((bcell g_x1).1 _ _ (by simp; try omega)).trans (by simp [go_sem])
            have z_r_x1 := lt_of r0
            have rf : ∀ i, x1.frozen? ⟨w.heap.size + 2, i, none⟩ = false := fun i => ((bcell g_x1).2 _ _ (by simp; try omega)).trans (by simp [go_sem])
            have a0 : x1.cell? ⟨w.heap.size + 3, 0, none⟩ = some (.int .i64 f) := ((bcell g_x1).1 _ _ (by simp; try omega)).trans (by simp [go_sem])
            have a1 : x1.cell? ⟨w.heap.size + 3, 1, none⟩ = some (.int .i64 n) := ((bcell g_x1).1 _ _ (by simp; try omega)).trans (by simp [go_sem])
            have z_a_x1 := lt_of a0
            have b0 : x1.cell? ⟨w.heap.size + 4, 0, none⟩ = some (.int .i64 g) := ((bcell g_x1).1 _ _ (by simp; try omega)).trans (by simp [go_sem])
            have b1 : x1.cell? ⟨w.heap.size + 4, 1, none⟩ = some (.int .i64 m) := ((bcell g_x1).1 _ _ (by simp; try omega)).trans (by simp [go_sem])
            have z_b_x1 := lt_of b0
            clear g_x1 s_x1 t_w
            go_wp2_with fail
            refine (has HK.out _).mono ?_
            rintro e x2 ⟨rfl, g_x2⟩
            have s_x2 : Below x1.heap.size x1 x2 := chain (by go_grown) g_x2
            have t_x2 := chain t_x1 s_x2
            replace rf := fkeep2 rf (lt_of r0) s_x2
            replace p0 := keep p0 s_x2
            have z_p0_x2 := lt_of p0
            replace p1 := keep p1 s_x2
            replace q0 := keep q0 s_x2
            have z_q0_x2 := lt_of q0
            replace q1 := keep q1 s_x2
            replace r0 := keep r0 s_x2
            have z_r0_x2 := lt_of r0
            replace r1 := keep r1 s_x2
            replace a0 := keep a0 s_x2
            have z_a0_x2 := lt_of a0
            replace a1 := keep a1 s_x2
            replace b0 := keep b0 s_x2
            have z_b0_x2 := lt_of b0
            replace b1 := keep b1 s_x2
            clear g_x2 s_x2 z_p_x1 z_q_x1 z_r_x1 z_a_x1 z_b_x1 t_x1
            go_wp2_with fail
            refine (has HM.out _).mono ?_
            rintro e x3 ⟨rfl, g_x3⟩
            have s_x3 : Below x2.heap.size x2 x3 := chain (by go_grown) g_x3
            have t_x3 := chain t_x2 s_x3
            replace rf := fkeep2 rf (lt_of r0) s_x3
            replace p0 := keep p0 s_x3
            have z_p0_x3 := lt_of p0
            replace p1 := keep p1 s_x3
            replace q0 := keep q0 s_x3
            have z_q0_x3 := lt_of q0
            replace q1 := keep q1 s_x3
            replace r0 := keep r0 s_x3
            have z_r0_x3 := lt_of r0
            replace r1 := keep r1 s_x3
            replace a0 := keep a0 s_x3
            have z_a0_x3 := lt_of a0
            replace a1 := keep a1 s_x3
            replace b0 := keep b0 s_x3
            have z_b0_x3 := lt_of b0
            replace b1 := keep b1 s_x3
            clear g_x3 s_x3 z_p0_x2 z_q0_x2 z_r0_x2 z_a0_x2 z_b0_x2 t_x2
            go_wp2_with fail
            refine bodyPost_ret (v := .agg #[.int .i64 f, .int .i64 n]) (by simp [results, Try.results17, go_sem, *]) rfl ⟨rfl, by go_grown⟩
          · go_wp2_with fail
            refine (epoch1 HA.out HQ.out _).mono ?_
            rintro e x1 ⟨rfl, g_x1⟩
            have s_x1 : Below w.heap.size w x1 := chain (by go_grown) g_x1
            have t_x1 := chain t_w s_x1
            have p0 : x1.cell? ⟨w.heap.size, 0, none⟩ = some (.int .i64 f) := ((bcell g_x1).1 _ _ (by simp; try omega)).trans (by simp [go_sem])
            have p1 : x1.cell? ⟨w.heap.size, 1, none⟩ = some (.int .i64 n) := ((bcell g_x1).1 _ _ (by simp; try omega)).trans (by simp [go_sem])
            have z_p_x1 := lt_of p0
            have q0 : x1.cell? ⟨w.heap.size + 1, 0, none⟩ = some (.int .i64 g) := ((bcell g_x1).1 _ _ (by simp; try omega)).trans (by simp [go_sem])
            have q1 : x1.cell? ⟨w.heap.size + 1, 1, none⟩ = some (.int .i64 m) := ((bcell g_x1).1 _ _ (by simp; try omega)).trans (by simp [go_sem])
            have z_q_x1 := lt_of q0
            have r0 : x1.cell? ⟨w.heap.size + 2, 0, none⟩ = some (.int .i64 0) := ((bcell g_x1).1 _ _ (by simp; try omega)).trans (by simp [go_sem])
            have r1 : x1.cell? ⟨w.heap.size + 2, 1, none⟩ = some (.int .i64 0) := ((bcell g_x1).1 _ _ (by simp; try omega)).trans (by simp [go_sem])
            have z_r_x1 := lt_of r0
            have rf : ∀ i, x1.frozen? ⟨w.heap.size + 2, i, none⟩ = false := fun i => ((bcell g_x1).2 _ _ (by simp; try omega)).trans (by simp [go_sem])
            have b0 : x1.cell? ⟨w.heap.size + 3, 0, none⟩ = some (.int .i64 g) := ((bcell g_x1).1 _ _ (by simp; try omega)).trans (by simp [go_sem])
            have b1 : x1.cell? ⟨w.heap.size + 3, 1, none⟩ = some (.int .i64 m) := ((bcell g_x1).1 _ _ (by simp; try omega)).trans (by simp [go_sem])
            have z_b_x1 := lt_of b0
            have a0 : x1.cell? ⟨w.heap.size + 4, 0, none⟩ = some (.int .i64 f) := ((bcell g_x1).1 _ _ (by simp; try omega)).trans (by simp [go_sem])
            have a1 : x1.cell? ⟨w.heap.size + 4, 1, none⟩ = some (.int .i64 n) := ((bcell g_x1).1 _ _ (by simp; try omega)).trans (by simp [go_sem])
            have z_a_x1 := lt_of a0
            clear g_x1 s_x1 t_w
            go_wp2_with fail
            refine (has HK.out _).mono ?_
            rintro e x2 ⟨rfl, g_x2⟩
            have s_x2 : Below x1.heap.size x1 x2 := chain (by go_grown) g_x2
            have t_x2 := chain t_x1 s_x2
            replace rf := fkeep2 rf (lt_of r0) s_x2
            replace p0 := keep p0 s_x2
            have z_p0_x2 := lt_of p0
            replace p1 := keep p1 s_x2
            replace q0 := keep q0 s_x2
            have z_q0_x2 := lt_of q0
            replace q1 := keep q1 s_x2
            replace r0 := keep r0 s_x2
            have z_r0_x2 := lt_of r0
            replace r1 := keep r1 s_x2
            replace b0 := keep b0 s_x2
            have z_b0_x2 := lt_of b0
            replace b1 := keep b1 s_x2
            replace a0 := keep a0 s_x2
            have z_a0_x2 := lt_of a0
            replace a1 := keep a1 s_x2
            clear g_x2 s_x2 z_p_x1 z_q_x1 z_r_x1 z_b_x1 z_a_x1 t_x1
            go_wp2_with fail
            refine (has HM.out _).mono ?_
            rintro e x3 ⟨rfl, g_x3⟩
            have s_x3 : Below x2.heap.size x2 x3 := chain (by go_grown) g_x3
            have t_x3 := chain t_x2 s_x3
            replace rf := fkeep2 rf (lt_of r0) s_x3
            replace p0 := keep p0 s_x3
            have z_p0_x3 := lt_of p0
            replace p1 := keep p1 s_x3
            replace q0 := keep q0 s_x3
            have z_q0_x3 := lt_of q0
            replace q1 := keep q1 s_x3
            replace r0 := keep r0 s_x3
            have z_r0_x3 := lt_of r0
            replace r1 := keep r1 s_x3
            replace b0 := keep b0 s_x3
            have z_b0_x3 := lt_of b0
            replace b1 := keep b1 s_x3
            replace a0 := keep a0 s_x3
            have z_a0_x3 := lt_of a0
            replace a1 := keep a1 s_x3
            clear g_x3 s_x3 z_p0_x2 z_q0_x2 z_r0_x2 z_b0_x2 z_a0_x2 t_x2
            go_wp2_with fail
            refine bodyPost_ret (v := .agg #[.int .i64 f, .int .i64 n]) (by simp [results, Try.results17, go_sem, *]) rfl ⟨rfl, by go_grown⟩
/-- whether a ring ages -/
def agd (f n a : Int) : Bool := oka a && okr f n && decide (f < a / 2000)
def agF (f n a : Int) : Int := if agd f n a = true then (if n ≤ a / 2000 then 0 else a / 2000) else f
def agN (f n a : Int) : Int := if agd f n a = true then (if n ≤ a / 2000 then 0 else n) else n
set_option maxHeartbeats 1000000 in
theorem age {f n a x y : Int} (hx : agF f n a = x) (hy : agN f n a = y) (w : World) :
    Calls Try.prog 19 #[.agg #[.int .i64 f, .int .i64 n], .int .i64 a] w fun e w' => e = .returned (.agg #[.int .i64 x, .int .i64 y]) ∧ Below w.heap.size w w' := by
  rcases ha : oka a with _ | _
  · obtain rfl : f = x := by rw [← hx]; simp [agF, agd, ha]
    obtain rfl : n = y := by rw [← hy]; simp [agN, agd, ha]
    have HA := Lib.hid ha; clear ha hx hy
    have t_w := Below.refl w.heap.size w
    go_enter Try.func19, Try.ntmps19
    go_wp2_with fail
    refine (epoch0 HA.out _).mono ?_
    rintro e x1 ⟨rfl, g_x1⟩
    have s_x1 : Below w.heap.size w x1 := chain (by go_grown) g_x1
    have t_x1 := chain t_w s_x1
    have p0 : x1.cell? ⟨w.heap.size, 0, none⟩ = some (.int .i64 f) := ((bcell g_x1).1 _ _ (by simp; try omega)).trans (by simp [go_sem])
    have p1 : x1.cell? ⟨w.heap.size, 1, none⟩ = some (.int .i64 n) := ((bcell g_x1).1 _ _ (by simp; try omega)).trans (by simp [go_sem])
    have z_p_x1 := lt_of p0
    have r0 : x1.cell? ⟨w.heap.size + 1, 0, none⟩ = some (.int .i64 0) := ((bcell g_x1).1 _ _ (by simp; try omega)).trans (by simp [go_sem])
    have r1 : x1.cell? ⟨w.heap.size + 1, 1, none⟩ = some (.int .i64 0) := ((bcell g_x1).1 _ _ (by simp; try omega)).trans (by simp [go_sem])
    have z_r_x1 := lt_of r0
    have rf : ∀ i, x1.frozen? ⟨w.heap.size + 1, i, none⟩ = false := fun i => ((bcell g_x1).2 _ _ (by simp; try omega)).trans (by simp [go_sem])
    have s0 : x1.cell? ⟨w.heap.size + 2, 0, none⟩ = some (.int .i64 f) := ((bcell g_x1).1 _ _ (by simp; try omega)).trans (by simp [go_sem])
    have s1 : x1.cell? ⟨w.heap.size + 2, 1, none⟩ = some (.int .i64 n) := ((bcell g_x1).1 _ _ (by simp; try omega)).trans (by simp [go_sem])
    have z_s_x1 := lt_of s0
    clear g_x1 s_x1 t_w
    go_wp2_with fail
    refine bodyPost_ret (v := .agg #[.int .i64 f, .int .i64 n]) (by simp [results, Try.results19, go_sem, *]) rfl ⟨rfl, by go_grown⟩
  · obtain ⟨h0, h1⟩ := oka_t ha
    generalize hq : a / 2000 = q at *
    have q0 : 0 ≤ q := by omega
    have q1 : q ≤ 500000 := by omega
    have HA := Lib.hid ha; have HQ := Lib.hid hq
    rcases hk : okr f n with _ | _
    · obtain rfl : f = x := by rw [← hx]; simp [agF, agd, hk]
      obtain rfl : n = y := by rw [← hy]; simp [agN, agd, hk]
      have HK := Lib.hid hk; clear ha hq hk hx hy
      have t_w := Below.refl w.heap.size w
      go_enter Try.func19, Try.ntmps19
      go_wp2_with fail
      refine (epoch1 HA.out HQ.out _).mono ?_
      rintro e x1 ⟨rfl, g_x1⟩
      have s_x1 : Below w.heap.size w x1 := chain (by go_grown) g_x1
      have t_x1 := chain t_w s_x1
      have p0 : x1.cell? ⟨w.heap.size, 0, none⟩ = some (.int .i64 f) := ((bcell g_x1).1 _ _ (by simp; try omega)).trans (by simp [go_sem])
      have p1 : x1.cell? ⟨w.heap.size, 1, none⟩ = some (.int .i64 n) := ((bcell g_x1).1 _ _ (by simp; try omega)).trans (by simp [go_sem])
      have z_p_x1 := lt_of p0
      have r0 : x1.cell? ⟨w.heap.size + 1, 0, none⟩ = some (.int .i64 0) := ((bcell g_x1).1 _ _ (by simp; try omega)).trans (by simp [go_sem])
      have r1 : x1.cell? ⟨w.heap.size + 1, 1, none⟩ = some (.int .i64 0) := ((bcell g_x1).1 _ _ (by simp; try omega)).trans (by simp [go_sem])
      have z_r_x1 := lt_of r0
      have rf : ∀ i, x1.frozen? ⟨w.heap.size + 1, i, none⟩ = false := fun i => ((bcell g_x1).2 _ _ (by simp; try omega)).trans (by simp [go_sem])
      have s0 : x1.cell? ⟨w.heap.size + 2, 0, none⟩ = some (.int .i64 f) := ((bcell g_x1).1 _ _ (by simp; try omega)).trans (by simp [go_sem])
      have s1 : x1.cell? ⟨w.heap.size + 2, 1, none⟩ = some (.int .i64 n) := ((bcell g_x1).1 _ _ (by simp; try omega)).trans (by simp [go_sem])
      have z_s_x1 := lt_of s0
      clear g_x1 s_x1 t_w
      go_wp2_with fail
      refine (svalid HK.out _).mono ?_
      rintro e x2 ⟨rfl, g_x2⟩
      have s_x2 : Below x1.heap.size x1 x2 := chain (by go_grown) g_x2
      have t_x2 := chain t_x1 s_x2
      replace rf := fkeep2 rf (lt_of r0) s_x2
      replace p0 := keep p0 s_x2
      have z_p0_x2 := lt_of p0
      replace p1 := keep p1 s_x2
      replace r0 := keep r0 s_x2
      have z_r0_x2 := lt_of r0
      replace r1 := keep r1 s_x2
      replace s0 := keep s0 s_x2
      have z_s0_x2 := lt_of s0
      replace s1 := keep s1 s_x2
      clear g_x2 s_x2 z_p_x1 z_r_x1 z_s_x1 t_x1
      go_wp2_with fail
      refine bodyPost_ret (v := .agg #[.int .i64 f, .int .i64 n]) (by simp [results, Try.results19, go_sem, *]) rfl ⟨rfl, by go_grown⟩
    · have HK := Lib.hid hk
      by_cases hc : f < q
      · have hl : agd f n a = true := by simp [agd, ha, hq, hk, hc]
        by_cases hd : n ≤ q
        · obtain rfl : 0 = x := by rw [← hx]; simp [agF, hl, hq, hd]
          obtain rfl : 0 = y := by rw [← hy]; simp [agN, hl, hq, hd]
          clear ha hq hk hx hy hl
          have hfld := fld 0 0
          have t_w := Below.refl w.heap.size w
          go_enter Try.func19, Try.ntmps19
          go_wp2_with fail
          refine (epoch1 HA.out HQ.out _).mono ?_
          rintro e x1 ⟨rfl, g_x1⟩
          have s_x1 : Below w.heap.size w x1 := chain (by go_grown) g_x1
          have t_x1 := chain t_w s_x1
          have p0 : x1.cell? ⟨w.heap.size, 0, none⟩ = some (.int .i64 f) := ((bcell g_x1).1 _ _ (by simp; try omega)).trans (by simp [go_sem])
          have p1 : x1.cell? ⟨w.heap.size, 1, none⟩ = some (.int .i64 n) := ((bcell g_x1).1 _ _ (by simp; try omega)).trans (by simp [go_sem])
          have z_p_x1 := lt_of p0
          have r0 : x1.cell? ⟨w.heap.size + 1, 0, none⟩ = some (.int .i64 0) := ((bcell g_x1).1 _ _ (by simp; try omega)).trans (by simp [go_sem])
          have r1 : x1.cell? ⟨w.heap.size + 1, 1, none⟩ = some (.int .i64 0) := ((bcell g_x1).1 _ _ (by simp; try omega)).trans (by simp [go_sem])
          have z_r_x1 := lt_of r0
          have rf : ∀ i, x1.frozen? ⟨w.heap.size + 1, i, none⟩ = false := fun i => ((bcell g_x1).2 _ _ (by simp; try omega)).trans (by simp [go_sem])
          have s0 : x1.cell? ⟨w.heap.size + 2, 0, none⟩ = some (.int .i64 f) := ((bcell g_x1).1 _ _ (by simp; try omega)).trans (by simp [go_sem])
          have s1 : x1.cell? ⟨w.heap.size + 2, 1, none⟩ = some (.int .i64 n) := ((bcell g_x1).1 _ _ (by simp; try omega)).trans (by simp [go_sem])
          have z_s_x1 := lt_of s0
          clear g_x1 s_x1 t_w
          go_wp2_with fail
          refine (svalid HK.out _).mono ?_
          rintro e x2 ⟨rfl, g_x2⟩
          have s_x2 : Below x1.heap.size x1 x2 := chain (by go_grown) g_x2
          have t_x2 := chain t_x1 s_x2
          replace rf := fkeep2 rf (lt_of r0) s_x2
          replace p0 := keep p0 s_x2
          have z_p0_x2 := lt_of p0
          replace p1 := keep p1 s_x2
          replace r0 := keep r0 s_x2
          have z_r0_x2 := lt_of r0
          replace r1 := keep r1 s_x2
          replace s0 := keep s0 s_x2
          have z_s0_x2 := lt_of s0
          replace s1 := keep s1 s_x2
          clear g_x2 s_x2 z_p_x1 z_r_x1 z_s_x1 t_x1
          go_wp2_with fail
          refine (from0 hd _).mono ?_
          rintro e x3 ⟨rfl, g_x3⟩
          have s_x3 : Below x2.heap.size x2 x3 := chain (by go_grown) g_x3
          have t_x3 := chain t_x2 s_x3
          replace rf := fkeep2 rf (lt_of r0) s_x3
          replace p0 := keep p0 s_x3
          have z_p0_x3 := lt_of p0
          replace p1 := keep p1 s_x3
          replace r0 := keep r0 s_x3
          have z_r0_x3 := lt_of r0
          replace r1 := keep r1 s_x3
          replace s0 := keep s0 s_x3
          have z_s0_x3 := lt_of s0
          replace s1 := keep s1 s_x3
          clear g_x3 s_x3 z_p0_x2 z_r0_x2 z_s0_x2 t_x2
          go_wp2_with fail
          refine bodyPost_ret (v := .agg #[.int .i64 0, .int .i64 0]) (by simp [results, Try.results19, go_sem, *]) rfl ⟨rfl, by go_grown⟩
        · obtain rfl : q = x := by rw [← hx]; simp [agF, hl, hq, hd]
          obtain rfl : n = y := by rw [← hy]; simp [agN, hl, hq, hd]
          clear ha hq hk hx hy hl
          have hfld := fld q n
          have t_w := Below.refl w.heap.size w
          go_enter Try.func19, Try.ntmps19
          go_wp2_with fail
          refine (epoch1 HA.out HQ.out _).mono ?_
          rintro e x1 ⟨rfl, g_x1⟩
          have s_x1 : Below w.heap.size w x1 := chain (by go_grown) g_x1
          have t_x1 := chain t_w s_x1
          have p0 : x1.cell? ⟨w.heap.size, 0, none⟩ = some (.int .i64 f) := ((bcell g_x1).1 _ _ (by simp; try omega)).trans (by simp [go_sem])
          have p1 : x1.cell? ⟨w.heap.size, 1, none⟩ = some (.int .i64 n) := ((bcell g_x1).1 _ _ (by simp; try omega)).trans (by simp [go_sem])
          have z_p_x1 := lt_of p0
          have r0 : x1.cell? ⟨w.heap.size + 1, 0, none⟩ = some (.int .i64 0) := ((bcell g_x1).1 _ _ (by simp; try omega)).trans (by simp [go_sem])
          have r1 : x1.cell? ⟨w.heap.size + 1, 1, none⟩ = some (.int .i64 0) := ((bcell g_x1).1 _ _ (by simp; try omega)).trans (by simp [go_sem])
          have z_r_x1 := lt_of r0
          have rf : ∀ i, x1.frozen? ⟨w.heap.size + 1, i, none⟩ = false := fun i => ((bcell g_x1).2 _ _ (by simp; try omega)).trans (by simp [go_sem])
          have s0 : x1.cell? ⟨w.heap.size + 2, 0, none⟩ = some (.int .i64 f) := ((bcell g_x1).1 _ _ (by simp; try omega)).trans (by simp [go_sem])
          have s1 : x1.cell? ⟨w.heap.size + 2, 1, none⟩ = some (.int .i64 n) := ((bcell g_x1).1 _ _ (by simp; try omega)).trans (by simp [go_sem])
          have z_s_x1 := lt_of s0
          clear g_x1 s_x1 t_w
          go_wp2_with fail
          refine (svalid HK.out _).mono ?_
          rintro e x2 ⟨rfl, g_x2⟩
          have s_x2 : Below x1.heap.size x1 x2 := chain (by go_grown) g_x2
          have t_x2 := chain t_x1 s_x2
          replace rf := fkeep2 rf (lt_of r0) s_x2
          replace p0 := keep p0 s_x2
          have z_p0_x2 := lt_of p0
          replace p1 := keep p1 s_x2
          replace r0 := keep r0 s_x2
          have z_r0_x2 := lt_of r0
          replace r1 := keep r1 s_x2
          replace s0 := keep s0 s_x2
          have z_s0_x2 := lt_of s0
          replace s1 := keep s1 s_x2
          clear g_x2 s_x2 z_p_x1 z_r_x1 z_s_x1 t_x1
          go_wp2_with fail
          refine (from1 (lo := q) (by omega) (by simp [hc]) _).mono ?_
          rintro e x3 ⟨rfl, g_x3⟩
          have s_x3 : Below x2.heap.size x2 x3 := chain (by go_grown) g_x3
          have t_x3 := chain t_x2 s_x3
          replace rf := fkeep2 rf (lt_of r0) s_x3
          replace p0 := keep p0 s_x3
          have z_p0_x3 := lt_of p0
          replace p1 := keep p1 s_x3
          replace r0 := keep r0 s_x3
          have z_r0_x3 := lt_of r0
          replace r1 := keep r1 s_x3
          replace s0 := keep s0 s_x3
          have z_s0_x3 := lt_of s0
          replace s1 := keep s1 s_x3
          clear g_x3 s_x3 z_p0_x2 z_r0_x2 z_s0_x2 t_x2
          go_wp2_with fail
          refine bodyPost_ret (v := .agg #[.int .i64 q, .int .i64 n]) (by simp [results, Try.results19, go_sem, *]) rfl ⟨rfl, by go_grown⟩
      · have hl : agd f n a = false := by simp [agd, hq, hc]
        obtain rfl : f = x := by rw [← hx]; simp [agF, hl]
        obtain rfl : n = y := by rw [← hy]; simp [agN, hl]
        clear ha hq hk hx hy hl
        have t_w := Below.refl w.heap.size w
        go_enter Try.func19, Try.ntmps19
        go_wp2_with fail
        refine (epoch1 HA.out HQ.out _).mono ?_
        rintro e x1 ⟨rfl, g_x1⟩
        have s_x1 : Below w.heap.size w x1 := chain (by go_grown) g_x1
        have t_x1 := chain t_w s_x1
        have p0 : x1.cell? ⟨w.heap.size, 0, none⟩ = some (.int .i64 f) := ((bcell g_x1).1 _ _ (by simp; try omega)).trans (by simp [go_sem])
        have p1 : x1.cell? ⟨w.heap.size, 1, none⟩ = some (.int .i64 n) := ((bcell g_x1).1 _ _ (by simp; try omega)).trans (by simp [go_sem])
        have z_p_x1 := lt_of p0
        have r0 : x1.cell? ⟨w.heap.size + 1, 0, none⟩ = some (.int .i64 0) := ((bcell g_x1).1 _ _ (by simp; try omega)).trans (by simp [go_sem])
        have r1 : x1.cell? ⟨w.heap.size + 1, 1, none⟩ = some (.int .i64 0) := ((bcell g_x1).1 _ _ (by simp; try omega)).trans (by simp [go_sem])
        have z_r_x1 := lt_of r0
        have rf : ∀ i, x1.frozen? ⟨w.heap.size + 1, i, none⟩ = false := fun i => ((bcell g_x1).2 _ _ (by simp; try omega)).trans (by simp [go_sem])
        have s0 : x1.cell? ⟨w.heap.size + 2, 0, none⟩ = some (.int .i64 f) := ((bcell g_x1).1 _ _ (by simp; try omega)).trans (by simp [go_sem])
        have s1 : x1.cell? ⟨w.heap.size + 2, 1, none⟩ = some (.int .i64 n) := ((bcell g_x1).1 _ _ (by simp; try omega)).trans (by simp [go_sem])
        have z_s_x1 := lt_of s0
        clear g_x1 s_x1 t_w
        go_wp2_with fail
        refine (svalid HK.out _).mono ?_
        rintro e x2 ⟨rfl, g_x2⟩
        have s_x2 : Below x1.heap.size x1 x2 := chain (by go_grown) g_x2
        have t_x2 := chain t_x1 s_x2
        replace rf := fkeep2 rf (lt_of r0) s_x2
        replace p0 := keep p0 s_x2
        have z_p0_x2 := lt_of p0
        replace p1 := keep p1 s_x2
        replace r0 := keep r0 s_x2
        have z_r0_x2 := lt_of r0
        replace r1 := keep r1 s_x2
        replace s0 := keep s0 s_x2
        have z_s0_x2 := lt_of s0
        replace s1 := keep s1 s_x2
        clear g_x2 s_x2 z_p_x1 z_r_x1 z_s_x1 t_x1
        go_wp2_with fail
        refine bodyPost_ret (v := .agg #[.int .i64 f, .int .i64 n]) (by simp [results, Try.results19, go_sem, *]) rfl ⟨rfl, by go_grown⟩
end Go.Proofs.Ytabfmhkmofebnaa
