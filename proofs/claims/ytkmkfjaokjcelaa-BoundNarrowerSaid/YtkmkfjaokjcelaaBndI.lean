/- The helper that makes a true span. -/
import Derived.Test.YtkmkfjaokjcelaaBndH
import Derived.Test.YtkmkfjaokjcelaaClkS
namespace Go.Proofs.Ytkmkfjaokjcelaa
open Go.ChangeShapes Go.WideShapes Go.ChangeAt Go.RowKit
theorem shV_b (o d t : Int) : -2000000000 ≤ shV o d t ∧ shV o d t ≤ 10002000000001 := by
  unfold shV
  split
  · rename_i h
    have := shOk_t h
    exact sh_b this.1 this.2.1 (by omega)
  · omega
set_option maxHeartbeats 1000000 in
theorem truthV {o d t le mo L H A : Int} {k : Bool} (hv : TruthIs o d t le mo L H A k) (t0 : 0 ≤ t) (t1 : t ≤ 10000000000000) (l0 : 0 ≤ le) (l1 : le ≤ 4294967295) (m0 : 0 ≤ mo) (m1 : mo ≤ 4294967295) (w : World) :
    Calls Try.prog 23 #[.agg #[.int .i64 o, .int .i64 d], .int .i64 t, .int .u32 le, .int .u32 mo] w fun e w' => e = .returned (.tuple #[.agg #[.int .i64 L, .int .i64 H, .int .i64 A], .bool k]) ∧ Below w.heap.size w w' := by
  obtain ⟨hA, hL, hH, hk⟩ := hv
  have hb := shV_b o d t
  rw [← hA] at hb
  obtain ⟨b1, b2⟩ := hb
  subst hL hH
  have HA := Lib.hid hA.symm
  rcases hs : shOk o d t with _ | _
  · have he : shE o d t = 1 := by simp [shE, hs]
    rw [hs, Bool.false_and] at hk
    subst hk
    have HE := Lib.hid he
    clear hA he hs
    have t_w := Below.refl w.heap.size w
    go_enter Try.func23, Try.ntmps23
    go_wp2_with fail
    refine (showV HA.out HE.out _).mono ?_
    rintro e w1 ⟨rfl, g_w1⟩
    have s_w1 : Below w.heap.size w w1 := chain (by go_grown) g_w1
    have t_w1 := chain t_w s_w1
    have p0 : w1.cell? ⟨w.heap.size, 0, none⟩ = some (.int .i64 o) := ((bcell g_w1).1 _ _ (by simp; try omega)).trans (by simp [go_sem])
    have p1 : w1.cell? ⟨w.heap.size, 1, none⟩ = some (.int .i64 d) := ((bcell g_w1).1 _ _ (by simp; try omega)).trans (by simp [go_sem])
    have z_p_w1 := lt_of p0
    have r0 : w1.cell? ⟨w.heap.size + 1, 0, none⟩ = some (.int .i64 0) := ((bcell g_w1).1 _ _ (by simp; try omega)).trans (by simp [go_sem])
    have r1 : w1.cell? ⟨w.heap.size + 1, 1, none⟩ = some (.int .i64 0) := ((bcell g_w1).1 _ _ (by simp; try omega)).trans (by simp [go_sem])
    have r2 : w1.cell? ⟨w.heap.size + 1, 2, none⟩ = some (.int .i64 0) := ((bcell g_w1).1 _ _ (by simp; try omega)).trans (by simp [go_sem])
    have z_r_w1 := lt_of r0
    have rf : ∀ i, w1.frozen? ⟨w.heap.size + 1, i, none⟩ = false := fun i => ((bcell g_w1).2 _ _ (by simp; try omega)).trans (by simp [go_sem])
    clear g_w1 s_w1 t_w
    go_wp2_with fail
    go_region_with fail
    all_goals
      go_wp2_with fail
      refine bodyPost_ret (v := .tuple #[.agg #[.int .i64 (t - A - le), .int .i64 (t - A + mo), .int .i64 A], .bool false]) (by simp [results, Try.results23, go_sem, *]) rfl ⟨rfl, by go_grown⟩
  · have he : shE o d t = 0 := by simp [shE, hs]
    rw [hs, Bool.true_and] at hk
    have HK := Lib.hid hk.symm
    have HE := Lib.hid he
    clear hA he hs hk
    have t_w := Below.refl w.heap.size w
    go_enter Try.func23, Try.ntmps23
    go_wp2_with fail
    refine (showV HA.out HE.out _).mono ?_
    rintro e w1 ⟨rfl, g_w1⟩
    have s_w1 : Below w.heap.size w w1 := chain (by go_grown) g_w1
    have t_w1 := chain t_w s_w1
    have p0 : w1.cell? ⟨w.heap.size, 0, none⟩ = some (.int .i64 o) := ((bcell g_w1).1 _ _ (by simp; try omega)).trans (by simp [go_sem])
    have p1 : w1.cell? ⟨w.heap.size, 1, none⟩ = some (.int .i64 d) := ((bcell g_w1).1 _ _ (by simp; try omega)).trans (by simp [go_sem])
    have z_p_w1 := lt_of p0
    have r0 : w1.cell? ⟨w.heap.size + 1, 0, none⟩ = some (.int .i64 0) := ((bcell g_w1).1 _ _ (by simp; try omega)).trans (by simp [go_sem])
    have r1 : w1.cell? ⟨w.heap.size + 1, 1, none⟩ = some (.int .i64 0) := ((bcell g_w1).1 _ _ (by simp; try omega)).trans (by simp [go_sem])
    have r2 : w1.cell? ⟨w.heap.size + 1, 2, none⟩ = some (.int .i64 0) := ((bcell g_w1).1 _ _ (by simp; try omega)).trans (by simp [go_sem])
    have z_r_w1 := lt_of r0
    have rf : ∀ i, w1.frozen? ⟨w.heap.size + 1, i, none⟩ = false := fun i => ((bcell g_w1).2 _ _ (by simp; try omega)).trans (by simp [go_sem])
    clear g_w1 s_w1 t_w
    go_wp2_with fail
    go_region_with (go_at_call 19; refine (rbvalid HK.out _).mono ?_; rintro e w2 ⟨rfl, g2⟩; have s2 : Below w1.heap.size w1 w2 := chain (by go_grown) g2; have r0' := keep r0 s2; have r1' := keep r1 s2; have r2' := keep r2 s2; have rf' := fkeep2 rf z_r_w1 s2; have z2 := lt_of r0'; have t2 := chain t_w1 s2; have q0 : w2.cell? ⟨w1.heap.size, 0, none⟩ = some (.int .i64 (t - A - le)) := ((bcell g2).1 _ _ (by simp; try omega)).trans (by simp [go_sem]); have q1 : w2.cell? ⟨w1.heap.size, 1, none⟩ = some (.int .i64 (t - A + mo)) := ((bcell g2).1 _ _ (by simp; try omega)).trans (by simp [go_sem]); have q2 : w2.cell? ⟨w1.heap.size, 2, none⟩ = some (.int .i64 A) := ((bcell g2).1 _ _ (by simp; try omega)).trans (by simp [go_sem]); clear g2 s2 r0 r1 r2 rf)
    all_goals
      go_wp2_with fail
      refine bodyPost_ret (v := .tuple #[.agg #[.int .i64 (t - A - le), .int .i64 (t - A + mo), .int .i64 A], .bool k]) (by simp [results, Try.results23, go_sem, *]) rfl ⟨rfl, by go_grown⟩
end Go.Proofs.Ytkmkfjaokjcelaa
