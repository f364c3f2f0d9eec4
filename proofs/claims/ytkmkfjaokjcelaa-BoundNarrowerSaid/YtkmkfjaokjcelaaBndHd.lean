/- The head of the laws of bound. -/
import Derived.Test.YtkmkfjaokjcelaaBndM
import Derived.Test.YtkmkfjaokjcelaaBndI
namespace Go.Proofs.Ytkmkfjaokjcelaa
open Go.ChangeShapes Go.WideShapes Go.ChangeAt Go.RowKit
theorem hg1 : GrowIs (-5) 5 100 100 (-6) 6 100 0 := .inr (.inr ⟨by decide, by decide, by decide, by decide, rfl, rfl⟩)
theorem hg2 : GrowIs (-5) 5 100 1000100 (-57) 57 1000100 0 := .inr (.inr ⟨by decide, by decide, by decide, by decide, rfl, rfl⟩)
theorem hg3 : GrowIs (-5) 5 100 101 (-7) 7 101 0 := .inr (.inr ⟨by decide, by decide, by decide, by decide, rfl, rfl⟩)
theorem hg4 : GrowIs (-5) 5 100 99 0 0 0 1 := .inl ⟨by decide, rfl, rfl, rfl, rfl⟩
theorem hm1 : MeetIs (-5) 5 100 0 9 1000100 0 9 1000100 0 :=
  .inr ⟨by decide, by decide, .inr ⟨by decide, by decide, 0, 9, by decide, by decide, by decide, by decide, by decide, by decide, .inr ⟨by decide, rfl, rfl, by decide, rfl⟩⟩⟩
theorem hm2 : MeetIs (-5) 5 100 8 9 100 0 0 0 16 :=
  .inr ⟨by decide, by decide, .inr ⟨by decide, by decide, 7, 6, by decide, by decide, by decide, by decide, by decide, by decide, .inl ⟨by decide, rfl, rfl, rfl, rfl⟩⟩⟩
theorem hh1 : HeardIs 3 7 29990 3 17 29990 0 := .inr ⟨by decide, by decide, by decide, rfl, rfl⟩
set_option maxRecDepth 100000 in
set_option maxHeartbeats 4000000 in
theorem bhead (w : World) : Calls Try.prog 11 #[] w fun e w' => e = .returned (.bool true) ∧ Below w.heap.size w w' := by
  have t_w := Below.refl w.heap.size w
  go_enter Try.func11, Try.ntmps11
  go_wp2_with fail
  refine (growV hg1 _).mono ?_
  rintro e x1 ⟨rfl, g_x1⟩
  have s_x1 : Below w.heap.size w x1 := chain (by go_grown) g_x1
  have t_x1 := chain t_w s_x1
  have s0 : x1.cell? ⟨w.heap.size, 0, none⟩ = some (.int .i64 (-5)) := ((bcell g_x1).1 _ _ (by simp; try omega)).trans (by simp [go_sem])
  have s1 : x1.cell? ⟨w.heap.size, 1, none⟩ = some (.int .i64 5) := ((bcell g_x1).1 _ _ (by simp; try omega)).trans (by simp [go_sem])
  have s2 : x1.cell? ⟨w.heap.size, 2, none⟩ = some (.int .i64 100) := ((bcell g_x1).1 _ _ (by simp; try omega)).trans (by simp [go_sem])
  have z_s_x1 := lt_of s0
  clear g_x1 s_x1 t_w
  go_wp2_with fail
  refine (growV hg2 _).mono ?_
  rintro e x2 ⟨rfl, g_x2⟩
  have s_x2 : Below x1.heap.size x1 x2 := chain (by go_grown) g_x2
  have t_x2 := chain t_x1 s_x2
  replace s0 := keep s0 s_x2
  have z_s0_x2 := lt_of s0
  replace s1 := keep s1 s_x2
  replace s2 := keep s2 s_x2
  have a0 : x2.cell? ⟨x1.heap.size, 0, none⟩ = some (.int .i64 (-6)) := ((bcell g_x2).1 _ _ (by simp; try omega)).trans (by simp [go_sem])
  have a1 : x2.cell? ⟨x1.heap.size, 1, none⟩ = some (.int .i64 6) := ((bcell g_x2).1 _ _ (by simp; try omega)).trans (by simp [go_sem])
  have a2 : x2.cell? ⟨x1.heap.size, 2, none⟩ = some (.int .i64 100) := ((bcell g_x2).1 _ _ (by simp; try omega)).trans (by simp [go_sem])
  have z_a_x2 := lt_of a0
  clear g_x2 s_x2 t_x1
  go_wp2_with fail
  refine (growV hg3 _).mono ?_
  rintro e x3 ⟨rfl, g_x3⟩
  have s_x3 : Below x2.heap.size x2 x3 := chain (by go_grown) g_x3
  have t_x3 := chain t_x2 s_x3
  replace s0 := keep s0 s_x3
  have z_s0_x3 := lt_of s0
  replace s1 := keep s1 s_x3
  replace s2 := keep s2 s_x3
  replace a0 := keep a0 s_x3
  have z_a0_x3 := lt_of a0
  replace a1 := keep a1 s_x3
  replace a2 := keep a2 s_x3
  have b0 : x3.cell? ⟨x2.heap.size, 0, none⟩ = some (.int .i64 (-57)) := ((bcell g_x3).1 _ _ (by simp; try omega)).trans (by simp [go_sem])
  have b1 : x3.cell? ⟨x2.heap.size, 1, none⟩ = some (.int .i64 57) := ((bcell g_x3).1 _ _ (by simp; try omega)).trans (by simp [go_sem])
  have b2 : x3.cell? ⟨x2.heap.size, 2, none⟩ = some (.int .i64 1000100) := ((bcell g_x3).1 _ _ (by simp; try omega)).trans (by simp [go_sem])
  have z_b_x3 := lt_of b0
  clear g_x3 s_x3 t_x2
  go_wp2_with fail
  refine (meetV hm1 _).mono ?_
  rintro e x4 ⟨rfl, g_x4⟩
  have s_x4 : Below x3.heap.size x3 x4 := chain (by go_grown) g_x4
  have t_x4 := chain t_x3 s_x4
  replace s0 := keep s0 s_x4
  have z_s0_x4 := lt_of s0
  replace s1 := keep s1 s_x4
  replace s2 := keep s2 s_x4
  replace a0 := keep a0 s_x4
  have z_a0_x4 := lt_of a0
  replace a1 := keep a1 s_x4
  replace a2 := keep a2 s_x4
  replace b0 := keep b0 s_x4
  have z_b0_x4 := lt_of b0
  replace b1 := keep b1 s_x4
  replace b2 := keep b2 s_x4
  have c0 : x4.cell? ⟨x3.heap.size, 0, none⟩ = some (.int .i64 (-7)) := ((bcell g_x4).1 _ _ (by simp; try omega)).trans (by simp [go_sem])
  have c1 : x4.cell? ⟨x3.heap.size, 1, none⟩ = some (.int .i64 7) := ((bcell g_x4).1 _ _ (by simp; try omega)).trans (by simp [go_sem])
  have c2 : x4.cell? ⟨x3.heap.size, 2, none⟩ = some (.int .i64 101) := ((bcell g_x4).1 _ _ (by simp; try omega)).trans (by simp [go_sem])
  have z_c_x4 := lt_of c0
  clear g_x4 s_x4 t_x3
  go_wp2_with fail
  refine (meetV hm2 _).mono ?_
  rintro e x5 ⟨rfl, g_x5⟩
  have s_x5 : Below x4.heap.size x4 x5 := chain (by go_grown) g_x5
  have t_x5 := chain t_x4 s_x5
  replace s0 := keep s0 s_x5
  have z_s0_x5 := lt_of s0
  replace s1 := keep s1 s_x5
  replace s2 := keep s2 s_x5
  replace a0 := keep a0 s_x5
  have z_a0_x5 := lt_of a0
  replace a1 := keep a1 s_x5
  replace a2 := keep a2 s_x5
  replace b0 := keep b0 s_x5
  have z_b0_x5 := lt_of b0
  replace b1 := keep b1 s_x5
  replace b2 := keep b2 s_x5
  replace c0 := keep c0 s_x5
  have z_c0_x5 := lt_of c0
  replace c1 := keep c1 s_x5
  replace c2 := keep c2 s_x5
  have d0 : x5.cell? ⟨x4.heap.size, 0, none⟩ = some (.int .i64 0) := ((bcell g_x5).1 _ _ (by simp; try omega)).trans (by simp [go_sem])
  have d1 : x5.cell? ⟨x4.heap.size, 1, none⟩ = some (.int .i64 9) := ((bcell g_x5).1 _ _ (by simp; try omega)).trans (by simp [go_sem])
  have d2 : x5.cell? ⟨x4.heap.size, 2, none⟩ = some (.int .i64 1000100) := ((bcell g_x5).1 _ _ (by simp; try omega)).trans (by simp [go_sem])
  have z_d_x5 := lt_of d0
  clear g_x5 s_x5 t_x4
  go_wp2_with fail
  refine (heardV (fr := 0) (ho := 0) hh1 _).mono ?_
  rintro e x6 ⟨rfl, g_x6⟩
  have s_x6 : Below x5.heap.size x5 x6 := chain (by go_grown) g_x6
  have t_x6 := chain t_x5 s_x6
  replace s0 := keep s0 s_x6
  have z_s0_x6 := lt_of s0
  replace s1 := keep s1 s_x6
  replace s2 := keep s2 s_x6
  replace a0 := keep a0 s_x6
  have z_a0_x6 := lt_of a0
  replace a1 := keep a1 s_x6
  replace a2 := keep a2 s_x6
  replace b0 := keep b0 s_x6
  have z_b0_x6 := lt_of b0
  replace b1 := keep b1 s_x6
  replace b2 := keep b2 s_x6
  replace c0 := keep c0 s_x6
  have z_c0_x6 := lt_of c0
  replace c1 := keep c1 s_x6
  replace c2 := keep c2 s_x6
  replace d0 := keep d0 s_x6
  have z_d0_x6 := lt_of d0
  replace d1 := keep d1 s_x6
  replace d2 := keep d2 s_x6
  have u0 : x6.cell? ⟨x5.heap.size, 0, none⟩ = some (.int .i64 0) := ((bcell g_x6).1 _ _ (by simp; try omega)).trans (by simp [go_sem])
  have u1 : x6.cell? ⟨x5.heap.size, 1, none⟩ = some (.int .i64 0) := ((bcell g_x6).1 _ _ (by simp; try omega)).trans (by simp [go_sem])
  have u2 : x6.cell? ⟨x5.heap.size, 2, none⟩ = some (.int .i64 0) := ((bcell g_x6).1 _ _ (by simp; try omega)).trans (by simp [go_sem])
  have z_u_x6 := lt_of u0
  clear g_x6 s_x6 t_x5
  go_wp2_with fail
  refine (growV hg4 _).mono ?_
  rintro e x7 ⟨rfl, g_x7⟩
  have s_x7 : Below x6.heap.size x6 x7 := chain (by go_grown) g_x7
  have t_x7 := chain t_x6 s_x7
  replace s0 := keep s0 s_x7
  have z_s0_x7 := lt_of s0
  replace s1 := keep s1 s_x7
  replace s2 := keep s2 s_x7
  replace a0 := keep a0 s_x7
  have z_a0_x7 := lt_of a0
  replace a1 := keep a1 s_x7
  replace a2 := keep a2 s_x7
  replace b0 := keep b0 s_x7
  have z_b0_x7 := lt_of b0
  replace b1 := keep b1 s_x7
  replace b2 := keep b2 s_x7
  replace c0 := keep c0 s_x7
  have z_c0_x7 := lt_of c0
  replace c1 := keep c1 s_x7
  replace c2 := keep c2 s_x7
  replace d0 := keep d0 s_x7
  have z_d0_x7 := lt_of d0
  replace d1 := keep d1 s_x7
  replace d2 := keep d2 s_x7
  replace u0 := keep u0 s_x7
  have z_u0_x7 := lt_of u0
  replace u1 := keep u1 s_x7
  replace u2 := keep u2 s_x7
  have k0 : x7.cell? ⟨x6.heap.size, 0, none⟩ = some (.int .i64 3) := ((bcell g_x7).1 _ _ (by simp; try omega)).trans (by simp [go_sem])
  have k1 : x7.cell? ⟨x6.heap.size, 1, none⟩ = some (.int .i64 17) := ((bcell g_x7).1 _ _ (by simp; try omega)).trans (by simp [go_sem])
  have k2 : x7.cell? ⟨x6.heap.size, 2, none⟩ = some (.int .i64 29990) := ((bcell g_x7).1 _ _ (by simp; try omega)).trans (by simp [go_sem])
  have z_k_x7 := lt_of k0
  clear g_x7 s_x7 t_x6
  go_wp2_with fail
  refine (isT (-6) 6 100 _).mono ?_
  rintro e x8 ⟨rfl, g_x8⟩
  have s_x8 : Below x7.heap.size x7 x8 := chain (by go_grown) g_x8
  have t_x8 := chain t_x7 s_x8
  replace s0 := keep s0 s_x8
  have z_s0_x8 := lt_of s0
  replace s1 := keep s1 s_x8
  replace s2 := keep s2 s_x8
  replace a0 := keep a0 s_x8
  have z_a0_x8 := lt_of a0
  replace a1 := keep a1 s_x8
  replace a2 := keep a2 s_x8
  replace b0 := keep b0 s_x8
  have z_b0_x8 := lt_of b0
  replace b1 := keep b1 s_x8
  replace b2 := keep b2 s_x8
  replace c0 := keep c0 s_x8
  have z_c0_x8 := lt_of c0
  replace c1 := keep c1 s_x8
  replace c2 := keep c2 s_x8
  replace d0 := keep d0 s_x8
  have z_d0_x8 := lt_of d0
  replace d1 := keep d1 s_x8
  replace d2 := keep d2 s_x8
  replace u0 := keep u0 s_x8
  have z_u0_x8 := lt_of u0
  replace u1 := keep u1 s_x8
  replace u2 := keep u2 s_x8
  replace k0 := keep k0 s_x8
  have z_k0_x8 := lt_of k0
  replace k1 := keep k1 s_x8
  replace k2 := keep k2 s_x8
  have v0 : x8.cell? ⟨x7.heap.size, 0, none⟩ = some (.int .i64 0) := ((bcell g_x8).1 _ _ (by simp; try omega)).trans (by simp [go_sem])
  have v1 : x8.cell? ⟨x7.heap.size, 1, none⟩ = some (.int .i64 0) := ((bcell g_x8).1 _ _ (by simp; try omega)).trans (by simp [go_sem])
  have v2 : x8.cell? ⟨x7.heap.size, 2, none⟩ = some (.int .i64 0) := ((bcell g_x8).1 _ _ (by simp; try omega)).trans (by simp [go_sem])
  have z_v_x8 := lt_of v0
  clear g_x8 s_x8 t_x7
  go_wp2_with fail
  refine (isT (-57) 57 1000100 _).mono ?_
  rintro e x9 ⟨rfl, g_x9⟩
  have s_x9 : Below x8.heap.size x8 x9 := chain (by go_grown) g_x9
  have t_x9 := chain t_x8 s_x9
  replace s0 := keep s0 s_x9
  have z_s0_x9 := lt_of s0
  replace s1 := keep s1 s_x9
  replace s2 := keep s2 s_x9
  replace a0 := keep a0 s_x9
  have z_a0_x9 := lt_of a0
  replace a1 := keep a1 s_x9
  replace a2 := keep a2 s_x9
  replace b0 := keep b0 s_x9
  have z_b0_x9 := lt_of b0
  replace b1 := keep b1 s_x9
  replace b2 := keep b2 s_x9
  replace c0 := keep c0 s_x9
  have z_c0_x9 := lt_of c0
  replace c1 := keep c1 s_x9
  replace c2 := keep c2 s_x9
  replace d0 := keep d0 s_x9
  have z_d0_x9 := lt_of d0
  replace d1 := keep d1 s_x9
  replace d2 := keep d2 s_x9
  replace u0 := keep u0 s_x9
  have z_u0_x9 := lt_of u0
  replace u1 := keep u1 s_x9
  replace u2 := keep u2 s_x9
  replace k0 := keep k0 s_x9
  have z_k0_x9 := lt_of k0
  replace k1 := keep k1 s_x9
  replace k2 := keep k2 s_x9
  replace v0 := keep v0 s_x9
  have z_v0_x9 := lt_of v0
  replace v1 := keep v1 s_x9
  replace v2 := keep v2 s_x9
  clear g_x9 s_x9 z_s0_x8 z_a0_x8 z_b0_x8 z_c0_x8 z_d0_x8 z_u0_x8 z_k0_x8 z_v_x8 t_x8
  go_wp2_with fail
  refine (isT (-7) 7 101 _).mono ?_
  rintro e y1 ⟨rfl, g_y1⟩
  have s_y1 : Below x9.heap.size x9 y1 := chain (by go_grown) g_y1
  have t_y1 := chain t_x9 s_y1
  replace s0 := keep s0 s_y1
  have z_s0_y1 := lt_of s0
  replace s1 := keep s1 s_y1
  replace s2 := keep s2 s_y1
  replace a0 := keep a0 s_y1
  have z_a0_y1 := lt_of a0
  replace a1 := keep a1 s_y1
  replace a2 := keep a2 s_y1
  replace b0 := keep b0 s_y1
  have z_b0_y1 := lt_of b0
  replace b1 := keep b1 s_y1
  replace b2 := keep b2 s_y1
  replace c0 := keep c0 s_y1
  have z_c0_y1 := lt_of c0
  replace c1 := keep c1 s_y1
  replace c2 := keep c2 s_y1
  replace d0 := keep d0 s_y1
  have z_d0_y1 := lt_of d0
  replace d1 := keep d1 s_y1
  replace d2 := keep d2 s_y1
  replace u0 := keep u0 s_y1
  have z_u0_y1 := lt_of u0
  replace u1 := keep u1 s_y1
  replace u2 := keep u2 s_y1
  replace k0 := keep k0 s_y1
  have z_k0_y1 := lt_of k0
  replace k1 := keep k1 s_y1
  replace k2 := keep k2 s_y1
  replace v0 := keep v0 s_y1
  have z_v0_y1 := lt_of v0
  replace v1 := keep v1 s_y1
  replace v2 := keep v2 s_y1
  clear g_y1 s_y1 z_s0_x9 z_a0_x9 z_b0_x9 z_c0_x9 z_d0_x9 z_u0_x9 z_k0_x9 z_v0_x9 t_x9
  go_wp2_with fail
  refine (isT 0 9 1000100 _).mono ?_
  rintro e y2 ⟨rfl, g_y2⟩
  have s_y2 : Below y1.heap.size y1 y2 := chain (by go_grown) g_y2
  have t_y2 := chain t_y1 s_y2
  replace s0 := keep s0 s_y2
  have z_s0_y2 := lt_of s0
  replace s1 := keep s1 s_y2
  replace s2 := keep s2 s_y2
  replace a0 := keep a0 s_y2
  have z_a0_y2 := lt_of a0
  replace a1 := keep a1 s_y2
  replace a2 := keep a2 s_y2
  replace b0 := keep b0 s_y2
  have z_b0_y2 := lt_of b0
  replace b1 := keep b1 s_y2
  replace b2 := keep b2 s_y2
  replace c0 := keep c0 s_y2
  have z_c0_y2 := lt_of c0
  replace c1 := keep c1 s_y2
  replace c2 := keep c2 s_y2
  replace d0 := keep d0 s_y2
  have z_d0_y2 := lt_of d0
  replace d1 := keep d1 s_y2
  replace d2 := keep d2 s_y2
  replace u0 := keep u0 s_y2
  have z_u0_y2 := lt_of u0
  replace u1 := keep u1 s_y2
  replace u2 := keep u2 s_y2
  replace k0 := keep k0 s_y2
  have z_k0_y2 := lt_of k0
  replace k1 := keep k1 s_y2
  replace k2 := keep k2 s_y2
  replace v0 := keep v0 s_y2
  have z_v0_y2 := lt_of v0
  replace v1 := keep v1 s_y2
  replace v2 := keep v2 s_y2
  clear g_y2 s_y2 z_s0_y1 z_a0_y1 z_b0_y1 z_c0_y1 z_d0_y1 z_u0_y1 z_k0_y1 z_v0_y1 t_y1
  go_wp2_with fail
  refine (isT 3 17 29990 _).mono ?_
  rintro e y3 ⟨rfl, g_y3⟩
  have s_y3 : Below y2.heap.size y2 y3 := chain (by go_grown) g_y3
  have t_y3 := chain t_y2 s_y3
  replace s0 := keep s0 s_y3
  have z_s0_y3 := lt_of s0
  replace s1 := keep s1 s_y3
  replace s2 := keep s2 s_y3
  replace a0 := keep a0 s_y3
  have z_a0_y3 := lt_of a0
  replace a1 := keep a1 s_y3
  replace a2 := keep a2 s_y3
  replace b0 := keep b0 s_y3
  have z_b0_y3 := lt_of b0
  replace b1 := keep b1 s_y3
  replace b2 := keep b2 s_y3
  replace c0 := keep c0 s_y3
  have z_c0_y3 := lt_of c0
  replace c1 := keep c1 s_y3
  replace c2 := keep c2 s_y3
  replace d0 := keep d0 s_y3
  have z_d0_y3 := lt_of d0
  replace d1 := keep d1 s_y3
  replace d2 := keep d2 s_y3
  replace u0 := keep u0 s_y3
  have z_u0_y3 := lt_of u0
  replace u1 := keep u1 s_y3
  replace u2 := keep u2 s_y3
  replace k0 := keep k0 s_y3
  have z_k0_y3 := lt_of k0
  replace k1 := keep k1 s_y3
  replace k2 := keep k2 s_y3
  replace v0 := keep v0 s_y3
  have z_v0_y3 := lt_of v0
  replace v1 := keep v1 s_y3
  replace v2 := keep v2 s_y3
  clear g_y3 s_y3 z_s0_y2 z_a0_y2 z_b0_y2 z_c0_y2 z_d0_y2 z_u0_y2 z_k0_y2 z_v0_y2 t_y2
  go_wp2_with fail
  refine (bvalid (lo := -5) (hi := 5) (a := 100) (v := true) (by decide) _).mono ?_
  rintro e y4 ⟨rfl, g_y4⟩
  have s_y4 : Below y3.heap.size y3 y4 := chain (by go_grown) g_y4
  have t_y4 := chain t_y3 s_y4
  replace s0 := keep s0 s_y4
  have z_s0_y4 := lt_of s0
  replace s1 := keep s1 s_y4
  replace s2 := keep s2 s_y4
  replace a0 := keep a0 s_y4
  have z_a0_y4 := lt_of a0
  replace a1 := keep a1 s_y4
  replace a2 := keep a2 s_y4
  replace b0 := keep b0 s_y4
  have z_b0_y4 := lt_of b0
  replace b1 := keep b1 s_y4
  replace b2 := keep b2 s_y4
  replace c0 := keep c0 s_y4
  have z_c0_y4 := lt_of c0
  replace c1 := keep c1 s_y4
  replace c2 := keep c2 s_y4
  replace d0 := keep d0 s_y4
  have z_d0_y4 := lt_of d0
  replace d1 := keep d1 s_y4
  replace d2 := keep d2 s_y4
  replace u0 := keep u0 s_y4
  have z_u0_y4 := lt_of u0
  replace u1 := keep u1 s_y4
  replace u2 := keep u2 s_y4
  replace k0 := keep k0 s_y4
  have z_k0_y4 := lt_of k0
  replace k1 := keep k1 s_y4
  replace k2 := keep k2 s_y4
  replace v0 := keep v0 s_y4
  have z_v0_y4 := lt_of v0
  replace v1 := keep v1 s_y4
  replace v2 := keep v2 s_y4
  clear g_y4 s_y4 z_s0_y3 z_a0_y3 z_b0_y3 z_c0_y3 z_d0_y3 z_u0_y3 z_k0_y3 z_v0_y3 t_y3
  go_wp2_with fail
  refine (width (lo := -5) (hi := 5) (a := 100) (v := 10) (by decide) _).mono ?_
  rintro e y5 ⟨rfl, g_y5⟩
  have s_y5 : Below y4.heap.size y4 y5 := chain (by go_grown) g_y5
  have t_y5 := chain t_y4 s_y5
  replace s0 := keep s0 s_y5
  have z_s0_y5 := lt_of s0
  replace s1 := keep s1 s_y5
  replace s2 := keep s2 s_y5
  replace a0 := keep a0 s_y5
  have z_a0_y5 := lt_of a0
  replace a1 := keep a1 s_y5
  replace a2 := keep a2 s_y5
  replace b0 := keep b0 s_y5
  have z_b0_y5 := lt_of b0
  replace b1 := keep b1 s_y5
  replace b2 := keep b2 s_y5
  replace c0 := keep c0 s_y5
  have z_c0_y5 := lt_of c0
  replace c1 := keep c1 s_y5
  replace c2 := keep c2 s_y5
  replace d0 := keep d0 s_y5
  have z_d0_y5 := lt_of d0
  replace d1 := keep d1 s_y5
  replace d2 := keep d2 s_y5
  replace u0 := keep u0 s_y5
  have z_u0_y5 := lt_of u0
  replace u1 := keep u1 s_y5
  replace u2 := keep u2 s_y5
  replace k0 := keep k0 s_y5
  have z_k0_y5 := lt_of k0
  replace k1 := keep k1 s_y5
  replace k2 := keep k2 s_y5
  replace v0 := keep v0 s_y5
  have z_v0_y5 := lt_of v0
  replace v1 := keep v1 s_y5
  replace v2 := keep v2 s_y5
  clear g_y5 s_y5 z_s0_y4 z_a0_y4 z_b0_y4 z_c0_y4 z_d0_y4 z_u0_y4 z_k0_y4 z_v0_y4 t_y4
  go_wp2_with fail
  refine (width (lo := 1) (hi := 0) (a := 0) (v := -1) (by decide) _).mono ?_
  rintro e y6 ⟨rfl, g_y6⟩
  have s_y6 : Below y5.heap.size y5 y6 := chain (by go_grown) g_y6
  have t_y6 := chain t_y5 s_y6
  replace s0 := keep s0 s_y6
  have z_s0_y6 := lt_of s0
  replace s1 := keep s1 s_y6
  replace s2 := keep s2 s_y6
  replace a0 := keep a0 s_y6
  have z_a0_y6 := lt_of a0
  replace a1 := keep a1 s_y6
  replace a2 := keep a2 s_y6
  replace b0 := keep b0 s_y6
  have z_b0_y6 := lt_of b0
  replace b1 := keep b1 s_y6
  replace b2 := keep b2 s_y6
  replace c0 := keep c0 s_y6
  have z_c0_y6 := lt_of c0
  replace c1 := keep c1 s_y6
  replace c2 := keep c2 s_y6
  replace d0 := keep d0 s_y6
  have z_d0_y6 := lt_of d0
  replace d1 := keep d1 s_y6
  replace d2 := keep d2 s_y6
  replace u0 := keep u0 s_y6
  have z_u0_y6 := lt_of u0
  replace u1 := keep u1 s_y6
  replace u2 := keep u2 s_y6
  replace k0 := keep k0 s_y6
  have z_k0_y6 := lt_of k0
  replace k1 := keep k1 s_y6
  replace k2 := keep k2 s_y6
  replace v0 := keep v0 s_y6
  have z_v0_y6 := lt_of v0
  replace v1 := keep v1 s_y6
  replace v2 := keep v2 s_y6
  clear g_y6 s_y6 z_s0_y5 z_a0_y5 z_b0_y5 z_c0_y5 z_d0_y5 z_u0_y5 z_k0_y5 z_v0_y5 t_y5
  go_wp2_with fail
  go_ret
  exact ⟨rfl, by first | exact t_y6 | go_grown⟩
end Go.Proofs.Ytkmkfjaokjcelaa
