/- The laws of replay: MatchesReference, Moving, Jumps. -/
import Derived.Test.YtojcbolfheneeaaRepC
namespace Go.Proofs.Ytojcbolfheneeaa
open Go.ChangeShapes Go.WideShapes Go.ChangeAt Go.RowKit
theorem noteI {T n X E B' Y' : Int} (B Y : Nat) (eB : (B : Int) = B') (eY : (Y : Int) = Y') (hb : B < 18446744073709551616) (hX : ntT T B n = X) (hY : ntB T B n = Y) (hE : ntE T B n = E) (w : World) :
    Calls Try.prog 10 #[.agg #[.int .i64 T, .int .u64 B'], .int .i64 n] w fun e w' => e = .returned (.tuple #[.agg #[.int .i64 X, .int .u64 Y'], .int .i64 E]) ∧ Below w.heap.size w w' := by
  subst eB eY
  exact note hb hX hY hE w
theorem freshI {T n B' : Int} {v : Bool} (B : Nat) (eB : (B : Int) = B') (hb : B < 18446744073709551616) (hv : fr T B n = v) (w : World) : Calls Try.prog 14 #[.agg #[.int .i64 T, .int .u64 B'], .int .i64 n] w fun e w' => e = .returned (.bool v) ∧ Below w.heap.size w w' := by
  subst eB
  exact fresh hb hv w
theorem validI {T B' : Int} {v : Bool} (B : Nat) (eB : (B : Int) = B') (hb : B < 18446744073709551616) (hv : vw T B = v) (w : World) : Calls Try.prog 12 #[.agg #[.int .i64 T, .int .u64 B']] w fun e w' => e = .returned (.bool v) ∧ Below w.heap.size w w' := by
  subst eB
  exact valid hb hv w
set_option maxRecDepth 100000 in
set_option maxHeartbeats 4000000 in
theorem head (w : World) : Calls Try.prog 9 #[] w fun e w' => e = .returned (.bool true) ∧ Below w.heap.size w w' := by
  have t_w := Below.refl w.heap.size w
  go_enter Try.func9, Try.ntmps9
  go_wp2_with fail
  refine (noteI (X := 5) (E := 0) 0 1 rfl rfl (by decide) (by decide) (by decide) (by decide) _).mono ?_
  rintro e x1 ⟨rfl, g_x1⟩
  have s_x1 : Below w.heap.size w x1 := chain (by go_grown) g_x1
  have t_x1 := chain t_w s_x1
  clear g_x1 s_x1 t_w
  go_wp2_with fail
  refine (noteI (X := 7) (E := 0) 1 5 rfl rfl (by decide) (by decide) (by decide) (by decide) _).mono ?_
  rintro e x2 ⟨rfl, g_x2⟩
  have s_x2 : Below x1.heap.size x1 x2 := chain (by go_grown) g_x2
  have t_x2 := chain t_x1 s_x2
  have a0 : x2.cell? ⟨x1.heap.size, 0, none⟩ = some (.int .i64 5) := ((bcell g_x2).1 _ _ (by simp; try omega)).trans (by simp [go_sem])
  have a1 : x2.cell? ⟨x1.heap.size, 1, none⟩ = some (.int .u64 1) := ((bcell g_x2).1 _ _ (by simp; try omega)).trans (by simp [go_sem])
  have z_a_x2 := lt_of a0
  clear g_x2 s_x2 t_x1
  go_wp2_with fail
  refine (noteI (X := 7) (E := 0) 5 7 rfl rfl (by decide) (by decide) (by decide) (by decide) _).mono ?_
  rintro e x3 ⟨rfl, g_x3⟩
  have s_x3 : Below x2.heap.size x2 x3 := chain (by go_grown) g_x3
  have t_x3 := chain t_x2 s_x3
  replace a0 := keep a0 s_x3
  have z_a0_x3 := lt_of a0
  replace a1 := keep a1 s_x3
  have b0 : x3.cell? ⟨x2.heap.size, 0, none⟩ = some (.int .i64 7) := ((bcell g_x3).1 _ _ (by simp; try omega)).trans (by simp [go_sem])
  have b1 : x3.cell? ⟨x2.heap.size, 1, none⟩ = some (.int .u64 5) := ((bcell g_x3).1 _ _ (by simp; try omega)).trans (by simp [go_sem])
  have z_b_x3 := lt_of b0
  clear g_x3 s_x3 t_x2
  go_wp2_with fail
  refine (noteI (X := 0) (E := 14) 7 0 rfl rfl (by decide) (by decide) (by decide) (by decide) _).mono ?_
  rintro e x4 ⟨rfl, g_x4⟩
  have s_x4 : Below x3.heap.size x3 x4 := chain (by go_grown) g_x4
  have t_x4 := chain t_x3 s_x4
  replace a0 := keep a0 s_x4
  have z_a0_x4 := lt_of a0
  replace a1 := keep a1 s_x4
  replace b0 := keep b0 s_x4
  have z_b0_x4 := lt_of b0
  replace b1 := keep b1 s_x4
  have c0 : x4.cell? ⟨x3.heap.size, 0, none⟩ = some (.int .i64 7) := ((bcell g_x4).1 _ _ (by simp; try omega)).trans (by simp [go_sem])
  have c1 : x4.cell? ⟨x3.heap.size, 1, none⟩ = some (.int .u64 7) := ((bcell g_x4).1 _ _ (by simp; try omega)).trans (by simp [go_sem])
  have z_c_x4 := lt_of c0
  clear g_x4 s_x4 t_x3
  go_wp2_with fail
  refine (noteI (X := 71) (E := 0) 7 1 rfl rfl (by decide) (by decide) (by decide) (by decide) _).mono ?_
  rintro e x5 ⟨rfl, g_x5⟩
  have s_x5 : Below x4.heap.size x4 x5 := chain (by go_grown) g_x5
  have t_x5 := chain t_x4 s_x5
  replace a0 := keep a0 s_x5
  have z_a0_x5 := lt_of a0
  replace a1 := keep a1 s_x5
  replace b0 := keep b0 s_x5
  have z_b0_x5 := lt_of b0
  replace b1 := keep b1 s_x5
  replace c0 := keep c0 s_x5
  have z_c0_x5 := lt_of c0
  replace c1 := keep c1 s_x5
  have d0 : x5.cell? ⟨x4.heap.size, 0, none⟩ = some (.int .i64 0) := ((bcell g_x5).1 _ _ (by simp; try omega)).trans (by simp [go_sem])
  have d1 : x5.cell? ⟨x4.heap.size, 1, none⟩ = some (.int .u64 0) := ((bcell g_x5).1 _ _ (by simp; try omega)).trans (by simp [go_sem])
  have z_d_x5 := lt_of d0
  clear g_x5 s_x5 t_x4
  go_wp2_with fail
  refine (noteI (X := 0) (E := 1) 1 0 rfl rfl (by decide) (by decide) (by decide) (by decide) _).mono ?_
  rintro e x6 ⟨rfl, g_x6⟩
  have s_x6 : Below x5.heap.size x5 x6 := chain (by go_grown) g_x6
  have t_x6 := chain t_x5 s_x6
  replace a0 := keep a0 s_x6
  have z_a0_x6 := lt_of a0
  replace a1 := keep a1 s_x6
  replace b0 := keep b0 s_x6
  have z_b0_x6 := lt_of b0
  replace b1 := keep b1 s_x6
  replace c0 := keep c0 s_x6
  have z_c0_x6 := lt_of c0
  replace c1 := keep c1 s_x6
  replace d0 := keep d0 s_x6
  have z_d0_x6 := lt_of d0
  replace d1 := keep d1 s_x6
  have e0 : x6.cell? ⟨x5.heap.size, 0, none⟩ = some (.int .i64 71) := ((bcell g_x6).1 _ _ (by simp; try omega)).trans (by simp [go_sem])
  have e1 : x6.cell? ⟨x5.heap.size, 1, none⟩ = some (.int .u64 1) := ((bcell g_x6).1 _ _ (by simp; try omega)).trans (by simp [go_sem])
  have z_e_x6 := lt_of e0
  clear g_x6 s_x6 t_x5
  go_wp2_with fail
  refine (freshI (v := true) 1 rfl (by decide) (by decide) _).mono ?_
  rintro e x7 ⟨rfl, g_x7⟩
  have s_x7 : Below x6.heap.size x6 x7 := chain (by go_grown) g_x7
  have t_x7 := chain t_x6 s_x7
  replace a0 := keep a0 s_x7
  have z_a0_x7 := lt_of a0
  replace a1 := keep a1 s_x7
  replace b0 := keep b0 s_x7
  have z_b0_x7 := lt_of b0
  replace b1 := keep b1 s_x7
  replace c0 := keep c0 s_x7
  have z_c0_x7 := lt_of c0
  replace c1 := keep c1 s_x7
  replace d0 := keep d0 s_x7
  have z_d0_x7 := lt_of d0
  replace d1 := keep d1 s_x7
  replace e0 := keep e0 s_x7
  have z_e0_x7 := lt_of e0
  replace e1 := keep e1 s_x7
  have f0 : x7.cell? ⟨x6.heap.size, 0, none⟩ = some (.int .i64 0) := ((bcell g_x7).1 _ _ (by simp; try omega)).trans (by simp [go_sem])
  have f1 : x7.cell? ⟨x6.heap.size, 1, none⟩ = some (.int .u64 0) := ((bcell g_x7).1 _ _ (by simp; try omega)).trans (by simp [go_sem])
  have z_f_x7 := lt_of f0
  clear g_x7 s_x7 t_x6
  go_wp2_with fail
  refine (freshI (v := false) 1 rfl (by decide) (by decide) _).mono ?_
  rintro e x8 ⟨rfl, g_x8⟩
  have s_x8 : Below x7.heap.size x7 x8 := chain (by go_grown) g_x8
  have t_x8 := chain t_x7 s_x8
  replace a0 := keep a0 s_x8
  have z_a0_x8 := lt_of a0
  replace a1 := keep a1 s_x8
  replace b0 := keep b0 s_x8
  have z_b0_x8 := lt_of b0
  replace b1 := keep b1 s_x8
  replace c0 := keep c0 s_x8
  have z_c0_x8 := lt_of c0
  replace c1 := keep c1 s_x8
  replace d0 := keep d0 s_x8
  have z_d0_x8 := lt_of d0
  replace d1 := keep d1 s_x8
  replace e0 := keep e0 s_x8
  have z_e0_x8 := lt_of e0
  replace e1 := keep e1 s_x8
  replace f0 := keep f0 s_x8
  have z_f0_x8 := lt_of f0
  replace f1 := keep f1 s_x8
  clear g_x8 s_x8 z_a0_x7 z_b0_x7 z_c0_x7 z_d0_x7 z_e0_x7 z_f_x7 t_x7
  go_wp2_with fail
  refine (validI (v := true) 1 rfl (by decide) (by decide) _).mono ?_
  rintro e x9 ⟨rfl, g_x9⟩
  have s_x9 : Below x8.heap.size x8 x9 := chain (by go_grown) g_x9
  have t_x9 := chain t_x8 s_x9
  replace a0 := keep a0 s_x9
  have z_a0_x9 := lt_of a0
  replace a1 := keep a1 s_x9
  replace b0 := keep b0 s_x9
  have z_b0_x9 := lt_of b0
  replace b1 := keep b1 s_x9
  replace c0 := keep c0 s_x9
  have z_c0_x9 := lt_of c0
  replace c1 := keep c1 s_x9
  replace d0 := keep d0 s_x9
  have z_d0_x9 := lt_of d0
  replace d1 := keep d1 s_x9
  replace e0 := keep e0 s_x9
  have z_e0_x9 := lt_of e0
  replace e1 := keep e1 s_x9
  replace f0 := keep f0 s_x9
  have z_f0_x9 := lt_of f0
  replace f1 := keep f1 s_x9
  clear g_x9 s_x9 z_a0_x8 z_b0_x8 z_c0_x8 z_d0_x8 z_e0_x8 z_f0_x8 t_x8
  go_wp2_with fail
  refine (validI (v := false) 3 rfl (by decide) (by decide) _).mono ?_
  rintro e x10 ⟨rfl, g_x10⟩
  have s_x10 : Below x9.heap.size x9 x10 := chain (by go_grown) g_x10
  have t_x10 := chain t_x9 s_x10
  replace a0 := keep a0 s_x10
  have z_a0_x10 := lt_of a0
  replace a1 := keep a1 s_x10
  replace b0 := keep b0 s_x10
  have z_b0_x10 := lt_of b0
  replace b1 := keep b1 s_x10
  replace c0 := keep c0 s_x10
  have z_c0_x10 := lt_of c0
  replace c1 := keep c1 s_x10
  replace d0 := keep d0 s_x10
  have z_d0_x10 := lt_of d0
  replace d1 := keep d1 s_x10
  replace e0 := keep e0 s_x10
  have z_e0_x10 := lt_of e0
  replace e1 := keep e1 s_x10
  replace f0 := keep f0 s_x10
  have z_f0_x10 := lt_of f0
  replace f1 := keep f1 s_x10
  clear g_x10 s_x10 z_a0_x9 z_b0_x9 z_c0_x9 z_d0_x9 z_e0_x9 z_f0_x9 t_x9
  go_wp2_with fail
  go_ret
  exact ⟨rfl, by first | exact t_x10 | go_grown⟩
set_option maxRecDepth 100000 in
set_option maxHeartbeats 4000000 in
theorem matchesW {T : Int} {B : Nat} {n : Int} (hb : B < 18446744073709551616) (w : World) : Calls Try.prog 3 #[.agg #[.int .i64 T, .int .u64 B], .int .i64 n] w fun e w' => e = .returned (.bool true) ∧ Below w.heap.size w w' := by
  obtain ⟨X, hX⟩ : ∃ x, ntT T B n = x := ⟨_, rfl⟩
  obtain ⟨Y, hY⟩ : ∃ x, ntB T B n = x := ⟨_, rfl⟩
  obtain ⟨E, hE⟩ : ∃ x, ntE T B n = x := ⟨_, rfl⟩
  obtain ⟨v, hv⟩ : ∃ x, vw T B = x := ⟨_, rfl⟩
  obtain ⟨u, hu⟩ : ∃ x, fr T B n = x := ⟨_, rfl⟩
  have HX := Lib.hid hX; have HY := Lib.hid hY; have HE := Lib.hid hE; have HV := Lib.hid hv; have HU := Lib.hid hu
  clear hX hY hE hv hu
  have t_w := Below.refl w.heap.size w
  go_enter Try.func3, Try.ntmps3
  go_wp2_with fail
  refine (head _).mono ?_
  rintro e x1 ⟨rfl, g_x1⟩
  have s_x1 : Below w.heap.size w x1 := chain (by go_grown) g_x1
  have t_x1 := chain t_w s_x1
  have p0 : x1.cell? ⟨w.heap.size, 0, none⟩ = some (.int .i64 T) := ((bcell g_x1).1 _ _ (by simp; try omega)).trans (by simp [go_sem])
  have p1 : x1.cell? ⟨w.heap.size, 1, none⟩ = some (.int .u64 B) := ((bcell g_x1).1 _ _ (by simp; try omega)).trans (by simp [go_sem])
  have z_p_x1 := lt_of p0
  clear g_x1 s_x1 t_w
  go_wp2_with fail
  refine (note hb HX.out HY.out HE.out _).mono ?_
  rintro e x2 ⟨rfl, g_x2⟩
  have s_x2 : Below x1.heap.size x1 x2 := chain (by go_grown) g_x2
  have t_x2 := chain t_x1 s_x2
  replace p0 := keep p0 s_x2
  have z_p0_x2 := lt_of p0
  replace p1 := keep p1 s_x2
  clear g_x2 s_x2 z_p_x1 t_x1
  go_wp2_with fail
  refine (rnote hb HX.out HY.out HE.out _).mono ?_
  rintro e x3 ⟨rfl, g_x3⟩
  have s_x3 : Below x2.heap.size x2 x3 := chain (by go_grown) g_x3
  have t_x3 := chain t_x2 s_x3
  replace p0 := keep p0 s_x3
  have z_p0_x3 := lt_of p0
  replace p1 := keep p1 s_x3
  have a0 : x3.cell? ⟨x2.heap.size, 0, none⟩ = some (.int .i64 X) := ((bcell g_x3).1 _ _ (by simp; try omega)).trans (by simp [go_sem])
  have a1 : x3.cell? ⟨x2.heap.size, 1, none⟩ = some (.int .u64 Y) := ((bcell g_x3).1 _ _ (by simp; try omega)).trans (by simp [go_sem])
  have z_a_x3 := lt_of a0
  clear g_x3 s_x3 t_x2
  go_wp2_with fail
  have s_W_1 : Below x3.heap.size x3 (x3.alloc (.cells #[.int .i64 X, .int .u64 Y] 24)) := Below.alloc (Below.refl _ _) (Nat.le_refl _) _
  have b0 : (x3.alloc (.cells #[.int .i64 X, .int .u64 Y] 24)).cell? ⟨x3.heap.size, 0, none⟩ = some (.int .i64 X) := by simp [go_sem]
  have b1 : (x3.alloc (.cells #[.int .i64 X, .int .u64 Y] 24)).cell? ⟨x3.heap.size, 1, none⟩ = some (.int .u64 Y) := by simp [go_sem]
  replace p0 := keep p0 s_W_1
  replace p1 := keep p1 s_W_1
  replace a0 := keep a0 s_W_1
  replace a1 := keep a1 s_W_1
  have t_W_1 := chain t_x3 s_W_1
  generalize x3.alloc (.cells #[.int .i64 X, .int .u64 Y] 24) = W_1 at *
  have fut_0_26 := fut_cell p0
  have fut_1_26 := fut_cell p1
  have fut_2_26 := fut_cell a0
  have fut_3_26 := fut_cell a1
  have fut_4_26 := fut_cell b0
  have fut_5_26 := fut_cell b1
  refine wp_region_fut (by kernel_rfl) (by kernel_rfl) ?_
  repeat (go_big_quiet_step (first
    | (go_at_call 12; with_reducible exact fut_call (valid hb HV.out _))
    | (go_at_call 13; with_reducible exact fut_call (rvalid hb HV.out _))
    | (go_at_call 14; with_reducible exact fut_call (fresh hb HU.out _))
    | (go_at_call 15; with_reducible exact fut_call (rfresh hb HU.out _))))
  refine wpQuiet_nil ?_
  rintro _ ⟨⟨x9, s_x9⟩, rfl⟩
  clear fut_0_26 fut_1_26 fut_2_26 fut_3_26 fut_4_26 fut_5_26
  have t_x9 := chain t_W_1 s_x9
  replace p0 := keep p0 s_x9
  replace p1 := keep p1 s_x9
  replace a0 := keep a0 s_x9
  replace a1 := keep a1 s_x9
  replace b0 := keep b0 s_x9
  replace b1 := keep b1 s_x9
  go_wp2_with fail
  go_ret
  exact ⟨rfl, by first | exact t_x9 | go_grown⟩
end Go.Proofs.Ytojcbolfheneeaa
