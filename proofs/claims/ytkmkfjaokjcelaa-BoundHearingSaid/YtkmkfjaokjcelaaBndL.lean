/- Law of bound: hearing. -/
import Derived.Test.YtkmkfjaokjcelaaBndHd
import Derived.Test.YtkmkfjaokjcelaaBndI
namespace Go.Proofs.Ytkmkfjaokjcelaa
open Go.ChangeShapes Go.WideShapes Go.ChangeAt Go.RowKit
set_option maxRecDepth 100000 in
set_option maxHeartbeats 2000000 in
theorem hearingW {o d n y ea : Int} (n0 : 0 ≤ n) (n1 : n ≤ 4294967295) (y0 : 0 ≤ y) (y1 : y ≤ 65535) (e0 : 0 ≤ ea) (e1 : ea ≤ 65535) (w : World) : Calls Try.prog 6 #[.agg #[.int .i64 o, .int .i64 d], .int .u32 n, .int .u16 y, .int .u16 ea] w fun e w' => e = .returned (.bool true) ∧ Below w.heap.size w w' := by
  obtain ⟨a, ha⟩ : ∃ a, n % 1000000000 = a := ⟨_, rfl⟩
  obtain ⟨b, hb⟩ : ∃ a, y % 2001 = a := ⟨_, rfl⟩
  have a0 : 0 ≤ a := by omega
  have a1 : a ≤ 999999999 := by omega
  have b0 : 0 ≤ b := by omega
  have b1 : b ≤ 2000 := by omega
  obtain ⟨e, he⟩ : ∃ e, ea % (2 * b + 1) = e := ⟨_, rfl⟩
  have f0 : 0 ≤ e := by rw [← he]; exact Int.emod_nonneg _ (by omega)
  have f1 : e ≤ 2 * b := by have := Int.emod_lt_of_pos ea (show 0 < 2 * b + 1 by omega); omega
  obtain ⟨t, ht⟩ : ∃ t, a * 10000 - b + e = t := ⟨_, rfl⟩
  obtain ⟨A, hA⟩ : ∃ A, shV o d t = A := ⟨_, rfl⟩
  obtain ⟨E, hE⟩ : ∃ A, shE o d t = A := ⟨_, rfl⟩
  have HA := Lib.hid hA; have HE := Lib.hid hE; have HT := Lib.hid ht
  by_cases hz : E = 0
  · subst hz
    have hso : shOk o d t = true := by
      rcases h : shOk o d t with _ | _
      · rw [shE, h] at hE; simp at hE
      · rfl
    have hs := shOk_t hso
    have hv : sh o d t = A := by rw [← hA]; simp [shV, hso]
    have hbd := sh_b hs.1 hs.2.1 (by omega)
    rw [hv] at hbd
    obtain ⟨A0, A1⟩ := hbd
    obtain ⟨t0, t1⟩ := hs.2
    obtain ⟨L, hL⟩ : ∃ L, a * 10000 - A - b = L := ⟨_, rfl⟩
    obtain ⟨H, hH⟩ : ∃ L, a * 10000 - A + b = L := ⟨_, rfl⟩
    have hh : HeardIs a b A L H A 0 := .inr ⟨by simp [hOk]; omega, hL.symm, hH.symm, rfl, rfl⟩
    have hw : widthI L H A = 2 * b := by
      have : okS L H A = true := by simp [okS]; omega
      simp [widthI, this]; omega
    have g1 : L ≤ t - A := by omega
    have g2 : t - A ≤ H := by omega
    have L0 : -100000000000000 ≤ L := by omega
    have L1 : H ≤ 100000000000000 := by omega
    have HH := Lib.hid hh; have HW := Lib.hid hw
    clear hA hE hso hs hv hL hH hh hw
    have t_w := Below.refl w.heap.size w
    go_enter Try.func6, Try.ntmps6
    go_wp2_with fail
    refine (bhead _).mono ?_
    rintro e x1 ⟨rfl, g_x1⟩
    have s_x1 : Below w.heap.size w x1 := chain (by go_grown) g_x1
    have t_x1 := chain t_w s_x1
    have k0 : x1.cell? ⟨w.heap.size, 0, none⟩ = some (.int .i64 o) := ((bcell g_x1).1 _ _ (by simp; try omega)).trans (by simp [go_sem])
    have k1 : x1.cell? ⟨w.heap.size, 1, none⟩ = some (.int .i64 d) := ((bcell g_x1).1 _ _ (by simp; try omega)).trans (by simp [go_sem])
    have z_k_x1 := lt_of k0
    clear g_x1 s_x1 t_w
    go_wp2_with fail
    have ne_k_h := lt_of k0
    have le_h := t_x1.size
    have s_W_1 : Below x1.heap.size x1 (x1.alloc (.cells #[.int .i64 0, .int .i64 0, .int .i64 b, .int .i64 a, .int .i64 0] 25)) := Below.alloc (Below.refl _ _) (Nat.le_refl _) _
    have h0 : (x1.alloc (.cells #[.int .i64 0, .int .i64 0, .int .i64 b, .int .i64 a, .int .i64 0] 25)).cell? ⟨x1.heap.size, 0, none⟩ = some (.int .i64 0) := by simp [go_sem]
    have h1 : (x1.alloc (.cells #[.int .i64 0, .int .i64 0, .int .i64 b, .int .i64 a, .int .i64 0] 25)).cell? ⟨x1.heap.size, 1, none⟩ = some (.int .i64 0) := by simp [go_sem]
    have h2 : (x1.alloc (.cells #[.int .i64 0, .int .i64 0, .int .i64 b, .int .i64 a, .int .i64 0] 25)).cell? ⟨x1.heap.size, 2, none⟩ = some (.int .i64 b) := by simp [go_sem]
    have h3 : (x1.alloc (.cells #[.int .i64 0, .int .i64 0, .int .i64 b, .int .i64 a, .int .i64 0] 25)).cell? ⟨x1.heap.size, 3, none⟩ = some (.int .i64 a) := by simp [go_sem]
    have h4 : (x1.alloc (.cells #[.int .i64 0, .int .i64 0, .int .i64 b, .int .i64 a, .int .i64 0] 25)).cell? ⟨x1.heap.size, 4, none⟩ = some (.int .i64 0) := by simp [go_sem]
    have hf : ∀ i, (x1.alloc (.cells #[.int .i64 0, .int .i64 0, .int .i64 b, .int .i64 a, .int .i64 0] 25)).frozen? ⟨x1.heap.size, i, none⟩ = false := fun i => by simp [go_sem]
    replace k0 := keep k0 s_W_1
    replace k1 := keep k1 s_W_1
    have t_W_1 := chain t_x1 s_W_1
    generalize x1.alloc (.cells #[.int .i64 0, .int .i64 0, .int .i64 b, .int .i64 a, .int .i64 0] 25) = W_1 at *
    have fu_k0 := fut_cell k0
    have fu_k1 := fut_cell k1
    have fu_h0 := fut_cell h0
    have fu_h1 := fut_cell h1
    have fu_h2 := fut_cell h2
    have fu_h3 := fut_cell h3
    have fu_h4 := fut_cell h4
    refine wp_region_fut (by kernel_rfl) (by kernel_rfl) ?_
    repeat (go_big_quiet_step (first
      | fail))
    refine wpQuiet_nil ?_
    rintro x2 ⟨⟨y_x2, s_x2⟩, hw_x2⟩
    have hw_x2 : x2 = y_x2 := hw_x2
    subst hw_x2
    clear fu_k0 fu_k1 fu_h0 fu_h1 fu_h2 fu_h3 fu_h4
    have t_x2 := chain t_W_1 s_x2
    replace hf := fkeep2 hf (lt_of h0) s_x2
    replace k0 := keep k0 s_x2
    replace k1 := keep k1 s_x2
    replace h0 := keep h0 s_x2
    replace h1 := keep h1 s_x2
    replace h2 := keep h2 s_x2
    replace h3 := keep h3 s_x2
    replace h4 := keep h4 s_x2
    go_wp2_with fail
    refine (showV HA.out HE.out _).mono ?_
    rintro e x3 ⟨rfl, g_x3⟩
    have s_x3 : Below x2.heap.size x2 x3 := chain (by go_grown) g_x3
    have t_x3 := chain t_x2 s_x3
    replace hf := fkeep2 hf (lt_of h0) s_x3
    replace k0 := keep k0 s_x3
    have z_k0_x3 := lt_of k0
    replace k1 := keep k1 s_x3
    replace h0 := keep h0 s_x3
    have z_h0_x3 := lt_of h0
    replace h1 := keep h1 s_x3
    replace h2 := keep h2 s_x3
    replace h3 := keep h3 s_x3
    replace h4 := keep h4 s_x3
    clear g_x3 s_x3 z_k_x1 t_x2
    go_wp2_with fail
    have k0n : (x3.setCell ⟨x1.heap.size, 4, none⟩ (.int .i64 A)).cell? _ = _ := (cset_ne (c := x1.heap.size) k0 (by omega) 4 (.int .i64 A)); clear k0; have k0 := k0n; clear k0n
    have k1n : (x3.setCell ⟨x1.heap.size, 4, none⟩ (.int .i64 A)).cell? _ = _ := (cset_ne (c := x1.heap.size) k1 (by omega) 4 (.int .i64 A)); clear k1; have k1 := k1n; clear k1n
    replace hf : ∀ i, (x3.setCell ⟨x1.heap.size, 4, none⟩ (.int .i64 A)).frozen? ⟨x1.heap.size, i, none⟩ = false := fun i => by simp only [World.frozen?_setCell]; exact hf i
    have h0n : (x3.setCell ⟨x1.heap.size, 4, none⟩ (.int .i64 A)).cell? ⟨x1.heap.size, 0, none⟩ = _ := (cset_off h0 (by decide) _)
    have h1n : (x3.setCell ⟨x1.heap.size, 4, none⟩ (.int .i64 A)).cell? ⟨x1.heap.size, 1, none⟩ = _ := (cset_off h1 (by decide) _)
    have h2n : (x3.setCell ⟨x1.heap.size, 4, none⟩ (.int .i64 A)).cell? ⟨x1.heap.size, 2, none⟩ = _ := (cset_off h2 (by decide) _)
    have h3n : (x3.setCell ⟨x1.heap.size, 4, none⟩ (.int .i64 A)).cell? ⟨x1.heap.size, 3, none⟩ = _ := (cset_off h3 (by decide) _)
    have h4n : (x3.setCell ⟨x1.heap.size, 4, none⟩ (.int .i64 A)).cell? ⟨x1.heap.size, 4, none⟩ = some (.int .i64 A) := (cset_eq h4 (.int .i64 A))
    have t_W_2 : Below w.heap.size w (x3.setCell ⟨x1.heap.size, 4, none⟩ (.int .i64 A)) := by go_grown
    clear h0 h1 h2 h3 h4 t_x3
    have h0 := h0n; clear h0n
    have h1 := h1n; clear h1n
    have h2 := h2n; clear h2n
    have h3 := h3n; clear h3n
    have h4 := h4n; clear h4n
    generalize x3.setCell ⟨x1.heap.size, 4, none⟩ (.int .i64 A) = W_2 at *
    refine (heardV HH.out _).mono ?_
    rintro e x4 ⟨rfl, g_x4⟩
    have s_x4 : Below W_2.heap.size W_2 x4 := chain (by go_grown) g_x4
    have t_x4 := chain t_W_2 s_x4
    replace hf := fkeep2 hf (lt_of h0) s_x4
    replace k0 := keep k0 s_x4
    have z_k0_x4 := lt_of k0
    replace k1 := keep k1 s_x4
    replace h0 := keep h0 s_x4
    have z_h0_x4 := lt_of h0
    replace h1 := keep h1 s_x4
    replace h2 := keep h2 s_x4
    replace h3 := keep h3 s_x4
    replace h4 := keep h4 s_x4
    clear g_x4 s_x4 z_k0_x3 z_h0_x3 t_W_2
    go_wp2_with fail
    have ne_h_s := lt_of h0
    have s_W_3 : Below x4.heap.size x4 (x4.alloc (.cells #[.int .i64 L, .int .i64 H, .int .i64 A] 23)) := Below.alloc (Below.refl _ _) (Nat.le_refl _) _
    have s0 : (x4.alloc (.cells #[.int .i64 L, .int .i64 H, .int .i64 A] 23)).cell? ⟨x4.heap.size, 0, none⟩ = some (.int .i64 L) := by simp [go_sem]
    have s1 : (x4.alloc (.cells #[.int .i64 L, .int .i64 H, .int .i64 A] 23)).cell? ⟨x4.heap.size, 1, none⟩ = some (.int .i64 H) := by simp [go_sem]
    have s2 : (x4.alloc (.cells #[.int .i64 L, .int .i64 H, .int .i64 A] 23)).cell? ⟨x4.heap.size, 2, none⟩ = some (.int .i64 A) := by simp [go_sem]
    replace hf := fkeep2 hf (lt_of h0) s_W_3
    replace k0 := keep k0 s_W_3
    replace k1 := keep k1 s_W_3
    replace h0 := keep h0 s_W_3
    replace h1 := keep h1 s_W_3
    replace h2 := keep h2 s_W_3
    replace h3 := keep h3 s_W_3
    replace h4 := keep h4 s_W_3
    have t_W_3 := chain t_x4 s_W_3
    generalize x4.alloc (.cells #[.int .i64 L, .int .i64 H, .int .i64 A] 23) = W_3 at *
    have fu_k0 := fut_cell k0
    have fu_k1 := fut_cell k1
    have fu_h0 := fut_cell h0
    have fu_h1 := fut_cell h1
    have fu_h2 := fut_cell h2
    have fu_h3 := fut_cell h3
    have fu_h4 := fut_cell h4
    have fu_s0 := fut_cell s0
    have fu_s1 := fut_cell s1
    have fu_s2 := fut_cell s2
    refine wp_region_fut (by kernel_rfl) (by kernel_rfl) ?_
    repeat (go_big_quiet_step (first
      | (go_at_call 25; with_reducible exact fut_call (rtrueT g1 g2 (by omega) (by omega) (by omega) (by omega) _))
      | (go_at_call 20; with_reducible exact fut_call (width HW.out _))))
    refine wpQuiet_nil ?_
    rintro x9 ⟨⟨y_x9, s_x9⟩, hw_x9⟩
    have hw_x9 : x9 = y_x9 := hw_x9
    subst hw_x9
    clear fu_k0 fu_k1 fu_h0 fu_h1 fu_h2 fu_h3 fu_h4 fu_s0 fu_s1 fu_s2
    have t_x9 := chain t_W_3 s_x9
    replace hf := fkeep2 hf (lt_of h0) s_x9
    replace k0 := keep k0 s_x9
    replace k1 := keep k1 s_x9
    replace h0 := keep h0 s_x9
    replace h1 := keep h1 s_x9
    replace h2 := keep h2 s_x9
    replace h3 := keep h3 s_x9
    replace h4 := keep h4 s_x9
    replace s0 := keep s0 s_x9
    replace s1 := keep s1 s_x9
    replace s2 := keep s2 s_x9
    go_wp2_with fail
    go_ret
    exact ⟨rfl, by first | exact t_x9 | go_grown⟩
  · have e2 : (E != 0) = true := by simp [hz]
    clear hA hE hz
    have t_w := Below.refl w.heap.size w
    go_enter Try.func6, Try.ntmps6
    go_wp2_with fail
    refine (bhead _).mono ?_
    rintro e x1 ⟨rfl, g_x1⟩
    have s_x1 : Below w.heap.size w x1 := chain (by go_grown) g_x1
    have t_x1 := chain t_w s_x1
    have k0 : x1.cell? ⟨w.heap.size, 0, none⟩ = some (.int .i64 o) := ((bcell g_x1).1 _ _ (by simp; try omega)).trans (by simp [go_sem])
    have k1 : x1.cell? ⟨w.heap.size, 1, none⟩ = some (.int .i64 d) := ((bcell g_x1).1 _ _ (by simp; try omega)).trans (by simp [go_sem])
    have z_k_x1 := lt_of k0
    clear g_x1 s_x1 t_w
    go_wp2_with fail
    have ne_k_h := lt_of k0
    have le_h := t_x1.size
    have s_W_4 : Below x1.heap.size x1 (x1.alloc (.cells #[.int .i64 0, .int .i64 0, .int .i64 b, .int .i64 a, .int .i64 0] 25)) := Below.alloc (Below.refl _ _) (Nat.le_refl _) _
    have h0 : (x1.alloc (.cells #[.int .i64 0, .int .i64 0, .int .i64 b, .int .i64 a, .int .i64 0] 25)).cell? ⟨x1.heap.size, 0, none⟩ = some (.int .i64 0) := by simp [go_sem]
    have h1 : (x1.alloc (.cells #[.int .i64 0, .int .i64 0, .int .i64 b, .int .i64 a, .int .i64 0] 25)).cell? ⟨x1.heap.size, 1, none⟩ = some (.int .i64 0) := by simp [go_sem]
    have h2 : (x1.alloc (.cells #[.int .i64 0, .int .i64 0, .int .i64 b, .int .i64 a, .int .i64 0] 25)).cell? ⟨x1.heap.size, 2, none⟩ = some (.int .i64 b) := by simp [go_sem]
    have h3 : (x1.alloc (.cells #[.int .i64 0, .int .i64 0, .int .i64 b, .int .i64 a, .int .i64 0] 25)).cell? ⟨x1.heap.size, 3, none⟩ = some (.int .i64 a) := by simp [go_sem]
    have h4 : (x1.alloc (.cells #[.int .i64 0, .int .i64 0, .int .i64 b, .int .i64 a, .int .i64 0] 25)).cell? ⟨x1.heap.size, 4, none⟩ = some (.int .i64 0) := by simp [go_sem]
    have hf : ∀ i, (x1.alloc (.cells #[.int .i64 0, .int .i64 0, .int .i64 b, .int .i64 a, .int .i64 0] 25)).frozen? ⟨x1.heap.size, i, none⟩ = false := fun i => by simp [go_sem]
    replace k0 := keep k0 s_W_4
    replace k1 := keep k1 s_W_4
    have t_W_4 := chain t_x1 s_W_4
    generalize x1.alloc (.cells #[.int .i64 0, .int .i64 0, .int .i64 b, .int .i64 a, .int .i64 0] 25) = W_4 at *
    have fu_k0 := fut_cell k0
    have fu_k1 := fut_cell k1
    have fu_h0 := fut_cell h0
    have fu_h1 := fut_cell h1
    have fu_h2 := fut_cell h2
    have fu_h3 := fut_cell h3
    have fu_h4 := fut_cell h4
    refine wp_region_fut (by kernel_rfl) (by kernel_rfl) ?_
    repeat (go_big_quiet_step (first
      | fail))
    refine wpQuiet_nil ?_
    rintro x2 ⟨⟨y_x2, s_x2⟩, hw_x2⟩
    have hw_x2 : x2 = y_x2 := hw_x2
    subst hw_x2
    clear fu_k0 fu_k1 fu_h0 fu_h1 fu_h2 fu_h3 fu_h4
    have t_x2 := chain t_W_4 s_x2
    replace hf := fkeep2 hf (lt_of h0) s_x2
    replace k0 := keep k0 s_x2
    replace k1 := keep k1 s_x2
    replace h0 := keep h0 s_x2
    replace h1 := keep h1 s_x2
    replace h2 := keep h2 s_x2
    replace h3 := keep h3 s_x2
    replace h4 := keep h4 s_x2
    go_wp2_with fail
    refine (showV HA.out HE.out _).mono ?_
    rintro e x3 ⟨rfl, g_x3⟩
    have s_x3 : Below x2.heap.size x2 x3 := chain (by go_grown) g_x3
    have t_x3 := chain t_x2 s_x3
    replace hf := fkeep2 hf (lt_of h0) s_x3
    replace k0 := keep k0 s_x3
    have z_k0_x3 := lt_of k0
    replace k1 := keep k1 s_x3
    replace h0 := keep h0 s_x3
    have z_h0_x3 := lt_of h0
    replace h1 := keep h1 s_x3
    replace h2 := keep h2 s_x3
    replace h3 := keep h3 s_x3
    replace h4 := keep h4 s_x3
    clear g_x3 s_x3 z_k_x1 t_x2
    go_wp2_with fail
    go_ret
    exact ⟨rfl, by first | exact t_x3 | go_grown⟩
end Go.Proofs.Ytkmkfjaokjcelaa
