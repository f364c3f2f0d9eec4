/- Law of bound: growing. -/
import Derived.Test.YtkmkfjaokjcelaaBndJ
namespace Go.Proofs.Ytkmkfjaokjcelaa
open Go.ChangeShapes Go.WideShapes Go.ChangeAt Go.RowKit
theorem sh_ok {o d t : Int} (h : okc o d = true) (h0 : 0 ≤ t) (h1 : t ≤ 10000000000000) : shV o d t = sh o d t ∧ shE o d t = 0 := by
  have : shOk o d t = true := by simp [shOk, h, h0, h1]
  simp [shV, shE, this]
theorem grows {o d x y le mo : Int} (h : okc o d = true) (x0 : 0 ≤ x) (hxy : x ≤ y) (y1 : y ≤ 10000000000000) (l0 : 0 ≤ le) (l1 : le ≤ 4294967295) (m0 : 0 ≤ mo) (m1 : mo ≤ 4294967295) :
    sh o d x ≤ sh o d y ∧ x - sh o d x - le - moreN (sh o d y - sh o d x) ≤ y - sh o d y ∧ y - sh o d y ≤ x - sh o d x + mo + moreN (sh o d y - sh o d x) ∧
    -20000000000 ≤ x - sh o d x - le - moreN (sh o d y - sh o d x) ∧ x - sh o d x + mo + moreN (sh o d y - sh o d x) ≤ 20000000000 := by
  have hk := okc_t h
  have h1 := sh_step h hxy
  have h2 := sh_mono h hxy
  have h3 := mulb hk.2.2.1 hk.2.2.2 x0
  refine ⟨h2, ?_⟩
  unfold sh moreN
  unfold sh at h2
  omega
theorem tmod_b (n : Int) : 0 ≤ tmod n ∧ tmod n ≤ 10000000000000 := by unfold tmod; omega
set_option maxHeartbeats 2000000 in
theorem growing0 (o d t u le mo x y : Int) (t0 : 0 ≤ t) (t1 : t ≤ 18446744073709551615) (u0 : 0 ≤ u) (u1 : u ≤ 18446744073709551615) (l0 : 0 ≤ le) (l1 : le ≤ 4294967295) (m0 : 0 ≤ mo) (m1 : mo ≤ 4294967295)
    (hxy : (tmod t ≤ tmod u ∧ x = tmod t ∧ y = tmod u) ∨ (tmod u < tmod t ∧ x = tmod u ∧ y = tmod t)) (w : World) : Calls Try.prog 4 #[.agg #[.int .i64 o, .int .i64 d], .int .u64 t, .int .u64 u, .int .u32 le, .int .u32 mo] w fun e w' => e = .returned (.bool true) ∧ Below w.heap.size w w' := by
  have b1 := tmod_b t
  have b2 := tmod_b u
  have mn : (if tmod u < tmod t then tmod u else tmod t) = x := by rcases hxy with ⟨h, rfl, rfl⟩ | ⟨h, rfl, rfl⟩ <;> split <;> omega
  have mx : (if tmod t < tmod u then tmod u else tmod t) = y := by rcases hxy with ⟨h, rfl, rfl⟩ | ⟨h, rfl, rfl⟩ <;> split <;> omega
  have x0 : 0 ≤ x := by omega
  have xm : x ≤ 10000000000000 := by omega
  have hle : x ≤ y := by omega
  have ym : y ≤ 10000000000000 := by omega
  obtain ⟨k, hk⟩ : ∃ k, (shOk o d x && okS (x - shV o d x - le) (x - shV o d x + mo) (shV o d x)) = k := ⟨_, rfl⟩
  obtain ⟨A, hA⟩ : ∃ A, shV o d x = A := ⟨_, rfl⟩
  obtain ⟨L, hL⟩ : ∃ L, x - A - le = L := ⟨_, rfl⟩
  obtain ⟨H, hH⟩ : ∃ H, x - A + mo = H := ⟨_, rfl⟩
  rw [hA, hL, hH] at hk
  have ht : TruthIs o d x le mo L H A k := ⟨hA.symm, hL.symm, hH.symm, hk.symm⟩
  have HT := Lib.hid ht
  obtain ⟨B, hB⟩ : ∃ B, shV o d y = B := ⟨_, rfl⟩
  obtain ⟨E, hE⟩ : ∃ E, shE o d y = E := ⟨_, rfl⟩
  have HB := Lib.hid hB
  have HE := Lib.hid hE
  rcases k with _ | _
  · clear hk ht hA hL hH hB hE b1 b2 hxy
    have t_w := Below.refl w.heap.size w
    go_enter Try.func4, Try.ntmps4
    go_wp2_with fail
    refine (bhead _).mono ?_
    rintro e x1 ⟨rfl, g_x1⟩
    have s_x1 : Below w.heap.size w x1 := chain (by go_grown) g_x1
    have t_x1 := chain t_w s_x1
    have k0 : x1.cell? ⟨w.heap.size, 0, none⟩ = some (.int .i64 o) := ((bcell g_x1).1 _ _ (by simp; try omega)).trans (by simp [go_sem])
    have k1 : x1.cell? ⟨w.heap.size, 1, none⟩ = some (.int .i64 d) := ((bcell g_x1).1 _ _ (by simp; try omega)).trans (by simp [go_sem])
    have z_k_x1 := lt_of k0
    clear g_x1 s_x1 t_w
    go_wp2_with fail
    refine (timeV t t0 t1 _).mono ?_
    rintro e w_4 ⟨rfl, hw⟩; obtain rfl := hw.symm
    clear hw
    go_wp2_with fail
    refine (timeV u u0 u1 _).mono ?_
    rintro e w_5 ⟨rfl, hw⟩; obtain rfl := hw.symm
    clear hw
    go_wp2_with fail
    refine (timeV t t0 t1 _).mono ?_
    rintro e w_6 ⟨rfl, hw⟩; obtain rfl := hw.symm
    clear hw
    go_wp2_with fail
    refine (timeV u u0 u1 _).mono ?_
    rintro e w_7 ⟨rfl, hw⟩; obtain rfl := hw.symm
    clear hw
    go_wp2_with fail
    refine (truthV HT.out x0 xm l0 l1 m0 m1 _).mono ?_
    rintro e x2 ⟨rfl, g_x2⟩
    have s_x2 : Below x1.heap.size x1 x2 := chain (by go_grown) g_x2
    have t_x2 := chain t_x1 s_x2
    replace k0 := keep k0 s_x2
    have z_k0_x2 := lt_of k0
    replace k1 := keep k1 s_x2
    clear g_x2 s_x2 z_k_x1 t_x1
    go_wp2_with fail
    refine (showV HB.out HE.out _).mono ?_
    rintro e x3 ⟨rfl, g_x3⟩
    have s_x3 : Below x2.heap.size x2 x3 := chain (by go_grown) g_x3
    have t_x3 := chain t_x2 s_x3
    replace k0 := keep k0 s_x3
    have z_k0_x3 := lt_of k0
    replace k1 := keep k1 s_x3
    have s0 : x3.cell? ⟨x2.heap.size, 0, none⟩ = some (.int .i64 L) := ((bcell g_x3).1 _ _ (by simp; try omega)).trans (by simp [go_sem])
    have s1 : x3.cell? ⟨x2.heap.size, 1, none⟩ = some (.int .i64 H) := ((bcell g_x3).1 _ _ (by simp; try omega)).trans (by simp [go_sem])
    have s2 : x3.cell? ⟨x2.heap.size, 2, none⟩ = some (.int .i64 A) := ((bcell g_x3).1 _ _ (by simp; try omega)).trans (by simp [go_sem])
    have z_s_x3 := lt_of s0
    clear g_x3 s_x3 t_x2
    go_wp2_with fail
    go_ret
    exact ⟨rfl, by first | exact t_x3 | go_grown⟩
  · simp only [Bool.and_eq_true] at hk
    have hso := shOk_t hk.1
    have hy := sh_ok (t := y) hso.1 (by omega) ym
    have hx := sh_ok (t := x) hso.1 x0 xm
    obtain rfl : E = 0 := by rw [← hE]; exact hy.2
    have hg := grows hso.1 x0 hle ym l0 l1 m0 m1
    have hbx := sh_b hso.1 x0 (by omega)
    have hby := sh_b hso.1 (show 0 ≤ y by omega) (by omega)
    rw [hx.1] at hA
    rw [hy.1] at hB
    rw [hA, hB] at hg
    rw [hA] at hbx
    rw [hB] at hby
    obtain ⟨g1, g2, g3, g4, g5⟩ := hg
    rw [hL] at g2 g4
    rw [hH] at g3 g5
    have hok := okS_t hk.2
    have hm := moreN_b (show 0 ≤ B - A by omega) (by omega)
    have hgr : GrowIs L H A B (L - moreN (B - A)) (H + moreN (B - A)) B 0 := by
      refine .inr (.inr ⟨by simp [gOk, inB, hk.2, g1]; omega, ?_, rfl, rfl, rfl, rfl⟩)
      simp only [okS, decide_eq_true_eq]
      omega
    generalize moreN (B - A) = m at *
    have HG := Lib.hid hgr
    obtain ⟨bx1, bx2⟩ := hbx
    obtain ⟨by1, by2⟩ := hby
    obtain ⟨hm1, hm2⟩ := hm
    obtain ⟨o1, o2, o3, o4, o5⟩ := hok
    clear hk ht hA hL hH hB hE b1 b2 hxy hso hy hx hgr
    have t_w := Below.refl w.heap.size w
    go_enter Try.func4, Try.ntmps4
    go_wp2_with fail
    refine (bhead _).mono ?_
    rintro e x1 ⟨rfl, g_x1⟩
    have s_x1 : Below w.heap.size w x1 := chain (by go_grown) g_x1
    have t_x1 := chain t_w s_x1
    have k0 : x1.cell? ⟨w.heap.size, 0, none⟩ = some (.int .i64 o) := ((bcell g_x1).1 _ _ (by simp; try omega)).trans (by simp [go_sem])
    have k1 : x1.cell? ⟨w.heap.size, 1, none⟩ = some (.int .i64 d) := ((bcell g_x1).1 _ _ (by simp; try omega)).trans (by simp [go_sem])
    have z_k_x1 := lt_of k0
    clear g_x1 s_x1 t_w
    go_wp2_with fail
    refine (timeV t t0 t1 _).mono ?_
    rintro e w_15 ⟨rfl, hw⟩; obtain rfl := hw.symm
    clear hw
    go_wp2_with fail
    refine (timeV u u0 u1 _).mono ?_
    rintro e w_16 ⟨rfl, hw⟩; obtain rfl := hw.symm
    clear hw
    go_wp2_with fail
    refine (timeV t t0 t1 _).mono ?_
    rintro e w_17 ⟨rfl, hw⟩; obtain rfl := hw.symm
    clear hw
    go_wp2_with fail
    refine (timeV u u0 u1 _).mono ?_
    rintro e w_18 ⟨rfl, hw⟩; obtain rfl := hw.symm
    clear hw
    go_wp2_with fail
    refine (truthV HT.out x0 xm l0 l1 m0 m1 _).mono ?_
    rintro e x2 ⟨rfl, g_x2⟩
    have s_x2 : Below x1.heap.size x1 x2 := chain (by go_grown) g_x2
    have t_x2 := chain t_x1 s_x2
    replace k0 := keep k0 s_x2
    have z_k0_x2 := lt_of k0
    replace k1 := keep k1 s_x2
    clear g_x2 s_x2 z_k_x1 t_x1
    go_wp2_with fail
    refine (showV HB.out HE.out _).mono ?_
    rintro e x3 ⟨rfl, g_x3⟩
    have s_x3 : Below x2.heap.size x2 x3 := chain (by go_grown) g_x3
    have t_x3 := chain t_x2 s_x3
    replace k0 := keep k0 s_x3
    have z_k0_x3 := lt_of k0
    replace k1 := keep k1 s_x3
    have s0 : x3.cell? ⟨x2.heap.size, 0, none⟩ = some (.int .i64 L) := ((bcell g_x3).1 _ _ (by simp; try omega)).trans (by simp [go_sem])
    have s1 : x3.cell? ⟨x2.heap.size, 1, none⟩ = some (.int .i64 H) := ((bcell g_x3).1 _ _ (by simp; try omega)).trans (by simp [go_sem])
    have s2 : x3.cell? ⟨x2.heap.size, 2, none⟩ = some (.int .i64 A) := ((bcell g_x3).1 _ _ (by simp; try omega)).trans (by simp [go_sem])
    have z_s_x3 := lt_of s0
    clear g_x3 s_x3 t_x2
    go_wp2_with fail
    refine (growV HG.out _).mono ?_
    rintro e x4 ⟨rfl, g_x4⟩
    have s_x4 : Below x3.heap.size x3 x4 := chain (by go_grown) g_x4
    have t_x4 := chain t_x3 s_x4
    replace k0 := keep k0 s_x4
    have z_k0_x4 := lt_of k0
    replace k1 := keep k1 s_x4
    replace s0 := keep s0 s_x4
    have z_s0_x4 := lt_of s0
    replace s1 := keep s1 s_x4
    replace s2 := keep s2 s_x4
    clear g_x4 s_x4 z_k0_x3 z_s_x3 t_x3
    go_wp2_with fail
    refine (rtrueT g2 g3 (by omega) (by omega) (by omega) (by omega) _).mono ?_
    rintro e x5 ⟨rfl, g_x5⟩
    have s_x5 : Below x4.heap.size x4 x5 := chain (by go_grown) g_x5
    have t_x5 := chain t_x4 s_x5
    replace k0 := keep k0 s_x5
    have z_k0_x5 := lt_of k0
    replace k1 := keep k1 s_x5
    replace s0 := keep s0 s_x5
    have z_s0_x5 := lt_of s0
    replace s1 := keep s1 s_x5
    replace s2 := keep s2 s_x5
    have g0 : x5.cell? ⟨x4.heap.size, 0, none⟩ = some (.int .i64 (L - m)) := ((bcell g_x5).1 _ _ (by simp; try omega)).trans (by simp [go_sem])
    have g1 : x5.cell? ⟨x4.heap.size, 1, none⟩ = some (.int .i64 (H + m)) := ((bcell g_x5).1 _ _ (by simp; try omega)).trans (by simp [go_sem])
    have g2 : x5.cell? ⟨x4.heap.size, 2, none⟩ = some (.int .i64 B) := ((bcell g_x5).1 _ _ (by simp; try omega)).trans (by simp [go_sem])
    have z_g_x5 := lt_of g0
    clear g_x5 s_x5 t_x4
    go_wp2_with fail
    go_ret
    exact ⟨rfl, by first | exact t_x5 | go_grown⟩
theorem growingW (o d t u le mo : Int) (t0 : 0 ≤ t) (t1 : t ≤ 18446744073709551615) (u0 : 0 ≤ u) (u1 : u ≤ 18446744073709551615) (l0 : 0 ≤ le) (l1 : le ≤ 4294967295) (m0 : 0 ≤ mo) (m1 : mo ≤ 4294967295) (w : World) :
    Calls Try.prog 4 #[.agg #[.int .i64 o, .int .i64 d], .int .u64 t, .int .u64 u, .int .u32 le, .int .u32 mo] w fun e w' => e = .returned (.bool true) ∧ Below w.heap.size w w' := by
  rcases Int.lt_or_le (tmod u) (tmod t) with h | h
  · exact growing0 o d t u le mo _ _ t0 t1 u0 u1 l0 l1 m0 m1 (.inr ⟨h, rfl, rfl⟩) w
  · exact growing0 o d t u le mo _ _ t0 t1 u0 u1 l0 l1 m0 m1 (.inl ⟨h, rfl, rfl⟩) w
end Go.Proofs.Ytkmkfjaokjcelaa
