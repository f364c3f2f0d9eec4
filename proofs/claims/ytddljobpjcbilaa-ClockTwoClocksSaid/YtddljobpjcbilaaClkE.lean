/- Laws of clock: order, rate, two clocks, fast and slow, offset. -/
import Derived.Test.YtddljobpjcbilaaClkD
namespace Go.Proofs.Ytddljobpjcbilaa
open Go.ChangeShapes Go.WideShapes Go.ChangeAt Go.RowKit
theorem twoB_t {o d t u : Int} (h : twoB o d t u = true) : okc o d = true ∧ 0 ≤ t ∧ t ≤ 10000000000000 ∧ 0 ≤ u ∧ u ≤ 10000000000000 ∧ t ≤ u ∧ shV o d t = sh o d t ∧ shV o d u = sh o d u := by
  simp only [twoB, Bool.and_eq_true, decide_eq_true_eq] at h
  obtain ⟨⟨h1, h2⟩, h3⟩ := h
  have a := shOk_t h1
  have b := shOk_t h2
  exact ⟨a.1, a.2.1, a.2.2, b.2.1, b.2.2, h3, by simp [shV, h1], by simp [shV, h2]⟩
theorem sh_ok {o d t : Int} (h : okc o d = true) (h0 : 0 ≤ t) (h1 : t ≤ 10000000000000) : shV o d t = sh o d t ∧ shE o d t = 0 := by
  have : shOk o d t = true := by simp [shOk, h, h0, h1]
  simp [shV, shE, this]
theorem parts50 (x : Int) (h0 : 0 ≤ x) (h1 : x ≤ 10000000000000) (w : World) : Calls Try.prog 26 #[.int .i64 x, .int .i64 50] w fun e w' => e = .returned (.int .i64 ((x * 50 + 999999) / 1000000)) ∧ w' = w := by
  have t_w := Below.refl w.heap.size w
  go_enter Try.func26, Try.ntmps26
  go_wp2_with fail
  go_ret
  exact ⟨rfl, rfl⟩
theorem parts100 (x : Int) (h0 : 0 ≤ x) (h1 : x ≤ 10000000000000) (w : World) : Calls Try.prog 26 #[.int .i64 x, .int .i64 100] w fun e w' => e = .returned (.int .i64 ((x * 100 + 999999) / 1000000)) ∧ w' = w := by
  have t_w := Below.refl w.heap.size w
  go_enter Try.func26, Try.ntmps26
  go_wp2_with fail
  go_ret
  exact ⟨rfl, rfl⟩
theorem orderW (o d t u : Int) (w : World) : Calls Try.prog 4 #[.agg #[.int .i64 o, .int .i64 d], .int .i64 t, .int .i64 u] w fun e w' => e = .returned (.bool true) ∧ Below w.heap.size w w' := by
  rcases hk : twoB o d t u with _ | _
  · obtain ⟨a, ha⟩ : ∃ x, shV o d t = x := ⟨_, rfl⟩
    obtain ⟨b, hb⟩ : ∃ x, shV o d u = x := ⟨_, rfl⟩
    have HA := Lib.hid ha
    have HB := Lib.hid hb
    have HK := Lib.hid hk
    clear ha hb hk
    have t_w := Below.refl w.heap.size w
    go_enter Try.func4, Try.ntmps4
    go_wp2_with fail
    refine (head _).mono ?_
    rintro e x1 ⟨rfl, g_x1⟩
    have s_x1 : Below w.heap.size w x1 := chain (by go_grown) g_x1
    have t_x1 := chain t_w s_x1
    have k0 : x1.cell? ⟨w.heap.size, 0, none⟩ = some (.int .i64 o) := ((bcell g_x1).1 _ _ (by simp; try omega)).trans (by simp [go_sem])
    have k1 : x1.cell? ⟨w.heap.size, 1, none⟩ = some (.int .i64 d) := ((bcell g_x1).1 _ _ (by simp; try omega)).trans (by simp [go_sem])
    have z_k_x1 := lt_of k0
    clear g_x1 s_x1
    go_wp2_with fail
    refine (two HA.out HB.out HK.out _).mono ?_
    rintro e x2 ⟨rfl, g_x2⟩
    have s_x2 : Below x1.heap.size x1 x2 := chain (by go_grown) g_x2
    have t_x2 := chain t_x1 s_x2
    replace k0 := keep k0 s_x2
    have z_k0_x2 := lt_of k0
    replace k1 := keep k1 s_x2
    have z_k1_x2 := lt_of k1
    clear g_x2 s_x2
    go_wp2_with fail
    go_ret
    exact ⟨rfl, by first | exact t_x2 | go_grown⟩
  · obtain ⟨hok, t0, t1, u0, u1, htu, ea, eb⟩ := twoB_t hk
    have hab := sh_mono hok htu
    have hb1 := sh_b hok t0 (by omega)
    by_cases hm : t = 10000000000000
    · subst hm
      generalize sh o d 10000000000000 = a at *
      generalize sh o d u = b at *
      have HA := Lib.hid ea; have HB := Lib.hid eb; have HK := Lib.hid hk
      clear ea eb hk hok
      have t_w := Below.refl w.heap.size w
      go_enter Try.func4, Try.ntmps4
      go_wp2_with fail
      refine (head _).mono ?_
      rintro e x1 ⟨rfl, g_x1⟩
      have s_x1 : Below w.heap.size w x1 := chain (by go_grown) g_x1
      have t_x1 := chain t_w s_x1
      have k0 : x1.cell? ⟨w.heap.size, 0, none⟩ = some (.int .i64 o) := ((bcell g_x1).1 _ _ (by simp; try omega)).trans (by simp [go_sem])
      have k1 : x1.cell? ⟨w.heap.size, 1, none⟩ = some (.int .i64 d) := ((bcell g_x1).1 _ _ (by simp; try omega)).trans (by simp [go_sem])
      have z_k_x1 := lt_of k0
      clear g_x1 s_x1
      go_wp2_with fail
      refine (two HA.out HB.out HK.out _).mono ?_
      rintro e x2 ⟨rfl, g_x2⟩
      have s_x2 : Below x1.heap.size x1 x2 := chain (by go_grown) g_x2
      have t_x2 := chain t_x1 s_x2
      replace k0 := keep k0 s_x2
      have z_k0_x2 := lt_of k0
      replace k1 := keep k1 s_x2
      have z_k1_x2 := lt_of k1
      clear g_x2 s_x2
      go_wp2_with fail
      go_ret
      exact ⟨rfl, by first | exact t_x2 | go_grown⟩
    · have hne : (t == 10000000000000) = false := by simp [hm]
      have hs := sh_ok (t := t + 1) hok (by omega) (by omega)
      have hm1 := sh_mono hok (show t ≤ t + 1 by omega)
      have hm2 : sh o d (t + 1) ≤ sh o d t + 2 := by have := sh_step hok (show t ≤ t + 1 by omega); unfold sh; omega
      generalize sh o d (t + 1) = n at *
      generalize sh o d t = a at *
      generalize sh o d u = b at *
      have HA := Lib.hid ea; have HB := Lib.hid eb; have HK := Lib.hid hk; have HN := Lib.hid hs.1; have HE := Lib.hid hs.2
      clear ea eb hk hok hs
      have t_w := Below.refl w.heap.size w
      go_enter Try.func4, Try.ntmps4
      go_wp2_with fail
      refine (head _).mono ?_
      rintro e x1 ⟨rfl, g_x1⟩
      have s_x1 : Below w.heap.size w x1 := chain (by go_grown) g_x1
      have t_x1 := chain t_w s_x1
      have k0 : x1.cell? ⟨w.heap.size, 0, none⟩ = some (.int .i64 o) := ((bcell g_x1).1 _ _ (by simp; try omega)).trans (by simp [go_sem])
      have k1 : x1.cell? ⟨w.heap.size, 1, none⟩ = some (.int .i64 d) := ((bcell g_x1).1 _ _ (by simp; try omega)).trans (by simp [go_sem])
      have z_k_x1 := lt_of k0
      clear g_x1 s_x1
      go_wp2_with fail
      refine (two HA.out HB.out HK.out _).mono ?_
      rintro e x2 ⟨rfl, g_x2⟩
      have s_x2 : Below x1.heap.size x1 x2 := chain (by go_grown) g_x2
      have t_x2 := chain t_x1 s_x2
      replace k0 := keep k0 s_x2
      have z_k0_x2 := lt_of k0
      replace k1 := keep k1 s_x2
      have z_k1_x2 := lt_of k1
      clear g_x2 s_x2
      go_wp2_with fail
      refine (showV HN.out HE.out _).mono ?_
      rintro e x3 ⟨rfl, g_x3⟩
      have s_x3 : Below x2.heap.size x2 x3 := chain (by go_grown) g_x3
      have t_x3 := chain t_x2 s_x3
      replace k0 := keep k0 s_x3
      have z_k0_x3 := lt_of k0
      replace k1 := keep k1 s_x3
      have z_k1_x3 := lt_of k1
      clear g_x3 s_x3
      go_wp2_with fail
      go_ret
      exact ⟨rfl, by first | exact t_x3 | go_grown⟩
theorem rateW (o d t u : Int) (w : World) : Calls Try.prog 5 #[.agg #[.int .i64 o, .int .i64 d], .int .i64 t, .int .i64 u] w fun e w' => e = .returned (.bool true) ∧ Below w.heap.size w w' := by
  rcases hk : twoB o d t u with _ | _
  · obtain ⟨a, ha⟩ : ∃ x, shV o d t = x := ⟨_, rfl⟩
    obtain ⟨b, hb⟩ : ∃ x, shV o d u = x := ⟨_, rfl⟩
    have HA := Lib.hid ha
    have HB := Lib.hid hb
    have HK := Lib.hid hk
    clear ha hb hk
    have t_w := Below.refl w.heap.size w
    go_enter Try.func5, Try.ntmps5
    go_wp2_with fail
    refine (head _).mono ?_
    rintro e x1 ⟨rfl, g_x1⟩
    have s_x1 : Below w.heap.size w x1 := chain (by go_grown) g_x1
    have t_x1 := chain t_w s_x1
    have k0 : x1.cell? ⟨w.heap.size, 0, none⟩ = some (.int .i64 o) := ((bcell g_x1).1 _ _ (by simp; try omega)).trans (by simp [go_sem])
    have k1 : x1.cell? ⟨w.heap.size, 1, none⟩ = some (.int .i64 d) := ((bcell g_x1).1 _ _ (by simp; try omega)).trans (by simp [go_sem])
    have z_k_x1 := lt_of k0
    clear g_x1 s_x1
    go_wp2_with fail
    refine (two HA.out HB.out HK.out _).mono ?_
    rintro e x2 ⟨rfl, g_x2⟩
    have s_x2 : Below x1.heap.size x1 x2 := chain (by go_grown) g_x2
    have t_x2 := chain t_x1 s_x2
    replace k0 := keep k0 s_x2
    have z_k0_x2 := lt_of k0
    replace k1 := keep k1 s_x2
    have z_k1_x2 := lt_of k1
    clear g_x2 s_x2
    go_wp2_with fail
    go_ret
    exact ⟨rfl, by first | exact t_x2 | go_grown⟩
  · obtain ⟨hok, t0, t1, u0, u1, htu, ea, eb⟩ := twoB_t hk
    have hb1 := sh_b hok t0 (by omega)
    have hb2 := sh_b hok u0 (by omega)
    have hp : u - t - (((u - t) * 50 + 999999) / 1000000 + 1) ≤ sh o d u - sh o d t ∧ sh o d u - sh o d t ≤ u - t + (((u - t) * 50 + 999999) / 1000000 + 1) := by
      have := sh_step hok htu; unfold sh; omega
    generalize sh o d t = a at *
    generalize sh o d u = b at *
    obtain ⟨hp1, hp2⟩ := hp
    have HA := Lib.hid ea; have HB := Lib.hid eb; have HK := Lib.hid hk
    clear ea eb hk hok
    have t_w := Below.refl w.heap.size w
    go_enter Try.func5, Try.ntmps5
    go_wp2_with fail
    refine (head _).mono ?_
    rintro e x1 ⟨rfl, g_x1⟩
    have s_x1 : Below w.heap.size w x1 := chain (by go_grown) g_x1
    have t_x1 := chain t_w s_x1
    have k0 : x1.cell? ⟨w.heap.size, 0, none⟩ = some (.int .i64 o) := ((bcell g_x1).1 _ _ (by simp; try omega)).trans (by simp [go_sem])
    have k1 : x1.cell? ⟨w.heap.size, 1, none⟩ = some (.int .i64 d) := ((bcell g_x1).1 _ _ (by simp; try omega)).trans (by simp [go_sem])
    have z_k_x1 := lt_of k0
    clear g_x1 s_x1
    go_wp2_with fail
    refine (two HA.out HB.out HK.out _).mono ?_
    rintro e x2 ⟨rfl, g_x2⟩
    have s_x2 : Below x1.heap.size x1 x2 := chain (by go_grown) g_x2
    have t_x2 := chain t_x1 s_x2
    replace k0 := keep k0 s_x2
    have z_k0_x2 := lt_of k0
    replace k1 := keep k1 s_x2
    have z_k1_x2 := lt_of k1
    clear g_x2 s_x2
    go_wp2_with fail
    refine (parts50 (u - t) (by omega) (by omega) _).mono ?_
    rintro e w_28 ⟨rfl, hw⟩; obtain rfl := hw.symm
    clear hw
    go_wp2_with fail
    go_ret
    exact ⟨rfl, by first | exact t_x2 | go_grown⟩
theorem twoW (o d o2 d2 t u : Int) (w : World) : Calls Try.prog 8 #[.agg #[.int .i64 o, .int .i64 d], .agg #[.int .i64 o2, .int .i64 d2], .int .i64 t, .int .i64 u] w fun e w' => e = .returned (.bool true) ∧ Below w.heap.size w w' := by
  rcases hk : twoB o d t u with _ | _
  · obtain ⟨a, ha⟩ : ∃ x, shV o d t = x := ⟨_, rfl⟩
    obtain ⟨b, hb⟩ : ∃ x, shV o d u = x := ⟨_, rfl⟩
    obtain ⟨x, hx⟩ : ∃ x, shV o2 d2 t = x := ⟨_, rfl⟩
    obtain ⟨y, hy⟩ : ∃ x, shV o2 d2 u = x := ⟨_, rfl⟩
    obtain ⟨z, hz⟩ : ∃ x, twoB o2 d2 t u = x := ⟨_, rfl⟩
    have HA := Lib.hid ha; have HB := Lib.hid hb; have HX := Lib.hid hx; have HY := Lib.hid hy; have HZ := Lib.hid hz; have HK := Lib.hid hk
    clear ha hb hx hy hz hk
    have t_w := Below.refl w.heap.size w
    go_enter Try.func8, Try.ntmps8
    go_wp2_with fail
    refine (head _).mono ?_
    rintro e x1 ⟨rfl, g_x1⟩
    have s_x1 : Below w.heap.size w x1 := chain (by go_grown) g_x1
    have t_x1 := chain t_w s_x1
    have k0 : x1.cell? ⟨w.heap.size, 0, none⟩ = some (.int .i64 o) := ((bcell g_x1).1 _ _ (by simp; try omega)).trans (by simp [go_sem])
    have k1 : x1.cell? ⟨w.heap.size, 1, none⟩ = some (.int .i64 d) := ((bcell g_x1).1 _ _ (by simp; try omega)).trans (by simp [go_sem])
    have z_k_x1 := lt_of k0
    have m0 : x1.cell? ⟨w.heap.size + 1, 0, none⟩ = some (.int .i64 o2) := ((bcell g_x1).1 _ _ (by simp; try omega)).trans (by simp [go_sem])
    have m1 : x1.cell? ⟨w.heap.size + 1, 1, none⟩ = some (.int .i64 d2) := ((bcell g_x1).1 _ _ (by simp; try omega)).trans (by simp [go_sem])
    have z_m_x1 := lt_of m0
    clear g_x1 s_x1
    go_wp2_with fail
    refine (two HA.out HB.out HK.out _).mono ?_
    rintro e x2 ⟨rfl, g_x2⟩
    have s_x2 : Below x1.heap.size x1 x2 := chain (by go_grown) g_x2
    have t_x2 := chain t_x1 s_x2
    replace k0 := keep k0 s_x2
    have z_k0_x2 := lt_of k0
    replace k1 := keep k1 s_x2
    have z_k1_x2 := lt_of k1
    replace m0 := keep m0 s_x2
    have z_m0_x2 := lt_of m0
    replace m1 := keep m1 s_x2
    have z_m1_x2 := lt_of m1
    clear g_x2 s_x2
    go_wp2_with fail
    refine (two HX.out HY.out HZ.out _).mono ?_
    rintro e x3 ⟨rfl, g_x3⟩
    have s_x3 : Below x2.heap.size x2 x3 := chain (by go_grown) g_x3
    have t_x3 := chain t_x2 s_x3
    replace k0 := keep k0 s_x3
    have z_k0_x3 := lt_of k0
    replace k1 := keep k1 s_x3
    have z_k1_x3 := lt_of k1
    replace m0 := keep m0 s_x3
    have z_m0_x3 := lt_of m0
    replace m1 := keep m1 s_x3
    have z_m1_x3 := lt_of m1
    clear g_x3 s_x3
    go_wp2_with fail
    go_ret
    exact ⟨rfl, by first | exact t_x3 | go_grown⟩
  · rcases hk2 : twoB o2 d2 t u with _ | _
    · obtain ⟨a, ha⟩ : ∃ x, shV o d t = x := ⟨_, rfl⟩
      obtain ⟨b, hb⟩ : ∃ x, shV o d u = x := ⟨_, rfl⟩
      obtain ⟨x, hx⟩ : ∃ x, shV o2 d2 t = x := ⟨_, rfl⟩
      obtain ⟨y, hy⟩ : ∃ x, shV o2 d2 u = x := ⟨_, rfl⟩
      have HA := Lib.hid ha; have HB := Lib.hid hb; have HX := Lib.hid hx; have HY := Lib.hid hy; have HZ := Lib.hid hk2; have HK := Lib.hid hk
      clear ha hb hx hy hk2 hk
      have t_w := Below.refl w.heap.size w
      go_enter Try.func8, Try.ntmps8
      go_wp2_with fail
      refine (head _).mono ?_
      rintro e x1 ⟨rfl, g_x1⟩
      have s_x1 : Below w.heap.size w x1 := chain (by go_grown) g_x1
      have t_x1 := chain t_w s_x1
      have k0 : x1.cell? ⟨w.heap.size, 0, none⟩ = some (.int .i64 o) := ((bcell g_x1).1 _ _ (by simp; try omega)).trans (by simp [go_sem])
      have k1 : x1.cell? ⟨w.heap.size, 1, none⟩ = some (.int .i64 d) := ((bcell g_x1).1 _ _ (by simp; try omega)).trans (by simp [go_sem])
      have z_k_x1 := lt_of k0
      have m0 : x1.cell? ⟨w.heap.size + 1, 0, none⟩ = some (.int .i64 o2) := ((bcell g_x1).1 _ _ (by simp; try omega)).trans (by simp [go_sem])
      have m1 : x1.cell? ⟨w.heap.size + 1, 1, none⟩ = some (.int .i64 d2) := ((bcell g_x1).1 _ _ (by simp; try omega)).trans (by simp [go_sem])
      have z_m_x1 := lt_of m0
      clear g_x1 s_x1
      go_wp2_with fail
      refine (two HA.out HB.out HK.out _).mono ?_
      rintro e x2 ⟨rfl, g_x2⟩
      have s_x2 : Below x1.heap.size x1 x2 := chain (by go_grown) g_x2
      have t_x2 := chain t_x1 s_x2
      replace k0 := keep k0 s_x2
      have z_k0_x2 := lt_of k0
      replace k1 := keep k1 s_x2
      have z_k1_x2 := lt_of k1
      replace m0 := keep m0 s_x2
      have z_m0_x2 := lt_of m0
      replace m1 := keep m1 s_x2
      have z_m1_x2 := lt_of m1
      clear g_x2 s_x2
      go_wp2_with fail
      refine (two HX.out HY.out HZ.out _).mono ?_
      rintro e x3 ⟨rfl, g_x3⟩
      have s_x3 : Below x2.heap.size x2 x3 := chain (by go_grown) g_x3
      have t_x3 := chain t_x2 s_x3
      replace k0 := keep k0 s_x3
      have z_k0_x3 := lt_of k0
      replace k1 := keep k1 s_x3
      have z_k1_x3 := lt_of k1
      replace m0 := keep m0 s_x3
      have z_m0_x3 := lt_of m0
      replace m1 := keep m1 s_x3
      have z_m1_x3 := lt_of m1
      clear g_x3 s_x3
      go_wp2_with fail
      go_ret
      exact ⟨rfl, by first | exact t_x3 | go_grown⟩
    · obtain ⟨hok, t0, t1, u0, u1, htu, ea, eb⟩ := twoB_t hk
      obtain ⟨hok2, _, _, _, _, _, ex, ey⟩ := twoB_t hk2
      have hb1 := sh_b hok t0 (by omega)
      have hb2 := sh_b hok u0 (by omega)
      have hb3 := sh_b hok2 t0 (by omega)
      have hb4 := sh_b hok2 u0 (by omega)
      have hp : sh o d u - sh o2 d2 u - (sh o d t - sh o2 d2 t) ≤ ((u - t) * 100 + 999999) / 1000000 + 2 ∧ -(((u - t) * 100 + 999999) / 1000000 + 2) ≤ sh o d u - sh o2 d2 u - (sh o d t - sh o2 d2 t) := by
        have := sh_step hok htu; have := sh_step hok2 htu; unfold sh; omega
      generalize sh o d t = a at *
      generalize sh o d u = b at *
      generalize sh o2 d2 t = x at *
      generalize sh o2 d2 u = y at *
      obtain ⟨hp1, hp2⟩ := hp
      have HA := Lib.hid ea; have HB := Lib.hid eb; have HK := Lib.hid hk
      have HX := Lib.hid ex; have HY := Lib.hid ey; have HZ := Lib.hid hk2
      clear ea eb hk hok ex ey hk2 hok2
      have t_w := Below.refl w.heap.size w
      go_enter Try.func8, Try.ntmps8
      go_wp2_with fail
      refine (head _).mono ?_
      rintro e x1 ⟨rfl, g_x1⟩
      have s_x1 : Below w.heap.size w x1 := chain (by go_grown) g_x1
      have t_x1 := chain t_w s_x1
      have k0 : x1.cell? ⟨w.heap.size, 0, none⟩ = some (.int .i64 o) := ((bcell g_x1).1 _ _ (by simp; try omega)).trans (by simp [go_sem])
      have k1 : x1.cell? ⟨w.heap.size, 1, none⟩ = some (.int .i64 d) := ((bcell g_x1).1 _ _ (by simp; try omega)).trans (by simp [go_sem])
      have z_k_x1 := lt_of k0
      have m0 : x1.cell? ⟨w.heap.size + 1, 0, none⟩ = some (.int .i64 o2) := ((bcell g_x1).1 _ _ (by simp; try omega)).trans (by simp [go_sem])
      have m1 : x1.cell? ⟨w.heap.size + 1, 1, none⟩ = some (.int .i64 d2) := ((bcell g_x1).1 _ _ (by simp; try omega)).trans (by simp [go_sem])
      have z_m_x1 := lt_of m0
      clear g_x1 s_x1
      go_wp2_with fail
      refine (two HA.out HB.out HK.out _).mono ?_
      rintro e x2 ⟨rfl, g_x2⟩
      have s_x2 : Below x1.heap.size x1 x2 := chain (by go_grown) g_x2
      have t_x2 := chain t_x1 s_x2
      replace k0 := keep k0 s_x2
      have z_k0_x2 := lt_of k0
      replace k1 := keep k1 s_x2
      have z_k1_x2 := lt_of k1
      replace m0 := keep m0 s_x2
      have z_m0_x2 := lt_of m0
      replace m1 := keep m1 s_x2
      have z_m1_x2 := lt_of m1
      clear g_x2 s_x2
      go_wp2_with fail
      refine (two HX.out HY.out HZ.out _).mono ?_
      rintro e x3 ⟨rfl, g_x3⟩
      have s_x3 : Below x2.heap.size x2 x3 := chain (by go_grown) g_x3
      have t_x3 := chain t_x2 s_x3
      replace k0 := keep k0 s_x3
      have z_k0_x3 := lt_of k0
      replace k1 := keep k1 s_x3
      have z_k1_x3 := lt_of k1
      replace m0 := keep m0 s_x3
      have z_m0_x3 := lt_of m0
      replace m1 := keep m1 s_x3
      have z_m1_x3 := lt_of m1
      clear g_x3 s_x3
      go_wp2_with fail
      refine (parts100 (u - t) (by omega) (by omega) _).mono ?_
      rintro e w_50 ⟨rfl, hw⟩; obtain rfl := hw.symm
      clear hw
      go_wp2_with fail
      go_ret
      exact ⟨rfl, by first | exact t_x3 | go_grown⟩
set_option maxHeartbeats 1000000 in
theorem matchesW (o d t s : Int) (w : World) : Calls Try.prog 3 #[.agg #[.int .i64 o, .int .i64 d], .int .i64 t, .int .i64 s] w fun e w' => e = .returned (.bool true) ∧ Below w.heap.size w w' := by
  obtain ⟨a, ha⟩ : ∃ x, shV o d t = x := ⟨_, rfl⟩
  obtain ⟨e1, he⟩ : ∃ x, shE o d t = x := ⟨_, rfl⟩
  obtain ⟨lo, hi, er, hw⟩ := when_exists o d s
  obtain ⟨v, hv⟩ : ∃ x, okc o d = x := ⟨_, rfl⟩
  have HA := Lib.hid ha; have HE := Lib.hid he; have HW := Lib.hid hw; have HV := Lib.hid hv
  clear ha he hw hv
  have t_w := Below.refl w.heap.size w
  go_enter Try.func3, Try.ntmps3
  go_wp2_with fail
  refine (head _).mono ?_
  rintro e x1 ⟨rfl, g_x1⟩
  have s_x1 : Below w.heap.size w x1 := chain (by go_grown) g_x1
  have t_x1 := chain t_w s_x1
  have k0 : x1.cell? ⟨w.heap.size, 0, none⟩ = some (.int .i64 o) := ((bcell g_x1).1 _ _ (by simp; try omega)).trans (by simp [go_sem])
  have k1 : x1.cell? ⟨w.heap.size, 1, none⟩ = some (.int .i64 d) := ((bcell g_x1).1 _ _ (by simp; try omega)).trans (by simp [go_sem])
  have z_k_x1 := lt_of k0
  clear g_x1 s_x1
  go_wp2_with fail
  refine (showV HA.out HE.out _).mono ?_
  rintro e x2 ⟨rfl, g_x2⟩
  have s_x2 : Below x1.heap.size x1 x2 := chain (by go_grown) g_x2
  have t_x2 := chain t_x1 s_x2
  replace k0 := keep k0 s_x2
  have z_k0_x2 := lt_of k0
  replace k1 := keep k1 s_x2
  have z_k1_x2 := lt_of k1
  clear g_x2 s_x2
  go_wp2_with fail
  refine (rshowV HA.out HE.out _).mono ?_
  rintro e x3 ⟨rfl, g_x3⟩
  have s_x3 : Below x2.heap.size x2 x3 := chain (by go_grown) g_x3
  have t_x3 := chain t_x2 s_x3
  replace k0 := keep k0 s_x3
  have z_k0_x3 := lt_of k0
  replace k1 := keep k1 s_x3
  have z_k1_x3 := lt_of k1
  clear g_x3 s_x3
  go_wp2_with fail
  refine (whenV HW.out _).mono ?_
  rintro e x4 ⟨rfl, g_x4⟩
  have s_x4 : Below x3.heap.size x3 x4 := chain (by go_grown) g_x4
  have t_x4 := chain t_x3 s_x4
  replace k0 := keep k0 s_x4
  have z_k0_x4 := lt_of k0
  replace k1 := keep k1 s_x4
  have z_k1_x4 := lt_of k1
  clear g_x4 s_x4
  go_wp2_with fail
  refine (rwhenV HW.out _).mono ?_
  rintro e x5 ⟨rfl, g_x5⟩
  have s_x5 : Below x4.heap.size x4 x5 := chain (by go_grown) g_x5
  have t_x5 := chain t_x4 s_x5
  replace k0 := keep k0 s_x5
  have z_k0_x5 := lt_of k0
  replace k1 := keep k1 s_x5
  have z_k1_x5 := lt_of k1
  have p0 : x5.cell? ⟨x4.heap.size, 0, none⟩ = some (.int .i64 lo) := ((bcell g_x5).1 _ _ (by simp; try omega)).trans (by simp [go_sem])
  have p1 : x5.cell? ⟨x4.heap.size, 1, none⟩ = some (.int .i64 hi) := ((bcell g_x5).1 _ _ (by simp; try omega)).trans (by simp [go_sem])
  have z_p_x5 := lt_of p0
  clear g_x5 s_x5
  go_wp2_with fail
  have s_W_1 : Below x5.heap.size x5 (x5.alloc (.cells #[.int .i64 lo, .int .i64 hi] 29)) := Below.alloc (Below.refl _ _) (Nat.le_refl _) _
  have q0 : (x5.alloc (.cells #[.int .i64 lo, .int .i64 hi] 29)).cell? ⟨x5.heap.size, 0, none⟩ = some (.int .i64 lo) := by simp [go_sem]
  have q1 : (x5.alloc (.cells #[.int .i64 lo, .int .i64 hi] 29)).cell? ⟨x5.heap.size, 1, none⟩ = some (.int .i64 hi) := by simp [go_sem]
  replace k0 := keep k0 s_W_1
  replace k1 := keep k1 s_W_1
  replace p0 := keep p0 s_W_1
  replace p1 := keep p1 s_W_1
  have t_W_1 := chain t_x5 s_W_1
  generalize x5.alloc (.cells #[.int .i64 lo, .int .i64 hi] 29) = W_1 at *
  have fut_0_61 := fut_cell k0
  have fut_1_61 := fut_cell k1
  have fut_2_61 := fut_cell p0
  have fut_3_61 := fut_cell p1
  have fut_4_61 := fut_cell q0
  have fut_5_61 := fut_cell q1
  refine wp_region_fut (by kernel_rfl) (by kernel_rfl) ?_
  repeat (go_big_quiet_step (first
    | (go_at_call 23; with_reducible exact fut_call (cvalid HV.out _))
    | (go_at_call 24; with_reducible exact fut_call (rcvalid_b HV.out _))))
  refine wpQuiet_nil ?_
  rintro _ ⟨⟨x6, s_x6⟩, rfl⟩
  clear fut_0_61 fut_1_61 fut_2_61 fut_3_61 fut_4_61 fut_5_61
  have t_x6 := chain t_W_1 s_x6
  replace k0 := keep k0 s_x6
  replace k1 := keep k1 s_x6
  replace p0 := keep p0 s_x6
  replace p1 := keep p1 s_x6
  replace q0 := keep q0 s_x6
  replace q1 := keep q1 s_x6
  go_wp2_with fail
  go_ret
  exact ⟨rfl, by first | exact t_x6 | go_grown⟩
end Go.Proofs.Ytddljobpjcbilaa
