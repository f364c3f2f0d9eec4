/- Laws of clock: fast and slow, offset, inverse. -/
import Derived.Test.YtddljobpjcbilaaClkE
namespace Go.Proofs.Ytddljobpjcbilaa
open Go.ChangeShapes Go.WideShapes Go.ChangeAt Go.RowKit
theorem fast_once {o d s lo hi : Int} (_h : okc o d = true) (hd : 0 ≤ d) (hw : WhenIs o d s lo hi 0) : lo = hi := by
  rcases hw with ⟨_, _, _, e⟩ | ⟨_, ⟨e, _⟩ | ⟨_, p1, p2, p3, p4⟩⟩
  · cases e
  · cases e
  · rcases Int.lt_or_le lo hi with hl | hl
    · have a1 := (p4 lo p1 (by omega)).2 ⟨by omega, by omega⟩
      have a2 := (p4 (lo + 1) (by omega) (by omega)).2 ⟨by omega, by omega⟩
      have hst : 0 ≤ d * (lo + 1 - lo) := Int.mul_nonneg hd (by omega)
      have e := Int.mul_sub d (lo + 1) lo
      unfold sh at a1 a2
      omega
    · omega
theorem slow_all {o d s t u lo hi er : Int} (h : okc o d = true) (hd : d ≤ 0) (t0 : 0 ≤ t) (u1 : u ≤ 10000000000000) (htu : t ≤ u) (h1 : sh o d t ≤ s) (h2 : s ≤ sh o d u) (hw : WhenIs o d s lo hi er) : er = 0 := by
  rcases hw with ⟨a, _⟩ | ⟨_, ⟨_, _, _, hn⟩ | ⟨e, _⟩⟩
  · rw [h] at a; cases a
  · exfalso
    obtain ⟨v, v1, v2, v3, v4⟩ := first_exists _ (pmono (s := s) h) 10000000000001 0 (by omega) (by omega)
    have hvu : v ≤ u := by
      rcases Int.lt_or_le u v with hl | hl
      · have := v3 u (by omega) hl; simp at this; omega
      · exact hl
    have hs := v4 v (Int.le_refl _) (by omega)
    simp at hs
    have hne := hn v v1 (by omega)
    by_cases hv0 : v = 0
    · have := sh_mono h (show v ≤ t by omega); omega
    · have hp := v3 (v - 1) (by omega) (by omega)
      simp at hp
      have hst : d * (v - (v - 1)) ≤ 0 := by rw [show v - (v - 1) = 1 by omega]; omega
      have e := Int.mul_sub d v (v - 1)
      have : sh o d v ≤ sh o d (v - 1) + 1 := by unfold sh; omega
      omega
  · exact e
theorem when_err {o d s lo hi er : Int} (h : okc o d = true) (hw : WhenIs o d s lo hi er) : er = 0 ∨ er = 4 := by
  rcases hw with ⟨a, _⟩ | ⟨_, ⟨e, _⟩ | ⟨e, _⟩⟩
  · rw [h] at a; cases a
  · exact .inr e
  · exact .inl e
set_option maxHeartbeats 1000000 in
theorem fastW (o d t u q : Int) (w : World) : Calls Try.prog 7 #[.agg #[.int .i64 o, .int .i64 d], .int .i64 t, .int .i64 u, .int .i64 q] w fun e w' => e = .returned (.bool true) ∧ Below w.heap.size w w' := by
  rcases hk : twoB o d t u with _ | _
  · obtain ⟨a, ha⟩ : ∃ x, shV o d t = x := ⟨_, rfl⟩
    obtain ⟨b, hb⟩ : ∃ x, shV o d u = x := ⟨_, rfl⟩
    have HA := Lib.hid ha
    have HB := Lib.hid hb
    have HK := Lib.hid hk
    clear ha hb hk
    have t_w := Below.refl w.heap.size w
    go_enter Try.func7, Try.ntmps7
    go_wp2_with fail
    refine (head _).mono ?_
    rintro e x1 ⟨rfl, g_x1⟩
    have s_x1 : Below w.heap.size w x1 := chain (by go_grown) g_x1
    have t_x1 := chain t_w s_x1
    have k0 : x1.cell? ⟨w.heap.size, 0, none⟩ = some (.int .i64 o) := ((bcell g_x1).1 _ _ (by simp; try omega)).trans (by simp [go_sem])
    have k1 : x1.cell? ⟨w.heap.size, 1, none⟩ = some (.int .i64 d) := ((bcell g_x1).1 _ _ (by simp; try omega)).trans (by simp [go_sem])
    have z_k_x1 := lt_of k0
    clear g_x1 s_x1
    go_wp2_with fail
    refine (two HA.out HB.out HK.out _).mono ?_
    rintro e x2 ⟨rfl, g_x2⟩
    have s_x2 : Below x1.heap.size x1 x2 := chain (by go_grown) g_x2
    have t_x2 := chain t_x1 s_x2
    replace k0 := keep k0 s_x2
    have z_k0_x2 := lt_of k0
    replace k1 := keep k1 s_x2
    have z_k1_x2 := lt_of k1
    clear g_x2 s_x2
    go_wp2_with fail
    go_ret
    exact ⟨rfl, by first | exact t_x2 | go_grown⟩
  · obtain ⟨hok, t0, t1, u0, u1, htu, ea, eb⟩ := twoB_t hk
    have hab := sh_mono hok htu
    have hb1 := sh_b hok t0 (by omega)
    have hb2 := sh_b hok u0 (by omega)
    by_cases hq : q < 0
    · generalize sh o d t = a at *
      generalize sh o d u = b at *
      have HA := Lib.hid ea; have HB := Lib.hid eb; have HK := Lib.hid hk
      clear ea eb hk hok
      have t_w := Below.refl w.heap.size w
      go_enter Try.func7, Try.ntmps7
      go_wp2_with fail
      refine (head _).mono ?_
      rintro e x1 ⟨rfl, g_x1⟩
      have s_x1 : Below w.heap.size w x1 := chain (by go_grown) g_x1
      have t_x1 := chain t_w s_x1
      have k0 : x1.cell? ⟨w.heap.size, 0, none⟩ = some (.int .i64 o) := ((bcell g_x1).1 _ _ (by simp; try omega)).trans (by simp [go_sem])
      have k1 : x1.cell? ⟨w.heap.size, 1, none⟩ = some (.int .i64 d) := ((bcell g_x1).1 _ _ (by simp; try omega)).trans (by simp [go_sem])
      have z_k_x1 := lt_of k0
      clear g_x1 s_x1
      go_wp2_with fail
      refine (two HA.out HB.out HK.out _).mono ?_
      rintro e x2 ⟨rfl, g_x2⟩
      have s_x2 : Below x1.heap.size x1 x2 := chain (by go_grown) g_x2
      have t_x2 := chain t_x1 s_x2
      replace k0 := keep k0 s_x2
      have z_k0_x2 := lt_of k0
      replace k1 := keep k1 s_x2
      have z_k1_x2 := lt_of k1
      clear g_x2 s_x2
      go_wp2_with fail
      go_ret
      exact ⟨rfl, by first | exact t_x2 | go_grown⟩
    · have hq0 : 0 ≤ q := by omega
      have hm0 : 0 ≤ q % (sh o d u - sh o d t + 1) := Int.emod_nonneg _ (by omega)
      have hm1 : q % (sh o d u - sh o d t + 1) < sh o d u - sh o d t + 1 := Int.emod_lt_of_pos _ (by omega)
      obtain ⟨lo, hi, er, hw⟩ := when_exists o d (sh o d t + q % (sh o d u - sh o d t + 1))
      have hsl : d ≤ 0 → er = 0 := fun hd => slow_all hok hd t0 u1 htu (by omega) (by omega) hw
      have hfa : 0 ≤ d → er = 0 → lo = hi := fun hd he => fast_once hok hd (by rw [← he]; exact hw)
      have her := when_err hok hw
      generalize sh o d t = a at *
      generalize sh o d u = b at *
      have HA := Lib.hid ea; have HB := Lib.hid eb; have HK := Lib.hid hk; have HW := Lib.hid hw
      clear ea eb hk hok hw hq
      have hd1 : 1 ≤ b - a + 1 := by omega
      by_cases hd : 0 < d
      · rcases her with rfl | rfl
        · obtain rfl := hfa (by omega) rfl
          clear hsl hfa
          have t_w := Below.refl w.heap.size w
          go_enter Try.func7, Try.ntmps7
          go_wp2_with fail
          refine (head _).mono ?_
          rintro e x1 ⟨rfl, g_x1⟩
          have s_x1 : Below w.heap.size w x1 := chain (by go_grown) g_x1
          have t_x1 := chain t_w s_x1
          have k0 : x1.cell? ⟨w.heap.size, 0, none⟩ = some (.int .i64 o) := ((bcell g_x1).1 _ _ (by simp; try omega)).trans (by simp [go_sem])
          have k1 : x1.cell? ⟨w.heap.size, 1, none⟩ = some (.int .i64 d) := ((bcell g_x1).1 _ _ (by simp; try omega)).trans (by simp [go_sem])
          have z_k_x1 := lt_of k0
          clear g_x1 s_x1
          go_wp2_with fail
          refine (two HA.out HB.out HK.out _).mono ?_
          rintro e x2 ⟨rfl, g_x2⟩
          have s_x2 : Below x1.heap.size x1 x2 := chain (by go_grown) g_x2
          have t_x2 := chain t_x1 s_x2
          replace k0 := keep k0 s_x2
          have z_k0_x2 := lt_of k0
          replace k1 := keep k1 s_x2
          have z_k1_x2 := lt_of k1
          clear g_x2 s_x2
          go_wp2_with fail
          refine (whenV HW.out _).mono ?_
          rintro e x3 ⟨rfl, g_x3⟩
          have s_x3 : Below x2.heap.size x2 x3 := chain (by go_grown) g_x3
          have t_x3 := chain t_x2 s_x3
          replace k0 := keep k0 s_x3
          have z_k0_x3 := lt_of k0
          replace k1 := keep k1 s_x3
          have z_k1_x3 := lt_of k1
          clear g_x3 s_x3
          go_wp2_with fail
          go_ret
          exact ⟨rfl, by first | exact t_x3 | go_grown⟩
        · clear hsl hfa
          have t_w := Below.refl w.heap.size w
          go_enter Try.func7, Try.ntmps7
          go_wp2_with fail
          refine (head _).mono ?_
          rintro e x1 ⟨rfl, g_x1⟩
          have s_x1 : Below w.heap.size w x1 := chain (by go_grown) g_x1
          have t_x1 := chain t_w s_x1
          have k0 : x1.cell? ⟨w.heap.size, 0, none⟩ = some (.int .i64 o) := ((bcell g_x1).1 _ _ (by simp; try omega)).trans (by simp [go_sem])
          have k1 : x1.cell? ⟨w.heap.size, 1, none⟩ = some (.int .i64 d) := ((bcell g_x1).1 _ _ (by simp; try omega)).trans (by simp [go_sem])
          have z_k_x1 := lt_of k0
          clear g_x1 s_x1
          go_wp2_with fail
          refine (two HA.out HB.out HK.out _).mono ?_
          rintro e x2 ⟨rfl, g_x2⟩
          have s_x2 : Below x1.heap.size x1 x2 := chain (by go_grown) g_x2
          have t_x2 := chain t_x1 s_x2
          replace k0 := keep k0 s_x2
          have z_k0_x2 := lt_of k0
          replace k1 := keep k1 s_x2
          have z_k1_x2 := lt_of k1
          clear g_x2 s_x2
          go_wp2_with fail
          refine (whenV HW.out _).mono ?_
          rintro e x3 ⟨rfl, g_x3⟩
          have s_x3 : Below x2.heap.size x2 x3 := chain (by go_grown) g_x3
          have t_x3 := chain t_x2 s_x3
          replace k0 := keep k0 s_x3
          have z_k0_x3 := lt_of k0
          replace k1 := keep k1 s_x3
          have z_k1_x3 := lt_of k1
          clear g_x3 s_x3
          go_wp2_with fail
          go_ret
          exact ⟨rfl, by first | exact t_x3 | go_grown⟩
      · obtain rfl := hsl (by omega)
        by_cases hd2 : d < 0
        · clear hsl hfa her
          have t_w := Below.refl w.heap.size w
          go_enter Try.func7, Try.ntmps7
          go_wp2_with fail
          refine (head _).mono ?_
          rintro e x1 ⟨rfl, g_x1⟩
          have s_x1 : Below w.heap.size w x1 := chain (by go_grown) g_x1
          have t_x1 := chain t_w s_x1
          have k0 : x1.cell? ⟨w.heap.size, 0, none⟩ = some (.int .i64 o) := ((bcell g_x1).1 _ _ (by simp; try omega)).trans (by simp [go_sem])
          have k1 : x1.cell? ⟨w.heap.size, 1, none⟩ = some (.int .i64 d) := ((bcell g_x1).1 _ _ (by simp; try omega)).trans (by simp [go_sem])
          have z_k_x1 := lt_of k0
          clear g_x1 s_x1
          go_wp2_with fail
          refine (two HA.out HB.out HK.out _).mono ?_
          rintro e x2 ⟨rfl, g_x2⟩
          have s_x2 : Below x1.heap.size x1 x2 := chain (by go_grown) g_x2
          have t_x2 := chain t_x1 s_x2
          replace k0 := keep k0 s_x2
          have z_k0_x2 := lt_of k0
          replace k1 := keep k1 s_x2
          have z_k1_x2 := lt_of k1
          clear g_x2 s_x2
          go_wp2_with fail
          refine (whenV HW.out _).mono ?_
          rintro e x3 ⟨rfl, g_x3⟩
          have s_x3 : Below x2.heap.size x2 x3 := chain (by go_grown) g_x3
          have t_x3 := chain t_x2 s_x3
          replace k0 := keep k0 s_x3
          have z_k0_x3 := lt_of k0
          replace k1 := keep k1 s_x3
          have z_k1_x3 := lt_of k1
          clear g_x3 s_x3
          go_wp2_with fail
          go_ret
          exact ⟨rfl, by first | exact t_x3 | go_grown⟩
        · obtain rfl : d = 0 := by omega
          obtain rfl := hfa (by omega) rfl
          clear hsl hfa her
          have t_w := Below.refl w.heap.size w
          go_enter Try.func7, Try.ntmps7
          go_wp2_with fail
          refine (head _).mono ?_
          rintro e x1 ⟨rfl, g_x1⟩
          have s_x1 : Below w.heap.size w x1 := chain (by go_grown) g_x1
          have t_x1 := chain t_w s_x1
          have k0 : x1.cell? ⟨w.heap.size, 0, none⟩ = some (.int .i64 o) := ((bcell g_x1).1 _ _ (by simp; try omega)).trans (by simp [go_sem])
          have k1 : x1.cell? ⟨w.heap.size, 1, none⟩ = some (.int .i64 0) := ((bcell g_x1).1 _ _ (by simp; try omega)).trans (by simp [go_sem])
          have z_k_x1 := lt_of k0
          clear g_x1 s_x1
          go_wp2_with fail
          refine (two HA.out HB.out HK.out _).mono ?_
          rintro e x2 ⟨rfl, g_x2⟩
          have s_x2 : Below x1.heap.size x1 x2 := chain (by go_grown) g_x2
          have t_x2 := chain t_x1 s_x2
          replace k0 := keep k0 s_x2
          have z_k0_x2 := lt_of k0
          replace k1 := keep k1 s_x2
          have z_k1_x2 := lt_of k1
          clear g_x2 s_x2
          go_wp2_with fail
          refine (whenV HW.out _).mono ?_
          rintro e x3 ⟨rfl, g_x3⟩
          have s_x3 : Below x2.heap.size x2 x3 := chain (by go_grown) g_x3
          have t_x3 := chain t_x2 s_x3
          replace k0 := keep k0 s_x3
          have z_k0_x3 := lt_of k0
          replace k1 := keep k1 s_x3
          have z_k1_x3 := lt_of k1
          clear g_x3 s_x3
          go_wp2_with fail
          go_ret
          exact ⟨rfl, by first | exact t_x3 | go_grown⟩
theorem okc_more {o d m : Int} (h : okc o d = true) (h0 : 0 ≤ m) (h1 : m ≤ 1000000000 - o) : okc (o + m) d = true := by
  have := okc_t h; simp [okc]; omega
theorem sh_more (o d m t : Int) : sh (o + m) d t = sh o d t + m := by unfold sh; omega
theorem shOk_more {o d m t : Int} (h : okc o d = true) (h' : okc (o + m) d = true) : shOk (o + m) d t = shOk o d t := by simp [shOk, h, h']
theorem when_more {o d s m lo hi er : Int} (h' : okc (o + m) d = true) (h : okc o d = true) (hw : WhenIs o d s lo hi er) : WhenIs (o + m) d (s + m) lo hi er := by
  rcases hw with ⟨a, _⟩ | ⟨_, ⟨e, e1, e2, hn⟩ | ⟨e, p1, p2, p3, p4⟩⟩
  · rw [h] at a; cases a
  · exact .inr ⟨h', .inl ⟨e, e1, e2, fun t h0 h1 => by rw [sh_more]; have := hn t h0 h1; omega⟩⟩
  · exact .inr ⟨h', .inr ⟨e, p1, p2, p3, fun t h0 h1 => by rw [sh_more]; have := p4 t h0 h1; omega⟩⟩
set_option maxHeartbeats 1000000 in
theorem offsW (o d t s m : Int) (w : World) : Calls Try.prog 9 #[.agg #[.int .i64 o, .int .i64 d], .int .i64 t, .int .i64 s, .int .i64 m] w fun e w' => e = .returned (.bool true) ∧ Below w.heap.size w w' := by
  rcases hv : okc o d with _ | _
  · have HV := Lib.hid hv
    clear hv
    have t_w := Below.refl w.heap.size w
    go_enter Try.func9, Try.ntmps9
    go_wp2_with fail
    refine (head _).mono ?_
    rintro e x1 ⟨rfl, g_x1⟩
    have s_x1 : Below w.heap.size w x1 := chain (by go_grown) g_x1
    have t_x1 := chain t_w s_x1
    have k0 : x1.cell? ⟨w.heap.size, 0, none⟩ = some (.int .i64 o) := ((bcell g_x1).1 _ _ (by simp; try omega)).trans (by simp [go_sem])
    have k1 : x1.cell? ⟨w.heap.size, 1, none⟩ = some (.int .i64 d) := ((bcell g_x1).1 _ _ (by simp; try omega)).trans (by simp [go_sem])
    have z_k_x1 := lt_of k0
    clear g_x1 s_x1
    go_wp2_with fail
    refine (cvalid HV.out _).mono ?_
    rintro e x2 ⟨rfl, g_x2⟩
    have s_x2 : Below x1.heap.size x1 x2 := chain (by go_grown) g_x2
    have t_x2 := chain t_x1 s_x2
    replace k0 := keep k0 s_x2
    have z_k0_x2 := lt_of k0
    replace k1 := keep k1 s_x2
    have z_k1_x2 := lt_of k1
    clear g_x2 s_x2
    go_wp2_with fail
    go_ret
    exact ⟨rfl, by first | exact t_x2 | go_grown⟩
  · have hk := okc_t hv
    obtain ⟨k1, k2, k3, k4⟩ := hk
    by_cases hc : 0 ≤ m ∧ m ≤ 1000000000 - o ∧ s ≤ 1152921504606846976 ∧ -1152921504606846976 ≤ s
    · obtain ⟨c1, c2, c3, c4⟩ := hc
      have hv' := okc_more hv c1 c2
      obtain ⟨lo, hi, er, hw⟩ := when_exists o d s
      have hw' := when_more hv' hv hw
      have HW := Lib.hid hw; have HW2 := Lib.hid hw'; have HV := Lib.hid hv
      clear hw hw'
      rcases hs : shOk o d t with _ | _
      · have e1 : shV o d t = 0 ∧ shE o d t = 1 := by simp [shV, shE, hs]
        have hs2 : shOk (o + m) d t = false := by rw [shOk_more hv hv', hs]
        have e2 : shV (o + m) d t = 0 ∧ shE (o + m) d t = 1 := by simp [shV, shE, hs2]
        have HA := Lib.hid e1; have HB := Lib.hid e2
        clear e1 e2 hs hs2 hv hv'
        have t_w := Below.refl w.heap.size w
        go_enter Try.func9, Try.ntmps9
        go_wp2_with fail
        refine (head _).mono ?_
        rintro e x1 ⟨rfl, g_x1⟩
        have s_x1 : Below w.heap.size w x1 := chain (by go_grown) g_x1
        have t_x1 := chain t_w s_x1
        have k0 : x1.cell? ⟨w.heap.size, 0, none⟩ = some (.int .i64 o) := ((bcell g_x1).1 _ _ (by simp; try omega)).trans (by simp [go_sem])
        have k1 : x1.cell? ⟨w.heap.size, 1, none⟩ = some (.int .i64 d) := ((bcell g_x1).1 _ _ (by simp; try omega)).trans (by simp [go_sem])
        have z_k_x1 := lt_of k0
        clear g_x1 s_x1
        go_wp2_with fail
        refine (cvalid HV.out _).mono ?_
        rintro e x2 ⟨rfl, g_x2⟩
        have s_x2 : Below x1.heap.size x1 x2 := chain (by go_grown) g_x2
        have t_x2 := chain t_x1 s_x2
        replace k0 := keep k0 s_x2
        have z_k0_x2 := lt_of k0
        replace k1 := keep k1 s_x2
        have z_k1_x2 := lt_of k1
        clear g_x2 s_x2
        go_wp2_with fail
        refine (showV HA.out.1 HA.out.2 _).mono ?_
        rintro e x3 ⟨rfl, g_x3⟩
        have s_x3 : Below x2.heap.size x2 x3 := chain (by go_grown) g_x3
        have t_x3 := chain t_x2 s_x3
        replace k0 := keep k0 s_x3
        have z_k0_x3 := lt_of k0
        replace k1 := keep k1 s_x3
        have z_k1_x3 := lt_of k1
        have c0 : x3.cell? ⟨x2.heap.size, 0, none⟩ = some (.int .i64 (o + m)) := ((bcell g_x3).1 _ _ (by simp; try omega)).trans (by simp [go_sem])
        have c1 : x3.cell? ⟨x2.heap.size, 1, none⟩ = some (.int .i64 d) := ((bcell g_x3).1 _ _ (by simp; try omega)).trans (by simp [go_sem])
        have z_c_x3 := lt_of c0
        clear g_x3 s_x3
        go_wp2_with fail
        refine (showV HB.out.1 HB.out.2 _).mono ?_
        rintro e x4 ⟨rfl, g_x4⟩
        have s_x4 : Below x3.heap.size x3 x4 := chain (by go_grown) g_x4
        have t_x4 := chain t_x3 s_x4
        replace k0 := keep k0 s_x4
        have z_k0_x4 := lt_of k0
        replace k1 := keep k1 s_x4
        have z_k1_x4 := lt_of k1
        replace c0 := keep c0 s_x4
        have z_c0_x4 := lt_of c0
        replace c1 := keep c1 s_x4
        have z_c1_x4 := lt_of c1
        clear g_x4 s_x4
        go_wp2_with fail
        refine (whenV HW.out _).mono ?_
        rintro e x5 ⟨rfl, g_x5⟩
        have s_x5 : Below x4.heap.size x4 x5 := chain (by go_grown) g_x5
        have t_x5 := chain t_x4 s_x5
        replace k0 := keep k0 s_x5
        have z_k0_x5 := lt_of k0
        replace k1 := keep k1 s_x5
        have z_k1_x5 := lt_of k1
        replace c0 := keep c0 s_x5
        have z_c0_x5 := lt_of c0
        replace c1 := keep c1 s_x5
        have z_c1_x5 := lt_of c1
        clear g_x5 s_x5
        go_wp2_with fail
        refine (whenV HW2.out _).mono ?_
        rintro e x6 ⟨rfl, g_x6⟩
        have s_x6 : Below x5.heap.size x5 x6 := chain (by go_grown) g_x6
        have t_x6 := chain t_x5 s_x6
        replace k0 := keep k0 s_x6
        have z_k0_x6 := lt_of k0
        replace k1 := keep k1 s_x6
        have z_k1_x6 := lt_of k1
        replace c0 := keep c0 s_x6
        have z_c0_x6 := lt_of c0
        replace c1 := keep c1 s_x6
        have z_c1_x6 := lt_of c1
        have p0 : x6.cell? ⟨x5.heap.size, 0, none⟩ = some (.int .i64 lo) := ((bcell g_x6).1 _ _ (by simp; try omega)).trans (by simp [go_sem])
        have p1 : x6.cell? ⟨x5.heap.size, 1, none⟩ = some (.int .i64 hi) := ((bcell g_x6).1 _ _ (by simp; try omega)).trans (by simp [go_sem])
        have z_p_x6 := lt_of p0
        clear g_x6 s_x6
        go_wp2_with fail
        go_ret
        exact ⟨rfl, by first | exact t_x6 | go_grown⟩
      · have e1 : shV o d t = sh o d t ∧ shE o d t = 0 := by simp [shV, shE, hs]
        have hs2 : shOk (o + m) d t = true := by rw [shOk_more hv hv', hs]
        have e2 : shV (o + m) d t = sh o d t + m ∧ shE (o + m) d t = 0 := by simp [shV, shE, hs2, sh_more]
        have hbb := sh_b hv (shOk_t hs).2.1 (by have := (shOk_t hs).2.2; omega)
        generalize sh o d t = a at *
        obtain ⟨b1, b2⟩ := hbb
        have HA := Lib.hid e1; have HB := Lib.hid e2
        clear e1 e2 hs hs2 hv hv'
        have t_w := Below.refl w.heap.size w
        go_enter Try.func9, Try.ntmps9
        go_wp2_with fail
        refine (head _).mono ?_
        rintro e x1 ⟨rfl, g_x1⟩
        have s_x1 : Below w.heap.size w x1 := chain (by go_grown) g_x1
        have t_x1 := chain t_w s_x1
        have k0 : x1.cell? ⟨w.heap.size, 0, none⟩ = some (.int .i64 o) := ((bcell g_x1).1 _ _ (by simp; try omega)).trans (by simp [go_sem])
        have k1 : x1.cell? ⟨w.heap.size, 1, none⟩ = some (.int .i64 d) := ((bcell g_x1).1 _ _ (by simp; try omega)).trans (by simp [go_sem])
        have z_k_x1 := lt_of k0
        clear g_x1 s_x1
        go_wp2_with fail
        refine (cvalid HV.out _).mono ?_
        rintro e x2 ⟨rfl, g_x2⟩
        have s_x2 : Below x1.heap.size x1 x2 := chain (by go_grown) g_x2
        have t_x2 := chain t_x1 s_x2
        replace k0 := keep k0 s_x2
        have z_k0_x2 := lt_of k0
        replace k1 := keep k1 s_x2
        have z_k1_x2 := lt_of k1
        clear g_x2 s_x2
        go_wp2_with fail
        refine (showV HA.out.1 HA.out.2 _).mono ?_
        rintro e x3 ⟨rfl, g_x3⟩
        have s_x3 : Below x2.heap.size x2 x3 := chain (by go_grown) g_x3
        have t_x3 := chain t_x2 s_x3
        replace k0 := keep k0 s_x3
        have z_k0_x3 := lt_of k0
        replace k1 := keep k1 s_x3
        have z_k1_x3 := lt_of k1
        have c0 : x3.cell? ⟨x2.heap.size, 0, none⟩ = some (.int .i64 (o + m)) := ((bcell g_x3).1 _ _ (by simp; try omega)).trans (by simp [go_sem])
        have c1 : x3.cell? ⟨x2.heap.size, 1, none⟩ = some (.int .i64 d) := ((bcell g_x3).1 _ _ (by simp; try omega)).trans (by simp [go_sem])
        have z_c_x3 := lt_of c0
        clear g_x3 s_x3
        go_wp2_with fail
        refine (showV HB.out.1 HB.out.2 _).mono ?_
        rintro e x4 ⟨rfl, g_x4⟩
        have s_x4 : Below x3.heap.size x3 x4 := chain (by go_grown) g_x4
        have t_x4 := chain t_x3 s_x4
        replace k0 := keep k0 s_x4
        have z_k0_x4 := lt_of k0
        replace k1 := keep k1 s_x4
        have z_k1_x4 := lt_of k1
        replace c0 := keep c0 s_x4
        have z_c0_x4 := lt_of c0
        replace c1 := keep c1 s_x4
        have z_c1_x4 := lt_of c1
        clear g_x4 s_x4
        go_wp2_with fail
        refine (whenV HW.out _).mono ?_
        rintro e x5 ⟨rfl, g_x5⟩
        have s_x5 : Below x4.heap.size x4 x5 := chain (by go_grown) g_x5
        have t_x5 := chain t_x4 s_x5
        replace k0 := keep k0 s_x5
        have z_k0_x5 := lt_of k0
        replace k1 := keep k1 s_x5
        have z_k1_x5 := lt_of k1
        replace c0 := keep c0 s_x5
        have z_c0_x5 := lt_of c0
        replace c1 := keep c1 s_x5
        have z_c1_x5 := lt_of c1
        clear g_x5 s_x5
        go_wp2_with fail
        refine (whenV HW2.out _).mono ?_
        rintro e x6 ⟨rfl, g_x6⟩
        have s_x6 : Below x5.heap.size x5 x6 := chain (by go_grown) g_x6
        have t_x6 := chain t_x5 s_x6
        replace k0 := keep k0 s_x6
        have z_k0_x6 := lt_of k0
        replace k1 := keep k1 s_x6
        have z_k1_x6 := lt_of k1
        replace c0 := keep c0 s_x6
        have z_c0_x6 := lt_of c0
        replace c1 := keep c1 s_x6
        have z_c1_x6 := lt_of c1
        have p0 : x6.cell? ⟨x5.heap.size, 0, none⟩ = some (.int .i64 lo) := ((bcell g_x6).1 _ _ (by simp; try omega)).trans (by simp [go_sem])
        have p1 : x6.cell? ⟨x5.heap.size, 1, none⟩ = some (.int .i64 hi) := ((bcell g_x6).1 _ _ (by simp; try omega)).trans (by simp [go_sem])
        have z_p_x6 := lt_of p0
        clear g_x6 s_x6
        go_wp2_with fail
        go_ret
        exact ⟨rfl, by first | exact t_x6 | go_grown⟩
    · have hcs : m < 0 ∨ (0 ≤ m ∧ 1000000000 - o < m) ∨ (0 ≤ m ∧ m ≤ 1000000000 - o ∧ 1152921504606846976 < s) ∨ (0 ≤ m ∧ m ≤ 1000000000 - o ∧ s ≤ 1152921504606846976 ∧ s < -1152921504606846976) := by omega
      have HV := Lib.hid hv
      clear hc hv
      rcases hcs with h1 | ⟨h1, h2⟩ | ⟨h1, h2, h3⟩ | ⟨h1, h2, h3, h4⟩
      all_goals
        have t_w := Below.refl w.heap.size w
        go_enter Try.func9, Try.ntmps9
        go_wp2_with fail
        refine (head _).mono ?_
        rintro e x1 ⟨rfl, g_x1⟩
        have s_x1 : Below w.heap.size w x1 := chain (by go_grown) g_x1
        have t_x1 := chain t_w s_x1
        have k0 : x1.cell? ⟨w.heap.size, 0, none⟩ = some (.int .i64 o) := ((bcell g_x1).1 _ _ (by simp; try omega)).trans (by simp [go_sem])
        have k1 : x1.cell? ⟨w.heap.size, 1, none⟩ = some (.int .i64 d) := ((bcell g_x1).1 _ _ (by simp; try omega)).trans (by simp [go_sem])
        have z_k_x1 := lt_of k0
        clear g_x1 s_x1
        go_wp2_with fail
        refine (cvalid HV.out _).mono ?_
        rintro e x2 ⟨rfl, g_x2⟩
        have s_x2 : Below x1.heap.size x1 x2 := chain (by go_grown) g_x2
        have t_x2 := chain t_x1 s_x2
        replace k0 := keep k0 s_x2
        have z_k0_x2 := lt_of k0
        replace k1 := keep k1 s_x2
        have z_k1_x2 := lt_of k1
        clear g_x2 s_x2
        go_wp2_with fail
        go_ret
        exact ⟨rfl, by first | exact t_x2 | go_grown⟩
end Go.Proofs.Ytddljobpjcbilaa
