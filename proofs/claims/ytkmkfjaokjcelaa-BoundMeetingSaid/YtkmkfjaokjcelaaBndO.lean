/- Law of bound: meeting. -/
import Derived.Test.YtkmkfjaokjcelaaBndK
import Derived.Test.YtkmkfjaokjcelaaBndM
namespace Go.Proofs.Ytkmkfjaokjcelaa
open Go.ChangeShapes Go.WideShapes Go.ChangeAt Go.RowKit
/-- two true spans meet, and the meeting is true -/
theorem meets {o d x y le mo be ab L1 H1 A L2 H2 B : Int} (hx : okc o d = true) (x0 : 0 ≤ x) (hxy : x ≤ y) (y1 : y ≤ 10000000000000) (l0 : 0 ≤ le) (l1 : le ≤ 4294967295) (m0 : 0 ≤ mo) (m1 : mo ≤ 4294967295) (b0 : 0 ≤ be) (b1 : be ≤ 4294967295) (a0 : 0 ≤ ab) (a1 : ab ≤ 4294967295)
    (hA : sh o d x = A) (hB : sh o d y = B) (e1 : x - A - le = L1) (e2 : x - A + mo = H1) (e3 : y - B - be = L2) (e4 : y - B + ab = H2) (o1 : okS L1 H1 A = true) (o2 : okS L2 H2 B = true) :
    ∃ L H, MeetIs L1 H1 A L2 H2 B L H B 0 ∧ L ≤ y - B ∧ y - B ≤ H ∧ -20000000000000 ≤ L ∧ H ≤ 20000000000000 ∧ L ≤ H := by
  have hg := grows hx x0 hxy y1 l0 l1 m0 m1
  rw [hA, hB] at hg
  obtain ⟨g1, g2, g3, g4, g5⟩ := hg
  have k1 := okS_t o1
  have k2 := okS_t o2
  have hm := moreN_b (show 0 ≤ B - A by omega) (by omega)
  have hm0 := moreN_b (x := 0) (by omega) (by omega)
  obtain ⟨L, H, A', E, h⟩ := meet_exists L1 H1 A L2 H2 B
  have hmA : mA A B = B := by simp only [mA]; split <;> omega
  have hmL : mL L1 A B = L1 - moreN (B - A) := by simp only [mL]; rw [if_pos g1]
  have hmH : mH H1 A B = H1 + moreN (B - A) := by simp only [mH]; rw [if_pos g1]
  have hmL2 : mL L2 B A ≤ L2 ∧ L2 - 10000000001 ≤ mL L2 B A := by
    simp only [mL]; split
    · rw [show A - B = 0 by omega]; omega
    · omega
  have hmH2 : H2 ≤ mH H2 B A ∧ mH H2 B A ≤ H2 + 10000000001 := by
    simp only [mH]; split
    · rw [show A - B = 0 by omega]; omega
    · omega
  have h0 := h
  unfold MeetIs at h
  rw [hmA, hmL, hmH] at h
  have q1 : okS (L1 - moreN (B - A)) (H1 + moreN (B - A)) B = true := by simp only [okS, decide_eq_true_eq]; omega
  have q2 : okS (mL L2 B A) (mH H2 B A) B = true := by
    simp only [okS, decide_eq_true_eq]
    omega
  rcases h with ⟨hb, _⟩ | ⟨_, _, ⟨hb, _⟩ | ⟨_, _, lo, hi, l1', l2', l3', h1', h2', h3', hc⟩⟩
  · rw [o1, o2] at hb; cases hb
  · rw [q1, q2] at hb; cases hb
  · rcases hc with ⟨hlt, _⟩ | ⟨hle, rfl, rfl, rfl, rfl⟩
    · omega
    · exact ⟨_, _, h0, by omega, by omega, by have := okS_t q1; omega, by have := okS_t q1; omega, hle⟩
set_option maxHeartbeats 2000000 in
theorem meeting0 (o d t u le mo be ab x y : Int) (t0 : 0 ≤ t) (t1 : t ≤ 18446744073709551615) (u0 : 0 ≤ u) (u1 : u ≤ 18446744073709551615) (l0 : 0 ≤ le) (l1 : le ≤ 4294967295) (m0 : 0 ≤ mo) (m1 : mo ≤ 4294967295)
    (b0 : 0 ≤ be) (b1 : be ≤ 4294967295) (a0 : 0 ≤ ab) (a1 : ab ≤ 4294967295)
    (hxy : (tmod t ≤ tmod u ∧ x = tmod t ∧ y = tmod u) ∨ (tmod u < tmod t ∧ x = tmod u ∧ y = tmod t)) (w : World) : Calls Try.prog 5 #[.agg #[.int .i64 o, .int .i64 d], .int .u64 t, .int .u64 u, .int .u32 le, .int .u32 mo, .int .u32 be, .int .u32 ab] w fun e w' => e = .returned (.bool true) ∧ Below w.heap.size w w' := by
  have c1 := tmod_b t
  have c2 := tmod_b u
  have mn : (if tmod u < tmod t then tmod u else tmod t) = x := by rcases hxy with ⟨h, rfl, rfl⟩ | ⟨h, rfl, rfl⟩ <;> split <;> omega
  have mx : (if tmod t < tmod u then tmod u else tmod t) = y := by rcases hxy with ⟨h, rfl, rfl⟩ | ⟨h, rfl, rfl⟩ <;> split <;> omega
  have x0 : 0 ≤ x := by omega
  have xm : x ≤ 10000000000000 := by omega
  have hle : x ≤ y := by omega
  have y0 : 0 ≤ y := by omega
  have ym : y ≤ 10000000000000 := by omega
  clear hxy
  obtain ⟨k, hk⟩ : ∃ k, (shOk o d x && okS (x - shV o d x - le) (x - shV o d x + mo) (shV o d x)) = k := ⟨_, rfl⟩
  obtain ⟨A, hA⟩ : ∃ A, shV o d x = A := ⟨_, rfl⟩
  obtain ⟨L, hL⟩ : ∃ L, x - A - le = L := ⟨_, rfl⟩
  obtain ⟨H, hH⟩ : ∃ H, x - A + mo = H := ⟨_, rfl⟩
  rw [hA, hL, hH] at hk
  have ht : TruthIs o d x le mo L H A k := ⟨hA.symm, hL.symm, hH.symm, hk.symm⟩
  have HT := Lib.hid ht
  obtain ⟨q, hq⟩ : ∃ k, (shOk o d y && okS (y - shV o d y - be) (y - shV o d y + ab) (shV o d y)) = k := ⟨_, rfl⟩
  obtain ⟨B, hB⟩ : ∃ A, shV o d y = A := ⟨_, rfl⟩
  obtain ⟨P, hP⟩ : ∃ L, y - B - be = L := ⟨_, rfl⟩
  obtain ⟨Q, hQ⟩ : ∃ H, y - B + ab = H := ⟨_, rfl⟩
  rw [hB, hP, hQ] at hq
  have hu : TruthIs o d y be ab P Q B q := ⟨hB.symm, hP.symm, hQ.symm, hq.symm⟩
  have HU := Lib.hid hu
  rcases k with _ | _
  · clear hk ht hA hL hH hq hu hB hP hQ c1 c2 hle
    have t_w := Below.refl w.heap.size w
    go_enter Try.func5, Try.ntmps5
    go_wp2_with fail
    refine (bhead _).mono ?_
    rintro e x1 ⟨rfl, g_x1⟩
    have s_x1 : Below w.heap.size w x1 := chain (by go_grown) g_x1
    have t_x1 := chain t_w s_x1
    have k0 : x1.cell? ⟨w.heap.size, 0, none⟩ = some (.int .i64 o) := ((bcell g_x1).1 _ _ (by simp; try omega)).trans (by simp [go_sem])
    have k1 : x1.cell? ⟨w.heap.size, 1, none⟩ = some (.int .i64 d) := ((bcell g_x1).1 _ _ (by simp; try omega)).trans (by simp [go_sem])
    have z_k_x1 := lt_of k0
    clear g_x1 s_x1 t_w
    go_wp2_with fail
    refine (timeV t t0 t1 _).mono ?_
    rintro e w_4 ⟨rfl, hw⟩; obtain rfl := hw.symm
    clear hw
    go_wp2_with fail
    refine (timeV u u0 u1 _).mono ?_
    rintro e w_5 ⟨rfl, hw⟩; obtain rfl := hw.symm
    clear hw
    go_wp2_with fail
    refine (timeV t t0 t1 _).mono ?_
    rintro e w_6 ⟨rfl, hw⟩; obtain rfl := hw.symm
    clear hw
    go_wp2_with fail
    refine (timeV u u0 u1 _).mono ?_
    rintro e w_7 ⟨rfl, hw⟩; obtain rfl := hw.symm
    clear hw
    go_wp2_with fail
    refine (truthV HT.out x0 xm l0 l1 m0 m1 _).mono ?_
    rintro e x2 ⟨rfl, g_x2⟩
    have s_x2 : Below x1.heap.size x1 x2 := chain (by go_grown) g_x2
    have t_x2 := chain t_x1 s_x2
    replace k0 := keep k0 s_x2
    have z_k0_x2 := lt_of k0
    replace k1 := keep k1 s_x2
    clear g_x2 s_x2 z_k_x1 t_x1
    go_wp2_with fail
    refine (truthV HU.out y0 ym b0 b1 a0 a1 _).mono ?_
    rintro e x3 ⟨rfl, g_x3⟩
    have s_x3 : Below x2.heap.size x2 x3 := chain (by go_grown) g_x3
    have t_x3 := chain t_x2 s_x3
    replace k0 := keep k0 s_x3
    have z_k0_x3 := lt_of k0
    replace k1 := keep k1 s_x3
    have a0 : x3.cell? ⟨x2.heap.size, 0, none⟩ = some (.int .i64 L) := ((bcell g_x3).1 _ _ (by simp; try omega)).trans (by simp [go_sem])
    have a1 : x3.cell? ⟨x2.heap.size, 1, none⟩ = some (.int .i64 H) := ((bcell g_x3).1 _ _ (by simp; try omega)).trans (by simp [go_sem])
    have a2 : x3.cell? ⟨x2.heap.size, 2, none⟩ = some (.int .i64 A) := ((bcell g_x3).1 _ _ (by simp; try omega)).trans (by simp [go_sem])
    have z_a_x3 := lt_of a0
    clear g_x3 s_x3 t_x2
    go_wp2_with fail
    go_ret
    exact ⟨rfl, by first | exact t_x3 | go_grown⟩
  · rcases q with _ | _
    · clear hk ht hA hL hH hq hu hB hP hQ c1 c2 hle
      have t_w := Below.refl w.heap.size w
      go_enter Try.func5, Try.ntmps5
      go_wp2_with fail
      refine (bhead _).mono ?_
      rintro e x1 ⟨rfl, g_x1⟩
      have s_x1 : Below w.heap.size w x1 := chain (by go_grown) g_x1
      have t_x1 := chain t_w s_x1
      have k0 : x1.cell? ⟨w.heap.size, 0, none⟩ = some (.int .i64 o) := ((bcell g_x1).1 _ _ (by simp; try omega)).trans (by simp [go_sem])
      have k1 : x1.cell? ⟨w.heap.size, 1, none⟩ = some (.int .i64 d) := ((bcell g_x1).1 _ _ (by simp; try omega)).trans (by simp [go_sem])
      have z_k_x1 := lt_of k0
      clear g_x1 s_x1 t_w
      go_wp2_with fail
      refine (timeV t t0 t1 _).mono ?_
      rintro e w_16 ⟨rfl, hw⟩; obtain rfl := hw.symm
      clear hw
      go_wp2_with fail
      refine (timeV u u0 u1 _).mono ?_
      rintro e w_17 ⟨rfl, hw⟩; obtain rfl := hw.symm
      clear hw
      go_wp2_with fail
      refine (timeV t t0 t1 _).mono ?_
      rintro e w_18 ⟨rfl, hw⟩; obtain rfl := hw.symm
      clear hw
      go_wp2_with fail
      refine (timeV u u0 u1 _).mono ?_
      rintro e w_19 ⟨rfl, hw⟩; obtain rfl := hw.symm
      clear hw
      go_wp2_with fail
      refine (truthV HT.out x0 xm l0 l1 m0 m1 _).mono ?_
      rintro e x2 ⟨rfl, g_x2⟩
      have s_x2 : Below x1.heap.size x1 x2 := chain (by go_grown) g_x2
      have t_x2 := chain t_x1 s_x2
      replace k0 := keep k0 s_x2
      have z_k0_x2 := lt_of k0
      replace k1 := keep k1 s_x2
      clear g_x2 s_x2 z_k_x1 t_x1
      go_wp2_with fail
      refine (truthV HU.out y0 ym b0 b1 a0 a1 _).mono ?_
      rintro e x3 ⟨rfl, g_x3⟩
      have s_x3 : Below x2.heap.size x2 x3 := chain (by go_grown) g_x3
      have t_x3 := chain t_x2 s_x3
      replace k0 := keep k0 s_x3
      have z_k0_x3 := lt_of k0
      replace k1 := keep k1 s_x3
      have a0 : x3.cell? ⟨x2.heap.size, 0, none⟩ = some (.int .i64 L) := ((bcell g_x3).1 _ _ (by simp; try omega)).trans (by simp [go_sem])
      have a1 : x3.cell? ⟨x2.heap.size, 1, none⟩ = some (.int .i64 H) := ((bcell g_x3).1 _ _ (by simp; try omega)).trans (by simp [go_sem])
      have a2 : x3.cell? ⟨x2.heap.size, 2, none⟩ = some (.int .i64 A) := ((bcell g_x3).1 _ _ (by simp; try omega)).trans (by simp [go_sem])
      have z_a_x3 := lt_of a0
      clear g_x3 s_x3 t_x2
      go_wp2_with fail
      go_ret
      exact ⟨rfl, by first | exact t_x3 | go_grown⟩
    · simp only [Bool.and_eq_true] at hk hq
      have hso := shOk_t hk.1
      have hy := sh_ok (t := y) hso.1 (by omega) ym
      have hx := sh_ok (t := x) hso.1 x0 xm
      rw [hx.1] at hA
      rw [hy.1] at hB
      obtain ⟨S, T, hm, g1, g2, g3, g4, g5⟩ := meets hso.1 x0 hle ym l0 l1 m0 m1 b0 b1 a0 a1 hA hB hL hH hP hQ hk.2 hq.2
      have hby := okS_t hq.2
      obtain ⟨_, _, _, g6, g7⟩ := hby
      have HM := Lib.hid hm
      clear hk ht hA hL hH hq hu hB hP hQ c1 c2 hle hso hy hx hm
      have t_w := Below.refl w.heap.size w
      go_enter Try.func5, Try.ntmps5
      go_wp2_with fail
      refine (bhead _).mono ?_
      rintro e x1 ⟨rfl, g_x1⟩
      have s_x1 : Below w.heap.size w x1 := chain (by go_grown) g_x1
      have t_x1 := chain t_w s_x1
      have k0 : x1.cell? ⟨w.heap.size, 0, none⟩ = some (.int .i64 o) := ((bcell g_x1).1 _ _ (by simp; try omega)).trans (by simp [go_sem])
      have k1 : x1.cell? ⟨w.heap.size, 1, none⟩ = some (.int .i64 d) := ((bcell g_x1).1 _ _ (by simp; try omega)).trans (by simp [go_sem])
      have z_k_x1 := lt_of k0
      clear g_x1 s_x1 t_w
      go_wp2_with fail
      refine (timeV t t0 t1 _).mono ?_
      rintro e w_28 ⟨rfl, hw⟩; obtain rfl := hw.symm
      clear hw
      go_wp2_with fail
      refine (timeV u u0 u1 _).mono ?_
      rintro e w_29 ⟨rfl, hw⟩; obtain rfl := hw.symm
      clear hw
      go_wp2_with fail
      refine (timeV t t0 t1 _).mono ?_
      rintro e w_30 ⟨rfl, hw⟩; obtain rfl := hw.symm
      clear hw
      go_wp2_with fail
      refine (timeV u u0 u1 _).mono ?_
      rintro e w_31 ⟨rfl, hw⟩; obtain rfl := hw.symm
      clear hw
      go_wp2_with fail
      refine (truthV HT.out x0 xm l0 l1 m0 m1 _).mono ?_
      rintro e x2 ⟨rfl, g_x2⟩
      have s_x2 : Below x1.heap.size x1 x2 := chain (by go_grown) g_x2
      have t_x2 := chain t_x1 s_x2
      replace k0 := keep k0 s_x2
      have z_k0_x2 := lt_of k0
      replace k1 := keep k1 s_x2
      clear g_x2 s_x2 z_k_x1 t_x1
      go_wp2_with fail
      refine (truthV HU.out y0 ym b0 b1 a0 a1 _).mono ?_
      rintro e x3 ⟨rfl, g_x3⟩
      have s_x3 : Below x2.heap.size x2 x3 := chain (by go_grown) g_x3
      have t_x3 := chain t_x2 s_x3
      replace k0 := keep k0 s_x3
      have z_k0_x3 := lt_of k0
      replace k1 := keep k1 s_x3
      have a0 : x3.cell? ⟨x2.heap.size, 0, none⟩ = some (.int .i64 L) := ((bcell g_x3).1 _ _ (by simp; try omega)).trans (by simp [go_sem])
      have a1 : x3.cell? ⟨x2.heap.size, 1, none⟩ = some (.int .i64 H) := ((bcell g_x3).1 _ _ (by simp; try omega)).trans (by simp [go_sem])
      have a2 : x3.cell? ⟨x2.heap.size, 2, none⟩ = some (.int .i64 A) := ((bcell g_x3).1 _ _ (by simp; try omega)).trans (by simp [go_sem])
      have z_a_x3 := lt_of a0
      clear g_x3 s_x3 t_x2
      go_wp2_with fail
      refine (meetV HM.out _).mono ?_
      rintro e x4 ⟨rfl, g_x4⟩
      have s_x4 : Below x3.heap.size x3 x4 := chain (by go_grown) g_x4
      have t_x4 := chain t_x3 s_x4
      replace k0 := keep k0 s_x4
      have z_k0_x4 := lt_of k0
      replace k1 := keep k1 s_x4
      replace a0 := keep a0 s_x4
      have z_a0_x4 := lt_of a0
      replace a1 := keep a1 s_x4
      replace a2 := keep a2 s_x4
      have b0 : x4.cell? ⟨x3.heap.size, 0, none⟩ = some (.int .i64 P) := ((bcell g_x4).1 _ _ (by simp; try omega)).trans (by simp [go_sem])
      have b1 : x4.cell? ⟨x3.heap.size, 1, none⟩ = some (.int .i64 Q) := ((bcell g_x4).1 _ _ (by simp; try omega)).trans (by simp [go_sem])
      have b2 : x4.cell? ⟨x3.heap.size, 2, none⟩ = some (.int .i64 B) := ((bcell g_x4).1 _ _ (by simp; try omega)).trans (by simp [go_sem])
      have z_b_x4 := lt_of b0
      clear g_x4 s_x4 t_x3
      go_wp2_with fail
      refine (rtrueT g1 g2 (by omega) (by omega) (by omega) (by omega) _).mono ?_
      rintro e x5 ⟨rfl, g_x5⟩
      have s_x5 : Below x4.heap.size x4 x5 := chain (by go_grown) g_x5
      have t_x5 := chain t_x4 s_x5
      replace k0 := keep k0 s_x5
      have z_k0_x5 := lt_of k0
      replace k1 := keep k1 s_x5
      replace a0 := keep a0 s_x5
      have z_a0_x5 := lt_of a0
      replace a1 := keep a1 s_x5
      replace a2 := keep a2 s_x5
      replace b0 := keep b0 s_x5
      have z_b0_x5 := lt_of b0
      replace b1 := keep b1 s_x5
      replace b2 := keep b2 s_x5
      have m0 : x5.cell? ⟨x4.heap.size, 0, none⟩ = some (.int .i64 S) := ((bcell g_x5).1 _ _ (by simp; try omega)).trans (by simp [go_sem])
      have m1 : x5.cell? ⟨x4.heap.size, 1, none⟩ = some (.int .i64 T) := ((bcell g_x5).1 _ _ (by simp; try omega)).trans (by simp [go_sem])
      have m2 : x5.cell? ⟨x4.heap.size, 2, none⟩ = some (.int .i64 B) := ((bcell g_x5).1 _ _ (by simp; try omega)).trans (by simp [go_sem])
      have z_m_x5 := lt_of m0
      clear g_x5 s_x5 t_x4
      go_wp2_with fail
      go_ret
      exact ⟨rfl, by first | exact t_x5 | go_grown⟩
theorem meetingW (o d t u le mo be ab : Int) (t0 : 0 ≤ t) (t1 : t ≤ 18446744073709551615) (u0 : 0 ≤ u) (u1 : u ≤ 18446744073709551615) (l0 : 0 ≤ le) (l1 : le ≤ 4294967295) (m0 : 0 ≤ mo) (m1 : mo ≤ 4294967295)
    (b0 : 0 ≤ be) (b1 : be ≤ 4294967295) (a0 : 0 ≤ ab) (a1 : ab ≤ 4294967295) (w : World) :
    Calls Try.prog 5 #[.agg #[.int .i64 o, .int .i64 d], .int .u64 t, .int .u64 u, .int .u32 le, .int .u32 mo, .int .u32 be, .int .u32 ab] w fun e w' => e = .returned (.bool true) ∧ Below w.heap.size w w' := by
  rcases Int.lt_or_le (tmod u) (tmod t) with h | h
  · exact meeting0 o d t u le mo be ab _ _ t0 t1 u0 u1 l0 l1 m0 m1 b0 b1 a0 a1 (.inr ⟨h, rfl, rfl⟩) w
  · exact meeting0 o d t u le mo be ab _ _ t0 t1 u0 u1 l0 l1 m0 m1 b0 b1 a0 a1 (.inl ⟨h, rfl, rfl⟩) w
end Go.Proofs.Ytkmkfjaokjcelaa
