/- Law of bound: narrower. -/
import Derived.Test.YtkmkfjaokjcelaaBndHd
namespace Go.Proofs.Ytkmkfjaokjcelaa
open Go.ChangeShapes Go.WideShapes Go.ChangeAt Go.RowKit
theorem mL_mono {P L a b : Int} (h : P ≤ L) : mL P a b ≤ mL L a b := by simp only [mL]; split <;> omega
theorem mH_mono {P L a b : Int} (h : P ≤ L) : mH P a b ≤ mH L a b := by simp only [mH]; split <;> omega
theorem meet_fits {aL aH aA bL bH bA L H A : Int} (h : MeetIs aL aH aA bL bH bA L H A 0) : okS aL aH aA = true ∧ L ≤ H ∧
    mL aL aA bA ≤ L ∧ mL bL bA aA ≤ L ∧ (L = mL aL aA bA ∨ L = mL bL bA aA) ∧ H ≤ mH aH aA bA ∧ H ≤ mH bH bA aA ∧ (H = mH aH aA bA ∨ H = mH bH bA aA) ∧ A = mA aA bA := by
  rcases h with ⟨hb, _, _, _, h⟩ | ⟨h1, h2, ⟨hb, _, _, _, h⟩ | ⟨h3, h4, lo, hi, l1, l2, l3, k1, k2, k3, ⟨_, _, _, _, h⟩ | ⟨_, rfl, rfl, rfl, _⟩⟩⟩
  · cases h
  · cases h
  · cases h
  · exact ⟨h1, by omega, l1, l2, by omega, k1, k2, by omega, rfl⟩
theorem narrow_meet {L H A tL tH tA P Q cL cH cA G dL dH dA K : Int} (h1 : MeetIs L H A tL tH tA cL cH cA G) (h2 : MeetIs P Q A tL tH tA dL dH dA K) (hw : okS L H A = true → P ≤ L ∧ H ≤ Q) :
    ((G != 0) = true) ∨ (G = 0 ∧ (K = 1 ∨ K = 3)) ∨ (G = 0 ∧ K = 0 ∧ dL ≤ cL ∧ cH ≤ dH ∧ dA = cA) := by
  by_cases hG : G = 0
  · subst hG
    obtain ⟨o, i1, i2, i3, i4, i5, i6, i7, e⟩ := meet_fits h1
    obtain ⟨w1, w2⟩ := hw o
    have m1 := mL_mono (a := A) (b := tA) w1
    have m2 := mH_mono (a := A) (b := tA) w2
    rcases h2 with ⟨_, _, _, _, rfl⟩ | ⟨_, _, ⟨_, _, _, _, rfl⟩ | ⟨_, _, lo, hi, l1, l2, l3, k1, k2, k3, ⟨hlt, _⟩ | ⟨_, rfl, rfl, rfl, rfl⟩⟩⟩
    · exact .inr (.inl ⟨rfl, .inl rfl⟩)
    · exact .inr (.inl ⟨rfl, .inr rfl⟩)
    · omega
    · exact .inr (.inr ⟨rfl, rfl, by omega, by omega, e.symm⟩)
  · exact .inl (by simp [hG])
theorem narrow_grow {L H A P Q now aL aH aA bL bH bA : Int} (g1 : GrowIs L H A now aL aH aA 0) (g2 : GrowIs P Q A now bL bH bA 0) (hw : okS L H A = true → P ≤ L ∧ H ≤ Q) : bL ≤ aL ∧ aH ≤ bH ∧ bA = aA := by
  rcases g1 with ⟨_, _, _, _, h⟩ | ⟨_, _, _, _, _, h⟩ | ⟨h, _, rfl, rfl, rfl, _⟩
  · cases h
  · cases h
  · have ho : okS L H A = true := by simp only [gOk, Bool.and_eq_true] at h; exact h.1
    obtain ⟨w1, w2⟩ := hw ho
    rcases g2 with ⟨_, _, _, _, h⟩ | ⟨_, _, _, _, _, h⟩ | ⟨h, _, rfl, rfl, rfl, _⟩
    · cases h
    · cases h
    · exact ⟨by omega, by omega, rfl⟩
set_option maxHeartbeats 4000000 in
theorem narrowerW {L H A tL tH tA lo hi now : Int} (l0 : 0 ≤ lo) (l1 : lo ≤ 65535) (h0 : 0 ≤ hi) (h1 : hi ≤ 65535) (w : World) : Calls Try.prog 10 #[.agg #[.int .i64 L, .int .i64 H, .int .i64 A], .int .u16 lo, .int .u16 hi, .int .i64 now, .agg #[.int .i64 tL, .int .i64 tH, .int .i64 tA]] w fun e w' => e = .returned (.bool true) ∧ Below w.heap.size w w' := by
  obtain ⟨P, hP⟩ : ∃ P, wrap64 (L - lo) = P := ⟨_, rfl⟩
  obtain ⟨Q, hQ⟩ : ∃ P, wrap64 (H + hi) = P := ⟨_, rfl⟩
  have hw : okS L H A = true → P ≤ L ∧ H ≤ Q := by
    intro h
    have := okS_t h
    rw [← hP, ← hQ]; unfold wrap64; omega
  obtain ⟨aL, aH, aA, E, g1⟩ := grow_exists L H A now
  obtain ⟨bL, bH, bA, F, g2⟩ := grow_exists P Q A now
  obtain ⟨cL, cH, cA, G, m1⟩ := meet_exists L H A tL tH tA
  obtain ⟨dL, dH, dA, K, m2⟩ := meet_exists P Q A tL tH tA
  have hc := narrow_meet m1 m2 hw
  have G1 := Lib.hid g1; have G2 := Lib.hid g2
  have M1 := Lib.hid m1; have M2 := Lib.hid m2
  by_cases hE : E = 0
  · by_cases hF : F = 0
    · subst hE hF
      obtain ⟨i1, i2, hA⟩ := narrow_grow g1 g2 hw
      obtain rfl := hA.symm
      clear hA
      clear g1 g2 m1 m2 hw
      have t_w := Below.refl w.heap.size w
      go_enter Try.func10, Try.ntmps10
      go_wp2_with fail
      refine (bhead _).mono ?_
      rintro e x1 ⟨rfl, g_x1⟩
      have s_x1 : Below w.heap.size w x1 := chain (by go_grown) g_x1
      have t_x1 := chain t_w s_x1
      have s0 : x1.cell? ⟨w.heap.size, 0, none⟩ = some (.int .i64 L) := ((bcell g_x1).1 _ _ (by simp; try omega)).trans (by simp [go_sem])
      have s1 : x1.cell? ⟨w.heap.size, 1, none⟩ = some (.int .i64 H) := ((bcell g_x1).1 _ _ (by simp; try omega)).trans (by simp [go_sem])
      have s2 : x1.cell? ⟨w.heap.size, 2, none⟩ = some (.int .i64 A) := ((bcell g_x1).1 _ _ (by simp; try omega)).trans (by simp [go_sem])
      have z_s_x1 := lt_of s0
      have t0 : x1.cell? ⟨w.heap.size + 1, 0, none⟩ = some (.int .i64 tL) := ((bcell g_x1).1 _ _ (by simp; try omega)).trans (by simp [go_sem])
      have t1 : x1.cell? ⟨w.heap.size + 1, 1, none⟩ = some (.int .i64 tH) := ((bcell g_x1).1 _ _ (by simp; try omega)).trans (by simp [go_sem])
      have t2 : x1.cell? ⟨w.heap.size + 1, 2, none⟩ = some (.int .i64 tA) := ((bcell g_x1).1 _ _ (by simp; try omega)).trans (by simp [go_sem])
      have z_t_x1 := lt_of t0
      clear g_x1 s_x1 t_w
      go_wp2_with fail
      refine (growV G1.out _).mono ?_
      rintro e x2 ⟨rfl, g_x2⟩
      have s_x2 : Below x1.heap.size x1 x2 := chain (by go_grown) g_x2
      have t_x2 := chain t_x1 s_x2
      replace s0 := keep s0 s_x2
      have z_s0_x2 := lt_of s0
      replace s1 := keep s1 s_x2
      replace s2 := keep s2 s_x2
      replace t0 := keep t0 s_x2
      have z_t0_x2 := lt_of t0
      replace t1 := keep t1 s_x2
      replace t2 := keep t2 s_x2
      have v0 : x2.cell? ⟨x1.heap.size, 0, none⟩ = some (.int .i64 P) := ((bcell g_x2).1 _ _ (by simp; try omega)).trans (by simp [go_sem])
      have v1 : x2.cell? ⟨x1.heap.size, 1, none⟩ = some (.int .i64 Q) := ((bcell g_x2).1 _ _ (by simp; try omega)).trans (by simp [go_sem])
      have v2 : x2.cell? ⟨x1.heap.size, 2, none⟩ = some (.int .i64 A) := ((bcell g_x2).1 _ _ (by simp; try omega)).trans (by simp [go_sem])
      have z_v_x2 := lt_of v0
      clear g_x2 s_x2 t_x1
      go_wp2_with fail
      refine (growV G2.out _).mono ?_
      rintro e x3 ⟨rfl, g_x3⟩
      have s_x3 : Below x2.heap.size x2 x3 := chain (by go_grown) g_x3
      have t_x3 := chain t_x2 s_x3
      replace s0 := keep s0 s_x3
      have z_s0_x3 := lt_of s0
      replace s1 := keep s1 s_x3
      replace s2 := keep s2 s_x3
      replace t0 := keep t0 s_x3
      have z_t0_x3 := lt_of t0
      replace t1 := keep t1 s_x3
      replace t2 := keep t2 s_x3
      replace v0 := keep v0 s_x3
      have z_v0_x3 := lt_of v0
      replace v1 := keep v1 s_x3
      replace v2 := keep v2 s_x3
      have a0 : x3.cell? ⟨x2.heap.size, 0, none⟩ = some (.int .i64 aL) := ((bcell g_x3).1 _ _ (by simp; try omega)).trans (by simp [go_sem])
      have a1 : x3.cell? ⟨x2.heap.size, 1, none⟩ = some (.int .i64 aH) := ((bcell g_x3).1 _ _ (by simp; try omega)).trans (by simp [go_sem])
      have a2 : x3.cell? ⟨x2.heap.size, 2, none⟩ = some (.int .i64 aA) := ((bcell g_x3).1 _ _ (by simp; try omega)).trans (by simp [go_sem])
      have z_a_x3 := lt_of a0
      clear g_x3 s_x3 t_x2
      go_wp2_with fail
      refine (insideT i1 i2 _).mono ?_
      rintro e x4 ⟨rfl, g_x4⟩
      have s_x4 : Below x3.heap.size x3 x4 := chain (by go_grown) g_x4
      have t_x4 := chain t_x3 s_x4
      replace s0 := keep s0 s_x4
      have z_s0_x4 := lt_of s0
      replace s1 := keep s1 s_x4
      replace s2 := keep s2 s_x4
      replace t0 := keep t0 s_x4
      have z_t0_x4 := lt_of t0
      replace t1 := keep t1 s_x4
      replace t2 := keep t2 s_x4
      replace v0 := keep v0 s_x4
      have z_v0_x4 := lt_of v0
      replace v1 := keep v1 s_x4
      replace v2 := keep v2 s_x4
      replace a0 := keep a0 s_x4
      have z_a0_x4 := lt_of a0
      replace a1 := keep a1 s_x4
      replace a2 := keep a2 s_x4
      have b0 : x4.cell? ⟨x3.heap.size, 0, none⟩ = some (.int .i64 bL) := ((bcell g_x4).1 _ _ (by simp; try omega)).trans (by simp [go_sem])
      have b1 : x4.cell? ⟨x3.heap.size, 1, none⟩ = some (.int .i64 bH) := ((bcell g_x4).1 _ _ (by simp; try omega)).trans (by simp [go_sem])
      have b2 : x4.cell? ⟨x3.heap.size, 2, none⟩ = some (.int .i64 aA) := ((bcell g_x4).1 _ _ (by simp; try omega)).trans (by simp [go_sem])
      have z_b_x4 := lt_of b0
      clear g_x4 s_x4 t_x3
      go_wp2_with fail
      rcases hc with hc | ⟨rfl, rfl | rfl⟩ | ⟨rfl, rfl, u1, u2, rfl⟩
      · refine (meetV M1.out _).mono ?_
        rintro e x5 ⟨rfl, g_x5⟩
        have s_x5 : Below x4.heap.size x4 x5 := chain (by go_grown) g_x5
        have t_x5 := chain t_x4 s_x5
        replace s0 := keep s0 s_x5
        have z_s0_x5 := lt_of s0
        replace s1 := keep s1 s_x5
        replace s2 := keep s2 s_x5
        replace t0 := keep t0 s_x5
        have z_t0_x5 := lt_of t0
        replace t1 := keep t1 s_x5
        replace t2 := keep t2 s_x5
        replace v0 := keep v0 s_x5
        have z_v0_x5 := lt_of v0
        replace v1 := keep v1 s_x5
        replace v2 := keep v2 s_x5
        replace a0 := keep a0 s_x5
        have z_a0_x5 := lt_of a0
        replace a1 := keep a1 s_x5
        replace a2 := keep a2 s_x5
        replace b0 := keep b0 s_x5
        have z_b0_x5 := lt_of b0
        replace b1 := keep b1 s_x5
        replace b2 := keep b2 s_x5
        clear g_x5 s_x5 z_s0_x4 z_t0_x4 z_v0_x4 z_a0_x4 z_b_x4 t_x4
        go_wp2_with fail
        refine (meetV M2.out _).mono ?_
        rintro e x6 ⟨rfl, g_x6⟩
        have s_x6 : Below x5.heap.size x5 x6 := chain (by go_grown) g_x6
        have t_x6 := chain t_x5 s_x6
        replace s0 := keep s0 s_x6
        have z_s0_x6 := lt_of s0
        replace s1 := keep s1 s_x6
        replace s2 := keep s2 s_x6
        replace t0 := keep t0 s_x6
        have z_t0_x6 := lt_of t0
        replace t1 := keep t1 s_x6
        replace t2 := keep t2 s_x6
        replace v0 := keep v0 s_x6
        have z_v0_x6 := lt_of v0
        replace v1 := keep v1 s_x6
        replace v2 := keep v2 s_x6
        replace a0 := keep a0 s_x6
        have z_a0_x6 := lt_of a0
        replace a1 := keep a1 s_x6
        replace a2 := keep a2 s_x6
        replace b0 := keep b0 s_x6
        have z_b0_x6 := lt_of b0
        replace b1 := keep b1 s_x6
        replace b2 := keep b2 s_x6
        have c0 : x6.cell? ⟨x5.heap.size, 0, none⟩ = some (.int .i64 cL) := ((bcell g_x6).1 _ _ (by simp; try omega)).trans (by simp [go_sem])
        have c1 : x6.cell? ⟨x5.heap.size, 1, none⟩ = some (.int .i64 cH) := ((bcell g_x6).1 _ _ (by simp; try omega)).trans (by simp [go_sem])
        have c2 : x6.cell? ⟨x5.heap.size, 2, none⟩ = some (.int .i64 cA) := ((bcell g_x6).1 _ _ (by simp; try omega)).trans (by simp [go_sem])
        have z_c_x6 := lt_of c0
        clear g_x6 s_x6 t_x5
        go_wp2_with fail
        go_ret
        exact ⟨rfl, by first | exact t_x6 | go_grown⟩
      · refine (meetV M1.out _).mono ?_
        rintro e x5 ⟨rfl, g_x5⟩
        have s_x5 : Below x4.heap.size x4 x5 := chain (by go_grown) g_x5
        have t_x5 := chain t_x4 s_x5
        replace s0 := keep s0 s_x5
        have z_s0_x5 := lt_of s0
        replace s1 := keep s1 s_x5
        replace s2 := keep s2 s_x5
        replace t0 := keep t0 s_x5
        have z_t0_x5 := lt_of t0
        replace t1 := keep t1 s_x5
        replace t2 := keep t2 s_x5
        replace v0 := keep v0 s_x5
        have z_v0_x5 := lt_of v0
        replace v1 := keep v1 s_x5
        replace v2 := keep v2 s_x5
        replace a0 := keep a0 s_x5
        have z_a0_x5 := lt_of a0
        replace a1 := keep a1 s_x5
        replace a2 := keep a2 s_x5
        replace b0 := keep b0 s_x5
        have z_b0_x5 := lt_of b0
        replace b1 := keep b1 s_x5
        replace b2 := keep b2 s_x5
        clear g_x5 s_x5 z_s0_x4 z_t0_x4 z_v0_x4 z_a0_x4 z_b_x4 t_x4
        go_wp2_with fail
        refine (meetV M2.out _).mono ?_
        rintro e x6 ⟨rfl, g_x6⟩
        have s_x6 : Below x5.heap.size x5 x6 := chain (by go_grown) g_x6
        have t_x6 := chain t_x5 s_x6
        replace s0 := keep s0 s_x6
        have z_s0_x6 := lt_of s0
        replace s1 := keep s1 s_x6
        replace s2 := keep s2 s_x6
        replace t0 := keep t0 s_x6
        have z_t0_x6 := lt_of t0
        replace t1 := keep t1 s_x6
        replace t2 := keep t2 s_x6
        replace v0 := keep v0 s_x6
        have z_v0_x6 := lt_of v0
        replace v1 := keep v1 s_x6
        replace v2 := keep v2 s_x6
        replace a0 := keep a0 s_x6
        have z_a0_x6 := lt_of a0
        replace a1 := keep a1 s_x6
        replace a2 := keep a2 s_x6
        replace b0 := keep b0 s_x6
        have z_b0_x6 := lt_of b0
        replace b1 := keep b1 s_x6
        replace b2 := keep b2 s_x6
        have c0 : x6.cell? ⟨x5.heap.size, 0, none⟩ = some (.int .i64 cL) := ((bcell g_x6).1 _ _ (by simp; try omega)).trans (by simp [go_sem])
        have c1 : x6.cell? ⟨x5.heap.size, 1, none⟩ = some (.int .i64 cH) := ((bcell g_x6).1 _ _ (by simp; try omega)).trans (by simp [go_sem])
        have c2 : x6.cell? ⟨x5.heap.size, 2, none⟩ = some (.int .i64 cA) := ((bcell g_x6).1 _ _ (by simp; try omega)).trans (by simp [go_sem])
        have z_c_x6 := lt_of c0
        clear g_x6 s_x6 t_x5
        go_wp2_with fail
        go_ret
        exact ⟨rfl, by first | exact t_x6 | go_grown⟩
      · refine (meetV M1.out _).mono ?_
        rintro e x5 ⟨rfl, g_x5⟩
        have s_x5 : Below x4.heap.size x4 x5 := chain (by go_grown) g_x5
        have t_x5 := chain t_x4 s_x5
        replace s0 := keep s0 s_x5
        have z_s0_x5 := lt_of s0
        replace s1 := keep s1 s_x5
        replace s2 := keep s2 s_x5
        replace t0 := keep t0 s_x5
        have z_t0_x5 := lt_of t0
        replace t1 := keep t1 s_x5
        replace t2 := keep t2 s_x5
        replace v0 := keep v0 s_x5
        have z_v0_x5 := lt_of v0
        replace v1 := keep v1 s_x5
        replace v2 := keep v2 s_x5
        replace a0 := keep a0 s_x5
        have z_a0_x5 := lt_of a0
        replace a1 := keep a1 s_x5
        replace a2 := keep a2 s_x5
        replace b0 := keep b0 s_x5
        have z_b0_x5 := lt_of b0
        replace b1 := keep b1 s_x5
        replace b2 := keep b2 s_x5
        clear g_x5 s_x5 z_s0_x4 z_t0_x4 z_v0_x4 z_a0_x4 z_b_x4 t_x4
        go_wp2_with fail
        refine (meetV M2.out _).mono ?_
        rintro e x6 ⟨rfl, g_x6⟩
        have s_x6 : Below x5.heap.size x5 x6 := chain (by go_grown) g_x6
        have t_x6 := chain t_x5 s_x6
        replace s0 := keep s0 s_x6
        have z_s0_x6 := lt_of s0
        replace s1 := keep s1 s_x6
        replace s2 := keep s2 s_x6
        replace t0 := keep t0 s_x6
        have z_t0_x6 := lt_of t0
        replace t1 := keep t1 s_x6
        replace t2 := keep t2 s_x6
        replace v0 := keep v0 s_x6
        have z_v0_x6 := lt_of v0
        replace v1 := keep v1 s_x6
        replace v2 := keep v2 s_x6
        replace a0 := keep a0 s_x6
        have z_a0_x6 := lt_of a0
        replace a1 := keep a1 s_x6
        replace a2 := keep a2 s_x6
        replace b0 := keep b0 s_x6
        have z_b0_x6 := lt_of b0
        replace b1 := keep b1 s_x6
        replace b2 := keep b2 s_x6
        have c0 : x6.cell? ⟨x5.heap.size, 0, none⟩ = some (.int .i64 cL) := ((bcell g_x6).1 _ _ (by simp; try omega)).trans (by simp [go_sem])
        have c1 : x6.cell? ⟨x5.heap.size, 1, none⟩ = some (.int .i64 cH) := ((bcell g_x6).1 _ _ (by simp; try omega)).trans (by simp [go_sem])
        have c2 : x6.cell? ⟨x5.heap.size, 2, none⟩ = some (.int .i64 cA) := ((bcell g_x6).1 _ _ (by simp; try omega)).trans (by simp [go_sem])
        have z_c_x6 := lt_of c0
        clear g_x6 s_x6 t_x5
        go_wp2_with fail
        go_ret
        exact ⟨rfl, by first | exact t_x6 | go_grown⟩
      · refine (meetV M1.out _).mono ?_
        rintro e x5 ⟨rfl, g_x5⟩
        have s_x5 : Below x4.heap.size x4 x5 := chain (by go_grown) g_x5
        have t_x5 := chain t_x4 s_x5
        replace s0 := keep s0 s_x5
        have z_s0_x5 := lt_of s0
        replace s1 := keep s1 s_x5
        replace s2 := keep s2 s_x5
        replace t0 := keep t0 s_x5
        have z_t0_x5 := lt_of t0
        replace t1 := keep t1 s_x5
        replace t2 := keep t2 s_x5
        replace v0 := keep v0 s_x5
        have z_v0_x5 := lt_of v0
        replace v1 := keep v1 s_x5
        replace v2 := keep v2 s_x5
        replace a0 := keep a0 s_x5
        have z_a0_x5 := lt_of a0
        replace a1 := keep a1 s_x5
        replace a2 := keep a2 s_x5
        replace b0 := keep b0 s_x5
        have z_b0_x5 := lt_of b0
        replace b1 := keep b1 s_x5
        replace b2 := keep b2 s_x5
        clear g_x5 s_x5 z_s0_x4 z_t0_x4 z_v0_x4 z_a0_x4 z_b_x4 t_x4
        go_wp2_with fail
        refine (meetV M2.out _).mono ?_
        rintro e x6 ⟨rfl, g_x6⟩
        have s_x6 : Below x5.heap.size x5 x6 := chain (by go_grown) g_x6
        have t_x6 := chain t_x5 s_x6
        replace s0 := keep s0 s_x6
        have z_s0_x6 := lt_of s0
        replace s1 := keep s1 s_x6
        replace s2 := keep s2 s_x6
        replace t0 := keep t0 s_x6
        have z_t0_x6 := lt_of t0
        replace t1 := keep t1 s_x6
        replace t2 := keep t2 s_x6
        replace v0 := keep v0 s_x6
        have z_v0_x6 := lt_of v0
        replace v1 := keep v1 s_x6
        replace v2 := keep v2 s_x6
        replace a0 := keep a0 s_x6
        have z_a0_x6 := lt_of a0
        replace a1 := keep a1 s_x6
        replace a2 := keep a2 s_x6
        replace b0 := keep b0 s_x6
        have z_b0_x6 := lt_of b0
        replace b1 := keep b1 s_x6
        replace b2 := keep b2 s_x6
        have c0 : x6.cell? ⟨x5.heap.size, 0, none⟩ = some (.int .i64 cL) := ((bcell g_x6).1 _ _ (by simp; try omega)).trans (by simp [go_sem])
        have c1 : x6.cell? ⟨x5.heap.size, 1, none⟩ = some (.int .i64 cH) := ((bcell g_x6).1 _ _ (by simp; try omega)).trans (by simp [go_sem])
        have c2 : x6.cell? ⟨x5.heap.size, 2, none⟩ = some (.int .i64 dA) := ((bcell g_x6).1 _ _ (by simp; try omega)).trans (by simp [go_sem])
        have z_c_x6 := lt_of c0
        clear g_x6 s_x6 t_x5
        go_wp2_with fail
        refine (insideT u1 u2 _).mono ?_
        rintro e x7 ⟨rfl, g_x7⟩
        have s_x7 : Below x6.heap.size x6 x7 := chain (by go_grown) g_x7
        have t_x7 := chain t_x6 s_x7
        replace s0 := keep s0 s_x7
        have z_s0_x7 := lt_of s0
        replace s1 := keep s1 s_x7
        replace s2 := keep s2 s_x7
        replace t0 := keep t0 s_x7
        have z_t0_x7 := lt_of t0
        replace t1 := keep t1 s_x7
        replace t2 := keep t2 s_x7
        replace v0 := keep v0 s_x7
        have z_v0_x7 := lt_of v0
        replace v1 := keep v1 s_x7
        replace v2 := keep v2 s_x7
        replace a0 := keep a0 s_x7
        have z_a0_x7 := lt_of a0
        replace a1 := keep a1 s_x7
        replace a2 := keep a2 s_x7
        replace b0 := keep b0 s_x7
        have z_b0_x7 := lt_of b0
        replace b1 := keep b1 s_x7
        replace b2 := keep b2 s_x7
        replace c0 := keep c0 s_x7
        have z_c0_x7 := lt_of c0
        replace c1 := keep c1 s_x7
        replace c2 := keep c2 s_x7
        have d0 : x7.cell? ⟨x6.heap.size, 0, none⟩ = some (.int .i64 dL) := ((bcell g_x7).1 _ _ (by simp; try omega)).trans (by simp [go_sem])
        have d1 : x7.cell? ⟨x6.heap.size, 1, none⟩ = some (.int .i64 dH) := ((bcell g_x7).1 _ _ (by simp; try omega)).trans (by simp [go_sem])
        have d2 : x7.cell? ⟨x6.heap.size, 2, none⟩ = some (.int .i64 dA) := ((bcell g_x7).1 _ _ (by simp; try omega)).trans (by simp [go_sem])
        have z_d_x7 := lt_of d0
        clear g_x7 s_x7 t_x6
        go_wp2_with fail
        go_ret
        exact ⟨rfl, by first | exact t_x7 | go_grown⟩
    · have hf : (F == 0) = false := by simp [hF]
      subst hE
      clear g1 g2 m1 m2 hw hF
      have t_w := Below.refl w.heap.size w
      go_enter Try.func10, Try.ntmps10
      go_wp2_with fail
      refine (bhead _).mono ?_
      rintro e x1 ⟨rfl, g_x1⟩
      have s_x1 : Below w.heap.size w x1 := chain (by go_grown) g_x1
      have t_x1 := chain t_w s_x1
      have s0 : x1.cell? ⟨w.heap.size, 0, none⟩ = some (.int .i64 L) := ((bcell g_x1).1 _ _ (by simp; try omega)).trans (by simp [go_sem])
      have s1 : x1.cell? ⟨w.heap.size, 1, none⟩ = some (.int .i64 H) := ((bcell g_x1).1 _ _ (by simp; try omega)).trans (by simp [go_sem])
      have s2 : x1.cell? ⟨w.heap.size, 2, none⟩ = some (.int .i64 A) := ((bcell g_x1).1 _ _ (by simp; try omega)).trans (by simp [go_sem])
      have z_s_x1 := lt_of s0
      have t0 : x1.cell? ⟨w.heap.size + 1, 0, none⟩ = some (.int .i64 tL) := ((bcell g_x1).1 _ _ (by simp; try omega)).trans (by simp [go_sem])
      have t1 : x1.cell? ⟨w.heap.size + 1, 1, none⟩ = some (.int .i64 tH) := ((bcell g_x1).1 _ _ (by simp; try omega)).trans (by simp [go_sem])
      have t2 : x1.cell? ⟨w.heap.size + 1, 2, none⟩ = some (.int .i64 tA) := ((bcell g_x1).1 _ _ (by simp; try omega)).trans (by simp [go_sem])
      have z_t_x1 := lt_of t0
      clear g_x1 s_x1 t_w
      go_wp2_with fail
      refine (growV G1.out _).mono ?_
      rintro e x2 ⟨rfl, g_x2⟩
      have s_x2 : Below x1.heap.size x1 x2 := chain (by go_grown) g_x2
      have t_x2 := chain t_x1 s_x2
      replace s0 := keep s0 s_x2
      have z_s0_x2 := lt_of s0
      replace s1 := keep s1 s_x2
      replace s2 := keep s2 s_x2
      replace t0 := keep t0 s_x2
      have z_t0_x2 := lt_of t0
      replace t1 := keep t1 s_x2
      replace t2 := keep t2 s_x2
      have v0 : x2.cell? ⟨x1.heap.size, 0, none⟩ = some (.int .i64 P) := ((bcell g_x2).1 _ _ (by simp; try omega)).trans (by simp [go_sem])
      have v1 : x2.cell? ⟨x1.heap.size, 1, none⟩ = some (.int .i64 Q) := ((bcell g_x2).1 _ _ (by simp; try omega)).trans (by simp [go_sem])
      have v2 : x2.cell? ⟨x1.heap.size, 2, none⟩ = some (.int .i64 A) := ((bcell g_x2).1 _ _ (by simp; try omega)).trans (by simp [go_sem])
      have z_v_x2 := lt_of v0
      clear g_x2 s_x2 t_x1
      go_wp2_with fail
      refine (growV G2.out _).mono ?_
      rintro e x3 ⟨rfl, g_x3⟩
      have s_x3 : Below x2.heap.size x2 x3 := chain (by go_grown) g_x3
      have t_x3 := chain t_x2 s_x3
      replace s0 := keep s0 s_x3
      have z_s0_x3 := lt_of s0
      replace s1 := keep s1 s_x3
      replace s2 := keep s2 s_x3
      replace t0 := keep t0 s_x3
      have z_t0_x3 := lt_of t0
      replace t1 := keep t1 s_x3
      replace t2 := keep t2 s_x3
      replace v0 := keep v0 s_x3
      have z_v0_x3 := lt_of v0
      replace v1 := keep v1 s_x3
      replace v2 := keep v2 s_x3
      have a0 : x3.cell? ⟨x2.heap.size, 0, none⟩ = some (.int .i64 aL) := ((bcell g_x3).1 _ _ (by simp; try omega)).trans (by simp [go_sem])
      have a1 : x3.cell? ⟨x2.heap.size, 1, none⟩ = some (.int .i64 aH) := ((bcell g_x3).1 _ _ (by simp; try omega)).trans (by simp [go_sem])
      have a2 : x3.cell? ⟨x2.heap.size, 2, none⟩ = some (.int .i64 aA) := ((bcell g_x3).1 _ _ (by simp; try omega)).trans (by simp [go_sem])
      have z_a_x3 := lt_of a0
      clear g_x3 s_x3 t_x2
      go_wp2_with fail
      rcases hc with hc | ⟨rfl, rfl | rfl⟩ | ⟨rfl, rfl, u1, u2, rfl⟩
      · refine (meetV M1.out _).mono ?_
        rintro e x5 ⟨rfl, g_x5⟩
        have s_x5 : Below x3.heap.size x3 x5 := chain (by go_grown) g_x5
        have t_x5 := chain t_x3 s_x5
        replace s0 := keep s0 s_x5
        have z_s0_x5 := lt_of s0
        replace s1 := keep s1 s_x5
        replace s2 := keep s2 s_x5
        replace t0 := keep t0 s_x5
        have z_t0_x5 := lt_of t0
        replace t1 := keep t1 s_x5
        replace t2 := keep t2 s_x5
        replace v0 := keep v0 s_x5
        have z_v0_x5 := lt_of v0
        replace v1 := keep v1 s_x5
        replace v2 := keep v2 s_x5
        replace a0 := keep a0 s_x5
        have z_a0_x5 := lt_of a0
        replace a1 := keep a1 s_x5
        replace a2 := keep a2 s_x5
        have b0 : x5.cell? ⟨x3.heap.size, 0, none⟩ = some (.int .i64 bL) := ((bcell g_x5).1 _ _ (by simp; try omega)).trans (by simp [go_sem])
        have b1 : x5.cell? ⟨x3.heap.size, 1, none⟩ = some (.int .i64 bH) := ((bcell g_x5).1 _ _ (by simp; try omega)).trans (by simp [go_sem])
        have b2 : x5.cell? ⟨x3.heap.size, 2, none⟩ = some (.int .i64 bA) := ((bcell g_x5).1 _ _ (by simp; try omega)).trans (by simp [go_sem])
        have z_b_x5 := lt_of b0
        clear g_x5 s_x5 t_x3
        go_wp2_with fail
        refine (meetV M2.out _).mono ?_
        rintro e x6 ⟨rfl, g_x6⟩
        have s_x6 : Below x5.heap.size x5 x6 := chain (by go_grown) g_x6
        have t_x6 := chain t_x5 s_x6
        replace s0 := keep s0 s_x6
        have z_s0_x6 := lt_of s0
        replace s1 := keep s1 s_x6
        replace s2 := keep s2 s_x6
        replace t0 := keep t0 s_x6
        have z_t0_x6 := lt_of t0
        replace t1 := keep t1 s_x6
        replace t2 := keep t2 s_x6
        replace v0 := keep v0 s_x6
        have z_v0_x6 := lt_of v0
        replace v1 := keep v1 s_x6
        replace v2 := keep v2 s_x6
        replace a0 := keep a0 s_x6
        have z_a0_x6 := lt_of a0
        replace a1 := keep a1 s_x6
        replace a2 := keep a2 s_x6
        replace b0 := keep b0 s_x6
        have z_b0_x6 := lt_of b0
        replace b1 := keep b1 s_x6
        replace b2 := keep b2 s_x6
        have c0 : x6.cell? ⟨x5.heap.size, 0, none⟩ = some (.int .i64 cL) := ((bcell g_x6).1 _ _ (by simp; try omega)).trans (by simp [go_sem])
        have c1 : x6.cell? ⟨x5.heap.size, 1, none⟩ = some (.int .i64 cH) := ((bcell g_x6).1 _ _ (by simp; try omega)).trans (by simp [go_sem])
        have c2 : x6.cell? ⟨x5.heap.size, 2, none⟩ = some (.int .i64 cA) := ((bcell g_x6).1 _ _ (by simp; try omega)).trans (by simp [go_sem])
        have z_c_x6 := lt_of c0
        clear g_x6 s_x6 t_x5
        go_wp2_with fail
        go_ret
        exact ⟨rfl, by first | exact t_x6 | go_grown⟩
      · refine (meetV M1.out _).mono ?_
        rintro e x5 ⟨rfl, g_x5⟩
        have s_x5 : Below x3.heap.size x3 x5 := chain (by go_grown) g_x5
        have t_x5 := chain t_x3 s_x5
        replace s0 := keep s0 s_x5
        have z_s0_x5 := lt_of s0
        replace s1 := keep s1 s_x5
        replace s2 := keep s2 s_x5
        replace t0 := keep t0 s_x5
        have z_t0_x5 := lt_of t0
        replace t1 := keep t1 s_x5
        replace t2 := keep t2 s_x5
        replace v0 := keep v0 s_x5
        have z_v0_x5 := lt_of v0
        replace v1 := keep v1 s_x5
        replace v2 := keep v2 s_x5
        replace a0 := keep a0 s_x5
        have z_a0_x5 := lt_of a0
        replace a1 := keep a1 s_x5
        replace a2 := keep a2 s_x5
        have b0 : x5.cell? ⟨x3.heap.size, 0, none⟩ = some (.int .i64 bL) := ((bcell g_x5).1 _ _ (by simp; try omega)).trans (by simp [go_sem])
        have b1 : x5.cell? ⟨x3.heap.size, 1, none⟩ = some (.int .i64 bH) := ((bcell g_x5).1 _ _ (by simp; try omega)).trans (by simp [go_sem])
        have b2 : x5.cell? ⟨x3.heap.size, 2, none⟩ = some (.int .i64 bA) := ((bcell g_x5).1 _ _ (by simp; try omega)).trans (by simp [go_sem])
        have z_b_x5 := lt_of b0
        clear g_x5 s_x5 t_x3
        go_wp2_with fail
        refine (meetV M2.out _).mono ?_
        rintro e x6 ⟨rfl, g_x6⟩
        have s_x6 : Below x5.heap.size x5 x6 := chain (by go_grown) g_x6
        have t_x6 := chain t_x5 s_x6
        replace s0 := keep s0 s_x6
        have z_s0_x6 := lt_of s0
        replace s1 := keep s1 s_x6
        replace s2 := keep s2 s_x6
        replace t0 := keep t0 s_x6
        have z_t0_x6 := lt_of t0
        replace t1 := keep t1 s_x6
        replace t2 := keep t2 s_x6
        replace v0 := keep v0 s_x6
        have z_v0_x6 := lt_of v0
        replace v1 := keep v1 s_x6
        replace v2 := keep v2 s_x6
        replace a0 := keep a0 s_x6
        have z_a0_x6 := lt_of a0
        replace a1 := keep a1 s_x6
        replace a2 := keep a2 s_x6
        replace b0 := keep b0 s_x6
        have z_b0_x6 := lt_of b0
        replace b1 := keep b1 s_x6
        replace b2 := keep b2 s_x6
        have c0 : x6.cell? ⟨x5.heap.size, 0, none⟩ = some (.int .i64 cL) := ((bcell g_x6).1 _ _ (by simp; try omega)).trans (by simp [go_sem])
        have c1 : x6.cell? ⟨x5.heap.size, 1, none⟩ = some (.int .i64 cH) := ((bcell g_x6).1 _ _ (by simp; try omega)).trans (by simp [go_sem])
        have c2 : x6.cell? ⟨x5.heap.size, 2, none⟩ = some (.int .i64 cA) := ((bcell g_x6).1 _ _ (by simp; try omega)).trans (by simp [go_sem])
        have z_c_x6 := lt_of c0
        clear g_x6 s_x6 t_x5
        go_wp2_with fail
        go_ret
        exact ⟨rfl, by first | exact t_x6 | go_grown⟩
      · refine (meetV M1.out _).mono ?_
        rintro e x5 ⟨rfl, g_x5⟩
        have s_x5 : Below x3.heap.size x3 x5 := chain (by go_grown) g_x5
        have t_x5 := chain t_x3 s_x5
        replace s0 := keep s0 s_x5
        have z_s0_x5 := lt_of s0
        replace s1 := keep s1 s_x5
        replace s2 := keep s2 s_x5
        replace t0 := keep t0 s_x5
        have z_t0_x5 := lt_of t0
        replace t1 := keep t1 s_x5
        replace t2 := keep t2 s_x5
        replace v0 := keep v0 s_x5
        have z_v0_x5 := lt_of v0
        replace v1 := keep v1 s_x5
        replace v2 := keep v2 s_x5
        replace a0 := keep a0 s_x5
        have z_a0_x5 := lt_of a0
        replace a1 := keep a1 s_x5
        replace a2 := keep a2 s_x5
        have b0 : x5.cell? ⟨x3.heap.size, 0, none⟩ = some (.int .i64 bL) := ((bcell g_x5).1 _ _ (by simp; try omega)).trans (by simp [go_sem])
        have b1 : x5.cell? ⟨x3.heap.size, 1, none⟩ = some (.int .i64 bH) := ((bcell g_x5).1 _ _ (by simp; try omega)).trans (by simp [go_sem])
        have b2 : x5.cell? ⟨x3.heap.size, 2, none⟩ = some (.int .i64 bA) := ((bcell g_x5).1 _ _ (by simp; try omega)).trans (by simp [go_sem])
        have z_b_x5 := lt_of b0
        clear g_x5 s_x5 t_x3
        go_wp2_with fail
        refine (meetV M2.out _).mono ?_
        rintro e x6 ⟨rfl, g_x6⟩
        have s_x6 : Below x5.heap.size x5 x6 := chain (by go_grown) g_x6
        have t_x6 := chain t_x5 s_x6
        replace s0 := keep s0 s_x6
        have z_s0_x6 := lt_of s0
        replace s1 := keep s1 s_x6
        replace s2 := keep s2 s_x6
        replace t0 := keep t0 s_x6
        have z_t0_x6 := lt_of t0
        replace t1 := keep t1 s_x6
        replace t2 := keep t2 s_x6
        replace v0 := keep v0 s_x6
        have z_v0_x6 := lt_of v0
        replace v1 := keep v1 s_x6
        replace v2 := keep v2 s_x6
        replace a0 := keep a0 s_x6
        have z_a0_x6 := lt_of a0
        replace a1 := keep a1 s_x6
        replace a2 := keep a2 s_x6
        replace b0 := keep b0 s_x6
        have z_b0_x6 := lt_of b0
        replace b1 := keep b1 s_x6
        replace b2 := keep b2 s_x6
        have c0 : x6.cell? ⟨x5.heap.size, 0, none⟩ = some (.int .i64 cL) := ((bcell g_x6).1 _ _ (by simp; try omega)).trans (by simp [go_sem])
        have c1 : x6.cell? ⟨x5.heap.size, 1, none⟩ = some (.int .i64 cH) := ((bcell g_x6).1 _ _ (by simp; try omega)).trans (by simp [go_sem])
        have c2 : x6.cell? ⟨x5.heap.size, 2, none⟩ = some (.int .i64 cA) := ((bcell g_x6).1 _ _ (by simp; try omega)).trans (by simp [go_sem])
        have z_c_x6 := lt_of c0
        clear g_x6 s_x6 t_x5
        go_wp2_with fail
        go_ret
        exact ⟨rfl, by first | exact t_x6 | go_grown⟩
      · refine (meetV M1.out _).mono ?_
        rintro e x5 ⟨rfl, g_x5⟩
        have s_x5 : Below x3.heap.size x3 x5 := chain (by go_grown) g_x5
        have t_x5 := chain t_x3 s_x5
        replace s0 := keep s0 s_x5
        have z_s0_x5 := lt_of s0
        replace s1 := keep s1 s_x5
        replace s2 := keep s2 s_x5
        replace t0 := keep t0 s_x5
        have z_t0_x5 := lt_of t0
        replace t1 := keep t1 s_x5
        replace t2 := keep t2 s_x5
        replace v0 := keep v0 s_x5
        have z_v0_x5 := lt_of v0
        replace v1 := keep v1 s_x5
        replace v2 := keep v2 s_x5
        replace a0 := keep a0 s_x5
        have z_a0_x5 := lt_of a0
        replace a1 := keep a1 s_x5
        replace a2 := keep a2 s_x5
        have b0 : x5.cell? ⟨x3.heap.size, 0, none⟩ = some (.int .i64 bL) := ((bcell g_x5).1 _ _ (by simp; try omega)).trans (by simp [go_sem])
        have b1 : x5.cell? ⟨x3.heap.size, 1, none⟩ = some (.int .i64 bH) := ((bcell g_x5).1 _ _ (by simp; try omega)).trans (by simp [go_sem])
        have b2 : x5.cell? ⟨x3.heap.size, 2, none⟩ = some (.int .i64 bA) := ((bcell g_x5).1 _ _ (by simp; try omega)).trans (by simp [go_sem])
        have z_b_x5 := lt_of b0
        clear g_x5 s_x5 t_x3
        go_wp2_with fail
        refine (meetV M2.out _).mono ?_
        rintro e x6 ⟨rfl, g_x6⟩
        have s_x6 : Below x5.heap.size x5 x6 := chain (by go_grown) g_x6
        have t_x6 := chain t_x5 s_x6
        replace s0 := keep s0 s_x6
        have z_s0_x6 := lt_of s0
        replace s1 := keep s1 s_x6
        replace s2 := keep s2 s_x6
        replace t0 := keep t0 s_x6
        have z_t0_x6 := lt_of t0
        replace t1 := keep t1 s_x6
        replace t2 := keep t2 s_x6
        replace v0 := keep v0 s_x6
        have z_v0_x6 := lt_of v0
        replace v1 := keep v1 s_x6
        replace v2 := keep v2 s_x6
        replace a0 := keep a0 s_x6
        have z_a0_x6 := lt_of a0
        replace a1 := keep a1 s_x6
        replace a2 := keep a2 s_x6
        replace b0 := keep b0 s_x6
        have z_b0_x6 := lt_of b0
        replace b1 := keep b1 s_x6
        replace b2 := keep b2 s_x6
        have c0 : x6.cell? ⟨x5.heap.size, 0, none⟩ = some (.int .i64 cL) := ((bcell g_x6).1 _ _ (by simp; try omega)).trans (by simp [go_sem])
        have c1 : x6.cell? ⟨x5.heap.size, 1, none⟩ = some (.int .i64 cH) := ((bcell g_x6).1 _ _ (by simp; try omega)).trans (by simp [go_sem])
        have c2 : x6.cell? ⟨x5.heap.size, 2, none⟩ = some (.int .i64 dA) := ((bcell g_x6).1 _ _ (by simp; try omega)).trans (by simp [go_sem])
        have z_c_x6 := lt_of c0
        clear g_x6 s_x6 t_x5
        go_wp2_with fail
        refine (insideT u1 u2 _).mono ?_
        rintro e x7 ⟨rfl, g_x7⟩
        have s_x7 : Below x6.heap.size x6 x7 := chain (by go_grown) g_x7
        have t_x7 := chain t_x6 s_x7
        replace s0 := keep s0 s_x7
        have z_s0_x7 := lt_of s0
        replace s1 := keep s1 s_x7
        replace s2 := keep s2 s_x7
        replace t0 := keep t0 s_x7
        have z_t0_x7 := lt_of t0
        replace t1 := keep t1 s_x7
        replace t2 := keep t2 s_x7
        replace v0 := keep v0 s_x7
        have z_v0_x7 := lt_of v0
        replace v1 := keep v1 s_x7
        replace v2 := keep v2 s_x7
        replace a0 := keep a0 s_x7
        have z_a0_x7 := lt_of a0
        replace a1 := keep a1 s_x7
        replace a2 := keep a2 s_x7
        replace b0 := keep b0 s_x7
        have z_b0_x7 := lt_of b0
        replace b1 := keep b1 s_x7
        replace b2 := keep b2 s_x7
        replace c0 := keep c0 s_x7
        have z_c0_x7 := lt_of c0
        replace c1 := keep c1 s_x7
        replace c2 := keep c2 s_x7
        have d0 : x7.cell? ⟨x6.heap.size, 0, none⟩ = some (.int .i64 dL) := ((bcell g_x7).1 _ _ (by simp; try omega)).trans (by simp [go_sem])
        have d1 : x7.cell? ⟨x6.heap.size, 1, none⟩ = some (.int .i64 dH) := ((bcell g_x7).1 _ _ (by simp; try omega)).trans (by simp [go_sem])
        have d2 : x7.cell? ⟨x6.heap.size, 2, none⟩ = some (.int .i64 dA) := ((bcell g_x7).1 _ _ (by simp; try omega)).trans (by simp [go_sem])
        have z_d_x7 := lt_of d0
        clear g_x7 s_x7 t_x6
        go_wp2_with fail
        go_ret
        exact ⟨rfl, by first | exact t_x7 | go_grown⟩
  · have he : (E == 0) = false := by simp [hE]
    clear g1 g2 m1 m2 hw hE
    have t_w := Below.refl w.heap.size w
    go_enter Try.func10, Try.ntmps10
    go_wp2_with fail
    refine (bhead _).mono ?_
    rintro e x1 ⟨rfl, g_x1⟩
    have s_x1 : Below w.heap.size w x1 := chain (by go_grown) g_x1
    have t_x1 := chain t_w s_x1
    have s0 : x1.cell? ⟨w.heap.size, 0, none⟩ = some (.int .i64 L) := ((bcell g_x1).1 _ _ (by simp; try omega)).trans (by simp [go_sem])
    have s1 : x1.cell? ⟨w.heap.size, 1, none⟩ = some (.int .i64 H) := ((bcell g_x1).1 _ _ (by simp; try omega)).trans (by simp [go_sem])
    have s2 : x1.cell? ⟨w.heap.size, 2, none⟩ = some (.int .i64 A) := ((bcell g_x1).1 _ _ (by simp; try omega)).trans (by simp [go_sem])
    have z_s_x1 := lt_of s0
    have t0 : x1.cell? ⟨w.heap.size + 1, 0, none⟩ = some (.int .i64 tL) := ((bcell g_x1).1 _ _ (by simp; try omega)).trans (by simp [go_sem])
    have t1 : x1.cell? ⟨w.heap.size + 1, 1, none⟩ = some (.int .i64 tH) := ((bcell g_x1).1 _ _ (by simp; try omega)).trans (by simp [go_sem])
    have t2 : x1.cell? ⟨w.heap.size + 1, 2, none⟩ = some (.int .i64 tA) := ((bcell g_x1).1 _ _ (by simp; try omega)).trans (by simp [go_sem])
    have z_t_x1 := lt_of t0
    clear g_x1 s_x1 t_w
    go_wp2_with fail
    refine (growV G1.out _).mono ?_
    rintro e x2 ⟨rfl, g_x2⟩
    have s_x2 : Below x1.heap.size x1 x2 := chain (by go_grown) g_x2
    have t_x2 := chain t_x1 s_x2
    replace s0 := keep s0 s_x2
    have z_s0_x2 := lt_of s0
    replace s1 := keep s1 s_x2
    replace s2 := keep s2 s_x2
    replace t0 := keep t0 s_x2
    have z_t0_x2 := lt_of t0
    replace t1 := keep t1 s_x2
    replace t2 := keep t2 s_x2
    have v0 : x2.cell? ⟨x1.heap.size, 0, none⟩ = some (.int .i64 P) := ((bcell g_x2).1 _ _ (by simp; try omega)).trans (by simp [go_sem])
    have v1 : x2.cell? ⟨x1.heap.size, 1, none⟩ = some (.int .i64 Q) := ((bcell g_x2).1 _ _ (by simp; try omega)).trans (by simp [go_sem])
    have v2 : x2.cell? ⟨x1.heap.size, 2, none⟩ = some (.int .i64 A) := ((bcell g_x2).1 _ _ (by simp; try omega)).trans (by simp [go_sem])
    have z_v_x2 := lt_of v0
    clear g_x2 s_x2 t_x1
    go_wp2_with fail
    refine (growV G2.out _).mono ?_
    rintro e x3 ⟨rfl, g_x3⟩
    have s_x3 : Below x2.heap.size x2 x3 := chain (by go_grown) g_x3
    have t_x3 := chain t_x2 s_x3
    replace s0 := keep s0 s_x3
    have z_s0_x3 := lt_of s0
    replace s1 := keep s1 s_x3
    replace s2 := keep s2 s_x3
    replace t0 := keep t0 s_x3
    have z_t0_x3 := lt_of t0
    replace t1 := keep t1 s_x3
    replace t2 := keep t2 s_x3
    replace v0 := keep v0 s_x3
    have z_v0_x3 := lt_of v0
    replace v1 := keep v1 s_x3
    replace v2 := keep v2 s_x3
    have a0 : x3.cell? ⟨x2.heap.size, 0, none⟩ = some (.int .i64 aL) := ((bcell g_x3).1 _ _ (by simp; try omega)).trans (by simp [go_sem])
    have a1 : x3.cell? ⟨x2.heap.size, 1, none⟩ = some (.int .i64 aH) := ((bcell g_x3).1 _ _ (by simp; try omega)).trans (by simp [go_sem])
    have a2 : x3.cell? ⟨x2.heap.size, 2, none⟩ = some (.int .i64 aA) := ((bcell g_x3).1 _ _ (by simp; try omega)).trans (by simp [go_sem])
    have z_a_x3 := lt_of a0
    clear g_x3 s_x3 t_x2
    go_wp2_with fail
    rcases hc with hc | ⟨rfl, rfl | rfl⟩ | ⟨rfl, rfl, u1, u2, rfl⟩
    · refine (meetV M1.out _).mono ?_
      rintro e x5 ⟨rfl, g_x5⟩
      have s_x5 : Below x3.heap.size x3 x5 := chain (by go_grown) g_x5
      have t_x5 := chain t_x3 s_x5
      replace s0 := keep s0 s_x5
      have z_s0_x5 := lt_of s0
      replace s1 := keep s1 s_x5
      replace s2 := keep s2 s_x5
      replace t0 := keep t0 s_x5
      have z_t0_x5 := lt_of t0
      replace t1 := keep t1 s_x5
      replace t2 := keep t2 s_x5
      replace v0 := keep v0 s_x5
      have z_v0_x5 := lt_of v0
      replace v1 := keep v1 s_x5
      replace v2 := keep v2 s_x5
      replace a0 := keep a0 s_x5
      have z_a0_x5 := lt_of a0
      replace a1 := keep a1 s_x5
      replace a2 := keep a2 s_x5
      have b0 : x5.cell? ⟨x3.heap.size, 0, none⟩ = some (.int .i64 bL) := ((bcell g_x5).1 _ _ (by simp; try omega)).trans (by simp [go_sem])
      have b1 : x5.cell? ⟨x3.heap.size, 1, none⟩ = some (.int .i64 bH) := ((bcell g_x5).1 _ _ (by simp; try omega)).trans (by simp [go_sem])
      have b2 : x5.cell? ⟨x3.heap.size, 2, none⟩ = some (.int .i64 bA) := ((bcell g_x5).1 _ _ (by simp; try omega)).trans (by simp [go_sem])
      have z_b_x5 := lt_of b0
      clear g_x5 s_x5 t_x3
      go_wp2_with fail
      refine (meetV M2.out _).mono ?_
      rintro e x6 ⟨rfl, g_x6⟩
      have s_x6 : Below x5.heap.size x5 x6 := chain (by go_grown) g_x6
      have t_x6 := chain t_x5 s_x6
      replace s0 := keep s0 s_x6
      have z_s0_x6 := lt_of s0
      replace s1 := keep s1 s_x6
      replace s2 := keep s2 s_x6
      replace t0 := keep t0 s_x6
      have z_t0_x6 := lt_of t0
      replace t1 := keep t1 s_x6
      replace t2 := keep t2 s_x6
      replace v0 := keep v0 s_x6
      have z_v0_x6 := lt_of v0
      replace v1 := keep v1 s_x6
      replace v2 := keep v2 s_x6
      replace a0 := keep a0 s_x6
      have z_a0_x6 := lt_of a0
      replace a1 := keep a1 s_x6
      replace a2 := keep a2 s_x6
      replace b0 := keep b0 s_x6
      have z_b0_x6 := lt_of b0
      replace b1 := keep b1 s_x6
      replace b2 := keep b2 s_x6
      have c0 : x6.cell? ⟨x5.heap.size, 0, none⟩ = some (.int .i64 cL) := ((bcell g_x6).1 _ _ (by simp; try omega)).trans (by simp [go_sem])
      have c1 : x6.cell? ⟨x5.heap.size, 1, none⟩ = some (.int .i64 cH) := ((bcell g_x6).1 _ _ (by simp; try omega)).trans (by simp [go_sem])
      have c2 : x6.cell? ⟨x5.heap.size, 2, none⟩ = some (.int .i64 cA) := ((bcell g_x6).1 _ _ (by simp; try omega)).trans (by simp [go_sem])
      have z_c_x6 := lt_of c0
      clear g_x6 s_x6 t_x5
      go_wp2_with fail
      go_ret
      exact ⟨rfl, by first | exact t_x6 | go_grown⟩
    · refine (meetV M1.out _).mono ?_
      rintro e x5 ⟨rfl, g_x5⟩
      have s_x5 : Below x3.heap.size x3 x5 := chain (by go_grown) g_x5
      have t_x5 := chain t_x3 s_x5
      replace s0 := keep s0 s_x5
      have z_s0_x5 := lt_of s0
      replace s1 := keep s1 s_x5
      replace s2 := keep s2 s_x5
      replace t0 := keep t0 s_x5
      have z_t0_x5 := lt_of t0
      replace t1 := keep t1 s_x5
      replace t2 := keep t2 s_x5
      replace v0 := keep v0 s_x5
      have z_v0_x5 := lt_of v0
      replace v1 := keep v1 s_x5
      replace v2 := keep v2 s_x5
      replace a0 := keep a0 s_x5
      have z_a0_x5 := lt_of a0
      replace a1 := keep a1 s_x5
      replace a2 := keep a2 s_x5
      have b0 : x5.cell? ⟨x3.heap.size, 0, none⟩ = some (.int .i64 bL) := ((bcell g_x5).1 _ _ (by simp; try omega)).trans (by simp [go_sem])
      have b1 : x5.cell? ⟨x3.heap.size, 1, none⟩ = some (.int .i64 bH) := ((bcell g_x5).1 _ _ (by simp; try omega)).trans (by simp [go_sem])
      have b2 : x5.cell? ⟨x3.heap.size, 2, none⟩ = some (.int .i64 bA) := ((bcell g_x5).1 _ _ (by simp; try omega)).trans (by simp [go_sem])
      have z_b_x5 := lt_of b0
      clear g_x5 s_x5 t_x3
      go_wp2_with fail
      refine (meetV M2.out _).mono ?_
      rintro e x6 ⟨rfl, g_x6⟩
      have s_x6 : Below x5.heap.size x5 x6 := chain (by go_grown) g_x6
      have t_x6 := chain t_x5 s_x6
      replace s0 := keep s0 s_x6
      have z_s0_x6 := lt_of s0
      replace s1 := keep s1 s_x6
      replace s2 := keep s2 s_x6
      replace t0 := keep t0 s_x6
      have z_t0_x6 := lt_of t0
      replace t1 := keep t1 s_x6
      replace t2 := keep t2 s_x6
      replace v0 := keep v0 s_x6
      have z_v0_x6 := lt_of v0
      replace v1 := keep v1 s_x6
      replace v2 := keep v2 s_x6
      replace a0 := keep a0 s_x6
      have z_a0_x6 := lt_of a0
      replace a1 := keep a1 s_x6
      replace a2 := keep a2 s_x6
      replace b0 := keep b0 s_x6
      have z_b0_x6 := lt_of b0
      replace b1 := keep b1 s_x6
      replace b2 := keep b2 s_x6
      have c0 : x6.cell? ⟨x5.heap.size, 0, none⟩ = some (.int .i64 cL) := ((bcell g_x6).1 _ _ (by simp; try omega)).trans (by simp [go_sem])
      have c1 : x6.cell? ⟨x5.heap.size, 1, none⟩ = some (.int .i64 cH) := ((bcell g_x6).1 _ _ (by simp; try omega)).trans (by simp [go_sem])
      have c2 : x6.cell? ⟨x5.heap.size, 2, none⟩ = some (.int .i64 cA) := ((bcell g_x6).1 _ _ (by simp; try omega)).trans (by simp [go_sem])
      have z_c_x6 := lt_of c0
      clear g_x6 s_x6 t_x5
      go_wp2_with fail
      go_ret
      exact ⟨rfl, by first | exact t_x6 | go_grown⟩
    · refine (meetV M1.out _).mono ?_
      rintro e x5 ⟨rfl, g_x5⟩
      have s_x5 : Below x3.heap.size x3 x5 := chain (by go_grown) g_x5
      have t_x5 := chain t_x3 s_x5
      replace s0 := keep s0 s_x5
      have z_s0_x5 := lt_of s0
      replace s1 := keep s1 s_x5
      replace s2 := keep s2 s_x5
      replace t0 := keep t0 s_x5
      have z_t0_x5 := lt_of t0
      replace t1 := keep t1 s_x5
      replace t2 := keep t2 s_x5
      replace v0 := keep v0 s_x5
      have z_v0_x5 := lt_of v0
      replace v1 := keep v1 s_x5
      replace v2 := keep v2 s_x5
      replace a0 := keep a0 s_x5
      have z_a0_x5 := lt_of a0
      replace a1 := keep a1 s_x5
      replace a2 := keep a2 s_x5
      have b0 : x5.cell? ⟨x3.heap.size, 0, none⟩ = some (.int .i64 bL) := ((bcell g_x5).1 _ _ (by simp; try omega)).trans (by simp [go_sem])
      have b1 : x5.cell? ⟨x3.heap.size, 1, none⟩ = some (.int .i64 bH) := ((bcell g_x5).1 _ _ (by simp; try omega)).trans (by simp [go_sem])
      have b2 : x5.cell? ⟨x3.heap.size, 2, none⟩ = some (.int .i64 bA) := ((bcell g_x5).1 _ _ (by simp; try omega)).trans (by simp [go_sem])
      have z_b_x5 := lt_of b0
      clear g_x5 s_x5 t_x3
      go_wp2_with fail
      refine (meetV M2.out _).mono ?_
      rintro e x6 ⟨rfl, g_x6⟩
      have s_x6 : Below x5.heap.size x5 x6 := chain (by go_grown) g_x6
      have t_x6 := chain t_x5 s_x6
      replace s0 := keep s0 s_x6
      have z_s0_x6 := lt_of s0
      replace s1 := keep s1 s_x6
      replace s2 := keep s2 s_x6
      replace t0 := keep t0 s_x6
      have z_t0_x6 := lt_of t0
      replace t1 := keep t1 s_x6
      replace t2 := keep t2 s_x6
      replace v0 := keep v0 s_x6
      have z_v0_x6 := lt_of v0
      replace v1 := keep v1 s_x6
      replace v2 := keep v2 s_x6
      replace a0 := keep a0 s_x6
      have z_a0_x6 := lt_of a0
      replace a1 := keep a1 s_x6
      replace a2 := keep a2 s_x6
      replace b0 := keep b0 s_x6
      have z_b0_x6 := lt_of b0
      replace b1 := keep b1 s_x6
      replace b2 := keep b2 s_x6
      have c0 : x6.cell? ⟨x5.heap.size, 0, none⟩ = some (.int .i64 cL) := ((bcell g_x6).1 _ _ (by simp; try omega)).trans (by simp [go_sem])
      have c1 : x6.cell? ⟨x5.heap.size, 1, none⟩ = some (.int .i64 cH) := ((bcell g_x6).1 _ _ (by simp; try omega)).trans (by simp [go_sem])
      have c2 : x6.cell? ⟨x5.heap.size, 2, none⟩ = some (.int .i64 cA) := ((bcell g_x6).1 _ _ (by simp; try omega)).trans (by simp [go_sem])
      have z_c_x6 := lt_of c0
      clear g_x6 s_x6 t_x5
      go_wp2_with fail
      go_ret
      exact ⟨rfl, by first | exact t_x6 | go_grown⟩
    · refine (meetV M1.out _).mono ?_
      rintro e x5 ⟨rfl, g_x5⟩
      have s_x5 : Below x3.heap.size x3 x5 := chain (by go_grown) g_x5
      have t_x5 := chain t_x3 s_x5
      replace s0 := keep s0 s_x5
      have z_s0_x5 := lt_of s0
      replace s1 := keep s1 s_x5
      replace s2 := keep s2 s_x5
      replace t0 := keep t0 s_x5
      have z_t0_x5 := lt_of t0
      replace t1 := keep t1 s_x5
      replace t2 := keep t2 s_x5
      replace v0 := keep v0 s_x5
      have z_v0_x5 := lt_of v0
      replace v1 := keep v1 s_x5
      replace v2 := keep v2 s_x5
      replace a0 := keep a0 s_x5
      have z_a0_x5 := lt_of a0
      replace a1 := keep a1 s_x5
      replace a2 := keep a2 s_x5
      have b0 : x5.cell? ⟨x3.heap.size, 0, none⟩ = some (.int .i64 bL) := ((bcell g_x5).1 _ _ (by simp; try omega)).trans (by simp [go_sem])
      have b1 : x5.cell? ⟨x3.heap.size, 1, none⟩ = some (.int .i64 bH) := ((bcell g_x5).1 _ _ (by simp; try omega)).trans (by simp [go_sem])
      have b2 : x5.cell? ⟨x3.heap.size, 2, none⟩ = some (.int .i64 bA) := ((bcell g_x5).1 _ _ (by simp; try omega)).trans (by simp [go_sem])
      have z_b_x5 := lt_of b0
      clear g_x5 s_x5 t_x3
      go_wp2_with fail
      refine (meetV M2.out _).mono ?_
      rintro e x6 ⟨rfl, g_x6⟩
      have s_x6 : Below x5.heap.size x5 x6 := chain (by go_grown) g_x6
      have t_x6 := chain t_x5 s_x6
      replace s0 := keep s0 s_x6
      have z_s0_x6 := lt_of s0
      replace s1 := keep s1 s_x6
      replace s2 := keep s2 s_x6
      replace t0 := keep t0 s_x6
      have z_t0_x6 := lt_of t0
      replace t1 := keep t1 s_x6
      replace t2 := keep t2 s_x6
      replace v0 := keep v0 s_x6
      have z_v0_x6 := lt_of v0
      replace v1 := keep v1 s_x6
      replace v2 := keep v2 s_x6
      replace a0 := keep a0 s_x6
      have z_a0_x6 := lt_of a0
      replace a1 := keep a1 s_x6
      replace a2 := keep a2 s_x6
      replace b0 := keep b0 s_x6
      have z_b0_x6 := lt_of b0
      replace b1 := keep b1 s_x6
      replace b2 := keep b2 s_x6
      have c0 : x6.cell? ⟨x5.heap.size, 0, none⟩ = some (.int .i64 cL) := ((bcell g_x6).1 _ _ (by simp; try omega)).trans (by simp [go_sem])
      have c1 : x6.cell? ⟨x5.heap.size, 1, none⟩ = some (.int .i64 cH) := ((bcell g_x6).1 _ _ (by simp; try omega)).trans (by simp [go_sem])
      have c2 : x6.cell? ⟨x5.heap.size, 2, none⟩ = some (.int .i64 dA) := ((bcell g_x6).1 _ _ (by simp; try omega)).trans (by simp [go_sem])
      have z_c_x6 := lt_of c0
      clear g_x6 s_x6 t_x5
      go_wp2_with fail
      refine (insideT u1 u2 _).mono ?_
      rintro e x7 ⟨rfl, g_x7⟩
      have s_x7 : Below x6.heap.size x6 x7 := chain (by go_grown) g_x7
      have t_x7 := chain t_x6 s_x7
      replace s0 := keep s0 s_x7
      have z_s0_x7 := lt_of s0
      replace s1 := keep s1 s_x7
      replace s2 := keep s2 s_x7
      replace t0 := keep t0 s_x7
      have z_t0_x7 := lt_of t0
      replace t1 := keep t1 s_x7
      replace t2 := keep t2 s_x7
      replace v0 := keep v0 s_x7
      have z_v0_x7 := lt_of v0
      replace v1 := keep v1 s_x7
      replace v2 := keep v2 s_x7
      replace a0 := keep a0 s_x7
      have z_a0_x7 := lt_of a0
      replace a1 := keep a1 s_x7
      replace a2 := keep a2 s_x7
      replace b0 := keep b0 s_x7
      have z_b0_x7 := lt_of b0
      replace b1 := keep b1 s_x7
      replace b2 := keep b2 s_x7
      replace c0 := keep c0 s_x7
      have z_c0_x7 := lt_of c0
      replace c1 := keep c1 s_x7
      replace c2 := keep c2 s_x7
      have d0 : x7.cell? ⟨x6.heap.size, 0, none⟩ = some (.int .i64 dL) := ((bcell g_x7).1 _ _ (by simp; try omega)).trans (by simp [go_sem])
      have d1 : x7.cell? ⟨x6.heap.size, 1, none⟩ = some (.int .i64 dH) := ((bcell g_x7).1 _ _ (by simp; try omega)).trans (by simp [go_sem])
      have d2 : x7.cell? ⟨x6.heap.size, 2, none⟩ = some (.int .i64 dA) := ((bcell g_x7).1 _ _ (by simp; try omega)).trans (by simp [go_sem])
      have z_d_x7 := lt_of d0
      clear g_x7 s_x7 t_x6
      go_wp2_with fail
      go_ret
      exact ⟨rfl, by first | exact t_x7 | go_grown⟩
end Go.Proofs.Ytkmkfjaokjcelaa
