/- Plane: Radius, Triangle. -/
import Derived.Test.YtacadafnpnpnpaaPlA
namespace Go.Proofs.Ytacadafnpnpnpaa
open Go Go.ChangeShapes Go.WideShapes Go.ChangeAt Go.RowKit
set_option linter.all false
theorem lrad_L (a b c d q m : Int) (r : Ev.Sup) : ((Ev.evalF Try.prog G1 60 5 [.agg #[undef, undef], .agg #[undef, undef], undef, undef] [.agg #[.int .i64 a, .int .i64 b], .agg #[.int .i64 c, .int .i64 d], .int .i64 q, .int .i64 m] [] r)).lhs = ((Ev.evalF Try.prog G1 60 5 [.agg #[undef, undef], .agg #[undef, undef], undef, undef] [.agg #[.int .i64 a, .int .i64 b], .agg #[.int .i64 c, .int .i64 d], .int .i64 q, .int .i64 m] [] r)).rhs := by kernel_rfl
theorem lrad_T (a b c d q m : Int) (r : Ev.Sup) : ((Ev.evalF Try.prog G1 60 5 [.agg #[undef, undef], .agg #[undef, undef], undef, undef] [.agg #[.int .i64 a, .int .i64 b], .agg #[.int .i64 c, .int .i64 d], .int .i64 q, .int .i64 m] [] r)).val = (.ite (!plOk a b) (.leaf (.bool (true))) (.ite (!plOk c d) (.leaf (.bool (true))) (.ite (decide (q < 0)) (.leaf (.bool (true))) (.ite (decide (m < 0)) (.leaf (.bool (true))) (.ite (decide (q > 20000)) (.leaf (.bool (true))) (.ite (decide (m > IntKind.wrap IntKind.i64 (20000 - q))) (.leaf (.bool (true))) (.ite (!nearP a b c d q) (.ite (nearP a b c d 0 == (a == c && (b == d && true))) (.leaf (.bool (nearP a b c d 15000))) (.leaf (.bool (false)))) (.ite (nearP a b c d (IntKind.wrap IntKind.i64 (q + m))) (.ite (nearP a b c d 0 == (a == c && (b == d && true))) (.leaf (.bool (nearP a b c d 15000))) (.leaf (.bool (false)))) (.leaf (.bool (false))))))))))) := by kernel_rfl
theorem ltri_L (a b c d e f q m : Int) (r : Ev.Sup) : ((Ev.evalF Try.prog G1 60 6 [.agg #[undef, undef], .agg #[undef, undef], .agg #[undef, undef], undef, undef] [.agg #[.int .i64 a, .int .i64 b], .agg #[.int .i64 c, .int .i64 d], .agg #[.int .i64 e, .int .i64 f], .int .i64 q, .int .i64 m] [] r)).lhs = ((Ev.evalF Try.prog G1 60 6 [.agg #[undef, undef], .agg #[undef, undef], .agg #[undef, undef], undef, undef] [.agg #[.int .i64 a, .int .i64 b], .agg #[.int .i64 c, .int .i64 d], .agg #[.int .i64 e, .int .i64 f], .int .i64 q, .int .i64 m] [] r)).rhs := by kernel_rfl
theorem ltri_T (a b c d e f q m : Int) (r : Ev.Sup) : ((Ev.evalF Try.prog G1 60 6 [.agg #[undef, undef], .agg #[undef, undef], .agg #[undef, undef], undef, undef] [.agg #[.int .i64 a, .int .i64 b], .agg #[.int .i64 c, .int .i64 d], .agg #[.int .i64 e, .int .i64 f], .int .i64 q, .int .i64 m] [] r)).val = (.ite (decide (q < 0)) (.leaf (.bool (true))) (.ite (decide (m < 0)) (.leaf (.bool (true))) (.ite (decide (q > 20000)) (.leaf (.bool (true))) (.ite (decide (m > IntKind.wrap IntKind.i64 (20000 - q))) (.leaf (.bool (true))) (.ite (!nearP a b c d q) (.leaf (.bool (true))) (.ite (!nearP c d e f m) (.leaf (.bool (true))) (.leaf (.bool (nearP a b e f (IntKind.wrap IntKind.i64 (q + m))))))))))) := by kernel_rfl
theorem near_iff {a b c d q : Int} : nearP a b c d q = true ↔ (0 ≤ a ∧ a ≤ 10000 ∧ 0 ≤ b ∧ b ≤ 10000) ∧ (0 ≤ c ∧ c ≤ 10000 ∧ 0 ≤ d ∧ d ≤ 10000) ∧ (0 ≤ q ∧ q ≤ 20000) ∧ (a - c) * (a - c) + (b - d) * (b - d) ≤ q * q := by
  simp only [nearP, plOk, Bool.and_eq_true, decide_eq_true_eq]
theorem tri {x y u v r s : Int} (hr : 0 ≤ r) (hs : 0 ≤ s) (h1 : x * x + y * y ≤ r * r) (h2 : u * u + v * v ≤ s * s) : (x + u) * (x + u) + (y + v) * (y + v) ≤ (r + s) * (r + s) := by
  have hp : x * u + y * v ≤ r * s := by
    rcases Int.lt_or_le (r * s) (x * u + y * v) with h | h
    · exfalso
      have h0 : 0 ≤ r * s := Int.mul_nonneg hr hs
      have e1 : (x * u + y * v) * (x * u + y * v) + (x * v - u * y) * (x * v - u * y) = (x * x + y * y) * (u * u + v * v) := by grind
      have e2 : 0 ≤ (x * v - u * y) * (x * v - u * y) := (sq_b (x := x * v - u * y) (m := Int.natAbs (x * v - u * y)) (by omega) (by omega)).1
      have e3 : (x * x + y * y) * (u * u + v * v) ≤ (r * r) * (s * s) := Int.mul_le_mul h1 h2 (by have := (sq_b (x := u) (m := Int.natAbs u) (by omega) (by omega)).1; have := (sq_b (x := v) (m := Int.natAbs v) (by omega) (by omega)).1; omega) (by have := (sq_b (x := r) (m := Int.natAbs r) (by omega) (by omega)).1; omega)
      have e4 : (r * r) * (s * s) = (r * s) * (r * s) := by grind
      have e5 : (r * s) * (r * s) < (x * u + y * v) * (x * u + y * v) := by
        have g1 := Int.mul_le_mul_of_nonneg_left (Int.le_of_lt h) h0
        have g2 := Int.mul_lt_mul_of_pos_right h (show 0 < x * u + y * v by omega)
        omega
      omega
    · exact h
  have e : (x + u) * (x + u) + (y + v) * (y + v) = (x * x + y * y) + (u * u + v * v) + 2 * (x * u + y * v) := by grind
  have e' : (r + s) * (r + s) = r * r + s * s + 2 * (r * s) := by grind
  omega
theorem lrad_c (a b c d q m : Int) (w : World) : Calls Try.prog 5 #[.agg #[.int .i64 a, .int .i64 b], .agg #[.int .i64 c, .int .i64 d], .int .i64 q, .int .i64 m] w fun e w' => e = .returned (.bool true) ∧ Below w.heap.size w w' := by
  refine Ev.contract1 G1_ok 60 (Ev.ExtOk.nil w) (lrad_L a b c d q m) (lrad_T a b c d q m) ?_
  refine Ev.ite_good (fun _ => rfl) (fun h1 => ?_)
  refine Ev.ite_good (fun _ => rfl) (fun h2 => ?_)
  refine Ev.ite_good (fun _ => rfl) (fun h3 => ?_)
  refine Ev.ite_good (fun _ => rfl) (fun h4 => ?_)
  refine Ev.ite_good (fun _ => rfl) (fun h5 => ?_)
  refine Ev.ite_good (fun _ => rfl) (fun h6 => ?_)
  simp only [plOk, Bool.not_eq_false', decide_eq_true_eq, decide_eq_false_iff_not] at h1 h2 h3 h4 h5 h6
  rw [w64 (x := 20000 - q) (by omega) (by omega)] at h6
  have eq : IntKind.wrap .i64 (q + m) = q + m := w64 (by omega) (by omega)
  rw [eq]
  have z1 := sq_b (x := a - c) (m := 10000) (by omega) (by omega)
  have z2 := sq_b (x := b - d) (m := 10000) (by omega) (by omega)
  have p3 : nearP a b c d 15000 = true := near_iff.2 ⟨h1, h2, by omega, by omega⟩
  have p2 : (nearP a b c d 0 == (a == c && (b == d && true))) = true := by
    by_cases h : a = c ∧ b = d
    · obtain ⟨rfl, rfl⟩ := h
      have : nearP a b a b 0 = true := near_iff.2 ⟨h1, h1, by omega, by simp⟩
      rw [this]; simp
    · have : nearP a b c d 0 = false := by
        cases hn : nearP a b c d 0 with
        | false => rfl
        | true =>
          have hq := (near_iff.1 hn).2.2.2
          refine absurd ?_ h
          have y1 : (a - c) * (a - c) = 0 := by omega
          have y2 : (b - d) * (b - d) = 0 := by omega
          have y3 := Int.mul_eq_zero.1 y1
          have y4 := Int.mul_eq_zero.1 y2
          omega
      rw [this]
      have h' : (a == c && (b == d && true)) = false := by
        by_cases ha : a = c
        · have hb : b ≠ d := fun hb => h ⟨ha, hb⟩
          simp [hb]
        · simp [ha]
      rw [h']; rfl
  have tl : (Ev.Tree.ite (nearP a b c d 0 == (a == c && (b == d && true))) (.leaf (.bool (nearP a b c d 15000))) (.leaf (.bool false))).good (· = Value.bool true) := Ev.good_t p2 (by rw [p3]; rfl)
  refine Ev.ite_good (fun _ => tl) (fun h7 => ?_)
  have hn : nearP a b c d q = true := by simpa using h7
  refine Ev.good_t (near_iff.2 ⟨h1, h2, by omega, ?_⟩) tl
  have := (near_iff.1 hn).2.2.2
  have y : q * q ≤ (q + m) * (q + m) := Int.mul_le_mul (by omega) (by omega) (by omega) (by omega)
  omega
theorem ltri_c (a b c d e f q m : Int) (w : World) : Calls Try.prog 6 #[.agg #[.int .i64 a, .int .i64 b], .agg #[.int .i64 c, .int .i64 d], .agg #[.int .i64 e, .int .i64 f], .int .i64 q, .int .i64 m] w fun e w' => e = .returned (.bool true) ∧ Below w.heap.size w w' := by
  refine Ev.contract1 G1_ok 60 (Ev.ExtOk.nil w) (ltri_L a b c d e f q m) (ltri_T a b c d e f q m) ?_
  refine Ev.ite_good (fun _ => rfl) (fun h1 => ?_)
  refine Ev.ite_good (fun _ => rfl) (fun h2 => ?_)
  refine Ev.ite_good (fun _ => rfl) (fun h3 => ?_)
  refine Ev.ite_good (fun _ => rfl) (fun h4 => ?_)
  refine Ev.ite_good (fun _ => rfl) (fun h5 => ?_)
  refine Ev.ite_good (fun _ => rfl) (fun h6 => ?_)
  simp only [Bool.not_eq_false', decide_eq_false_iff_not] at h1 h2 h3 h4 h5 h6
  rw [w64 (x := 20000 - q) (by omega) (by omega)] at h4
  have eq : IntKind.wrap .i64 (q + m) = q + m := w64 (by omega) (by omega)
  rw [eq]
  obtain ⟨v1, v2, _, v4⟩ := near_iff.1 h5
  obtain ⟨_, u2, _, u4⟩ := near_iff.1 h6
  have t := tri (r := q) (s := m) (by omega) (by omega) v4 u4
  have e1 : a - c + (c - e) = a - e := by omega
  have e2 : b - d + (d - f) = b - f := by omega
  rw [e1, e2] at t
  have : nearP a b e f (q + m) = true := near_iff.2 ⟨v1, u2, by omega, t⟩
  rw [this]
  rfl
end Go.Proofs.Ytacadafnpnpnpaa
