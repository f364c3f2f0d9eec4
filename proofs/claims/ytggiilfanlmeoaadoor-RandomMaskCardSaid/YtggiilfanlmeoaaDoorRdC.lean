/- Random: Distinct, Range, Mask. -/
import Derived.Test.YtggiilfanlmeoaaDoorRdB
namespace Go.Proofs.YtggiilfanlmeoaaDoor
open Go Go.ChangeShapes Go.WideShapes Go.ChangeAt Go.RowKit
set_option linter.all false
theorem ldist_L (a b : Int) (r : Ev.Sup) : ((Ev.evalF Tryd.prog G1 60 4 [undef, undef] [.int .u64 a, .int .u64 b] [tabE] r)).lhs = ((Ev.evalF Tryd.prog G1 60 4 [undef, undef] [.int .u64 a, .int .u64 b] [tabE] r)).rhs := by kernel_rfl
theorem ldist_T (a b : Int) (r : Ev.Sup) : ((Ev.evalF Tryd.prog G1 60 4 [undef, undef] [.int .u64 a, .int .u64 b] [tabE] r)).val = (.leaf (.bool ((a == b) == (nx a == nx b)))) := by kernel_rfl
theorem lrange_L (s n t : Int) (r : Ev.Sup) : ((Ev.evalF Tryd.prog G1 60 5 [undef, undef, undef] [.int .u64 s, .int .i64 n, .int .u8 t] [tabE] r)).lhs = ((Ev.evalF Tryd.prog G1 60 5 [undef, undef, undef] [.int .u64 s, .int .i64 n, .int .u8 t] [tabE] r)).rhs := by kernel_rfl
theorem lrange_T (s n t : Int) (r : Ev.Sup) : ((Ev.evalF Tryd.prog G1 60 5 [undef, undef, undef] [.int .u64 s, .int .i64 n, .int .u8 t] [tabE] r)).val = (.ite (decide (n < 1)) (.ite (decide (n < 1)) (.leaf (.bool (true))) (.ite (decide (n > 1000000000)) (.leaf (.bool (true))) (.ite (decide (0 ≥ n)) (.leaf (.bool (false))) (.ite (decide (IntKind.wrap IntKind.i64 (1 + IntKind.wrap IntKind.i64 t) = 0)) (.fail 70) (.ite (decide (n > IntKind.wrap IntKind.i64 (Int.tdiv 1000000000 (IntKind.wrap IntKind.i64 (1 + IntKind.wrap IntKind.i64 t))))) (.leaf (.bool (true))) (.ite (decide (IntKind.wrap IntKind.i64 (n * IntKind.wrap IntKind.i64 (1 + IntKind.wrap IntKind.i64 t)) < 1)) (.ite (decide (n = 0)) (.fail 70) (.leaf (.bool (Int.tmod 0 n == 0)))) (.ite (decide (IntKind.wrap IntKind.i64 (n * IntKind.wrap IntKind.i64 (1 + IntKind.wrap IntKind.i64 t)) > 1000000000)) (.ite (decide (n = 0)) (.fail 70) (.leaf (.bool (Int.tmod 0 n == 0)))) (.ite (decide (IntKind.wrap IntKind.u64 (IntKind.wrap IntKind.i64 (n * IntKind.wrap IntKind.i64 (1 + IntKind.wrap IntKind.i64 t))) = 0)) (.fail 70) (.ite (decide (n = 0)) (.fail 70) (.leaf (.bool (Int.tmod (IntKind.wrap IntKind.i64 (Int.tmod (Int.fdiv (nx s) 4294967296) (IntKind.wrap IntKind.u64 (IntKind.wrap IntKind.i64 (n * IntKind.wrap IntKind.i64 (1 + IntKind.wrap IntKind.i64 t)))))) n == 0)))))))))))) (.ite (decide (n > 1000000000)) (.ite (decide (n < 1)) (.leaf (.bool (true))) (.ite (decide (n > 1000000000)) (.leaf (.bool (true))) (.ite (decide (0 ≥ n)) (.leaf (.bool (false))) (.ite (decide (IntKind.wrap IntKind.i64 (1 + IntKind.wrap IntKind.i64 t) = 0)) (.fail 70) (.ite (decide (n > IntKind.wrap IntKind.i64 (Int.tdiv 1000000000 (IntKind.wrap IntKind.i64 (1 + IntKind.wrap IntKind.i64 t))))) (.leaf (.bool (true))) (.ite (decide (IntKind.wrap IntKind.i64 (n * IntKind.wrap IntKind.i64 (1 + IntKind.wrap IntKind.i64 t)) < 1)) (.ite (decide (n = 0)) (.fail 70) (.leaf (.bool (Int.tmod 0 n == 0)))) (.ite (decide (IntKind.wrap IntKind.i64 (n * IntKind.wrap IntKind.i64 (1 + IntKind.wrap IntKind.i64 t)) > 1000000000)) (.ite (decide (n = 0)) (.fail 70) (.leaf (.bool (Int.tmod 0 n == 0)))) (.ite (decide (IntKind.wrap IntKind.u64 (IntKind.wrap IntKind.i64 (n * IntKind.wrap IntKind.i64 (1 + IntKind.wrap IntKind.i64 t))) = 0)) (.fail 70) (.ite (decide (n = 0)) (.fail 70) (.leaf (.bool (Int.tmod (IntKind.wrap IntKind.i64 (Int.tmod (Int.fdiv (nx s) 4294967296) (IntKind.wrap IntKind.u64 (IntKind.wrap IntKind.i64 (n * IntKind.wrap IntKind.i64 (1 + IntKind.wrap IntKind.i64 t)))))) n == 0)))))))))))) (.ite (decide (IntKind.wrap IntKind.u64 n = 0)) (.fail 70) (.ite (decide (n < 1)) (.leaf (.bool (IntKind.wrap IntKind.i64 (Int.tmod (Int.fdiv (nx s) 4294967296) (IntKind.wrap IntKind.u64 n)) == 0))) (.ite (decide (n > 1000000000)) (.leaf (.bool (IntKind.wrap IntKind.i64 (Int.tmod (Int.fdiv (nx s) 4294967296) (IntKind.wrap IntKind.u64 n)) == 0))) (.ite (decide (IntKind.wrap IntKind.i64 (Int.tmod (Int.fdiv (nx s) 4294967296) (IntKind.wrap IntKind.u64 n)) < 0)) (.leaf (.bool (false))) (.ite (decide (IntKind.wrap IntKind.i64 (Int.tmod (Int.fdiv (nx s) 4294967296) (IntKind.wrap IntKind.u64 n)) ≥ n)) (.leaf (.bool (false))) (.ite (decide (IntKind.wrap IntKind.i64 (1 + IntKind.wrap IntKind.i64 t) = 0)) (.fail 70) (.ite (decide (n > IntKind.wrap IntKind.i64 (Int.tdiv 1000000000 (IntKind.wrap IntKind.i64 (1 + IntKind.wrap IntKind.i64 t))))) (.leaf (.bool (true))) (.ite (decide (IntKind.wrap IntKind.i64 (n * IntKind.wrap IntKind.i64 (1 + IntKind.wrap IntKind.i64 t)) < 1)) (.ite (decide (n = 0)) (.fail 70) (.leaf (.bool (Int.tmod 0 n == IntKind.wrap IntKind.i64 (Int.tmod (Int.fdiv (nx s) 4294967296) (IntKind.wrap IntKind.u64 n)))))) (.ite (decide (IntKind.wrap IntKind.i64 (n * IntKind.wrap IntKind.i64 (1 + IntKind.wrap IntKind.i64 t)) > 1000000000)) (.ite (decide (n = 0)) (.fail 70) (.leaf (.bool (Int.tmod 0 n == IntKind.wrap IntKind.i64 (Int.tmod (Int.fdiv (nx s) 4294967296) (IntKind.wrap IntKind.u64 n)))))) (.ite (decide (IntKind.wrap IntKind.u64 (IntKind.wrap IntKind.i64 (n * IntKind.wrap IntKind.i64 (1 + IntKind.wrap IntKind.i64 t))) = 0)) (.fail 70) (.ite (decide (n = 0)) (.fail 70) (.leaf (.bool (Int.tmod (IntKind.wrap IntKind.i64 (Int.tmod (Int.fdiv (nx s) 4294967296) (IntKind.wrap IntKind.u64 (IntKind.wrap IntKind.i64 (n * IntKind.wrap IntKind.i64 (1 + IntKind.wrap IntKind.i64 t)))))) n == IntKind.wrap IntKind.i64 (Int.tmod (Int.fdiv (nx s) 4294967296) (IntKind.wrap IntKind.u64 n)))))))))))))))))) := by kernel_rfl
theorem lmask_L (s n : Int) (r : Ev.Sup) : ((Ev.evalF Tryd.prog G1 60 8 [undef, undef] [.int .u64 s, .int .i64 n] [tabE] r)).lhs = ((Ev.evalF Tryd.prog G1 60 8 [undef, undef] [.int .u64 s, .int .i64 n] [tabE] r)).rhs := by kernel_rfl
theorem lmask_T (s n : Int) (r : Ev.Sup) : ((Ev.evalF Tryd.prog G1 60 8 [undef, undef] [.int .u64 s, .int .i64 n] [tabE] r)).val = (.ite (decide (n < 1)) (.ite (decide (n < 1)) (.leaf (.bool (true))) (.ite (decide (n > 16)) (.leaf (.bool (true))) (.leaf (.bool (false))))) (.ite (decide (n > 16)) (.ite (decide (n < 1)) (.leaf (.bool (true))) (.ite (decide (n > 16)) (.leaf (.bool (true))) (.leaf (.bool (false))))) (.ite (decide (n < 0)) (.fail 70) (.ite (decide (IntKind.wrap IntKind.u64 (IntKind.wrap IntKind.i64 (IntKind.wrap IntKind.i64 (1 * 2 ^ min (Int.toNat n) 64) - 1)) = 0)) (.fail 70) (.ite (decide (n < 1)) (.leaf (.bool (IntKind.wrap IntKind.i64 (1 + IntKind.wrap IntKind.i64 (Int.tmod (Int.fdiv (nx s) 4294967296) (IntKind.wrap IntKind.u64 (IntKind.wrap IntKind.i64 (IntKind.wrap IntKind.i64 (1 * 2 ^ min (Int.toNat n) 64) - 1))))) == 0))) (.ite (decide (n > 16)) (.leaf (.bool (IntKind.wrap IntKind.i64 (1 + IntKind.wrap IntKind.i64 (Int.tmod (Int.fdiv (nx s) 4294967296) (IntKind.wrap IntKind.u64 (IntKind.wrap IntKind.i64 (IntKind.wrap IntKind.i64 (1 * 2 ^ min (Int.toNat n) 64) - 1))))) == 0))) (.ite (decide (IntKind.wrap IntKind.i64 (1 + IntKind.wrap IntKind.i64 (Int.tmod (Int.fdiv (nx s) 4294967296) (IntKind.wrap IntKind.u64 (IntKind.wrap IntKind.i64 (IntKind.wrap IntKind.i64 (1 * 2 ^ min (Int.toNat n) 64) - 1))))) ≥ 1)) (.ite (decide (n < 0)) (.fail 70) (.ite (decide (IntKind.wrap IntKind.i64 (1 + IntKind.wrap IntKind.i64 (Int.tmod (Int.fdiv (nx s) 4294967296) (IntKind.wrap IntKind.u64 (IntKind.wrap IntKind.i64 (IntKind.wrap IntKind.i64 (1 * 2 ^ min (Int.toNat n) 64) - 1))))) < IntKind.wrap IntKind.i64 (1 * 2 ^ min (Int.toNat n) 64))) (.ite (decide (n < 0)) (.fail 70) (.ite (decide (IntKind.wrap IntKind.i64 (IntKind.wrap IntKind.i64 (1 * 2 ^ min (Int.toNat n) 64) - 1) < 1)) (.leaf (.bool (IntKind.wrap IntKind.i64 (1 + IntKind.wrap IntKind.i64 (Int.tmod (Int.fdiv (nx s) 4294967296) (IntKind.wrap IntKind.u64 (IntKind.wrap IntKind.i64 (IntKind.wrap IntKind.i64 (1 * 2 ^ min (Int.toNat n) 64) - 1))))) == 1))) (.ite (decide (IntKind.wrap IntKind.i64 (IntKind.wrap IntKind.i64 (1 * 2 ^ min (Int.toNat n) 64) - 1) > 1000000000)) (.leaf (.bool (IntKind.wrap IntKind.i64 (1 + IntKind.wrap IntKind.i64 (Int.tmod (Int.fdiv (nx s) 4294967296) (IntKind.wrap IntKind.u64 (IntKind.wrap IntKind.i64 (IntKind.wrap IntKind.i64 (1 * 2 ^ min (Int.toNat n) 64) - 1))))) == 1))) (.ite (decide (IntKind.wrap IntKind.u64 (IntKind.wrap IntKind.i64 (IntKind.wrap IntKind.i64 (1 * 2 ^ min (Int.toNat n) 64) - 1)) = 0)) (.fail 70) (.leaf (.bool (IntKind.wrap IntKind.i64 (1 + IntKind.wrap IntKind.i64 (Int.tmod (Int.fdiv (nx s) 4294967296) (IntKind.wrap IntKind.u64 (IntKind.wrap IntKind.i64 (IntKind.wrap IntKind.i64 (1 * 2 ^ min (Int.toNat n) 64) - 1))))) == IntKind.wrap IntKind.i64 (1 + IntKind.wrap IntKind.i64 (Int.tmod (Int.fdiv (nx s) 4294967296) (IntKind.wrap IntKind.u64 (IntKind.wrap IntKind.i64 (IntKind.wrap IntKind.i64 (1 * 2 ^ min (Int.toNat n) 64) - 1)))))))))))) (.leaf (.bool (false))))) (.leaf (.bool (false)))))))))) := by kernel_rfl
theorem f1_ok : BitVec.ofInt 64 13787848793156543929 * BitVec.ofInt 64 10871156337175269513 = 1#64 := by decide +kernel
theorem f2_ok : BitVec.ofInt 64 10723151780598845931 * BitVec.ofInt 64 3573116690164977347 = 1#64 := by decide +kernel
theorem nxB_inj (x y : BitVec 64) : nxB x = nxB y ↔ x = y := by
  unfold nxB
  simp only
  rw [Bv.shift_inj (by decide), Bv.mul_inj f2_ok, Bv.shift_inj (by decide), Bv.mul_inj f1_ok, Bv.shift_inj (by decide)]
  exact BitVec.add_left_inj _
theorem w64 {x : Int} (h1 : -9223372036854775808 ≤ x) (h2 : x ≤ 9223372036854775807) : IntKind.wrap .i64 x = x := by
  simp only [IntKind.wrap, IntKind.bits, IntKind.signed]
  simp
  omega
theorem wu64 {x : Int} (h1 : 0 ≤ x) (h2 : x ≤ 18446744073709551615) : IntKind.wrap .u64 x = x := by
  rw [Bv.wrapU]
  omega
theorem good_no {R : Type} {Q : R → Prop} {p : Prop} [Decidable p] {t e : Ev.Tree R} (h : ¬ p) (he : e.good Q) : (Ev.Tree.ite (decide p) t e).good Q := Ev.good_f (decide_eq_false h) he
theorem good_yes {R : Type} {Q : R → Prop} {p : Prop} [Decidable p] {t e : Ev.Tree R} (h : p) (ht : t.good Q) : (Ev.Tree.ite (decide p) t e).good Q := Ev.good_t (decide_eq_true h) ht
theorem ldist_c (a b : Int) (ha : 0 ≤ a ∧ a ≤ 18446744073709551615) (hb : 0 ≤ b ∧ b ≤ 18446744073709551615) (w : World) (ht : Tab w) : Calls Tryd.prog 4 #[.int .u64 a, .int .u64 b] w fun e w' => e = .returned (.bool true) ∧ Below w.heap.size w w' := by
  refine Ev.contract1 G1_ok 60 (tab_ext ht) (ldist_L a b) (ldist_T a b) ?_
  obtain ⟨a, rfl⟩ := Bv.of ha.1 ha.2
  obtain ⟨b, rfl⟩ := Bv.of hb.1 hb.2
  simp only [nx, Bv.ofInt_toNat, Bv.beq_iff]
  rw [Bv.beq_congr (nxB_inj a b)]
  simp [Ev.Tree.good]
theorem tm {u m : Int} (h1 : 0 ≤ u) (h2 : 0 < m) : 0 ≤ u.tmod m ∧ u.tmod m < m := ⟨Int.tmod_nonneg _ h1, Int.tmod_lt_of_pos _ h2⟩
theorem hf_b (s : Int) : 0 ≤ Int.fdiv (nx s) 4294967296 ∧ Int.fdiv (nx s) 4294967296 ≤ 4294967295 := by
  have := nx_b s
  rw [Int.fdiv_eq_ediv_of_nonneg _ (by decide)]
  omega
theorem pw {n : Int} (h1 : 1 ≤ n) (h2 : n ≤ 16) : ∃ p : Int, IntKind.wrap .i64 (1 * 2 ^ min (Int.toNat n) 64) = p ∧ 2 ≤ p ∧ p ≤ 65536 := by
  have : n = 1 ∨ n = 2 ∨ n = 3 ∨ n = 4 ∨ n = 5 ∨ n = 6 ∨ n = 7 ∨ n = 8 ∨ n = 9 ∨ n = 10 ∨ n = 11 ∨ n = 12 ∨ n = 13 ∨ n = 14 ∨ n = 15 ∨ n = 16 := by omega
  rcases this with rfl | rfl | rfl | rfl | rfl | rfl | rfl | rfl | rfl | rfl | rfl | rfl | rfl | rfl | rfl | rfl <;> exact ⟨_, rfl, by decide, by decide⟩
theorem lmask_c (s n : Int) (w : World) (ht : Tab w) : Calls Tryd.prog 8 #[.int .u64 s, .int .i64 n] w fun e w' => e = .returned (.bool true) ∧ Below w.heap.size w w' := by
  refine Ev.contract1 G1_ok 60 (tab_ext ht) (lmask_L s n) (lmask_T s n) ?_
  by_cases h1 : n < 1
  · exact good_yes h1 (good_yes h1 rfl)
  by_cases h2 : n > 16
  · exact good_no h1 (good_yes h2 (good_no h1 (good_yes h2 rfl)))
  obtain ⟨p, hp, p1, p2⟩ := pw (n := n) (by omega) (by omega)
  have hu := hf_b s
  have e1 : IntKind.wrap .i64 (p - 1) = p - 1 := w64 (by omega) (by omega)
  have e2 : IntKind.wrap .u64 (p - 1) = p - 1 := wu64 (by omega) (by omega)
  have hx := tm (u := Int.fdiv (nx s) 4294967296) (m := p - 1) hu.1 (by omega)
  rw [hp, e1, e2]
  generalize Int.tmod (Int.fdiv (nx s) 4294967296) (p - 1) = x at hx ⊢
  have e3 : IntKind.wrap .i64 x = x := w64 (by omega) (by omega)
  have e4 : IntKind.wrap .i64 (1 + x) = 1 + x := w64 (by omega) (by omega)
  rw [e3, e4]
  refine good_no h1 ?_
  refine good_no h2 ?_
  refine good_no (by omega) ?_
  refine good_no (by omega) ?_
  refine good_no h1 ?_
  refine good_no h2 ?_
  refine good_yes (by omega) ?_
  refine good_no (by omega) ?_
  refine good_yes (by omega) ?_
  refine good_no (by omega) ?_
  refine good_no (by omega) ?_
  refine good_no (by omega) ?_
  refine good_no (by omega) ?_
  simp [Ev.Tree.good]
theorem lrange_c (s n t : Int) (ht0 : 0 ≤ t ∧ t ≤ 255) (w : World) (ht : Tab w) : Calls Tryd.prog 5 #[.int .u64 s, .int .i64 n, .int .u8 t] w fun e w' => e = .returned (.bool true) ∧ Below w.heap.size w w' := by
  refine Ev.contract1 G1_ok 60 (tab_ext ht) (lrange_L s n t) (lrange_T s n t) ?_
  by_cases h1 : n < 1
  · exact good_yes h1 (good_yes h1 rfl)
  by_cases h2 : n > 1000000000
  · exact good_no h1 (good_yes h2 (good_no h1 (good_yes h2 rfl)))
  have hu := hf_b s
  have et : IntKind.wrap .i64 t = t := w64 (by omega) (by omega)
  have ek : IntKind.wrap .i64 (1 + t) = 1 + t := w64 (by omega) (by omega)
  have en : IntKind.wrap .u64 n = n := wu64 (by omega) (by omega)
  rw [et, ek, en]
  obtain ⟨k, hk⟩ : ∃ k, 1 + t = k := ⟨_, rfl⟩
  rw [hk]
  have hk1 : 1 ≤ k ∧ k ≤ 256 := by omega
  have hq : Int.tdiv 1000000000 k = 1000000000 / k := Int.tdiv_eq_ediv_of_nonneg (by decide)
  have hq1 : 0 ≤ (1000000000 : Int) / k := Int.ediv_nonneg (by decide) (by omega)
  have hq2 : (1000000000 : Int) / k ≤ 1000000000 := Int.ediv_le_self _ (by decide)
  have eq : IntKind.wrap .i64 (1000000000 / k) = 1000000000 / k := w64 (by omega) (by omega)
  rw [hq, eq]
  generalize Int.fdiv (nx s) 4294967296 = u at hu ⊢
  have hx := tm (u := u) (m := n) hu.1 (by omega)
  obtain ⟨x, hxe⟩ : ∃ x, Int.tmod u n = x := ⟨_, rfl⟩
  rw [hxe] at hx ⊢
  have ex : IntKind.wrap .i64 x = x := w64 (by omega) (by omega)
  rw [ex]
  refine good_no h1 ?_
  refine good_no h2 ?_
  refine good_no (by omega) ?_
  refine good_no h1 ?_
  refine good_no h2 ?_
  refine good_no (by omega) ?_
  refine good_no (by omega) ?_
  refine good_no (by omega) ?_
  by_cases h3 : n > 1000000000 / k
  · exact good_yes h3 rfl
  refine good_no h3 ?_
  have hnk : n * k ≤ 1000000000 := by
    have h4 := Int.mul_le_mul_of_nonneg_right (show n ≤ 1000000000 / k by omega) (show 0 ≤ k by omega)
    have h5 := Int.ediv_mul_le 1000000000 (show k ≠ 0 by omega)
    omega
  have hnk1 : 1 ≤ n * k := by
    have := Int.mul_le_mul (show 1 ≤ n by omega) hk1.1 (by omega) (by omega)
    omega
  have enk : IntKind.wrap .i64 (n * k) = n * k := w64 (by omega) (by omega)
  have enk2 : IntKind.wrap .u64 (n * k) = n * k := wu64 (by omega) (by omega)
  have hy := tm (u := u) (m := n * k) hu.1 (by omega)
  obtain ⟨y, hye⟩ : ∃ y, Int.tmod u (n * k) = y := ⟨_, rfl⟩
  rw [hye] at hy
  have ey : IntKind.wrap .i64 y = y := w64 (by omega) (by omega)
  rw [enk, enk2, hye, ey]
  refine good_no (by omega) ?_
  refine good_no (by omega) ?_
  refine good_no (by omega) ?_
  refine good_no (by omega) ?_
  have : Int.tmod y n = x := by
    rw [← hye, ← hxe, Int.tmod_eq_emod_of_nonneg (by rw [hye]; exact hy.1), Int.tmod_eq_emod_of_nonneg hu.1, Int.tmod_eq_emod_of_nonneg hu.1]
    exact Int.emod_emod_of_dvd _ ⟨k, rfl⟩
  rw [this]
  simp [Ev.Tree.good]
end Go.Proofs.YtggiilfanlmeoaaDoor
