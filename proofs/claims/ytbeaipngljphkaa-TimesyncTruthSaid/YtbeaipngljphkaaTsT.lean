/- The laws of package timesync: Estimate. -/
import Derived.Test.YtbeaipngljphkaaTsR
namespace Go.Proofs.Ytbeaipngljphkaa
open Go Go.ChangeShapes Go.WideShapes Go.ChangeAt Go.RowKit
set_option linter.all false
/-- how far a clock drifts in some time, against the growth of a span -/
theorem drift_in {dr t k q1 q2 : Int} (h1 : -50 ≤ dr) (h2 : dr ≤ 50) (hk : 0 ≤ k) (e1 : q1 = dr * t / 1000000) (e2 : q2 = dr * (t + k) / 1000000) (he : 0 ≤ k + q2 - q1) : q2 - q1 ≤ more (k + q2 - q1) ∧ q1 - q2 ≤ more (k + q2 - q1) := by
  have a : dr * k ≤ 50 * k := Int.mul_le_mul_of_nonneg_right h2 hk
  have b : -50 * k ≤ dr * k := Int.mul_le_mul_of_nonneg_right h1 hk
  rw [Int.mul_add] at e2
  generalize dr * t = P at *
  generalize dr * k = D at *
  unfold more
  omega
theorem mid_w {a b : Int} (h1 : -20000000000000 ≤ a) (h2 : a ≤ b) (h3 : b ≤ 20000000000000) (d s T n : Int) (hT : 0 ≤ T ∧ T ≤ 10000000000000) (hs : -2000000000 ≤ s ∧ s ≤ 20000000000000) (h4 : a ≤ T - s) (h5 : T - s ≤ b) (hn : n = (b - a + 1) / 2) (hd : d = (a + b) / 2) : IntKind.wrap .i64 (T - IntKind.wrap .i64 (s + d)) ≤ n ∧ IntKind.wrap .i64 (IntKind.wrap .i64 (IntKind.wrap .i64 (s + d) - T)) ≤ n := by
  rw [w64 (x := s + d) (by omega) (by omega), w64 (x := T - (s + d)) (by omega) (by omega), w64 (x := s + d - T) (by omega) (by omega), w64 (x := s + d - T) (by omega) (by omega)]
  omega
end Go.Proofs.Ytbeaipngljphkaa
