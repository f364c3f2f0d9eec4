/- The laws' helpers and their head. -/
import Derived.Test.YtkmkfjaokjcelaaBndG
namespace Go.Proofs.Ytkmkfjaokjcelaa
open Go.ChangeShapes Go.WideShapes Go.ChangeAt Go.RowKit
theorem isT (L H A : Int) (w : World) : Calls Try.prog 27 #[.agg #[.int .i64 L, .int .i64 H, .int .i64 A], .int .i64 0, .int .i64 L, .int .i64 H, .int .i64 A] w fun e w' => e = .returned (.bool true) ∧ Below w.heap.size w w' := by
  have t_w := Below.refl w.heap.size w
  go_enter Try.func27, Try.ntmps27
  go_wp2_with fail
  go_ret
  exact ⟨rfl, by first | exact t_w | go_grown⟩
def tmod (n : Int) : Int := n % 10000000000001
theorem timeV (n : Int) (h0 : 0 ≤ n) (h1 : n ≤ 18446744073709551615) (w : World) : Calls Try.prog 22 #[.int .u64 n] w fun e w' => e = .returned (.int .i64 (tmod n)) ∧ w' = w := by
  have hb : 0 ≤ n % 10000000000001 ∧ n % 10000000000001 ≤ 10000000000000 := by omega
  obtain ⟨hb1, hb2⟩ := hb
  have t_w := Below.refl w.heap.size w
  go_enter Try.func22, Try.ntmps22
  go_wp2_with fail
  go_ret
  exact ⟨rfl, rfl⟩
def trueB (lo hi a t sh : Int) : Bool := decide (a = sh ∧ lo ≤ t - sh ∧ t - sh ≤ hi)
theorem rtrueT {lo hi t s : Int} (h1 : lo ≤ t - s) (h2 : t - s ≤ hi) (b1 : -100000000000000 ≤ t) (b2 : t ≤ 100000000000000) (b3 : -100000000000000 ≤ s) (b4 : s ≤ 100000000000000) (w : World) : Calls Try.prog 25 #[.agg #[.int .i64 lo, .int .i64 hi, .int .i64 s], .int .i64 t, .int .i64 s] w fun e w' => e = .returned (.bool true) ∧ Below w.heap.size w w' := by
  have t_w := Below.refl w.heap.size w
  go_enter Try.func25, Try.ntmps25
  go_wp2_with fail
  go_ret
  exact ⟨rfl, by first | exact t_w | go_grown⟩
def insB (aL aH aA bL bH bA : Int) : Bool := decide (aA = bA ∧ bL ≤ aL ∧ aH ≤ bH)
theorem insideT {aL aH aA bL bH : Int} (h1 : bL ≤ aL) (h2 : aH ≤ bH) (w : World) : Calls Try.prog 26 #[.agg #[.int .i64 aL, .int .i64 aH, .int .i64 aA], .agg #[.int .i64 bL, .int .i64 bH, .int .i64 aA]] w fun e w' => e = .returned (.bool true) ∧ Below w.heap.size w w' := by
  have t_w := Below.refl w.heap.size w
  go_enter Try.func26, Try.ntmps26
  go_wp2_with fail
  go_ret
  exact ⟨rfl, by first | exact t_w | go_grown⟩
/-- a span that is true for a clock: what truth returns -/
def TruthIs (o d t le mo L H A : Int) (k : Bool) : Prop := A = shV o d t ∧ L = t - A - le ∧ H = t - A + mo ∧ k = (shOk o d t && okS L H A)
end Go.Proofs.Ytkmkfjaokjcelaa
