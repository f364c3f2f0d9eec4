/- Law of bound: order of the meeting. -/
import Derived.Test.YtkmkfjaokjcelaaBndPb
import Derived.Test.YtkmkfjaokjcelaaBndPc
import Derived.Test.YtkmkfjaokjcelaaBndPd
namespace Go.Proofs.Ytkmkfjaokjcelaa
open Go.ChangeShapes Go.WideShapes Go.ChangeAt Go.RowKit
theorem orderW (aL aH aA bL bH bA : Int) (w : World) : Calls Try.prog 7 #[.agg #[.int .i64 aL, .int .i64 aH, .int .i64 aA], .agg #[.int .i64 bL, .int .i64 bH, .int .i64 bA]] w fun e w' => e = .returned (.bool true) ∧ Below w.heap.size w w' := by
  obtain ⟨L, H, A, E, hm⟩ := meet_exists aL aH aA bL bH bA
  by_cases hE : E = 0
  · subst hE
    rcases Int.lt_trichotomy aA bA with hl | rfl | hl
    · exact order_lt hm hl w
    · exact order_eq hm w
    · exact order_gt hm hl w
  · obtain ⟨rfl, rfl, rfl, _⟩ := meet_no hm hE
    exact order_no hm (by simp [hE]) w
end Go.Proofs.Ytkmkfjaokjcelaa
