/- Meet and its reference, put together. -/
import Derived.Test.YtkmkfjaokjcelaaBndD
import Derived.Test.YtkmkfjaokjcelaaBndE
namespace Go.Proofs.Ytkmkfjaokjcelaa
open Go.ChangeShapes Go.WideShapes Go.ChangeAt Go.RowKit
theorem meetV {aL aH aA bL bH bA L H A E : Int} (hv : MeetIs aL aH aA bL bH bA L H A E) (w : World) : Calls Try.prog 14 #[.agg #[.int .i64 aL, .int .i64 aH, .int .i64 aA], .agg #[.int .i64 bL, .int .i64 bH, .int .i64 bA]] w fun e w' => e = .returned (.tuple #[.agg #[.int .i64 L, .int .i64 H, .int .i64 A], .int .i64 E]) ∧ Below w.heap.size w w' := by
  have hv0 := hv
  rcases hv with ⟨hb, rfl, rfl, rfl, rfl⟩ | ⟨h1, h2, _⟩
  · exact meet_bad hb w
  · rcases Int.lt_trichotomy aA bA with hl | rfl | hl
    · exact meet_lt hl hv0 h1 h2 w
    · exact meet_eq hv0 h1 h2 w
    · exact meet_gt hl hv0 h1 h2 w
end Go.Proofs.Ytkmkfjaokjcelaa
