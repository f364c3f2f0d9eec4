/- The laws of package timesync: trees. -/
import Derived.Test.YtbeaipngljphkaaTsM
namespace Go.Proofs.Ytbeaipngljphkaa
open Go Go.ChangeShapes Go.WideShapes Go.ChangeAt Go.RowKit
set_option linter.all false
def sHead : List Value → Option Value
  | [] => some (.bool true)
  | _ => none
theorem sHead_ok : ∀ a v, sHead a = some v → ∀ w, Calls Try.prog 11 a.toArray w fun e w' => e = .returned v ∧ Below w.heap.size w w' := by
  intro a v h w
  unfold sHead at h
  split at h
  · cases h; exact head_c w
  · cases h
noncomputable def G8 : Ev.Sum := Ev.addS 11 (Ev.pureS sHead) G7
theorem G8_ok : ∀ N w0, Ev.SumOk Try.prog N w0 G8 := Ev.addS_ok (Ev.pureS_ok sHead_ok) G7_ok
end Go.Proofs.Ytbeaipngljphkaa
