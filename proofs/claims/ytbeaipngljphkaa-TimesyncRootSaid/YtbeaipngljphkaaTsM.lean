/- The head of the laws of package timesync. -/
import Derived.Test.YtbeaipngljphkaaTsL
namespace Go.Proofs.Ytbeaipngljphkaa
open Go Go.ChangeShapes Go.WideShapes Go.ChangeAt Go.RowKit
set_option linter.all false
theorem head_L  (r : Ev.Sup) : ((Ev.evalF Try.prog G7 60 11 [] [] [] r)).lhs = ((Ev.evalF Try.prog G7 60 11 [] [] [] r)).rhs := by kernel_rfl
theorem head_T  (r : Ev.Sup) : ((Ev.evalF Try.prog G7 60 11 [] [] [] r)).val = (.leaf (.bool (true))) := by kernel_rfl
theorem head_c (w : World) : Calls Try.prog 11 #[] w fun e w' => e = .returned (.bool true) ∧ Below w.heap.size w w' :=
  Ev.contract1 G7_ok 60 (Ev.ExtOk.nil w) head_L head_T rfl
end Go.Proofs.Ytbeaipngljphkaa
