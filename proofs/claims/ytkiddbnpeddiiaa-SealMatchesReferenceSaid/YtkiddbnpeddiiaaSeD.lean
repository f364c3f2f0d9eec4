/- Package seal: the head of its laws. -/
import Derived.Test.YtkiddbnpeddiiaaSeC
namespace Go.Proofs.Ytkiddbnpeddiiaa
open Go Go.ChangeShapes Go.WideShapes Go.ChangeAt Go.RowKit
set_option linter.all false
theorem head_L  (r : Ev.Sup) : ((Ev.evalF Try.prog G1 60 9 [] [] [] r)).lhs = ((Ev.evalF Try.prog G1 60 9 [] [] [] r)).rhs := by kernel_rfl
theorem head_T  (r : Ev.Sup) : ((Ev.evalF Try.prog G1 60 9 [] [] [] r)).val = (.leaf (.bool (true))) := by kernel_rfl
end Go.Proofs.Ytkiddbnpeddiiaa
