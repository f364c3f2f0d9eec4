/- Package queue: the law of places. -/
import Derived.Test.YtbpnmjjmllgehaaQuF
import Derived.Test.YtbpnmjjmllgehaaQuH
namespace Go.Proofs.Ytbpnmjjmllgehaa
open Go Go.ChangeShapes Go.WideShapes Go.ChangeAt Go.RowKit
set_option linter.all false
noncomputable def G3 : Ev.Sum := Ev.addS 9 (Ev.genS sHd) G2
theorem G3_ok : ∀ N w0, Ev.SumOk Try.prog N w0 G3 := Ev.addS_ok (Ev.genS_ok sHd_ok) G2_ok
end Go.Proofs.Ytbpnmjjmllgehaa
