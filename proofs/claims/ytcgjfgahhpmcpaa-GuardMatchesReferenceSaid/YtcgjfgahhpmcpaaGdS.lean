/- Guard: the reference clock, for any clock. -/
import Derived.Test.YtcgjfgahhpmcpaaGdQ
namespace Go.Proofs.Ytcgjfgahhpmcpaa
open Go Go.ChangeShapes Go.WideShapes Go.ChangeAt Go.RowKit
set_option linter.all false
theorem ratg_L (o d t : Int) (r : Ev.Sup) : ((Ev.evalF Try.prog G7 60 35 [(.agg #[undef, undef]), undef] [(.agg #[.int .i64 o, .int .i64 d]), .int .i64 t] [] r)).lhs = ((Ev.evalF Try.prog G7 60 35 [(.agg #[undef, undef]), undef] [(.agg #[.int .i64 o, .int .i64 d]), .int .i64 t] [] r)).rhs := by kernel_rfl
theorem ratg_T (o d t : Int) (r : Ev.Sup) : ((Ev.evalF Try.prog G7 60 35 [(.agg #[undef, undef]), undef] [(.agg #[.int .i64 o, .int .i64 d]), .int .i64 t] [] r)).val = (.leaf (.int .i64 (IntKind.wrap IntKind.i64 (IntKind.wrap IntKind.i64 (t + o) + rdnP (IntKind.wrap IntKind.i64 (d * t)))))) := by kernel_rfl
theorem rat_c {o d t v : Int} (hv : atR o d t = v) (w : World) : Calls Try.prog 35 #[(.agg #[.int .i64 o, .int .i64 d]), .int .i64 t] w fun e w' => e = .returned (.int .i64 v) ∧ Below w.heap.size w w' := by
  subst hv
  exact Ev.contract1 G7_ok 60 (Ev.ExtOk.nil w) (ratg_L o d t) (ratg_T o d t) rfl
end Go.Proofs.Ytcgjfgahhpmcpaa
