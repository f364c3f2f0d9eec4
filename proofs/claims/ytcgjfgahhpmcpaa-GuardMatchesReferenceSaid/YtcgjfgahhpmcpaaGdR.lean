/- Guard: the reference: trees. -/
import Derived.Test.YtcgjfgahhpmcpaaClkT
namespace Go.Proofs.Ytcgjfgahhpmcpaa
open Go Go.ChangeShapes Go.WideShapes Go.ChangeAt Go.RowKit
set_option linter.all false
def cnt (o d s : Int) : Int := stF o d s L44 0
theorem rfirst_c2 (o d s : Int) (w : World) : Calls Try.prog 30 #[(.agg #[.int .i64 o, .int .i64 d]), .int .i64 s] w fun e w' => e = .returned (.int .i64 (cnt o d s)) ∧ Below w.heap.size w w' := rfirst_c o d s w
def sRFirst : List Value → Option Value
  | [x0, x1] => match Ev.aggLf x0, Ev.toLf x1 with
    | some [.i .i64 o, .i .i64 d], some (.i .i64 s) => some (.int .i64 (cnt o d s))
    | _, _ => none
  | _ => none
theorem sRFirst_ok : ∀ a v, sRFirst a = some v → ∀ w, Calls Try.prog 30 a.toArray w fun e w' => e = .returned v ∧ Below w.heap.size w w' := by
  intro a v h w
  unfold sRFirst at h
  split at h
  · rename_i x0 x1
    split at h
    · rename_i o d s h0 h1
      have e0 := Ev.aggLf_eq h0
      have e1 := Ev.toLf_eq h1
      subst e0; subst e1
      cases h
      exact rfirst_c2 o d s w
    · cases h
  · cases h
noncomputable def G12 : Ev.Sum := Ev.addS 30 (Ev.pureS sRFirst) (Ev.addS 19 (Ev.pureS sROwn) (Ev.addS 27 (Ev.pureS sRCValid) (Ev.addS 28 (Ev.pureS sRTValid) (Ev.addS 29 (Ev.pureS sRTBound) Ev.noS))))
theorem G12_ok : ∀ N w0, Ev.SumOk Try.prog N w0 G12 := Ev.addS_ok (Ev.pureS_ok sRFirst_ok) (Ev.addS_ok (Ev.pureS_ok sROwn_ok) (Ev.addS_ok (Ev.pureS_ok sRCValid_ok) (Ev.addS_ok (Ev.pureS_ok sRTValid_ok) (Ev.addS_ok (Ev.pureS_ok sRTBound_ok) Ev.noS_ok))))
end Go.Proofs.Ytcgjfgahhpmcpaa
