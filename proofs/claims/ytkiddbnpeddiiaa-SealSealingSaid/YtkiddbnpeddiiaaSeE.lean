/- Package seal: trees of its laws. -/
import Derived.Test.YtkiddbnpeddiiaaSeD
namespace Go.Proofs.Ytkiddbnpeddiiaa
open Go Go.ChangeShapes Go.WideShapes Go.ChangeAt Go.RowKit
set_option linter.all false
theorem head_c (w : World) : Calls Try.prog 9 #[] w fun e w' => e = .returned (.bool true) ∧ Below w.heap.size w w' :=
  Ev.contract1 G1_ok 60 (Ev.ExtOk.nil w) head_L head_T rfl
def sHead : List Value → Option Value
  | [] => some (.bool true)
  | _ => none
theorem sHead_ok : ∀ a v, sHead a = some v → ∀ w, Calls Try.prog 9 a.toArray w fun e w' => e = .returned v ∧ Below w.heap.size w w' := by
  intro a v h w
  unfold sHead at h
  split at h
  · cases h; exact head_c w
  · cases h
noncomputable def G2 : Ev.Sum := Ev.addS 9 (Ev.pureS sHead) G1
theorem G2_ok : ∀ N w0, Ev.SumOk Try.prog N w0 G2 := Ev.addS_ok (Ev.pureS_ok sHead_ok) G1_ok
end Go.Proofs.Ytkiddbnpeddiiaa
