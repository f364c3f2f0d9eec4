/- The laws of package trickle without loops. -/
import Derived.Test.YtfigmjkogkfkiaaDoorTriD
namespace Go.Proofs.YtfigmjkogkfkiaaDoor
open Go Go.ChangeShapes Go.WideShapes Go.ChangeAt Go.RowKit
set_option linter.all false
theorem head_L  (r : Ev.Sup) : ((Ev.evalF Tryd.prog Ev.noS 60 10 [] [] [tabE] r)).lhs = ((Ev.evalF Tryd.prog Ev.noS 60 10 [] [] [tabE] r)).rhs := by kernel_rfl
theorem head_T  (r : Ev.Sup) : ((Ev.evalF Tryd.prog Ev.noS 60 10 [] [] [tabE] r)).val = (.leaf (.bool (true))) := by kernel_rfl
theorem head_c (w : World) (ht : Tab w) : Calls Tryd.prog 10 #[] w fun e w' => e = .returned (.bool true) ∧ Below w.heap.size w w' :=
  Ev.contract1 Ev.noS_ok 60 (tab_ext ht) head_L head_T rfl
def sHead : List Value → Option Value
  | [] => some (.bool true)
  | _ => none
theorem sHead_ok : ∀ a v, sHead a = some v → ∀ w, Tab w → Calls Tryd.prog 10 a.toArray w fun e w' => e = .returned v ∧ Below w.heap.size w w' := by
  intro a v h w ht
  unfold sHead at h
  split at h
  · cases h; exact head_c w ht
  · cases h
noncomputable def G4 : Ev.Sum := Ev.addS 10 (tabH id sHead) G3
theorem G4_ok : ∀ N w0, Ev.SumOk Tryd.prog N w0 G4 := Ev.addS_ok (tabH_ok sHead_ok) G3_ok
end Go.Proofs.YtfigmjkogkfkiaaDoor
