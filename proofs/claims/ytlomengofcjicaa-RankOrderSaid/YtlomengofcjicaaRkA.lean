/- Rank: the head, Order. -/
import Derived.Test.YtlomengofcjicaaEvQ
namespace Go.Proofs.Ytlomengofcjicaa
open Go Go.ChangeShapes Go.WideShapes Go.ChangeAt Go.RowKit
set_option linter.all false
theorem head_L  (r : Ev.Sup) : ((Ev.evalF Try.prog Ev.noS 60 11 [] [] [] r)).lhs = ((Ev.evalF Try.prog Ev.noS 60 11 [] [] [] r)).rhs := by kernel_rfl
theorem head_T  (r : Ev.Sup) : ((Ev.evalF Try.prog Ev.noS 60 11 [] [] [] r)).val = (.leaf (.bool (true))) := by kernel_rfl
theorem head_c (w : World) : Calls Try.prog 11 #[] w fun e w' => e = .returned (.bool true) ∧ Below w.heap.size w w' :=
  Ev.contract1 Ev.noS_ok 60 (Ev.ExtOk.nil w) head_L head_T rfl
def sHead : List Value → Option Value
  | [] => some (.bool true)
  | _ => none
theorem sHead_ok : ∀ a v, sHead a = some v → ∀ w, Calls Try.prog 11 a.toArray w fun e w' => e = .returned v ∧ Below w.heap.size w w' := by
  intro a v h w
  unfold sHead at h
  split at h
  · cases h; exact head_c w
  · cases h
noncomputable def G1 : Ev.Sum := Ev.addS 11 (Ev.pureS sHead) Ev.noS
theorem G1_ok : ∀ N w0, Ev.SumOk Try.prog N w0 G1 := Ev.addS_ok (Ev.pureS_ok sHead_ok) Ev.noS_ok
end Go.Proofs.Ytlomengofcjicaa
