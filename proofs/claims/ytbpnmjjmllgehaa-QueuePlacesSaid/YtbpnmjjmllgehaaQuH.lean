/- Package queue: the head of its laws. -/
import Derived.Test.YtbpnmjjmllgehaaEvF
namespace Go.Proofs.Ytbpnmjjmllgehaa
open Go Go.ChangeShapes Go.WideShapes Go.ChangeAt Go.RowKit
set_option linter.all false
theorem head_L (r : Ev.Sup) : (Ev.evalF Try.prog Ev.noS 60 9 [] [] [] r).lhs = (Ev.evalF Try.prog Ev.noS 60 9 [] [] [] r).rhs := by kernel_rfl
theorem head_T (r : Ev.Sup) : (Ev.evalF Try.prog Ev.noS 60 9 [] [] [] r).val = .leaf (.bool true) := by kernel_rfl
theorem head_c (w : World) : Calls Try.prog 9 #[] w fun e w' => e = .returned (.bool true) ∧ Below w.heap.size w w' :=
  Ev.contract1 Ev.noS_ok 60 (Ev.ExtOk.nil w) head_L head_T rfl
def sHd (st : Ev.St) : List (Value × Value) → Option Ev.GS
  | [] =>  some ⟨[], [], (.bool true), .bool true⟩
  | _ => none
theorem sHd_ok : ∀ st xs s, sHd st xs = some s → (∀ x ∈ s.cl, x.1 = x.2) → (∀ b ∈ s.pre, b = true) → ∀ w N w0, Ev.Rel N w0 st w → Calls Try.prog 9 (xs.map Prod.snd).toArray w fun e w' => e = .returned s.v ∧ Below w.heap.size w w' := by
  intro st xs s h hcl hpre w N w0 hr
  unfold sHd at h
  split at h
  rotate_left
  · cases h
  obtain rfl := Option.some.inj h
  exact head_c w
end Go.Proofs.Ytbpnmjjmllgehaa
