/- Package bound: the reference's width. -/
import Derived.Test.YtkmkfjaokjcelaaTsF
namespace Go.Proofs.Ytkmkfjaokjcelaa
open Go Go.ChangeShapes Go.WideShapes Go.ChangeAt Go.RowKit
set_option linter.all false
theorem rwidth_L (lo hi at0 : Int) (r : Ev.Sup) : (Ev.evalF Try.prog G4 60 21 [(.agg #[undef, undef, undef])] [(.agg #[.int .i64 lo, .int .i64 hi, .int .i64 at0])] [] r).lhs = (Ev.evalF Try.prog G4 60 21 [(.agg #[undef, undef, undef])] [(.agg #[.int .i64 lo, .int .i64 hi, .int .i64 at0])] [] r).rhs := by kernel_rfl
theorem rwidth_T (lo hi at0 : Int) (r : Ev.Sup) : (Ev.evalF Try.prog G4 60 21 [(.agg #[undef, undef, undef])] [(.agg #[.int .i64 lo, .int .i64 hi, .int .i64 at0])] [] r).val = (.ite (!spP lo hi at0) (.leaf (.int .i64 (-1))) (.leaf (.int .i64 (IntKind.wrap IntKind.i64 (hi - lo))))) := by kernel_rfl
theorem rwidth_c (lo hi at0 : Int) (w : World) : Calls Try.prog 21 #[(.agg #[.int .i64 lo, .int .i64 hi, .int .i64 at0])] w fun e w' => e = .returned (.int .i64 (wdP lo hi at0)) ∧ Below w.heap.size w w' := by
  refine Ev.contract1 G4_ok 60 (Ev.ExtOk.nil w) (rwidth_L lo hi at0) (rwidth_T lo hi at0) ?_
  refine ⟨fun h => ?_, fun h => ?_⟩
  · simp only [Bool.not_eq_true'] at h
    simp [Ev.Tree.good, wdP, h, sel]
  · simp only [Bool.not_eq_false'] at h
    have := sp_iff.1 h
    rw [w64 (by omega) (by omega)]
    simp [Ev.Tree.good, wdP, h, sel]
def sRWidth : List Value → Option Value
  | [x0] => match Ev.aggLf x0 with
    | some [.i .i64 lo, .i .i64 hi, .i .i64 at0] => some (.int .i64 (wdP lo hi at0))
    | _ => none
  | _ => none
theorem sRWidth_ok : ∀ a v, sRWidth a = some v → ∀ w, Calls Try.prog 21 a.toArray w fun e w' => e = .returned v ∧ Below w.heap.size w w' := by
  intro a v h w
  unfold sRWidth at h
  split at h
  · rename_i x0
    split at h
    · rename_i lo hi at0 h0
      have e0 := Ev.aggLf_eq h0
      subst e0
      cases h
      exact rwidth_c lo hi at0 w
    · cases h
  · cases h
noncomputable def G5 : Ev.Sum := Ev.addS 21 (Ev.pureS sRWidth) G4
theorem G5_ok : ∀ N w0, Ev.SumOk Try.prog N w0 G5 := Ev.addS_ok (Ev.pureS_ok sRWidth_ok) G4_ok
end Go.Proofs.Ytkmkfjaokjcelaa
