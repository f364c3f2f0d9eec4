/- Contracts of package bound and its reference: trees of Meet. -/
import Derived.Test.YtbeaipngljphkaaTsC
namespace Go.Proofs.Ytbeaipngljphkaa
open Go Go.ChangeShapes Go.WideShapes Go.ChangeAt Go.RowKit
set_option linter.all false
theorem grown_L (lo hi at0 now : Int) (r : Ev.Sup) : ((Ev.evalF Try.prog G2 60 47 [(.agg #[undef, undef, undef]), undef] [(.agg #[.int .i64 lo, .int .i64 hi, .int .i64 at0]), .int .i64 now] [] r)).lhs = ((Ev.evalF Try.prog G2 60 47 [(.agg #[undef, undef, undef]), undef] [(.agg #[.int .i64 lo, .int .i64 hi, .int .i64 at0]), .int .i64 now] [] r)).rhs := by kernel_rfl
theorem grown_T (lo hi at0 now : Int) (r : Ev.Sup) : ((Ev.evalF Try.prog G2 60 47 [(.agg #[undef, undef, undef]), undef] [(.agg #[.int .i64 lo, .int .i64 hi, .int .i64 at0]), .int .i64 now] [] r)).val = (.leaf (.agg #[.int .i64 (IntKind.wrap IntKind.i64 (lo - IntKind.wrap IntKind.i64 (IntKind.wrap IntKind.i64 (Int.tdiv (IntKind.wrap IntKind.i64 (IntKind.wrap IntKind.i64 (IntKind.wrap IntKind.i64 (IntKind.wrap IntKind.i64 (now - at0) * 51) + 1000000) - 1)) 1000000) + 1))), .int .i64 (IntKind.wrap IntKind.i64 (hi + IntKind.wrap IntKind.i64 (IntKind.wrap IntKind.i64 (Int.tdiv (IntKind.wrap IntKind.i64 (IntKind.wrap IntKind.i64 (IntKind.wrap IntKind.i64 (IntKind.wrap IntKind.i64 (now - at0) * 51) + 1000000) - 1)) 1000000) + 1))), .int .i64 (now)])) := by kernel_rfl
/-- the number by which a span is widened, as it is counted -/
def mw (e : Int) : Int := IntKind.wrap .i64 (IntKind.wrap .i64 (Int.tdiv (IntKind.wrap .i64 (IntKind.wrap .i64 (IntKind.wrap .i64 (IntKind.wrap .i64 e * 51) + 1000000) - 1)) 1000000) + 1)
def grL (lo at0 now : Int) : Int := IntKind.wrap .i64 (lo - mw (now - at0))
def grH (hi at0 now : Int) : Int := IntKind.wrap .i64 (hi + mw (now - at0))
def grownV (lo hi at0 now : Int) : Value := .agg #[.int .i64 (grL lo at0 now), .int .i64 (grH hi at0 now), .int .i64 now]
theorem grown_c (lo hi at0 now : Int) (w : World) : Calls Try.prog 47 #[(.agg #[.int .i64 lo, .int .i64 hi, .int .i64 at0]), .int .i64 now] w fun e w' => e = .returned (grownV lo hi at0 now) ∧ Below w.heap.size w w' := by
  refine Ev.contract1 G2_ok 60 (Ev.ExtOk.nil w) (grown_L lo hi at0 now) (grown_T lo hi at0 now) ?_
  rfl
def sGrown : List Value → Option Value
  | [x0, x1] => match Ev.aggLf x0, Ev.toLf x1 with
    | some [.i .i64 lo, .i .i64 hi, .i .i64 at0], some (.i .i64 now) => some (grownV lo hi at0 now)
    | _, _ => none
  | _ => none
theorem sGrown_ok : ∀ a v, sGrown a = some v → ∀ w, Calls Try.prog 47 a.toArray w fun e w' => e = .returned v ∧ Below w.heap.size w w' := by
  intro a v h w
  unfold sGrown at h
  split at h
  · rename_i x0 x1
    split at h
    · rename_i lo hi at0 now h0 h1
      have e0 := Ev.aggLf_eq h0
      have e1 := Ev.toLf_eq h1
      subst e0; subst e1
      cases h
      exact grown_c lo hi at0 now w
    · cases h
  · cases h
noncomputable def G3 : Ev.Sum := Ev.addS 47 (Ev.pureS sGrown) G2
theorem G3_ok : ∀ N w0, Ev.SumOk Try.prog N w0 G3 := Ev.addS_ok (Ev.pureS_ok sGrown_ok) G2_ok
end Go.Proofs.Ytbeaipngljphkaa
