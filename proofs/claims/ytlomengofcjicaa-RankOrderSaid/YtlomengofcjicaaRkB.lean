/- Rank: Better, Feasible. -/
import Derived.Test.YtlomengofcjicaaRkA
namespace Go.Proofs.Ytlomengofcjicaa
open Go Go.ChangeShapes Go.WideShapes Go.ChangeAt Go.RowKit
set_option linter.all false
theorem better_L (a b c d : Int) (r : Ev.Sup) : ((Ev.evalF Try.prog Ev.noS 60 14 [.agg #[undef, undef], .agg #[undef, undef]] [.agg #[.int .i64 a, .int .i64 b], .agg #[.int .i64 c, .int .i64 d]] [] r)).lhs = ((Ev.evalF Try.prog Ev.noS 60 14 [.agg #[undef, undef], .agg #[undef, undef]] [.agg #[.int .i64 a, .int .i64 b], .agg #[.int .i64 c, .int .i64 d]] [] r)).rhs := by kernel_rfl
theorem better_T (a b c d : Int) (r : Ev.Sup) : ((Ev.evalF Try.prog Ev.noS 60 14 [.agg #[undef, undef], .agg #[undef, undef]] [.agg #[.int .i64 a, .int .i64 b], .agg #[.int .i64 c, .int .i64 d]] [] r)).val = (.ite (decide (a > c)) (.leaf (.bool (true))) (.ite (a == c) (.leaf (.bool (decide (b < d)))) (.leaf (.bool (false))))) := by kernel_rfl
theorem feas_L (a b c d e x y : Int) (r : Ev.Sup) : ((Ev.evalF Try.prog Ev.noS 60 16 [.agg #[undef, undef, undef, undef, undef], .agg #[undef, undef]] [.agg #[.int .i64 a, .int .i64 b, .int .i64 c, .int .i64 d, .int .i64 e], .agg #[.int .i64 x, .int .i64 y]] [] r)).lhs = ((Ev.evalF Try.prog Ev.noS 60 16 [.agg #[undef, undef, undef, undef, undef], .agg #[undef, undef]] [.agg #[.int .i64 a, .int .i64 b, .int .i64 c, .int .i64 d, .int .i64 e], .agg #[.int .i64 x, .int .i64 y]] [] r)).rhs := by kernel_rfl
theorem feas_T (a b c d e x y : Int) (r : Ev.Sup) : ((Ev.evalF Try.prog Ev.noS 60 16 [.agg #[undef, undef, undef, undef, undef], .agg #[undef, undef]] [.agg #[.int .i64 a, .int .i64 b, .int .i64 c, .int .i64 d, .int .i64 e], .agg #[.int .i64 x, .int .i64 y]] [] r)).val = (.ite (decide (y < 1000000)) (.ite (decide (x > c)) (.leaf (.bool (true))) (.ite (x == c) (.leaf (.bool (decide (y < d)))) (.leaf (.bool (false))))) (.leaf (.bool (false)))) := by kernel_rfl
def btP (a b c d : Int) : Bool := decide (a > c) || (a == c && decide (b < d))
def fsP (c d x y : Int) : Bool := decide (y < 1000000) && btP x y c d
theorem better_c (a b c d : Int) (w : World) : Calls Try.prog 14 #[.agg #[.int .i64 a, .int .i64 b], .agg #[.int .i64 c, .int .i64 d]] w fun e w' => e = .returned (.bool (btP a b c d)) ∧ Below w.heap.size w w' := by
  refine Ev.contract1 Ev.noS_ok 60 (Ev.ExtOk.nil w) (better_L a b c d) (better_T a b c d) ?_
  simp only [Ev.Tree.good, btP]
  simp +contextual
theorem feas_c (a b c d e x y : Int) (w : World) : Calls Try.prog 16 #[.agg #[.int .i64 a, .int .i64 b, .int .i64 c, .int .i64 d, .int .i64 e], .agg #[.int .i64 x, .int .i64 y]] w fun z w' => z = .returned (.bool (fsP c d x y)) ∧ Below w.heap.size w w' := by
  refine Ev.contract1 Ev.noS_ok 60 (Ev.ExtOk.nil w) (feas_L a b c d e x y) (feas_T a b c d e x y) ?_
  simp only [Ev.Tree.good, fsP, btP]
  simp +contextual
  omega
def sBetter : List Value → Option Value
  | [x0, x1] => match Ev.aggLf x0, Ev.aggLf x1 with
    | some [.i .i64 a, .i .i64 b], some [.i .i64 c, .i .i64 d] => some (.bool (btP a b c d))
    | _, _ => none
  | _ => none
theorem sBetter_ok : ∀ a v, sBetter a = some v → ∀ w, Calls Try.prog 14 a.toArray w fun e w' => e = .returned v ∧ Below w.heap.size w w' := by
  intro a v h w
  unfold sBetter at h
  split at h
  · rename_i x0 x1
    split at h
    · rename_i a b c d h0 h1
      have e0 := Ev.aggLf_eq h0
      have e1 := Ev.aggLf_eq h1
      subst e0; subst e1
      cases h
      exact better_c a b c d w
    · cases h
  · cases h
def sFeas : List Value → Option Value
  | [x0, x1] => match Ev.aggLf x0, Ev.aggLf x1 with
    | some [.i .i64 a, .i .i64 b, .i .i64 c, .i .i64 d, .i .i64 e], some [.i .i64 x, .i .i64 y] => some (.bool (fsP c d x y))
    | _, _ => none
  | _ => none
theorem sFeas_ok : ∀ a v, sFeas a = some v → ∀ w, Calls Try.prog 16 a.toArray w fun e w' => e = .returned v ∧ Below w.heap.size w w' := by
  intro a v h w
  unfold sFeas at h
  split at h
  · rename_i x0 x1
    split at h
    · rename_i a b c d e x y h0 h1
      have e0 := Ev.aggLf_eq h0
      have e1 := Ev.aggLf_eq h1
      subst e0; subst e1
      cases h
      exact feas_c a b c d e x y w
    · cases h
  · cases h
noncomputable def G2 : Ev.Sum := Ev.addS 14 (Ev.pureS sBetter) (Ev.addS 16 (Ev.pureS sFeas) G1)
theorem G2_ok : ∀ N w0, Ev.SumOk Try.prog N w0 G2 := Ev.addS_ok (Ev.pureS_ok sBetter_ok) (Ev.addS_ok (Ev.pureS_ok sFeas_ok) G1_ok)
end Go.Proofs.Ytlomengofcjicaa
