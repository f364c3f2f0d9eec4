/- Rank: Order. -/
import Derived.Test.YtlomengofcjicaaRkB
namespace Go.Proofs.Ytlomengofcjicaa
open Go Go.ChangeShapes Go.WideShapes Go.ChangeAt Go.RowKit
set_option linter.all false
theorem lord_L (a b c d e f r1 r2 r3 r4 r5 s1 s2 s3 s4 s5 : Int) (r : Ev.Sup) : ((Ev.evalF Try.prog G2 60 4 [.agg #[undef, undef], .agg #[undef, undef], .agg #[undef, undef], .agg #[undef, undef, undef, undef, undef], .agg #[undef, undef, undef, undef, undef]] [.agg #[.int .i64 a, .int .i64 b], .agg #[.int .i64 c, .int .i64 d], .agg #[.int .i64 e, .int .i64 f], .agg #[.int .i64 r1, .int .i64 r2, .int .i64 r3, .int .i64 r4, .int .i64 r5], .agg #[.int .i64 s1, .int .i64 s2, .int .i64 s3, .int .i64 s4, .int .i64 s5]] [] r)).lhs = ((Ev.evalF Try.prog G2 60 4 [.agg #[undef, undef], .agg #[undef, undef], .agg #[undef, undef], .agg #[undef, undef, undef, undef, undef], .agg #[undef, undef, undef, undef, undef]] [.agg #[.int .i64 a, .int .i64 b], .agg #[.int .i64 c, .int .i64 d], .agg #[.int .i64 e, .int .i64 f], .agg #[.int .i64 r1, .int .i64 r2, .int .i64 r3, .int .i64 r4, .int .i64 r5], .agg #[.int .i64 s1, .int .i64 s2, .int .i64 s3, .int .i64 s4, .int .i64 s5]] [] r)).rhs := by kernel_rfl
theorem lord_T (a b c d e f r1 r2 r3 r4 r5 s1 s2 s3 s4 s5 : Int) (r : Ev.Sup) : ((Ev.evalF Try.prog G2 60 4 [.agg #[undef, undef], .agg #[undef, undef], .agg #[undef, undef], .agg #[undef, undef, undef, undef, undef], .agg #[undef, undef, undef, undef, undef]] [.agg #[.int .i64 a, .int .i64 b], .agg #[.int .i64 c, .int .i64 d], .agg #[.int .i64 e, .int .i64 f], .agg #[.int .i64 r1, .int .i64 r2, .int .i64 r3, .int .i64 r4, .int .i64 r5], .agg #[.int .i64 s1, .int .i64 s2, .int .i64 s3, .int .i64 s4, .int .i64 s5]] [] r)).val = (.ite (btP a b c d) (.ite (btP c d a b) (.leaf (.bool (false))) (.ite (!btP a b c d) (.ite (!(a == c && (b == d && true)) == !btP c d a b) (.leaf (.bool (false))) (.ite (btP a b c d) (.ite (btP c d e f) (.ite (!btP a b e f) (.leaf (.bool (false))) (.ite (!fsP r3 r4 a b) (.leaf (.bool (true))) (.ite (btP s3 s4 r3 r4) (.leaf (.bool (true))) (.leaf (.bool (fsP s3 s4 a b)))))) (.ite (!fsP r3 r4 a b) (.leaf (.bool (true))) (.ite (btP s3 s4 r3 r4) (.leaf (.bool (true))) (.leaf (.bool (fsP s3 s4 a b)))))) (.ite (!fsP r3 r4 a b) (.leaf (.bool (true))) (.ite (btP s3 s4 r3 r4) (.leaf (.bool (true))) (.leaf (.bool (fsP s3 s4 a b))))))) (.ite (!(a == c && (b == d && true)) == false) (.leaf (.bool (false))) (.ite (btP a b c d) (.ite (btP c d e f) (.ite (!btP a b e f) (.leaf (.bool (false))) (.ite (!fsP r3 r4 a b) (.leaf (.bool (true))) (.ite (btP s3 s4 r3 r4) (.leaf (.bool (true))) (.leaf (.bool (fsP s3 s4 a b)))))) (.ite (!fsP r3 r4 a b) (.leaf (.bool (true))) (.ite (btP s3 s4 r3 r4) (.leaf (.bool (true))) (.leaf (.bool (fsP s3 s4 a b)))))) (.ite (!fsP r3 r4 a b) (.leaf (.bool (true))) (.ite (btP s3 s4 r3 r4) (.leaf (.bool (true))) (.leaf (.bool (fsP s3 s4 a b))))))))) (.ite (!btP a b c d) (.ite (!(a == c && (b == d && true)) == !btP c d a b) (.leaf (.bool (false))) (.ite (btP a b c d) (.ite (btP c d e f) (.ite (!btP a b e f) (.leaf (.bool (false))) (.ite (!fsP r3 r4 a b) (.leaf (.bool (true))) (.ite (btP s3 s4 r3 r4) (.leaf (.bool (true))) (.leaf (.bool (fsP s3 s4 a b)))))) (.ite (!fsP r3 r4 a b) (.leaf (.bool (true))) (.ite (btP s3 s4 r3 r4) (.leaf (.bool (true))) (.leaf (.bool (fsP s3 s4 a b)))))) (.ite (!fsP r3 r4 a b) (.leaf (.bool (true))) (.ite (btP s3 s4 r3 r4) (.leaf (.bool (true))) (.leaf (.bool (fsP s3 s4 a b))))))) (.ite (!(a == c && (b == d && true)) == false) (.leaf (.bool (false))) (.ite (btP a b c d) (.ite (btP c d e f) (.ite (!btP a b e f) (.leaf (.bool (false))) (.ite (!fsP r3 r4 a b) (.leaf (.bool (true))) (.ite (btP s3 s4 r3 r4) (.leaf (.bool (true))) (.leaf (.bool (fsP s3 s4 a b)))))) (.ite (!fsP r3 r4 a b) (.leaf (.bool (true))) (.ite (btP s3 s4 r3 r4) (.leaf (.bool (true))) (.leaf (.bool (fsP s3 s4 a b)))))) (.ite (!fsP r3 r4 a b) (.leaf (.bool (true))) (.ite (btP s3 s4 r3 r4) (.leaf (.bool (true))) (.leaf (.bool (fsP s3 s4 a b))))))))) := by kernel_rfl
theorem bt_iff {a b c d : Int} : btP a b c d = true ↔ (c < a ∨ a = c ∧ b < d) := by
  simp [btP]
theorem lord_c (a b c d e f r1 r2 r3 r4 r5 s1 s2 s3 s4 s5 : Int) (w : World) : Calls Try.prog 4 #[.agg #[.int .i64 a, .int .i64 b], .agg #[.int .i64 c, .int .i64 d], .agg #[.int .i64 e, .int .i64 f], .agg #[.int .i64 r1, .int .i64 r2, .int .i64 r3, .int .i64 r4, .int .i64 r5], .agg #[.int .i64 s1, .int .i64 s2, .int .i64 s3, .int .i64 s4, .int .i64 s5]] w fun z w' => z = .returned (.bool true) ∧ Below w.heap.size w w' := by
  refine Ev.contract1 G2_ok 60 (Ev.ExtOk.nil w) (lord_L a b c d e f r1 r2 r3 r4 r5 s1 s2 s3 s4 s5) (lord_T a b c d e f r1 r2 r3 r4 r5 s1 s2 s3 s4 s5) ?_
  have k1 : ¬ (btP a b c d = true ∧ btP c d a b = true) := by rw [bt_iff, bt_iff]; omega
  have k2 : (a == c && (b == d && true)) = (!btP a b c d && !btP c d a b) := by
    rw [Bool.eq_iff_iff]
    simp [btP]
    omega
  have k3 : btP a b c d = true → btP c d e f = true → btP a b e f = true := by rw [bt_iff, bt_iff, bt_iff]; omega
  have k4 : fsP r3 r4 a b = true → btP s3 s4 r3 r4 = false → fsP s3 s4 a b = true := by
    intro h1 h2
    have h3 : ¬ btP s3 s4 r3 r4 = true := by rw [h2]; simp
    rw [bt_iff] at h3
    simp only [fsP, Bool.and_eq_true, bt_iff, decide_eq_true_eq] at h1 ⊢
    omega
  rw [k2]
  clear k2
  generalize btP a b c d = p at *
  generalize btP c d a b = q at *
  generalize btP c d e f = u at *
  generalize btP a b e f = v at *
  generalize fsP r3 r4 a b = x at *
  generalize btP s3 s4 r3 r4 = y at *
  generalize fsP s3 s4 a b = z at *
  revert k1 k3 k4
  cases p <;> cases q <;> cases u <;> cases v <;> cases x <;> cases y <;> cases z <;> simp [Ev.Tree.good]
end Go.Proofs.Ytlomengofcjicaa
