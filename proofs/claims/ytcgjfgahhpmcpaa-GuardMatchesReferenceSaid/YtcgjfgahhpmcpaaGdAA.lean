/- Guard: the law of the reference. -/
import Derived.Test.YtcgjfgahhpmcpaaGdZ
namespace Go.Proofs.Ytcgjfgahhpmcpaa
open Go Go.ChangeShapes Go.WideShapes Go.ChangeAt Go.RowKit
set_option linter.all false
theorem lmatch_c (sy : Bool) (lo hi at0 ho so he o d : Int) (n s l h : Int) (w : World) : Calls Try.prog 3 #[(.agg #[.bool sy, .int .i64 lo, .int .i64 hi, .int .i64 at0, .int .i64 ho, .int .i64 so, .int .i64 he]), (.agg #[.int .i64 o, .int .i64 d]), .int .i64 n, .int .i64 s, .agg #[.int .i64 l, .int .i64 h]] w fun e w' => e = .returned (.bool true) ∧ Below w.heap.size w w' := by
  refine Ev.contract1 G14_ok 60 (Ev.ExtOk.nil w) (lmatch_L sy lo hi at0 ho so he o d n s l h) (lmatch_T sy lo hi at0 ho so he o d n s l h) ?_
  have q : ∀ x : Int, (x == x) = true := fun x => by simp
  have p : ∀ b : Bool, (b == b) = true := fun b => by cases b <;> rfl
  simp only [q, p, Bool.and_self, Bool.true_and]
  exact Ev.good_t rfl (Ev.good_t rfl (Ev.good_t rfl (Ev.good_t rfl rfl)))
end Go.Proofs.Ytcgjfgahhpmcpaa
