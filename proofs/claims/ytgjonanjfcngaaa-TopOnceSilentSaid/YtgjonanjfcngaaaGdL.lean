/- Guard: the head; Send, Listen, what is true, Catches, Own: trees. -/
import Derived.Test.YtgjonanjfcngaaaGdK
namespace Go.Proofs.Ytgjonanjfcngaaa
open Go Go.ChangeShapes Go.WideShapes Go.ChangeAt Go.RowKit
set_option linter.all false
theorem head_L  (r : Ev.Sup) : ((Ev.evalF Try.prog G7 60 4 [] [] [] r)).lhs = ((Ev.evalF Try.prog G7 60 4 [] [] [] r)).rhs := by kernel_rfl
theorem head_T  (r : Ev.Sup) : ((Ev.evalF Try.prog G7 60 4 [] [] [] r)).val = (.leaf (.bool (true))) := by kernel_rfl
theorem head_c (w : World) : Calls Try.prog 4 #[] w fun e w' => e = .returned (.bool true) ∧ Below w.heap.size w w' :=
  Ev.contract1 G7_ok 60 (Ev.ExtOk.nil w) head_L head_T rfl
def sHead : List Value → Option Value
  | [] => some (.bool true)
  | _ => none
theorem sHead_ok : ∀ a v, sHead a = some v → ∀ w, Calls Try.prog 4 a.toArray w fun e w' => e = .returned v ∧ Below w.heap.size w w' := by
  intro a v h w
  unfold sHead at h
  split at h
  · cases h; exact head_c w
  · cases h
theorem send_L (sy : Bool) (lo hi at0 ho so he o d : Int) (n : Int) (r : Ev.Sup) : ((Ev.evalF Try.prog G10 60 5 [(.agg #[undef, undef, undef, undef, undef, undef, undef]), (.agg #[undef, undef]), undef] [(.agg #[.bool sy, .int .i64 lo, .int .i64 hi, .int .i64 at0, .int .i64 ho, .int .i64 so, .int .i64 he]), (.agg #[.int .i64 o, .int .i64 d]), .int .i64 n] [] r)).lhs = ((Ev.evalF Try.prog G10 60 5 [(.agg #[undef, undef, undef, undef, undef, undef, undef]), (.agg #[undef, undef]), undef] [(.agg #[.bool sy, .int .i64 lo, .int .i64 hi, .int .i64 at0, .int .i64 ho, .int .i64 so, .int .i64 he]), (.agg #[.int .i64 o, .int .i64 d]), .int .i64 n] [] r)).rhs := by kernel_rfl
theorem send_T (sy : Bool) (lo hi at0 ho so he o d : Int) (n : Int) (r : Ev.Sup) : ((Ev.evalF Try.prog G10 60 5 [(.agg #[undef, undef, undef, undef, undef, undef, undef]), (.agg #[undef, undef]), undef] [(.agg #[.bool sy, .int .i64 lo, .int .i64 hi, .int .i64 at0, .int .i64 ho, .int .i64 so, .int .i64 he]), (.agg #[.int .i64 o, .int .i64 d]), .int .i64 n] [] r)).val = (.ite (stE sy lo hi at0 ho so he o d n == 0) (.leaf (.tuple #[.int .i64 (stN sy lo hi at0 ho so he o d n), .int .i64 (0)])) (.leaf (.tuple #[.int .i64 (0), .int .i64 (stE sy lo hi at0 ho so he o d n)]))) := by kernel_rfl
theorem rown_L (sy : Bool) (lo hi at0 ho so he : Int) (n : Int) (r : Ev.Sup) : ((Ev.evalF Try.prog G10 60 6 [(.agg #[undef, undef, undef, undef, undef, undef, undef]), undef] [(.agg #[.bool sy, .int .i64 lo, .int .i64 hi, .int .i64 at0, .int .i64 ho, .int .i64 so, .int .i64 he]), .int .i64 n] [] r)).lhs = ((Ev.evalF Try.prog G10 60 6 [(.agg #[undef, undef, undef, undef, undef, undef, undef]), undef] [(.agg #[.bool sy, .int .i64 lo, .int .i64 hi, .int .i64 at0, .int .i64 ho, .int .i64 so, .int .i64 he]), .int .i64 n] [] r)).rhs := by kernel_rfl
theorem rown_T (sy : Bool) (lo hi at0 ho so he : Int) (n : Int) (r : Ev.Sup) : ((Ev.evalF Try.prog G10 60 6 [(.agg #[undef, undef, undef, undef, undef, undef, undef]), undef] [(.agg #[.bool sy, .int .i64 lo, .int .i64 hi, .int .i64 at0, .int .i64 ho, .int .i64 so, .int .i64 he]), .int .i64 n] [] r)).val = (.ite (ho == 0) (.leaf (.int .i64 (IntKind.wrap IntKind.i64 (10000 * n)))) (.ite (decide (IntKind.wrap IntKind.i64 (lo + hi) < 0)) (.leaf (.int .i64 (IntKind.wrap IntKind.i64 (IntKind.wrap IntKind.i64 (10000 * n) - IntKind.wrap IntKind.i64 (0 - IntKind.wrap IntKind.i64 (Int.tdiv (IntKind.wrap IntKind.i64 (1 - IntKind.wrap IntKind.i64 (lo + hi))) 2)))))) (.leaf (.int .i64 (IntKind.wrap IntKind.i64 (IntKind.wrap IntKind.i64 (10000 * n) - IntKind.wrap IntKind.i64 (Int.tdiv (IntKind.wrap IntKind.i64 (lo + hi)) 2))))))) := by kernel_rfl
end Go.Proofs.Ytgjonanjfcngaaa
