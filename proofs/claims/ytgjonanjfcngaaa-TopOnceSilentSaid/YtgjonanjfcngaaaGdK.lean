/- Guard: starts: trees and contracts. -/
import Derived.Test.YtgjonanjfcngaaaGdJ
namespace Go.Proofs.Ytgjonanjfcngaaa
open Go Go.ChangeShapes Go.WideShapes Go.ChangeAt Go.RowKit
set_option linter.all false
theorem wstart_L (sy : Bool) (lo hi at0 ho so he o d : Int) (n : Int) (r : Ev.Sup) : ((Ev.evalF Try.prog G9 60 11 [(.agg #[undef, undef, undef, undef, undef, undef, undef, undef, undef]), undef] [(.agg #[.bool sy, .int .i64 lo, .int .i64 hi, .int .i64 at0, .int .i64 ho, .int .i64 so, .int .i64 he, .int .i64 o, .int .i64 d]), .int .i64 n] [] r)).lhs = ((Ev.evalF Try.prog G9 60 11 [(.agg #[undef, undef, undef, undef, undef, undef, undef, undef, undef]), undef] [(.agg #[.bool sy, .int .i64 lo, .int .i64 hi, .int .i64 at0, .int .i64 ho, .int .i64 so, .int .i64 he, .int .i64 o, .int .i64 d]), .int .i64 n] [] r)).rhs := by kernel_rfl
theorem wstart_T (sy : Bool) (lo hi at0 ho so he o d : Int) (n : Int) (r : Ev.Sup) : ((Ev.evalF Try.prog G9 60 11 [(.agg #[undef, undef, undef, undef, undef, undef, undef, undef, undef]), undef] [(.agg #[.bool sy, .int .i64 lo, .int .i64 hi, .int .i64 at0, .int .i64 ho, .int .i64 so, .int .i64 he, .int .i64 o, .int .i64 d]), .int .i64 n] [] r)).out = (.ite (boE sy lo hi at0 ho so he o d n == 0) (.ite (fsE o d (owR sy ho lo hi n) == 0) (.leaf (.tuple #[.bool (true), .int .i64 (IntKind.wrap IntKind.i64 (fsN o d (owR sy ho lo hi n) - IntKind.wrap IntKind.i64 (n * 10000)))])) (.leaf (.tuple #[.bool (false), .iface 29 (.int .i64 (fsE o d (owR sy ho lo hi n)))]))) (.leaf (.tuple #[.bool (false), .iface 29 (.int .i64 (boE sy lo hi at0 ho so he o d n))]))) := by kernel_rfl
def stE (sy : Bool) (lo hi at0 ho so he o d n : Int) : Int := sel (boE sy lo hi at0 ho so he o d n == 0) (fsE o d (owR sy ho lo hi n)) (boE sy lo hi at0 ho so he o d n)
def stN (sy : Bool) (lo hi at0 ho so he o d n : Int) : Int := IntKind.wrap .i64 (fsN o d (owR sy ho lo hi n) - bb n)
theorem wstart_c (sy : Bool) (lo hi at0 ho so he o d : Int) (n : Int) (w : World) : Calls Try.prog 11 #[(.agg #[.bool sy, .int .i64 lo, .int .i64 hi, .int .i64 at0, .int .i64 ho, .int .i64 so, .int .i64 he, .int .i64 o, .int .i64 d]), .int .i64 n] w (Ev.Ends (.int .i64 (stN sy lo hi at0 ho so he o d n)) (.iface 29 (.int .i64 (stE sy lo hi at0 ho so he o d n))) (stE sy lo hi at0 ho so he o d n == 0) w) := by
  refine Ev.contractP G9_ok 60 (Ev.ExtOk.nil w) (wstart_L sy lo hi at0 ho so he o d n) (wstart_T sy lo hi at0 ho so he o d n) ?_
  refine Ev.ite_good (fun h1 => ?_) (fun h1 => ?_)
  · refine Ev.ite_good (fun h2 => ?_) (fun h2 => ?_)
    · simp only [Ev.Tree.good, stE, h1, h2, sel]; rfl
    · simp only [Ev.Tree.good, stE, h1, h2, sel]; rfl
  · simp only [Ev.Tree.good, stE, h1, sel]; rfl
def sWStart : List Value → Option (Value × Value × Bool)
  | [x0, x1] => match Ev.aggLf x0, Ev.toLf x1 with
    | some [.b sy, .i .i64 lo, .i .i64 hi, .i .i64 at0, .i .i64 ho, .i .i64 so, .i .i64 he, .i .i64 o, .i .i64 d], some (.i .i64 n) => some (.int .i64 (stN sy lo hi at0 ho so he o d n), .iface 29 (.int .i64 (stE sy lo hi at0 ho so he o d n)), stE sy lo hi at0 ho so he o d n == 0)
    | _, _ => none
  | _ => none
theorem sWStart_ok : ∀ a v p b, sWStart a = some (v, p, b) → ∀ w, Calls Try.prog 11 a.toArray w (Ev.Ends v p b w) := by
  intro a v p b h w
  unfold sWStart at h
  split at h
  · rename_i x0 x1
    split at h
    · rename_i sy lo hi at0 ho so he o d n h0 h1
      have e0 := Ev.aggLf_eq h0
      have e1 := Ev.toLf_eq h1
      subst e0; subst e1
      cases h
      exact wstart_c sy lo hi at0 ho so he o d n w
    · cases h
  · cases h
noncomputable def G10 : Ev.Sum := Ev.addS 11 (Ev.endS sWStart) G9
theorem G10_ok : ∀ N w0, Ev.SumOk Try.prog N w0 G10 := Ev.addS_ok (Ev.endS_ok sWStart_ok) G9_ok
end Go.Proofs.Ytgjonanjfcngaaa
