/- Guard: bounds, starts: contracts. -/
import Derived.Test.YtgjonanjfcngaaaGdI
namespace Go.Proofs.Ytgjonanjfcngaaa
open Go Go.ChangeShapes Go.WideShapes Go.ChangeAt Go.RowKit
set_option linter.all false
theorem wbound_L (sy : Bool) (lo hi at0 ho so he o d : Int) (n : Int) (r : Ev.Sup) : ((Ev.evalF Try.prog G8 60 21 [(.agg #[undef, undef, undef, undef, undef, undef, undef, undef, undef]), undef] [(.agg #[.bool sy, .int .i64 lo, .int .i64 hi, .int .i64 at0, .int .i64 ho, .int .i64 so, .int .i64 he, .int .i64 o, .int .i64 d]), .int .i64 n] [] r)).lhs = ((Ev.evalF Try.prog G8 60 21 [(.agg #[undef, undef, undef, undef, undef, undef, undef, undef, undef]), undef] [(.agg #[.bool sy, .int .i64 lo, .int .i64 hi, .int .i64 at0, .int .i64 ho, .int .i64 so, .int .i64 he, .int .i64 o, .int .i64 d]), .int .i64 n] [] r)).rhs := by kernel_rfl
theorem wbound_T (sy : Bool) (lo hi at0 ho so he o d : Int) (n : Int) (r : Ev.Sup) : ((Ev.evalF Try.prog G8 60 21 [(.agg #[undef, undef, undef, undef, undef, undef, undef, undef, undef]), undef] [(.agg #[.bool sy, .int .i64 lo, .int .i64 hi, .int .i64 at0, .int .i64 ho, .int .i64 so, .int .i64 he, .int .i64 o, .int .i64 d]), .int .i64 n] [] r)).out = (.ite (!okc o d) (.leaf (.tuple #[.bool (false), .iface 29 (.int .i64 (1))])) (.ite (decide (n < 0)) (.leaf (.tuple #[.bool (false), .iface 29 (.int .i64 (1))])) (.ite (decide (n ≥ 1000000000)) (.leaf (.tuple #[.bool (false), .iface 29 (.int .i64 (1))])) (.ite (bE sy lo hi at0 ho so he (owR sy ho lo hi n) != 0) (.leaf (.tuple #[.bool (false), .iface 29 (.int .i64 (bE sy lo hi at0 ho so he (owR sy ho lo hi n)))])) (.leaf (.tuple #[.bool (true), .int .i64 (bN sy lo hi at0 ho so he (owR sy ho lo hi n))])))))) := by kernel_rfl
def boE (sy : Bool) (lo hi at0 ho so he o d n : Int) : Int := sel (!okc o d) 1 (sel (decide (n < 0)) 1 (sel (decide (n ≥ 1000000000)) 1 (bE sy lo hi at0 ho so he (owR sy ho lo hi n))))
theorem wbound_c (sy : Bool) (lo hi at0 ho so he o d : Int) (n : Int) (w : World) : Calls Try.prog 21 #[(.agg #[.bool sy, .int .i64 lo, .int .i64 hi, .int .i64 at0, .int .i64 ho, .int .i64 so, .int .i64 he, .int .i64 o, .int .i64 d]), .int .i64 n] w (Ev.Ends (.int .i64 (bN sy lo hi at0 ho so he (owR sy ho lo hi n))) (.iface 29 (.int .i64 (boE sy lo hi at0 ho so he o d n))) (boE sy lo hi at0 ho so he o d n == 0) w) := by
  refine Ev.contractP G8_ok 60 (Ev.ExtOk.nil w) (wbound_L sy lo hi at0 ho so he o d n) (wbound_T sy lo hi at0 ho so he o d n) ?_
  have hz : ∀ x : Int, (x == 0) = !(x != 0) := fun x => by cases h : (x == 0) <;> simp [bne, h]
  simp only [hz]
  refine Ev.ite_good (fun h1 => ?_) (fun h1 => ?_)
  · simp only [Ev.Tree.good, boE, h1, sel]; rfl
  refine Ev.ite_good (fun h2 => ?_) (fun h2 => ?_)
  · simp only [Ev.Tree.good, boE, h1, h2, sel]; rfl
  refine Ev.ite_good (fun h3 => ?_) (fun h3 => ?_)
  · simp only [Ev.Tree.good, boE, h1, h2, h3, sel]; rfl
  refine Ev.ite_good (fun h4 => ?_) (fun h4 => ?_)
  · simp only [Ev.Tree.good, boE, h1, h2, h3, h4, sel]; rfl
  · simp only [Ev.Tree.good, boE, h1, h2, h3, h4, sel]; rfl
def sWBound : List Value → Option (Value × Value × Bool)
  | [x0, x1] => match Ev.aggLf x0, Ev.toLf x1 with
    | some [.b sy, .i .i64 lo, .i .i64 hi, .i .i64 at0, .i .i64 ho, .i .i64 so, .i .i64 he, .i .i64 o, .i .i64 d], some (.i .i64 n) => some (.int .i64 (bN sy lo hi at0 ho so he (owR sy ho lo hi n)), .iface 29 (.int .i64 (boE sy lo hi at0 ho so he o d n)), boE sy lo hi at0 ho so he o d n == 0)
    | _, _ => none
  | _ => none
theorem sWBound_ok : ∀ a v p b, sWBound a = some (v, p, b) → ∀ w, Calls Try.prog 21 a.toArray w (Ev.Ends v p b w) := by
  intro a v p b h w
  unfold sWBound at h
  split at h
  · rename_i x0 x1
    split at h
    · rename_i sy lo hi at0 ho so he o d n h0 h1
      have e0 := Ev.aggLf_eq h0
      have e1 := Ev.toLf_eq h1
      subst e0; subst e1
      cases h
      exact wbound_c sy lo hi at0 ho so he o d n w
    · cases h
  · cases h
noncomputable def G9 : Ev.Sum := Ev.addS 21 (Ev.endS sWBound) G8
theorem G9_ok : ∀ N w0, Ev.SumOk Try.prog N w0 G9 := Ev.addS_ok (Ev.endS_ok sWBound_ok) G8_ok
end Go.Proofs.Ytgjonanjfcngaaa
