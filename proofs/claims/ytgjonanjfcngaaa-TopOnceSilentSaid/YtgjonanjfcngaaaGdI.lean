/- Guard: own times, bounds, the first true time. -/
import Derived.Test.YtgjonanjfcngaaaGdH
namespace Go.Proofs.Ytgjonanjfcngaaa
open Go Go.ChangeShapes Go.WideShapes Go.ChangeAt Go.RowKit
set_option linter.all false
theorem own_L (sy : Bool) (lo hi at0 ho so he o d : Int) (n : Int) (r : Ev.Sup) : ((Ev.evalF Try.prog G7 60 23 [(.agg #[undef, undef, undef, undef, undef, undef, undef, undef, undef]), undef] [(.agg #[.bool sy, .int .i64 lo, .int .i64 hi, .int .i64 at0, .int .i64 ho, .int .i64 so, .int .i64 he, .int .i64 o, .int .i64 d]), .int .i64 n] [] r)).lhs = ((Ev.evalF Try.prog G7 60 23 [(.agg #[undef, undef, undef, undef, undef, undef, undef, undef, undef]), undef] [(.agg #[.bool sy, .int .i64 lo, .int .i64 hi, .int .i64 at0, .int .i64 ho, .int .i64 so, .int .i64 he, .int .i64 o, .int .i64 d]), .int .i64 n] [] r)).rhs := by kernel_rfl
theorem own_T (sy : Bool) (lo hi at0 ho so he o d : Int) (n : Int) (r : Ev.Sup) : ((Ev.evalF Try.prog G7 60 23 [(.agg #[undef, undef, undef, undef, undef, undef, undef, undef, undef]), undef] [(.agg #[.bool sy, .int .i64 lo, .int .i64 hi, .int .i64 at0, .int .i64 ho, .int .i64 so, .int .i64 he, .int .i64 o, .int .i64 d]), .int .i64 n] [] r)).val = (.ite (sy) (.ite (ho == 0) (.leaf (.int .i64 (IntKind.wrap IntKind.i64 (n * 10000)))) (.leaf (.int .i64 (IntKind.wrap IntKind.i64 (IntKind.wrap IntKind.i64 (n * 10000) - Int.fdiv (IntKind.wrap IntKind.i64 (lo + hi)) 2))))) (.leaf (.int .i64 (IntKind.wrap IntKind.i64 (IntKind.wrap IntKind.i64 (n * 10000) - Int.fdiv (IntKind.wrap IntKind.i64 (lo + hi)) 2))))) := by kernel_rfl
theorem first_L (sy : Bool) (lo hi at0 ho so he o d : Int) (s : Int) (r : Ev.Sup) : ((Ev.evalF Try.prog G7 60 22 [(.agg #[undef, undef, undef, undef, undef, undef, undef, undef, undef]), undef] [(.agg #[.bool sy, .int .i64 lo, .int .i64 hi, .int .i64 at0, .int .i64 ho, .int .i64 so, .int .i64 he, .int .i64 o, .int .i64 d]), .int .i64 s] [] r)).lhs = ((Ev.evalF Try.prog G7 60 22 [(.agg #[undef, undef, undef, undef, undef, undef, undef, undef, undef]), undef] [(.agg #[.bool sy, .int .i64 lo, .int .i64 hi, .int .i64 at0, .int .i64 ho, .int .i64 so, .int .i64 he, .int .i64 o, .int .i64 d]), .int .i64 s] [] r)).rhs := by kernel_rfl
theorem first_T (sy : Bool) (lo hi at0 ho so he o d : Int) (s : Int) (r : Ev.Sup) : ((Ev.evalF Try.prog G7 60 22 [(.agg #[undef, undef, undef, undef, undef, undef, undef, undef, undef]), undef] [(.agg #[.bool sy, .int .i64 lo, .int .i64 hi, .int .i64 at0, .int .i64 ho, .int .i64 so, .int .i64 he, .int .i64 o, .int .i64 d]), .int .i64 s] [] r)).out = (.ite (shE o d 0 != 0) (.leaf (.tuple #[.bool (false), .iface 29 (.int .i64 (shE o d 0))])) (.ite (decide (shV o d 0 ≥ s)) (.leaf (.tuple #[.bool (true), .int .i64 (0)])) (.ite (shE o d 10000000000000 != 0) (.leaf (.tuple #[.bool (false), .iface 29 (.int .i64 (shE o d 10000000000000))])) (.ite (decide (shV o d 10000000000000 < s)) (.leaf (.tuple #[.bool (false), .iface 29 (.int .i64 (3))])) (.ite (wE o d s != 0) (.ite (wE o d (IntKind.wrap IntKind.i64 (s + 1)) != 0) (.leaf (.tuple #[.bool (false), .iface 29 (.int .i64 (wE o d (IntKind.wrap IntKind.i64 (s + 1))))])) (.leaf (.tuple #[.bool (true), .int .i64 (wL o d (IntKind.wrap IntKind.i64 (s + 1)))]))) (.leaf (.tuple #[.bool (true), .int .i64 (wL o d s)]))))))) := by kernel_rfl
def bb (n : Int) : Int := IntKind.wrap .i64 (n * 10000)
def owR (sy : Bool) (ho lo hi n : Int) : Int := sel (sy && (ho == 0)) (bb n) (IntKind.wrap .i64 (bb n - Int.fdiv (IntKind.wrap .i64 (lo + hi)) 2))
theorem own_c (sy : Bool) (lo hi at0 ho so he o d : Int) (n : Int) (w : World) : Calls Try.prog 23 #[(.agg #[.bool sy, .int .i64 lo, .int .i64 hi, .int .i64 at0, .int .i64 ho, .int .i64 so, .int .i64 he, .int .i64 o, .int .i64 d]), .int .i64 n] w fun e w' => e = .returned (.int .i64 (owR sy ho lo hi n)) ∧ Below w.heap.size w w' := by
  refine Ev.contract1 G7_ok 60 (Ev.ExtOk.nil w) (own_L sy lo hi at0 ho so he o d n) (own_T sy lo hi at0 ho so he o d n) ?_
  cases sy <;> cases h : (ho == 0) <;> simp [Ev.Tree.good, owR, bb, sel, h]
def sOwn : List Value → Option Value
  | [x0, x1] => match Ev.aggLf x0, Ev.toLf x1 with
    | some [.b sy, .i .i64 lo, .i .i64 hi, .i .i64 at0, .i .i64 ho, .i .i64 so, .i .i64 he, .i .i64 o, .i .i64 d], some (.i .i64 n) => some (.int .i64 (owR sy ho lo hi n))
    | _, _ => none
  | _ => none
theorem sOwn_ok : ∀ a v, sOwn a = some v → ∀ w, Calls Try.prog 23 a.toArray w fun e w' => e = .returned v ∧ Below w.heap.size w w' := by
  intro a v h w
  unfold sOwn at h
  split at h
  · rename_i x0 x1
    split at h
    · rename_i sy lo hi at0 ho so he o d n h0 h1
      have e0 := Ev.aggLf_eq h0
      have e1 := Ev.toLf_eq h1
      subst e0; subst e1
      cases h
      exact own_c sy lo hi at0 ho so he o d n w
    · cases h
  · cases h
def fsE (o d s : Int) : Int := sel (shE o d 0 != 0) (shE o d 0) (sel (decide (shV o d 0 ≥ s)) 0 (sel (shE o d 10000000000000 != 0) (shE o d 10000000000000) (sel (decide (shV o d 10000000000000 < s)) 3 (sel (wE o d s != 0) (wE o d (IntKind.wrap .i64 (s + 1))) 0))))
def fsN (o d s : Int) : Int := sel (decide (shV o d 0 ≥ s)) 0 (sel (wE o d s != 0) (wL o d (IntKind.wrap .i64 (s + 1))) (wL o d s))
theorem first_c (sy : Bool) (lo hi at0 ho so he o d : Int) (s : Int) (w : World) : Calls Try.prog 22 #[(.agg #[.bool sy, .int .i64 lo, .int .i64 hi, .int .i64 at0, .int .i64 ho, .int .i64 so, .int .i64 he, .int .i64 o, .int .i64 d]), .int .i64 s] w (Ev.Ends (.int .i64 (fsN o d s)) (.iface 29 (.int .i64 (fsE o d s))) (fsE o d s == 0) w) := by
  refine Ev.contractP G7_ok 60 (Ev.ExtOk.nil w) (first_L sy lo hi at0 ho so he o d s) (first_T sy lo hi at0 ho so he o d s) ?_
  have hz : ∀ x : Int, (x == 0) = !(x != 0) := fun x => by cases h : (x == 0) <;> simp [bne, h]
  simp only [hz]
  refine Ev.ite_good (fun h1 => ?_) (fun h1 => ?_)
  · simp only [Ev.Tree.good, fsE, h1, sel]; rfl
  refine Ev.ite_good (fun h2 => ?_) (fun h2 => ?_)
  · simp only [Ev.Tree.good, fsE, fsN, h1, h2, sel]; rfl
  refine Ev.ite_good (fun h3 => ?_) (fun h3 => ?_)
  · simp only [Ev.Tree.good, fsE, fsN, h1, h2, h3, sel]; rfl
  refine Ev.ite_good (fun h4 => ?_) (fun h4 => ?_)
  · simp only [Ev.Tree.good, fsE, fsN, h1, h2, h3, h4, sel]; rfl
  refine Ev.ite_good (fun h5 => ?_) (fun h5 => ?_)
  · refine Ev.ite_good (fun h6 => ?_) (fun h6 => ?_)
    · simp only [Ev.Tree.good, fsE, fsN, h1, h2, h3, h4, h5, h6, sel]; rfl
    · simp only [Ev.Tree.good, fsE, fsN, h1, h2, h3, h4, h5, h6, sel]; rfl
  · simp only [Ev.Tree.good, fsE, fsN, h1, h2, h3, h4, h5, sel]; rfl
def sFirst : List Value → Option (Value × Value × Bool)
  | [x0, x1] => match Ev.aggLf x0, Ev.toLf x1 with
    | some [.b sy, .i .i64 lo, .i .i64 hi, .i .i64 at0, .i .i64 ho, .i .i64 so, .i .i64 he, .i .i64 o, .i .i64 d], some (.i .i64 s) => some (.int .i64 (fsN o d s), .iface 29 (.int .i64 (fsE o d s)), fsE o d s == 0)
    | _, _ => none
  | _ => none
theorem sFirst_ok : ∀ a v p b, sFirst a = some (v, p, b) → ∀ w, Calls Try.prog 22 a.toArray w (Ev.Ends v p b w) := by
  intro a v p b h w
  unfold sFirst at h
  split at h
  · rename_i x0 x1
    split at h
    · rename_i sy lo hi at0 ho so he o d s h0 h1
      have e0 := Ev.aggLf_eq h0
      have e1 := Ev.toLf_eq h1
      subst e0; subst e1
      cases h
      exact first_c sy lo hi at0 ho so he o d s w
    · cases h
  · cases h
noncomputable def G8 : Ev.Sum := Ev.addS 23 (Ev.pureS sOwn) (Ev.addS 22 (Ev.endS sFirst) G7)
theorem G8_ok : ∀ N w0, Ev.SumOk Try.prog N w0 G8 := Ev.addS_ok (Ev.pureS_ok sOwn_ok) (Ev.addS_ok (Ev.endS_ok sFirst_ok) G7_ok)
end Go.Proofs.Ytgjonanjfcngaaa
