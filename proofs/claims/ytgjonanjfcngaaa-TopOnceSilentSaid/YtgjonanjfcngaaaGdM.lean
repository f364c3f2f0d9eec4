/- Guard: contracts; what a start says. -/
import Derived.Test.YtgjonanjfcngaaaGdL
namespace Go.Proofs.Ytgjonanjfcngaaa
open Go Go.ChangeShapes Go.WideShapes Go.ChangeAt Go.RowKit
set_option linter.all false
def snN (sy : Bool) (lo hi at0 ho so he o d n : Int) : Int := sel (stE sy lo hi at0 ho so he o d n == 0) (stN sy lo hi at0 ho so he o d n) 0
theorem send_c (sy : Bool) (lo hi at0 ho so he o d : Int) (n : Int) (w : World) : Calls Try.prog 5 #[(.agg #[.bool sy, .int .i64 lo, .int .i64 hi, .int .i64 at0, .int .i64 ho, .int .i64 so, .int .i64 he]), (.agg #[.int .i64 o, .int .i64 d]), .int .i64 n] w fun e w' => e = .returned (.tuple #[.int .i64 (snN sy lo hi at0 ho so he o d n), .int .i64 (stE sy lo hi at0 ho so he o d n)]) ∧ Below w.heap.size w w' := by
  refine Ev.contract1 G10_ok 60 (Ev.ExtOk.nil w) (send_L sy lo hi at0 ho so he o d n) (send_T sy lo hi at0 ho so he o d n) ?_
  refine Ev.ite_good (fun h => ?_) (fun h => ?_)
  · have : stE sy lo hi at0 ho so he o d n = 0 := by simpa using h
    simp only [Ev.Tree.good, snN, h, sel, this]; rfl
  · simp only [Ev.Tree.good, snN, h, sel]
def liL (sy : Bool) (lo hi at0 ho so he o d n : Int) : Int := sel (stE sy lo hi at0 ho so he o d n == 0) (IntKind.wrap .i64 (stN sy lo hi at0 ho so he o d n - IntKind.wrap .i64 (2004 + bN sy lo hi at0 ho so he (owR sy ho lo hi n)))) 0
def liH (sy : Bool) (lo hi at0 ho so he o d n : Int) : Int := sel (stE sy lo hi at0 ho so he o d n == 0) (IntKind.wrap .i64 (stN sy lo hi at0 ho so he o d n + IntKind.wrap .i64 (2004 + bN sy lo hi at0 ho so he (owR sy ho lo hi n)))) 0
theorem bo_of_st {sy : Bool} {lo hi at0 ho so he o d n : Int} (h : stE sy lo hi at0 ho so he o d n = 0) : boE sy lo hi at0 ho so he o d n = 0 ∧ fsE o d (owR sy ho lo hi n) = 0 := by
  unfold stE at h
  cases hb : (boE sy lo hi at0 ho so he o d n == 0) with
  | true => rw [hb] at h; exact ⟨by simpa using hb, h⟩
  | false => rw [hb] at h; have h : boE sy lo hi at0 ho so he o d n = 0 := h; simp [h] at hb
def atR (o d t : Int) : Int := IntKind.wrap .i64 (IntKind.wrap .i64 (t + o) + rdnP (IntKind.wrap .i64 (d * t)))
def itP (sy : Bool) (lo hi at0 ho so he o d t : Int) : Bool := tvP sy lo hi at0 ho so he && (okc o d && (sy && (!decide (t < 0) && (!decide (t > 10000000000000) && cond (ho == 0) (o == 0 && (d == 0 && true)) (at0 == atR o d t && (decide (IntKind.wrap .i64 (t - atR o d t) ≥ lo) && decide (IntKind.wrap .i64 (t - atR o d t) ≤ hi)))))))
def ctP (s l h : Int) : Bool := decide (l ≤ s) && decide (s ≤ h)
def roR (ho lo hi n : Int) : Int := sel (ho == 0) (IntKind.wrap .i64 (10000 * n)) (sel (decide (IntKind.wrap .i64 (lo + hi) < 0)) (IntKind.wrap .i64 (IntKind.wrap .i64 (10000 * n) - IntKind.wrap .i64 (0 - IntKind.wrap .i64 (Int.tdiv (IntKind.wrap .i64 (1 - IntKind.wrap .i64 (lo + hi))) 2)))) (IntKind.wrap .i64 (IntKind.wrap .i64 (10000 * n) - IntKind.wrap .i64 (Int.tdiv (IntKind.wrap .i64 (lo + hi)) 2))))
theorem rown_c (sy : Bool) (lo hi at0 ho so he : Int) (n : Int) (w : World) : Calls Try.prog 6 #[(.agg #[.bool sy, .int .i64 lo, .int .i64 hi, .int .i64 at0, .int .i64 ho, .int .i64 so, .int .i64 he]), .int .i64 n] w fun e w' => e = .returned (.int .i64 (roR ho lo hi n)) ∧ Below w.heap.size w w' := by
  refine Ev.contract1 G10_ok 60 (Ev.ExtOk.nil w) (rown_L sy lo hi at0 ho so he n) (rown_T sy lo hi at0 ho so he n) ?_
  refine Ev.ite_good (fun h => ?_) (fun h => ?_)
  · simp only [Ev.Tree.good, roR, h, sel]
  · refine Ev.ite_good (fun h2 => ?_) (fun h2 => ?_)
    · simp only [Ev.Tree.good, roR, h, h2, sel]
    · simp only [Ev.Tree.good, roR, h, h2, sel]
def sSend : List Value → Option Value
  | [x0, x1, x2] => match Ev.aggLf x0, Ev.aggLf x1, Ev.toLf x2 with
    | some [.b sy, .i .i64 lo, .i .i64 hi, .i .i64 at0, .i .i64 ho, .i .i64 so, .i .i64 he], some [.i .i64 o, .i .i64 d], some (.i .i64 n) => some (.tuple #[.int .i64 (snN sy lo hi at0 ho so he o d n), .int .i64 (stE sy lo hi at0 ho so he o d n)])
    | _, _, _ => none
  | _ => none
theorem sSend_ok : ∀ a v, sSend a = some v → ∀ w, Calls Try.prog 5 a.toArray w fun e w' => e = .returned v ∧ Below w.heap.size w w' := by
  intro a v h w
  unfold sSend at h
  split at h
  · rename_i x0 x1 x2
    split at h
    · rename_i sy lo hi at0 ho so he o d n h0 h1 h2
      have e0 := Ev.aggLf_eq h0
      have e1 := Ev.aggLf_eq h1
      have e2 := Ev.toLf_eq h2
      subst e0; subst e1; subst e2
      cases h
      exact send_c sy lo hi at0 ho so he o d n w
    · cases h
  · cases h
def sROwn : List Value → Option Value
  | [x0, x1] => match Ev.aggLf x0, Ev.toLf x1 with
    | some [.b sy, .i .i64 lo, .i .i64 hi, .i .i64 at0, .i .i64 ho, .i .i64 so, .i .i64 he], some (.i .i64 n) => some (.int .i64 (roR ho lo hi n))
    | _, _ => none
  | _ => none
theorem sROwn_ok : ∀ a v, sROwn a = some v → ∀ w, Calls Try.prog 6 a.toArray w fun e w' => e = .returned v ∧ Below w.heap.size w w' := by
  intro a v h w
  unfold sROwn at h
  split at h
  · rename_i x0 x1
    split at h
    · rename_i sy lo hi at0 ho so he n h0 h1
      have e0 := Ev.aggLf_eq h0
      have e1 := Ev.toLf_eq h1
      subst e0; subst e1
      cases h
      exact rown_c sy lo hi at0 ho so he n w
    · cases h
  · cases h
noncomputable def G11 : Ev.Sum := Ev.addS 5 (Ev.pureS sSend) ((((Ev.addS 6 (Ev.pureS sROwn) ((Ev.addS 4 (Ev.pureS sHead) Ev.noS))))))
theorem G11_ok : ∀ N w0, Ev.SumOk Try.prog N w0 G11 := Ev.addS_ok (Ev.pureS_ok sSend_ok) ((((Ev.addS_ok (Ev.pureS_ok sROwn_ok) ((Ev.addS_ok (Ev.pureS_ok sHead_ok) Ev.noS_ok))))))
end Go.Proofs.Ytgjonanjfcngaaa
