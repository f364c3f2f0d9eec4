/- Guard: the reference's windows; the law's tree. -/
import Derived.Test.YtcgjfgahhpmcpaaGdX
namespace Go.Proofs.Ytcgjfgahhpmcpaa
open Go Go.ChangeShapes Go.WideShapes Go.ChangeAt Go.RowKit
set_option linter.all false
theorem bN_b {sy : Bool} {lo hi at0 ho so he l : Int} (h : bE sy lo hi at0 ho so he l = 0) (hp : 0 ≤ bN sy lo hi at0 ho so he l ∧ bN sy lo hi at0 ho so he l ≤ 2000) : 0 ≤ bN sy lo hi at0 ho so he l ∧ bN sy lo hi at0 ho so he l ≤ 2000 := hp
theorem rlisten_c (sy : Bool) (lo hi at0 ho so he o d : Int) (n : Int) (w : World) : Calls Try.prog 14 #[(.agg #[.bool sy, .int .i64 lo, .int .i64 hi, .int .i64 at0, .int .i64 ho, .int .i64 so, .int .i64 he]), (.agg #[.int .i64 o, .int .i64 d]), .int .i64 n] w fun e w' => e = .returned (.tuple #[.agg #[.int .i64 (liL sy lo hi at0 ho so he o d n), .int .i64 (liH sy lo hi at0 ho so he o d n)], .int .i64 (stE sy lo hi at0 ho so he o d n)]) ∧ Below w.heap.size w w' := by
  refine Ev.contract1 G13_ok 60 (Ev.ExtOk.nil w) (rlisten_L sy lo hi at0 ho so he o d n) (rlisten_T sy lo hi at0 ho so he o d n) ?_
  by_cases hz : stE sy lo hi at0 ho so he o d n = 0
  · refine Ev.good_f (by rw [hz]; rfl) ?_
    obtain ⟨k1, k2, k3, k4, k5, k6, k7, k8, k9, k10⟩ := start_ok hz
    obtain ⟨b1, b2, _⟩ := win hz
    have hb := fst_b o d (ow ho lo hi n)
    show Value.tuple _ = Value.tuple _
    have z : (stE sy lo hi at0 ho so he o d n == 0) = true := by simpa using hz
    unfold liL liH
    rw [z]
    simp only [sel]
    rw [k6, k7, k9, k10, hz]
    rw [w64 (x := 2004 + bN sy lo hi at0 ho so he (ow ho lo hi n)) (by omega) (by omega), w64 (x := fst o d (ow ho lo hi n) - 10000 * n - 2004) (by omega) (by omega), w64 (x := fst o d (ow ho lo hi n) - 10000 * n + 2004) (by omega) (by omega)]
    have e1 : fst o d (ow ho lo hi n) - 10000 * n - 2004 - bN sy lo hi at0 ho so he (ow ho lo hi n) = fst o d (ow ho lo hi n) - 10000 * n - (2004 + bN sy lo hi at0 ho so he (ow ho lo hi n)) := by omega
    have e2 : fst o d (ow ho lo hi n) - 10000 * n + 2004 + bN sy lo hi at0 ho so he (ow ho lo hi n) = fst o d (ow ho lo hi n) - 10000 * n + (2004 + bN sy lo hi at0 ho so he (ow ho lo hi n)) := by omega
    rw [e1, e2]
  · have z : (stE sy lo hi at0 ho so he o d n == 0) = false := by simpa using hz
    refine Ev.good_t (by simp [bne, z]) ?_
    show Value.tuple _ = Value.tuple _
    unfold liL liH
    rw [z]
    rfl
def sRListen : List Value → Option Value
  | [x0, x1, x2] => match Ev.aggLf x0, Ev.aggLf x1, Ev.toLf x2 with
    | some [.b sy, .i .i64 lo, .i .i64 hi, .i .i64 at0, .i .i64 ho, .i .i64 so, .i .i64 he], some [.i .i64 o, .i .i64 d], some (.i .i64 n) => some (.tuple #[.agg #[.int .i64 (liL sy lo hi at0 ho so he o d n), .int .i64 (liH sy lo hi at0 ho so he o d n)], .int .i64 (stE sy lo hi at0 ho so he o d n)])
    | _, _, _ => none
  | _ => none
theorem sRListen_ok : ∀ a v, sRListen a = some v → ∀ w, Calls Try.prog 14 a.toArray w fun e w' => e = .returned v ∧ Below w.heap.size w w' := by
  intro a v h w
  unfold sRListen at h
  split at h
  · rename_i x0 x1 x2
    split at h
    · rename_i sy lo hi at0 ho so he o d n h0 h1 h2
      have e0 := Ev.aggLf_eq h0
      have e1 := Ev.aggLf_eq h1
      have e2 := Ev.toLf_eq h2
      subst e0; subst e1; subst e2
      cases h
      exact rlisten_c sy lo hi at0 ho so he o d n w
    · cases h
  · cases h
noncomputable def G14 : Ev.Sum := Ev.addS 12 (Ev.pureS sRSend) (Ev.addS 14 (Ev.pureS sRListen) (Ev.addS 16 (Ev.pureS sRCatches) G11))
theorem G14_ok : ∀ N w0, Ev.SumOk Try.prog N w0 G14 := Ev.addS_ok (Ev.pureS_ok sRSend_ok) (Ev.addS_ok (Ev.pureS_ok sRListen_ok) (Ev.addS_ok (Ev.pureS_ok sRCatches_ok) G11_ok))
end Go.Proofs.Ytcgjfgahhpmcpaa
