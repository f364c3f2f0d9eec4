/- Contracts of package timesync and its reference: what is valid. -/
import Derived.Test.YtgjonanjfcngaaaGdD
namespace Go.Proofs.Ytgjonanjfcngaaa
open Go Go.ChangeShapes Go.WideShapes Go.ChangeAt Go.RowKit
set_option linter.all false
def tvI (sy : Bool) (lo hi at0 ho : Int) : Bool := match sy with
  | true => ho == 0 || (decide (1 ≤ ho) && decide (ho ≤ 60) && spP lo hi at0)
  | false => ho == 60
def tvP (sy : Bool) (lo hi at0 ho so he : Int) : Bool := decide (-1 ≤ so) && decide (so < 60) && decide (0 ≤ he) && decide (he ≤ 1000000000) && tvI sy lo hi at0 ho
def thP (hf hh hb ha hl : Int) : Bool := hintP hb ha hl && decide (0 ≤ hf) && decide (hf < 60) && decide (0 ≤ hh) && decide (hh < 60)
theorem tv_iff {sy : Bool} {lo hi at0 ho so he : Int} : tvP sy lo hi at0 ho so he = true ↔ (-1 ≤ so ∧ so < 60 ∧ 0 ≤ he ∧ he ≤ 1000000000) ∧ ((sy = false ∧ ho = 60) ∨ (sy = true ∧ (ho = 0 ∨ (1 ≤ ho ∧ ho ≤ 60 ∧ spP lo hi at0 = true)))) := by
  cases sy <;> simp [tvP, tvI, and_assoc]
theorem th_iff {hf hh hb ha hl : Int} : thP hf hh hb ha hl = true ↔ hintP hb ha hl = true ∧ 0 ≤ hf ∧ hf < 60 ∧ 0 ≤ hh ∧ hh < 60 := by simp [thP, and_assoc]
theorem tvalid_c (sy : Bool) (lo hi at0 ho so he : Int) (w : World) : Calls Try.prog 14 #[(.agg #[.bool sy, .int .i64 lo, .int .i64 hi, .int .i64 at0, .int .i64 ho, .int .i64 so, .int .i64 he])] w fun e w' => e = .returned (.bool (tvP sy lo hi at0 ho so he)) ∧ Below w.heap.size w w' := by
  refine Ev.contract1 G2_ok 60 (Ev.ExtOk.nil w) (tvalid_L sy lo hi at0 ho so he) (tvalid_T sy lo hi at0 ho so he) ?_
  have key := bkey (tv_iff (sy := sy) (lo := lo) (hi := hi) (at0 := at0) (ho := ho) (so := so) (he := he))
  generalize tvP sy lo hi at0 ho so he = V at *
  cases hsp : spP lo hi at0 <;> rw [hsp] at key <;> cases sy
  all_goals
    simp only [Ev.Tree.good]
    repeat' (first | (refine And.intro (fun h => ?_) (fun h => ?_)))
  all_goals
    refine key _ ?_
    simp only [Bool.false_eq_true, reduceCtorEq, Bool.not_true, Bool.not_false, false_iff, true_iff, decide_eq_true_eq, decide_eq_false_iff_not, beq_iff_eq, beq_eq_false_iff_ne, ne_eq, false_and, true_and, and_false, and_true, false_or, or_false] at *
    try omega
def sTValid : List Value → Option Value
  | [x0] => match Ev.aggLf x0 with
    | some [.b sy, .i .i64 lo, .i .i64 hi, .i .i64 at0, .i .i64 ho, .i .i64 so, .i .i64 he] => some (.bool (tvP sy lo hi at0 ho so he))
    | _ => none
  | _ => none
theorem sTValid_ok : ∀ a v, sTValid a = some v → ∀ w, Calls Try.prog 14 a.toArray w fun e w' => e = .returned v ∧ Below w.heap.size w w' := by
  intro a v h w
  unfold sTValid at h
  split at h
  · rename_i x0
    split at h
    · rename_i sy lo hi at0 ho so he h0
      have e0 := Ev.aggLf_eq h0
      subst e0
      cases h
      exact tvalid_c sy lo hi at0 ho so he w
    · cases h
  · cases h
noncomputable def G5 : Ev.Sum := Ev.addS 14 (Ev.pureS sTValid) (G2)
theorem G5_ok : ∀ N w0, Ev.SumOk Try.prog N w0 G5 := Ev.addS_ok (Ev.pureS_ok sTValid_ok) (G2_ok)
end Go.Proofs.Ytgjonanjfcngaaa
