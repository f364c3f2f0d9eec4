/- Contracts of package bound and its reference: the small functions. -/
import Derived.Test.YtgjonanjfcngaaaEvQ
namespace Go.Proofs.Ytgjonanjfcngaaa
open Go Go.ChangeShapes Go.WideShapes Go.ChangeAt Go.RowKit
set_option linter.all false
theorem is_L (a b : Int) (r : Ev.Sup) : ((Ev.evalF Try.prog Ev.noS 60 15 [.iface 29 undef, .iface 29 undef] [.iface 29 (.int .i64 a), .iface 29 (.int .i64 b)] [] r)).lhs = ((Ev.evalF Try.prog Ev.noS 60 15 [.iface 29 undef, .iface 29 undef] [.iface 29 (.int .i64 a), .iface 29 (.int .i64 b)] [] r)).rhs := by kernel_rfl
theorem is_T (a b : Int) (r : Ev.Sup) : ((Ev.evalF Try.prog Ev.noS 60 15 [.iface 29 undef, .iface 29 undef] [.iface 29 (.int .i64 a), .iface 29 (.int .i64 b)] [] r)).val = (.ite (a == b) (.leaf (.bool (true))) (.leaf (.bool (false)))) := by kernel_rfl
theorem svalid_L (lo hi at0 : Int) (r : Ev.Sup) : ((Ev.evalF Try.prog Ev.noS 60 29 [(.agg #[undef, undef, undef])] [(.agg #[.int .i64 lo, .int .i64 hi, .int .i64 at0])] [] r)).lhs = ((Ev.evalF Try.prog Ev.noS 60 29 [(.agg #[undef, undef, undef])] [(.agg #[.int .i64 lo, .int .i64 hi, .int .i64 at0])] [] r)).rhs := by kernel_rfl
theorem svalid_T (lo hi at0 : Int) (r : Ev.Sup) : ((Ev.evalF Try.prog Ev.noS 60 29 [(.agg #[undef, undef, undef])] [(.agg #[.int .i64 lo, .int .i64 hi, .int .i64 at0])] [] r)).val = (.ite (decide (lo < -20000000000000)) (.leaf (.bool (false))) (.ite (decide (lo > 20000000000000)) (.leaf (.bool (false))) (.ite (decide (hi < -20000000000000)) (.leaf (.bool (false))) (.ite (decide (hi > 20000000000000)) (.leaf (.bool (false))) (.ite (decide (lo ≤ hi)) (.ite (decide (at0 < -2000000000)) (.leaf (.bool (false))) (.ite (decide (at0 > 20000000000000)) (.leaf (.bool (false))) (.leaf (.bool (true))))) (.leaf (.bool (false)))))))) := by kernel_rfl
/-- what a valid span is -/
def spP (lo hi at0 : Int) : Bool := decide (-20000000000000 ≤ lo) && decide (lo ≤ hi) && decide (hi ≤ 20000000000000) && decide (-2000000000 ≤ at0) && decide (at0 ≤ 20000000000000)
def hintP (hb ha hl : Int) : Bool := decide (0 ≤ ha) && decide (ha ≤ 1000000000) && decide (0 ≤ hb) && decide (hb ≤ 2000) && decide (-2000000000 ≤ hl) && decide (hl ≤ 20000000000000)
theorem sp_iff {lo hi at0 : Int} : spP lo hi at0 = true ↔ -20000000000000 ≤ lo ∧ lo ≤ hi ∧ hi ≤ 20000000000000 ∧ -2000000000 ≤ at0 ∧ at0 ≤ 20000000000000 := by simp [spP, and_assoc]
theorem hint_iff {hb ha hl : Int} : hintP hb ha hl = true ↔ 0 ≤ ha ∧ ha ≤ 1000000000 ∧ 0 ≤ hb ∧ hb ≤ 2000 ∧ -2000000000 ≤ hl ∧ hl ≤ 20000000000000 := by simp [hintP, and_assoc]
theorem is_c (a b : Int) (w : World) : Calls Try.prog 15 #[.iface 29 (.int .i64 a), .iface 29 (.int .i64 b)] w fun e w' => e = .returned (.bool (a == b)) ∧ Below w.heap.size w w' := by
  refine Ev.contract1 Ev.noS_ok 60 (Ev.ExtOk.nil w) (is_L a b) (is_T a b) ?_
  refine ⟨fun h => ?_, fun h => ?_⟩ <;> (rw [h]; rfl)
/-- a Boolean tree against a Boolean that is known by what it means -/
theorem bkey {p : Prop} {b : Bool} (hb : b = true ↔ p) (v : Bool) (h : v = true ↔ p) : Value.bool v = .bool b := by
  rw [Bool.eq_iff_iff.2 (h.trans hb.symm)]
theorem svalid_c (lo hi at0 : Int) (w : World) : Calls Try.prog 29 #[(.agg #[.int .i64 lo, .int .i64 hi, .int .i64 at0])] w fun e w' => e = .returned (.bool (spP lo hi at0)) ∧ Below w.heap.size w w' := by
  refine Ev.contract1 Ev.noS_ok 60 (Ev.ExtOk.nil w) (svalid_L lo hi at0) (svalid_T lo hi at0) ?_
  have key := bkey (sp_iff (lo := lo) (hi := hi) (at0 := at0))
  simp only [Ev.Tree.good]
  repeat' (first | (refine And.intro (fun h => ?_) (fun h => ?_)))
  all_goals
    refine key _ ?_
    simp only [Bool.false_eq_true, false_iff, true_iff, decide_eq_true_eq, decide_eq_false_iff_not] at *
    omega
def sIs : List Value → Option Value
  | [.iface 29 (.int .i64 a), .iface 29 (.int .i64 b)] => some (.bool (a == b))
  | _ => none
theorem sIs_ok : ∀ a v, sIs a = some v → ∀ w, Calls Try.prog 15 a.toArray w fun e w' => e = .returned v ∧ Below w.heap.size w w' := by
  intro a v h w
  unfold sIs at h
  split at h
  · cases h; exact is_c _ _ w
  · cases h
def sSValid : List Value → Option Value
  | [x0] => match Ev.aggLf x0 with
    | some [.i .i64 lo, .i .i64 hi, .i .i64 at0] => some (.bool (spP lo hi at0))
    | _ => none
  | _ => none
theorem sSValid_ok : ∀ a v, sSValid a = some v → ∀ w, Calls Try.prog 29 a.toArray w fun e w' => e = .returned v ∧ Below w.heap.size w w' := by
  intro a v h w
  unfold sSValid at h
  split at h
  · rename_i x0
    split at h
    · rename_i lo hi at0 h0
      have e0 := Ev.aggLf_eq h0
      subst e0
      cases h
      exact svalid_c lo hi at0 w
    · cases h
  · cases h
noncomputable def G1 : Ev.Sum := Ev.addS 15 (Ev.pureS sIs) (Ev.addS 29 (Ev.pureS sSValid) (Ev.noS))
theorem G1_ok : ∀ N w0, Ev.SumOk Try.prog N w0 G1 := Ev.addS_ok (Ev.pureS_ok sIs_ok) (Ev.addS_ok (Ev.pureS_ok sSValid_ok) (Ev.noS_ok))
end Go.Proofs.Ytgjonanjfcngaaa
