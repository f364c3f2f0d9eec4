/- The laws of package timesync: what they say. -/
import Derived.Test.YtbeaipngljphkaaTsO
namespace Go.Proofs.Ytbeaipngljphkaa
open Go Go.ChangeShapes Go.WideShapes Go.ChangeAt Go.RowKit
set_option linter.all false
theorem lmatch_c (sy : Bool) (lo hi at0 ho so he : Int) (hf hh hb ha hl l : Int) (root : Bool) (w : World) : Calls Try.prog 3 #[(.agg #[.bool sy, .int .i64 lo, .int .i64 hi, .int .i64 at0, .int .i64 ho, .int .i64 so, .int .i64 he]), (.agg #[.int .i64 hf, .int .i64 hh, .int .i64 hb, .int .i64 ha, .int .i64 hl]), .int .i64 l, .bool root] w fun e w' => e = .returned (.bool true) ∧ Below w.heap.size w w' := by
  refine Ev.contract1 G8_ok 60 (Ev.ExtOk.nil w) (lmatch_L sy lo hi at0 ho so he hf hh hb ha hl l root) (lmatch_T sy lo hi at0 ho so he hf hh hb ha hl l root) ?_
  cases root <;> simp [Ev.Tree.good]
theorem rK_f {sy : Bool} {lo hi at0 ho so he hf hh hb ha hl : Int} (h : rK sy lo hi at0 ho so he hf hh hb ha hl = false) : rY sy lo hi at0 ho so he hf hh hb ha hl = sy ∧ rL sy lo hi at0 ho so he hf hh hb ha hl = lo ∧ rH sy lo hi at0 ho so he hf hh hb ha hl = hi ∧ rA sy lo hi at0 ho so he hf hh hb ha hl = at0 ∧ rO sy lo hi at0 ho so he hf hh hb ha hl = ho ∧ rS sy lo hi at0 ho so he hf hh hb ha hl = so ∧ rD sy lo hi at0 ho so he hf hh hb ha hl = he := by
  simp [rY, rL, rH, rA, rO, rS, rD, h, sel, selB]
theorem rK_t {sy : Bool} {lo hi at0 ho so he hf hh hb ha hl : Int} (h : rK sy lo hi at0 ho so he hf hh hb ha hl = true) : tvP sy lo hi at0 ho so he = true ∧ thP hf hh hb ha hl = true ∧ takes sy ho so hf hh = true ∧ rE sy lo hi at0 ho so he hf hh hb ha hl = 0 ∧ rY sy lo hi at0 ho so he hf hh hb ha hl = true ∧ rO sy lo hi at0 ho so he hf hh hb ha hl = hh + 1 ∧ rS sy lo hi at0 ho so he hf hh hb ha hl = hf ∧ rD sy lo hi at0 ho so he hf hh hb ha hl = ha := by
  have h' := h
  simp only [rK, Bool.and_eq_true, beq_iff_eq] at h'
  refine ⟨h'.1.1.1, h'.1.1.2, h'.1.2, h'.2, ?_⟩
  simp [rY, rO, rS, rD, h, sel, selB]
theorem lnearer_c (sy : Bool) (lo hi at0 ho so he : Int) (hf hh hb ha hl : Int) (w : World) : Calls Try.prog 6 #[(.agg #[.bool sy, .int .i64 lo, .int .i64 hi, .int .i64 at0, .int .i64 ho, .int .i64 so, .int .i64 he]), (.agg #[.int .i64 hf, .int .i64 hh, .int .i64 hb, .int .i64 ha, .int .i64 hl])] w fun e w' => e = .returned (.bool true) ∧ Below w.heap.size w w' := by
  refine Ev.contract1 G8_ok 60 (Ev.ExtOk.nil w) (lnearer_L sy lo hi at0 ho so he hf hh hb ha hl) (lnearer_T sy lo hi at0 ho so he hf hh hb ha hl) ?_
  cases hk : rK sy lo hi at0 ho so he hf hh hb ha hl with
  | false =>
    obtain ⟨q1, q2, q3, q4, q5, q6, q7⟩ := rK_f hk
    rw [q1, q2, q3, q4, q5, q6, q7]
    simp [Ev.Tree.good]
  | true =>
    obtain ⟨t1, t2, t3, e0, q1, q5, q6, q7⟩ := rK_t hk
    obtain ⟨_, _, _, t4, t5⟩ := th_iff.1 t2
    refine Ev.ite_good (fun _ => rfl) (fun _ => ?_)
    rw [q1, q5, q6, q7, e0, w64 (by omega) (by omega)]
    cases sy with
    | false => simp [Ev.Tree.good]; omega
    | true =>
      simp only [takes, Bool.and_eq_true, Bool.or_eq_true, decide_eq_true_eq, beq_iff_eq] at t3
      simp [Ev.Tree.good]
      omega
theorem lrefuses_c (sy : Bool) (lo hi at0 ho so he : Int) (hf hh hb ha hl : Int) (w : World) : Calls Try.prog 7 #[(.agg #[.bool sy, .int .i64 lo, .int .i64 hi, .int .i64 at0, .int .i64 ho, .int .i64 so, .int .i64 he]), (.agg #[.int .i64 hf, .int .i64 hh, .int .i64 hb, .int .i64 ha, .int .i64 hl])] w fun e w' => e = .returned (.bool true) ∧ Below w.heap.size w w' := by
  refine Ev.contract1 G8_ok 60 (Ev.ExtOk.nil w) (lrefuses_L sy lo hi at0 ho so he hf hh hb ha hl) (lrefuses_T sy lo hi at0 ho so he hf hh hb ha hl) ?_
  cases hk : rK sy lo hi at0 ho so he hf hh hb ha hl with
  | false =>
    obtain ⟨q1, q2, q3, q4, q5, q6, q7⟩ := rK_f hk
    rw [q1, q2, q3, q4, q5, q6, q7]
    simp [Ev.Tree.good]
  | true =>
    obtain ⟨t1, t2, t3, e0, q1, q5, q6, q7⟩ := rK_t hk
    rw [e0]
    cases sy with
    | false => simp [Ev.Tree.good]
    | true =>
      simp only [takes, Bool.and_eq_true, Bool.or_eq_true, decide_eq_true_eq, beq_iff_eq, bne_iff_ne, ne_eq] at t3
      have h0 : ¬ ho = 0 := t3.1
      by_cases h1 : hh < ho
      · simp [Ev.Tree.good, h0, show ¬ ho ≤ hh by omega]
      · have h2 : hf = so := by omega
        simp [Ev.Tree.good, h0, h2]
end Go.Proofs.Ytbeaipngljphkaa
