/- Package ledger: spending and lasting. -/
import Derived.Test.YtnjkhkohhkhplaaDoorLeA
namespace Go.Proofs.YtnjkhkohhkhplaaDoor
open Go Go.ChangeShapes Go.WideShapes Go.ChangeAt Go.RowKit
set_option linter.all false
theorem spend_L (l s c : Int) (r : Ev.Sup) : ((Ev.evalF Tryd.prog G1 60 10 [(.agg #[undef, undef]), undef] [(.agg #[.int .i64 l, .int .i64 s]), .int .i64 c] [] r)).lhs = ((Ev.evalF Tryd.prog G1 60 10 [(.agg #[undef, undef]), undef] [(.agg #[.int .i64 l, .int .i64 s]), .int .i64 c] [] r)).rhs := by kernel_rfl
theorem spend_T (l s c : Int) (r : Ev.Sup) : ((Ev.evalF Tryd.prog G1 60 10 [(.agg #[undef, undef]), undef] [(.agg #[.int .i64 l, .int .i64 s]), .int .i64 c] [] r)).val = (.ite (!okL l s) (.leaf (.tuple #[.agg #[.int .i64 (l), .int .i64 (s)], .int .i64 (1)])) (.ite (decide (c < 0)) (.leaf (.tuple #[.agg #[.int .i64 (l), .int .i64 (s)], .int .i64 (1)])) (.ite (decide (c > l)) (.leaf (.tuple #[.agg #[.int .i64 (l), .int .i64 (s)], .int .i64 (15)])) (.leaf (.tuple #[.agg #[.int .i64 (IntKind.wrap IntKind.i64 (l - c)), .int .i64 (IntKind.wrap IntKind.i64 (s + c))], .int .i64 (0)]))))) := by kernel_rfl
theorem lasts_L (l s n : Int) (r : Ev.Sup) : ((Ev.evalF Tryd.prog G1 60 14 [(.agg #[undef, undef]), undef] [(.agg #[.int .i64 l, .int .i64 s]), .int .i64 n] [Ev.tabI .i64 0 [1, 40, 60]] r)).lhs = ((Ev.evalF Tryd.prog G1 60 14 [(.agg #[undef, undef]), undef] [(.agg #[.int .i64 l, .int .i64 s]), .int .i64 n] [Ev.tabI .i64 0 [1, 40, 60]] r)).rhs := by kernel_rfl
theorem lasts_T (l s n : Int) (r : Ev.Sup) : ((Ev.evalF Tryd.prog G1 60 14 [(.agg #[undef, undef]), undef] [(.agg #[.int .i64 l, .int .i64 s]), .int .i64 n] [Ev.tabI .i64 0 [1, 40, 60]] r)).val = (.ite (ctI n == 0) (.leaf (.int .i64 (0))) (.ite (!okL l s) (.leaf (.int .i64 (0))) (.ite (decide (ctI n = 0)) (.fail 70) (.leaf (.int .i64 (IntKind.wrap IntKind.i64 (Int.tdiv l (ctI n)))))))) := by kernel_rfl
def spE (l s c : Int) : Int := if okL l s = true ∧ 0 ≤ c then (if c ≤ l then 0 else 15) else 1
def spL (l s c : Int) : Int := sel (spE l s c == 0) (l - c) l
def spS (l s c : Int) : Int := sel (spE l s c == 0) (s + c) s
def laI (l s n : Int) : Int := if okL l s = true ∧ ctI n ≠ 0 then l / ctI n else 0
def spV (l s c : Int) : Value := .tuple #[.agg #[.int .i64 (spL l s c), .int .i64 (spS l s c)], .int .i64 (spE l s c)]
theorem ct_in (n : Int) : 0 ≤ ctI n ∧ ctI n ≤ 60 := by unfold ctI; split <;> (try split) <;> (try split) <;> omega
theorem spend_c (l s c : Int) (w : World) : Calls Tryd.prog 10 #[(.agg #[.int .i64 l, .int .i64 s]), .int .i64 c] w fun e w' => e = .returned (spV l s c) ∧ Below w.heap.size w w' := by
  refine Ev.contract1 G1_ok 60 (Ev.ExtOk.nil w) (spend_L l s c) (spend_T l s c) ?_
  refine Ev.ite_good (fun h => ?_) (fun h => Ev.ite_good (fun h2 => ?_) (fun h2 => Ev.ite_good (fun h3 => ?_) (fun h3 => ?_)))
  · have e : spE l s c = 1 := by unfold spE; rw [if_neg (by intro x; simp [x.1] at h)]
    simp [Ev.Tree.good, spV, spL, spS, e, sel]
  · simp only [decide_eq_true_eq] at h2
    have e : spE l s c = 1 := by unfold spE; rw [if_neg (by omega)]
    simp [Ev.Tree.good, spV, spL, spS, e, sel]
  · simp only [Bool.not_eq_false', decide_eq_true_eq, decide_eq_false_iff_not] at h h2 h3
    have e : spE l s c = 15 := by unfold spE; rw [if_pos ⟨h, by omega⟩, if_neg (by omega)]
    simp [Ev.Tree.good, spV, spL, spS, e, sel]
  · simp only [Bool.not_eq_false', decide_eq_false_iff_not] at h h2 h3
    have hk := ok_iff.1 h
    have e : spE l s c = 0 := by unfold spE; rw [if_pos ⟨h, by omega⟩, if_pos (by omega)]
    rw [w64 (x := l - c) (by omega) (by omega), w64 (x := s + c) (by omega) (by omega)]
    simp [Ev.Tree.good, spV, spL, spS, e, sel]
theorem lasts_c (l s n : Int) (w : World) (ht : Ev.TabW 0 (([1, 40, 60] : List Int).map (Value.int .i64)) w) : Calls Tryd.prog 14 #[(.agg #[.int .i64 l, .int .i64 s]), .int .i64 n] w fun e w' => e = .returned (.int .i64 (laI l s n)) ∧ Below w.heap.size w w' := by
  refine Ev.contract1 G1_ok 60 (Ev.tabI_ext ht) (lasts_L l s n) (lasts_T l s n) ?_
  have hc := ct_in n
  refine Ev.ite_good (fun h => ?_) (fun h => Ev.ite_good (fun h2 => ?_) (fun h2 => Ev.ite_good (fun h3 => ?_) (fun h3 => ?_)))
  · simp only [beq_iff_eq] at h
    simp [Ev.Tree.good, laI, h]
  · simp only [Bool.not_eq_true'] at h2
    simp [Ev.Tree.good, laI, h2]
  · simp_all
  · simp only [Bool.not_eq_false'] at h2
    simp only [beq_eq_false_iff_ne, ne_eq] at h
    have hk := ok_iff.1 h2
    have hd : 0 ≤ l / ctI n ∧ l / ctI n ≤ l := ⟨Int.ediv_nonneg hk.1 hc.1, Int.ediv_le_self _ hk.1⟩
    rw [Int.tdiv_eq_ediv_of_nonneg hk.1, w64 (by omega) (by omega)]
    simp [Ev.Tree.good, laI, h2, h]
def sSpend : List Value → Option Value
  | [x0, x1] => match Ev.aggLf x0, Ev.toLf x1 with
    | some [.i .i64 l, .i .i64 s], some (.i .i64 c) => some (spV l s c)
    | _, _ => none
  | _ => none
theorem sSpend_ok : ∀ a v, sSpend a = some v → ∀ w, Calls Tryd.prog 10 a.toArray w fun e w' => e = .returned v ∧ Below w.heap.size w w' := by
  intro a v h w
  unfold sSpend at h
  split at h
  · rename_i x0 x1
    split at h
    · rename_i l s c h0 h1
      have e0 := Ev.aggLf_eq h0
      have e1 := Ev.toLf_eq h1
      subst e0; subst e1
      cases h
      exact spend_c l s c w
    · cases h
  · cases h
def sLasts : List Value → Option Value
  | [x0, x1] => match Ev.aggLf x0, Ev.toLf x1 with
    | some [.i .i64 l, .i .i64 s], some (.i .i64 n) => some (.int .i64 (laI l s n))
    | _, _ => none
  | _ => none
theorem sLasts_ok : ∀ a v, sLasts a = some v → ∀ w, Ev.TabW 0 (([1, 40, 60] : List Int).map (Value.int .i64)) w → Calls Tryd.prog 14 a.toArray w fun e w' => e = .returned v ∧ Below w.heap.size w w' := by
  intro a v h w hside
  unfold sLasts at h
  split at h
  · rename_i x0 x1
    split at h
    · rename_i l s n h0 h1
      have e0 := Ev.aggLf_eq h0
      have e1 := Ev.toLf_eq h1
      subst e0; subst e1
      cases h
      exact lasts_c l s n w hside
    · cases h
  · cases h
noncomputable def G2 : Ev.Sum := Ev.addS 10 (Ev.pureS sSpend) (Ev.addS 14 (Ev.tabS 0 (([1, 40, 60] : List Int).map (Value.int .i64)) sLasts) G1)
theorem G2_ok : ∀ N w0, Ev.SumOk Tryd.prog N w0 G2 := Ev.addS_ok (Ev.pureS_ok sSpend_ok) (Ev.addS_ok (Ev.tabH_ok sLasts_ok) G1_ok)
end Go.Proofs.YtnjkhkohhkhplaaDoor
