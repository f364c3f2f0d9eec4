/- Package ledger: its functions. -/
import Derived.Test.YtnjkhkohhkhplaaDoorEvP
namespace Go.Proofs.YtnjkhkohhkhplaaDoor
open Go Go.ChangeShapes Go.WideShapes Go.ChangeAt Go.RowKit
set_option linter.all false
theorem avalid_L (l s : Int) (r : Ev.Sup) : ((Ev.evalF Tryd.prog Ev.noS 60 18 [(.agg #[undef, undef])] [(.agg #[.int .i64 l, .int .i64 s])] [] r)).lhs = ((Ev.evalF Tryd.prog Ev.noS 60 18 [(.agg #[undef, undef])] [(.agg #[.int .i64 l, .int .i64 s])] [] r)).rhs := by kernel_rfl
theorem avalid_T (l s : Int) (r : Ev.Sup) : ((Ev.evalF Tryd.prog Ev.noS 60 18 [(.agg #[undef, undef])] [(.agg #[.int .i64 l, .int .i64 s])] [] r)).val = (.ite (decide (0 ≤ l)) (.ite (decide (l ≤ 1000000000)) (.ite (decide (0 ≤ s)) (.leaf (.bool (decide (s ≤ IntKind.wrap IntKind.i64 (1000000000 - l))))) (.leaf (.bool (false)))) (.leaf (.bool (false)))) (.leaf (.bool (false)))) := by kernel_rfl
theorem rvalid_L (l s : Int) (r : Ev.Sup) : ((Ev.evalF Tryd.prog Ev.noS 60 16 [(.agg #[undef, undef])] [(.agg #[.int .i64 l, .int .i64 s])] [] r)).lhs = ((Ev.evalF Tryd.prog Ev.noS 60 16 [(.agg #[undef, undef])] [(.agg #[.int .i64 l, .int .i64 s])] [] r)).rhs := by kernel_rfl
theorem rvalid_T (l s : Int) (r : Ev.Sup) : ((Ev.evalF Tryd.prog Ev.noS 60 16 [(.agg #[undef, undef])] [(.agg #[.int .i64 l, .int .i64 s])] [] r)).val = (.ite (decide (l ≥ 0)) (.ite (decide (l ≤ 1000000000)) (.ite (decide (s ≥ 0)) (.leaf (.bool (decide (s ≤ IntKind.wrap IntKind.i64 (1000000000 - l))))) (.leaf (.bool (false)))) (.leaf (.bool (false)))) (.leaf (.bool (false)))) := by kernel_rfl
theorem cost_L (n : Int) (r : Ev.Sup) : ((Ev.evalF Tryd.prog Ev.noS 60 12 [undef] [.int .i64 n] [Ev.tabI .i64 0 [1, 40, 60]] r)).lhs = ((Ev.evalF Tryd.prog Ev.noS 60 12 [undef] [.int .i64 n] [Ev.tabI .i64 0 [1, 40, 60]] r)).rhs := by kernel_rfl
theorem cost_T (n : Int) (r : Ev.Sup) : ((Ev.evalF Tryd.prog Ev.noS 60 12 [undef] [.int .i64 n] [Ev.tabI .i64 0 [1, 40, 60]] r)).val = (.ite (decide (n < 0)) (.leaf (.int .i64 (0))) (.ite (decide (n ≥ 3)) (.leaf (.int .i64 (0))) (.ite (decide (0 ≤ n ∧ n < ↑3)) (.ite (decide (Int.toNat n < Ev.Row.n { base := 0, k := 1, n := List.length [1, 40, 60], g := fun j x => Value.int IntKind.i64 (Ev.nthZ [1, 40, 60] j) })) (.leaf (.int .i64 (Ev.nthZ [1, 40, 60] (Int.toNat n)))) (.fail 72)) (.fail 71)))) := by kernel_rfl
def sel (b : Bool) (x y : Int) : Int := match b with
  | true => x
  | false => y
theorem w64 {x : Int} (h1 : -9223372036854775808 ≤ x) (h2 : x ≤ 9223372036854775807) : IntKind.wrap .i64 x = x := by
  simp only [IntKind.wrap, IntKind.bits, IntKind.signed]
  simp
  omega
def okL (l s : Int) : Bool := decide (0 ≤ l) && decide (l ≤ 1000000000) && decide (0 ≤ s) && decide (s ≤ 1000000000 - l)
theorem ok_iff {l s : Int} : okL l s = true ↔ 0 ≤ l ∧ l ≤ 1000000000 ∧ 0 ≤ s ∧ s ≤ 1000000000 - l := by simp [okL, and_assoc]
def ctI (n : Int) : Int := if n = 0 then 1 else if n = 1 then 40 else if n = 2 then 60 else 0
theorem valid_t (l s : Int) : (Ev.Tree.ite (decide (0 ≤ l)) (.ite (decide (l ≤ 1000000000)) (.ite (decide (0 ≤ s)) (.leaf (Value.bool (decide (s ≤ IntKind.wrap IntKind.i64 (1000000000 - l))))) (.leaf (.bool (false)))) (.leaf (.bool (false)))) (.leaf (.bool (false)))).good (· = .bool (okL l s)) := by
  simp only [Ev.Tree.good, okL]
  refine ⟨fun h1 => ⟨fun h2 => ⟨fun h3 => ?_, fun h3 => ?_⟩, fun h2 => ?_⟩, fun h1 => ?_⟩
  · simp only [decide_eq_true_eq] at h1 h2 h3
    rw [w64 (by omega) (by omega)]
    simp [h1, h2, h3]
  all_goals (simp_all; try omega)
theorem avalid_c (l s : Int) (w : World) : Calls Tryd.prog 18 #[(.agg #[.int .i64 l, .int .i64 s])] w fun e w' => e = .returned (.bool (okL l s)) ∧ Below w.heap.size w w' :=
  Ev.contract1 Ev.noS_ok 60 (Ev.ExtOk.nil w) (avalid_L l s) (avalid_T l s) (valid_t l s)
theorem rvalid_c (l s : Int) (w : World) : Calls Tryd.prog 16 #[(.agg #[.int .i64 l, .int .i64 s])] w fun e w' => e = .returned (.bool (okL l s)) ∧ Below w.heap.size w w' :=
  Ev.contract1 Ev.noS_ok 60 (Ev.ExtOk.nil w) (rvalid_L l s) (rvalid_T l s) (valid_t l s)
theorem cost_c (n : Int) (w : World) (ht : Ev.TabW 0 (([1, 40, 60] : List Int).map (Value.int .i64)) w) : Calls Tryd.prog 12 #[.int .i64 n] w fun e w' => e = .returned (.int .i64 (ctI n)) ∧ Below w.heap.size w w' := by
  refine Ev.contract1 Ev.noS_ok 60 (Ev.tabI_ext ht) (cost_L n) (cost_T n) ?_
  refine Ev.ite_good (fun h => ?_) (fun h => Ev.ite_good (fun h2 => ?_) (fun h2 => ?_))
  · simp only [decide_eq_true_eq] at h
    simp [Ev.Tree.good, ctI, show ¬ n = 0 by omega, show ¬ n = 1 by omega, show ¬ n = 2 by omega]
  · simp only [decide_eq_true_eq] at h2
    simp [Ev.Tree.good, ctI, show ¬ n = 0 by omega, show ¬ n = 1 by omega, show ¬ n = 2 by omega]
  · simp only [decide_eq_false_iff_not] at h h2
    have h3 : n = 0 ∨ n = 1 ∨ n = 2 := by omega
    rcases h3 with rfl | rfl | rfl <;> simp [Ev.Tree.good, ctI, Ev.nthZ]
def sAValid : List Value → Option Value
  | [x0] => match Ev.aggLf x0 with
    | some [.i .i64 l, .i .i64 s] => some (.bool (okL l s))
    | _ => none
  | _ => none
theorem sAValid_ok : ∀ a v, sAValid a = some v → ∀ w, Calls Tryd.prog 18 a.toArray w fun e w' => e = .returned v ∧ Below w.heap.size w w' := by
  intro a v h w
  unfold sAValid at h
  split at h
  · rename_i x0
    split at h
    · rename_i l s h0
      have e0 := Ev.aggLf_eq h0
      subst e0
      cases h
      exact avalid_c l s w
    · cases h
  · cases h
def sRValid : List Value → Option Value
  | [x0] => match Ev.aggLf x0 with
    | some [.i .i64 l, .i .i64 s] => some (.bool (okL l s))
    | _ => none
  | _ => none
theorem sRValid_ok : ∀ a v, sRValid a = some v → ∀ w, Calls Tryd.prog 16 a.toArray w fun e w' => e = .returned v ∧ Below w.heap.size w w' := by
  intro a v h w
  unfold sRValid at h
  split at h
  · rename_i x0
    split at h
    · rename_i l s h0
      have e0 := Ev.aggLf_eq h0
      subst e0
      cases h
      exact rvalid_c l s w
    · cases h
  · cases h
def sCost : List Value → Option Value
  | [x0] => match Ev.toLf x0 with
    | some (.i .i64 n) => some (.int .i64 (ctI n))
    | _ => none
  | _ => none
theorem sCost_ok : ∀ a v, sCost a = some v → ∀ w, Ev.TabW 0 (([1, 40, 60] : List Int).map (Value.int .i64)) w → Calls Tryd.prog 12 a.toArray w fun e w' => e = .returned v ∧ Below w.heap.size w w' := by
  intro a v h w hside
  unfold sCost at h
  split at h
  · rename_i x0
    split at h
    · rename_i n h0
      have e0 := Ev.toLf_eq h0
      subst e0
      cases h
      exact cost_c n w hside
    · cases h
  · cases h
noncomputable def G1 : Ev.Sum := Ev.addS 18 (Ev.pureS sAValid) (Ev.addS 16 (Ev.pureS sRValid) (Ev.addS 12 (Ev.tabS 0 (([1, 40, 60] : List Int).map (Value.int .i64)) sCost) Ev.noS))
theorem G1_ok : ∀ N w0, Ev.SumOk Tryd.prog N w0 G1 := Ev.addS_ok (Ev.pureS_ok sAValid_ok) (Ev.addS_ok (Ev.pureS_ok sRValid_ok) (Ev.addS_ok (Ev.tabH_ok sCost_ok) Ev.noS_ok))
end Go.Proofs.YtnjkhkohhkhplaaDoor
