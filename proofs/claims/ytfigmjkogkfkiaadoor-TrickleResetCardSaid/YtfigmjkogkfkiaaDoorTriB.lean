/- Contracts of package trickle and its reference. -/
import Derived.Test.YtfigmjkogkfkiaaDoorTriA
namespace Go.Proofs.YtfigmjkogkfkiaaDoor
open Go Go.ChangeShapes Go.WideShapes Go.ChangeAt Go.RowKit
set_option linter.all false
theorem rvalid_L (i b f c s : Int) (r : Ev.Sup) : ((Ev.evalF Tryd.prog G1 60 19 [(.agg #[undef, undef, undef, undef, undef])] [(.agg #[.int .i64 i, .int .i64 b, .int .i64 f, .int .i64 c, .int .i64 s])] [] r)).lhs = ((Ev.evalF Tryd.prog G1 60 19 [(.agg #[undef, undef, undef, undef, undef])] [(.agg #[.int .i64 i, .int .i64 b, .int .i64 f, .int .i64 c, .int .i64 s])] [] r)).rhs := by kernel_rfl
theorem rvalid_T (i b f c s : Int) (r : Ev.Sup) : ((Ev.evalF Tryd.prog G1 60 19 [(.agg #[undef, undef, undef, undef, undef])] [(.agg #[.int .i64 i, .int .i64 b, .int .i64 f, .int .i64 c, .int .i64 s])] [] r)).val = (.ite (i != 1) (.ite (i != 2) (.ite (i != 4) (.ite (i != 8) (.leaf (.bool (false))) (.ite (!(decide (0 ≤ b) && decide (b ≤ 999999984))) (.leaf (.bool (false))) (.ite (decide (s < 0)) (.leaf (.bool (false))) (.ite (decide (s > 1000000000)) (.leaf (.bool (false))) (.ite (decide (c < 0)) (.leaf (.bool (false))) (.ite (decide (c > 100)) (.leaf (.bool (false))) (.ite (decide (f ≥ IntKind.wrap IntKind.i64 (b + IntKind.wrap IntKind.i64 (Int.tdiv i 2)))) (.leaf (.bool (decide (f ≤ IntKind.wrap IntKind.i64 (IntKind.wrap IntKind.i64 (b + i) - 1))))) (.leaf (.bool (false)))))))))) (.ite (!(decide (0 ≤ b) && decide (b ≤ 999999984))) (.leaf (.bool (false))) (.ite (decide (s < 0)) (.leaf (.bool (false))) (.ite (decide (s > 1000000000)) (.leaf (.bool (false))) (.ite (decide (c < 0)) (.leaf (.bool (false))) (.ite (decide (c > 100)) (.leaf (.bool (false))) (.ite (decide (f ≥ IntKind.wrap IntKind.i64 (b + IntKind.wrap IntKind.i64 (Int.tdiv i 2)))) (.leaf (.bool (decide (f ≤ IntKind.wrap IntKind.i64 (IntKind.wrap IntKind.i64 (b + i) - 1))))) (.leaf (.bool (false)))))))))) (.ite (!(decide (0 ≤ b) && decide (b ≤ 999999984))) (.leaf (.bool (false))) (.ite (decide (s < 0)) (.leaf (.bool (false))) (.ite (decide (s > 1000000000)) (.leaf (.bool (false))) (.ite (decide (c < 0)) (.leaf (.bool (false))) (.ite (decide (c > 100)) (.leaf (.bool (false))) (.ite (decide (f ≥ IntKind.wrap IntKind.i64 (b + IntKind.wrap IntKind.i64 (Int.tdiv i 2)))) (.leaf (.bool (decide (f ≤ IntKind.wrap IntKind.i64 (IntKind.wrap IntKind.i64 (b + i) - 1))))) (.leaf (.bool (false)))))))))) (.ite (!(decide (0 ≤ b) && decide (b ≤ 999999984))) (.leaf (.bool (false))) (.ite (decide (s < 0)) (.leaf (.bool (false))) (.ite (decide (s > 1000000000)) (.leaf (.bool (false))) (.ite (decide (c < 0)) (.leaf (.bool (false))) (.ite (decide (c > 100)) (.leaf (.bool (false))) (.ite (decide (f ≥ IntKind.wrap IntKind.i64 (b + IntKind.wrap IntKind.i64 (Int.tdiv i 2)))) (.leaf (.bool (decide (f ≤ IntKind.wrap IntKind.i64 (IntKind.wrap IntKind.i64 (b + i) - 1))))) (.leaf (.bool (false)))))))))) := by kernel_rfl
/-- what a valid timer is -/
def vlP (i b f c s : Int) : Bool := lenP i && rgP b 0 999999984 && rgP c 0 100 && rgP s 0 1000000000 && rgP f (b + i / 2) (b + i - 1)
theorem w64 {x : Int} (h1 : -9223372036854775808 ≤ x) (h2 : x ≤ 9223372036854775807) : IntKind.wrap .i64 x = x := by
  simp only [IntKind.wrap, IntKind.bits, IntKind.signed]
  simp
  omega
theorem wu64 {x : Int} (h1 : 0 ≤ x) (h2 : x ≤ 18446744073709551615) : IntKind.wrap .u64 x = x := by
  simp only [IntKind.wrap, IntKind.bits, IntKind.signed]
  simp
  omega
theorem len_cases {i : Int} (h : lenP i = true) : i = 1 ∨ i = 2 ∨ i = 4 ∨ i = 8 := by
  simp only [lenP, Bool.or_eq_true, beq_iff_eq] at h
  omega
theorem rg_iff {n lo hi : Int} : rgP n lo hi = true ↔ lo ≤ n ∧ n ≤ hi := by simp [rgP]
theorem vl_iff {i b f c s : Int} : vlP i b f c s = true ↔ (i = 1 ∨ i = 2 ∨ i = 4 ∨ i = 8) ∧ (0 ≤ b ∧ b ≤ 999999984) ∧ (0 ≤ c ∧ c ≤ 100) ∧ (0 ≤ s ∧ s ≤ 1000000000) ∧ b + i / 2 ≤ f ∧ f ≤ b + i - 1 := by
  simp only [vlP, Bool.and_eq_true, rg_iff]
  constructor
  · rintro ⟨⟨⟨⟨h1, h2⟩, h3⟩, h4⟩, h5⟩
    exact ⟨len_cases h1, h2, h3, h4, h5⟩
  · rintro ⟨h1, h2, h3, h4, h5⟩
    exact ⟨⟨⟨⟨by rcases h1 with rfl | rfl | rfl | rfl <;> rfl, h2⟩, h3⟩, h4⟩, h5⟩
theorem rvalid_c (i b f c s : Int) (w : World) : Calls Tryd.prog 19 #[(.agg #[.int .i64 i, .int .i64 b, .int .i64 f, .int .i64 c, .int .i64 s])] w fun e w' => e = .returned (.bool (vlP i b f c s)) ∧ Below w.heap.size w w' := by
  refine Ev.contract1 G1_ok 60 (Ev.ExtOk.nil w) (rvalid_L i b f c s) (rvalid_T i b f c s) ?_
  have key : ∀ v : Bool, (v = true ↔ (i = 1 ∨ i = 2 ∨ i = 4 ∨ i = 8) ∧ (0 ≤ b ∧ b ≤ 999999984) ∧ (0 ≤ c ∧ c ≤ 100) ∧ (0 ≤ s ∧ s ≤ 1000000000) ∧ b + i / 2 ≤ f ∧ f ≤ b + i - 1) → Value.bool v = .bool (vlP i b f c s) := fun v h => by
    rw [Bool.eq_iff_iff.2 (h.trans vl_iff.symm)]
  simp only [Ev.Tree.good]
  repeat' (first | (refine And.intro (fun h => ?_) (fun h => ?_)))
  all_goals
    refine key _ ?_
    simp only [Bool.not_eq_true', Bool.and_eq_false_iff, Bool.not_eq_false', Bool.and_eq_true, bne_iff_ne, ne_eq, bne_eq_false_iff_eq, decide_eq_true_eq, decide_eq_false_iff_not] at *
    first
      | (simp only [Bool.false_eq_true, false_iff]; omega)
      | (have e1 : IntKind.wrap .i64 (Int.tdiv i 2) = i / 2 := by
           rw [Int.tdiv_eq_ediv_of_nonneg (by omega)]; exact w64 (by omega) (by omega)
         have e2 : IntKind.wrap .i64 (b + i) = b + i := w64 (by omega) (by omega)
         have e3 : IntKind.wrap .i64 (b + i / 2) = b + i / 2 := w64 (by omega) (by omega)
         have e4 : IntKind.wrap .i64 (b + i - 1) = b + i - 1 := w64 (by omega) (by omega)
         simp only [e1, e2, e3, e4] at *
         first | omega | (simp only [Bool.false_eq_true, false_iff]; omega))
def sRValid : List Value → Option Value
  | [x0] => match Ev.aggLf x0 with
    | some [.i .i64 i, .i .i64 b, .i .i64 f, .i .i64 c, .i .i64 s] => some (.bool (vlP i b f c s))
    | _ => none
  | _ => none
theorem sRValid_ok : ∀ a v, sRValid a = some v → ∀ w, Calls Tryd.prog 19 a.toArray w fun e w' => e = .returned v ∧ Below w.heap.size w w' := by
  intro a v h w
  unfold sRValid at h
  split at h
  · rename_i x0
    split at h
    · rename_i i b f c s h0
      have e0 := Ev.aggLf_eq h0
      subst e0
      cases h
      exact rvalid_c i b f c s w
    · cases h
  · cases h
noncomputable def G2 : Ev.Sum := Ev.addS 19 (Ev.pureS sRValid) G1
theorem G2_ok : ∀ N w0, Ev.SumOk Tryd.prog N w0 G2 := Ev.addS_ok (Ev.pureS_ok sRValid_ok) G1_ok
end Go.Proofs.YtfigmjkogkfkiaaDoor
