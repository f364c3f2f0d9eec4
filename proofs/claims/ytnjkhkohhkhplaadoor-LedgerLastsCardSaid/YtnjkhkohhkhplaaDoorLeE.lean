/- Package ledger: the law of lasting. -/
import Derived.Test.YtnjkhkohhkhplaaDoorLeD
import Derived.Test.YtnjkhkohhkhplaaDoorLaid
namespace Go.Proofs.YtnjkhkohhkhplaaDoor
open Go Go.ChangeShapes Go.WideShapes Go.ChangeAt Go.RowKit
set_option linter.all false
theorem llasts_L (l s q : Int) (r : Ev.Sup) : ((Ev.evalFL Tryd.prog G3 L1 60 5 [(.agg #[undef, undef]), undef] [(.agg #[.int .i64 l, .int .i64 s]), .int .u8 q] [Ev.tabI .i64 0 [1, 40, 60]] r)).lhs = ((Ev.evalFL Tryd.prog G3 L1 60 5 [(.agg #[undef, undef]), undef] [(.agg #[.int .i64 l, .int .i64 s]), .int .u8 q] [Ev.tabI .i64 0 [1, 40, 60]] r)).rhs := by kernel_rfl
theorem llasts_T (l s q : Int) (r : Ev.Sup) : ((Ev.evalFL Tryd.prog G3 L1 60 5 [(.agg #[undef, undef]), undef] [(.agg #[.int .i64 l, .int .i64 s]), .int .u8 q] [Ev.tabI .i64 0 [1, 40, 60]] r)).val = (.ite (!okL l s) (.leaf (.bool (true))) (.ite (decide (laI l s (Int.tmod (IntKind.wrap IntKind.i64 q) 3) > 2000)) (.leaf (.bool (true))) (.ite (lpC (laI l s (Int.tmod (IntKind.wrap IntKind.i64 q) 3)) (ctI (Int.tmod (IntKind.wrap IntKind.i64 q) 3)) 0 l s) (.leaf (.bool (spE (l - (laI l s (Int.tmod (IntKind.wrap IntKind.i64 q) 3) - 0) * ctI (Int.tmod (IntKind.wrap IntKind.i64 q) 3)) (s + (laI l s (Int.tmod (IntKind.wrap IntKind.i64 q) 3) - 0) * ctI (Int.tmod (IntKind.wrap IntKind.i64 q) 3)) (ctI (Int.tmod (IntKind.wrap IntKind.i64 q) 3)) == 15))) (.fail 95)))) := by kernel_rfl
theorem llasts_c (l s q : Int) (w : World) (hq : 0 ≤ q ∧ q ≤ 255) (ht : Ev.TabW 0 (([1, 40, 60] : List Int).map (Value.int .i64)) w) : Calls Tryd.prog 5 #[(.agg #[.int .i64 l, .int .i64 s]), .int .u8 q] w fun e w' => e = .returned (.bool true) ∧ Below w.heap.size w w' := by
  refine Ev.contractL1 G3_ok 60 (c := Ev.bodyOf Tryd.f5) Tryd.func5 (by kernel_rfl) L1_ok (Ev.tabI_ext ht) (llasts_L l s q) (llasts_T l s q) ?_
  rw [w64 (x := q) (by omega) (by omega), Int.tmod_eq_emod_of_nonneg (by omega)]
  obtain ⟨d, hd⟩ : ∃ d, d = q % 3 := ⟨_, rfl⟩
  rw [← hd]
  refine Ev.ite_good (fun _ => rfl) (fun h1 => Ev.ite_good (fun _ => rfl) (fun h2 => ?_))
  simp only [Bool.not_eq_false', decide_eq_false_iff_not] at h1 h2
  have hk := ok_iff.1 h1
  have hc : 1 ≤ ctI d ∧ ctI d ≤ 60 := by
    have h3 : d = 0 ∨ d = 1 ∨ d = 2 := by omega
    rcases h3 with rfl | rfl | rfl <;> simp [ctI]
  have hla : laI l s d = l / ctI d := by unfold laI; rw [if_pos ⟨h1, by omega⟩]
  rw [hla] at h2 ⊢
  generalize ctI d = c at *
  have e1 : 0 ≤ l / c := Int.ediv_nonneg hk.1 (by omega)
  have e2 : l / c * c ≤ l := by have := Int.ediv_mul_le l (show c ≠ 0 by omega); omega
  have e3 : l < l / c * c + c := by have := Int.lt_ediv_add_one_mul_self l (show 0 < c by omega); rw [Int.add_mul, Int.one_mul] at this; exact this
  have e4 : 0 ≤ l / c * c := Int.mul_nonneg e1 (by omega)
  have hC : lpC (l / c) c 0 l s = true := by
    simp only [lpC, decide_eq_true_eq, Int.sub_zero]
    exact ⟨h1, by omega, by omega, by omega, by omega, e2⟩
  rw [Int.sub_zero]
  generalize l / c * c = m at *
  refine Ev.ite_good (fun _ => ?_) (fun hf => by rw [hC] at hf; cases hf)
  have : spE (l - m) (s + m) c = 15 := by
    unfold spE
    rw [if_pos ⟨ok_iff.2 (by omega), by omega⟩, if_neg (by omega)]
  simp [Ev.Tree.good, this]
def Tab (w : World) : Prop := Laid.VarIs 0 [.int .i64 1, .int .i64 40, .int .i64 60] w
theorem llasts_w (l s q : Int) (w : World) (hq : 0 ≤ q ∧ q ≤ 255) (ht : Tab w) : Calls Tryd.prog 5 #[(.agg #[.int .i64 l, .int .i64 s]), .int .u8 q] w fun e w' => e = .returned (.bool true) ∧ Below w.heap.size w w' :=
  llasts_c l s q w hq fun i v h => ht i v h
end Go.Proofs.YtnjkhkohhkhplaaDoor
