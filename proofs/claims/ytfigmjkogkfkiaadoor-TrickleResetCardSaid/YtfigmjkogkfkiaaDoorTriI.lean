/- Trickle's Reset. -/
import Derived.Test.YtfigmjkogkfkiaaDoorTriG
import Derived.Test.YtfigmjkogkfkiaaDoorTriH
namespace Go.Proofs.YtfigmjkogkfkiaaDoor
open Go Go.ChangeShapes Go.WideShapes Go.ChangeAt Go.RowKit
set_option linter.all false
theorem tk_old {i b f c s m : Int} (hv : vlP i b f c s = true) (hm : 0 ≤ m ∧ m ≤ 999999984) (h1 : b ≤ m) (h2 : m < b + i) : tOk i b f c s m = true ∧ tNew i b f c s m = false := by
  refine ⟨tOk_iff.2 ⟨hv, hm, h1⟩, ?_⟩
  cases h : tNew i b f c s m with
  | false => rfl
  | true => have := tNew_iff.1 h; omega
theorem tk_new {i b f c s m : Int} (hv : vlP i b f c s = true) (hm : 0 ≤ m ∧ m ≤ 999999984) (hi : 1 ≤ i) (h2 : b + i ≤ m) : tOk i b f c s m = true ∧ tNew i b f c s m = true :=
  ⟨tOk_iff.2 ⟨hv, hm, by omega⟩, tNew_iff.2 ⟨hv, hm, by omega, h2⟩⟩
theorem lrst_c (i b f c s m : Int) (w : World) (ht : Tab w) : Calls Tryd.prog 8 #[(.agg #[.int .i64 i, .int .i64 b, .int .i64 f, .int .i64 c, .int .i64 s]), .int .i64 m] w fun e w' => e = .returned (.bool true) ∧ Below w.heap.size w w' := by
  refine Ev.contract1 G4_ok 60 (tab_ext ht) (lrst_L i b f c s m) (lrst_T i b f c s m) ?_
  refine Ev.ite_good (fun hv => ?_) (fun _ => rfl)
  refine Ev.ite_good (fun g1 => ?_) (fun _ => rfl)
  refine Ev.ite_good (fun g2 => ?_) (fun _ => rfl)
  refine Ev.ite_good (fun _ => rfl) (fun g3 => ?_)
  obtain ⟨hi, hb, hc, hs, hf⟩ := vl_iff.1 hv
  rw [w64 (x := b + i) (by omega) (by omega)] at g2
  simp only [decide_eq_true_eq, Bool.not_eq_false', ge_iff_le] at g1 g2 g3
  have e0 : IntKind.wrap .i64 (m + 0) = m := by rw [Int.add_zero]; exact w64 (by omega) (by omega)
  have e1 : IntKind.wrap .i64 (m + 1) = m + 1 := w64 (by omega) (by omega)
  have e2 : IntKind.wrap .i64 (m + 2) = m + 2 := w64 (by omega) (by omega)
  have f1 : fireP s m 1 = m := by have := fire_in (s := s) (m := m) (l := 1) (.inl rfl); omega
  have f2 : fireP s m 2 = m + 1 := by have := fire_in (s := s) (m := m) (l := 2) (.inr (.inl rfl)); omega
  have f3 : fireP s (m + 1) 2 = m + 1 + 1 := by have := fire_in (s := s) (m := m + 1) (l := 2) (.inr (.inl rfl)); omega
  have d1 : dbl 1 = 2 := by decide
  by_cases hi1 : i = 1
  · subst hi1
    have hr : rOk 1 b f c s m = false := by simp [rOk]
    have hfb : f = b := by omega
    subst hfb
    by_cases hmb : m = f
    · subst hmb
      obtain ⟨o1, n1⟩ := tk_old (m := m) hv (by omega) (by omega) (by omega)
      by_cases hc2 : c < 2
      · refine Ev.good_t ?_ rfl
        simp only [hr, sel, e0, tF, tC, o1, n1, Bool.true_and, decide_true, hc2]
      · refine Ev.good_f ?_ (Ev.good_f ?_ (Ev.good_t ?_ rfl))
        · simp only [hr, sel, e0, tF, tC, o1, n1, Bool.true_and, decide_true, hc2, decide_false]
        · obtain ⟨o2, n2⟩ := tk_new (m := m + 1) hv (by omega) (by omega) (by omega)
          have : ¬ m + 1 = m + 1 + 1 := by omega
          simp only [hr, sel, e0, e1, tF, tC, n1, o2, n2, d1, f3, Bool.true_and, decide_false, this, Bool.false_and]
        · obtain ⟨o2, n2⟩ := tk_new (m := m + 1) hv (by omega) (by omega) (by omega)
          have f4 : fireP s (m + 1) 2 = m + 2 := by omega
          have v2 : vlP 2 (m + 1) (m + 2) 0 s = true := by have := vl_begin (s := s) (m := m + 1) (l := 2) (.inr (.inl rfl)) (by omega) hs; rwa [f4] at this
          obtain ⟨o3, n3⟩ := tk_old (m := m + 2) v2 (by omega) (by omega) (by omega)
          simp only [hr, sel, e0, e1, e2, tF, tC, n1, n2, d1, f4, o3, n3, Bool.true_and, decide_true, Int.reduceLT]
    · obtain ⟨o1, n1⟩ := tk_new (m := m) hv (by omega) (by omega) (by omega)
      have v2 : vlP 2 m (m + 1) 0 s = true := by have := vl_begin (s := s) (m := m) (l := 2) (.inr (.inl rfl)) (by omega) hs; rwa [f2] at this
      obtain ⟨o2, n2⟩ := tk_old (m := m + 1) v2 (by omega) (by omega) (by omega)
      have hne : ¬ m = m + 1 := by omega
      refine Ev.good_f ?_ (Ev.good_t ?_ rfl)
      · simp only [hr, sel, e0, tF, tC, o1, n1, d1, f2, Bool.true_and, decide_false, hne, Bool.false_and]
      · simp only [hr, sel, e0, e1, tF, tC, n1, d1, f2, o2, n2, Bool.true_and, decide_true, Int.reduceLT]
  · have hr : rOk i b f c s m = true := by
      simp only [rOk, Bool.and_eq_true, rg_iff, hv, true_and, bne_iff_ne, ne_eq]
      exact ⟨by omega, hi1⟩
    have v1 : vlP 1 m m 0 s = true := by have := vl_begin (s := s) (m := m) (l := 1) (.inl rfl) (by omega) hs; rwa [f1] at this
    obtain ⟨o1, n1⟩ := tk_old (m := m) v1 (by omega) (by omega) (by omega)
    refine Ev.good_t ?_ rfl
    simp only [hr, sel, e0, f1, tF, tC, o1, n1, Bool.true_and, decide_true, Int.reduceLT]
end Go.Proofs.YtfigmjkogkfkiaaDoor
