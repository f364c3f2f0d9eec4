/- Package queue: the law of places. -/
import Derived.Test.YtbpnmjjmllgehaaQuI
namespace Go.Proofs.Ytbpnmjjmllgehaa
open Go Go.ChangeShapes Go.WideShapes Go.ChangeAt Go.RowKit
set_option linter.all false
theorem lplaces_L (a : Option Addr) (n ca : Nat) (f : Nat → Nat → Int) (r0 r1 r2 r3 r4 me : Int) (r : Ev.Sup) : ((Ev.evalF Try.prog G3 60 6 [.agg #[(.slice (some ⟨600, 0, some 0⟩) 0 0)], .agg #[undef, undef, undef, undef, undef], undef] [.agg #[.slice a n ca], .agg #[.int .i64 r0, .int .i64 r1, .int .i64 r2, .int .i64 r3, .int .i64 r4], .int .i64 me] [(Ev.rowA 600 a 5 n fun j c => .int .i64 (f j c))] r)).lhs = ((Ev.evalF Try.prog G3 60 6 [.agg #[(.slice (some ⟨600, 0, some 0⟩) 0 0)], .agg #[undef, undef, undef, undef, undef], undef] [.agg #[.slice a n ca], .agg #[.int .i64 r0, .int .i64 r1, .int .i64 r2, .int .i64 r3, .int .i64 r4], .int .i64 me] [(Ev.rowA 600 a 5 n fun j c => .int .i64 (f j c))] r)).rhs := by kernel_rfl
theorem lplaces_T (a : Option Addr) (n ca : Nat) (f : Nat → Nat → Int) (r0 r1 r2 r3 r4 me : Int) (r : Ev.Sup) : ((Ev.evalF Try.prog G3 60 6 [.agg #[(.slice (some ⟨600, 0, some 0⟩) 0 0)], .agg #[undef, undef, undef, undef, undef], undef] [.agg #[.slice a n ca], .agg #[.int .i64 r0, .int .i64 r1, .int .i64 r2, .int .i64 r3, .int .i64 r4], .int .i64 me] [(Ev.rowA 600 a 5 n fun j c => .int .i64 (f j c))] r)).val = (.ite (!decide (Int.ofNat n ≤ 40)) (.leaf (.bool (true))) (.ite (Ev.kindK IntKind.i64 (fun j c => Value.int IntKind.i64 (f j c)) n 5) (.ite (Nat.ble n 9223372036854775807) (.ite (!rVal (fun j c => f j c) n) (.leaf (.bool (true))) (.ite (!fmd r0 r1 r2 r4) (.leaf (.bool (true))) (.ite (decide (me < 0)) (.leaf (.bool (true))) (.ite (decide (me ≥ 60)) (.leaf (.bool (true))) (.ite (Ev.kindK IntKind.i64 (fun j c => Value.int IntKind.i64 (f j c)) n 5) (.ite (Nat.ble n 9223372036854775807) (.ite (decide (rfV (fun j c => f j c) n r0 r1 ≥ 0)) (.leaf (.bool (true))) (.ite (Ev.kindK IntKind.i64 (fun j c => Value.int IntKind.i64 (f j c)) n 5) (.ite (Nat.ble n 9223372036854775807) (.ite (!qVal (fun j c => f j c) n) (.ite (r0 == me) (.ite (false == decide (Int.ofNat n < 12)) (.leaf (.bool (false))) (.leaf (.bool (false)))) (.ite (false == decide (Int.ofNat n < 16)) (.leaf (.bool (false))) (.leaf (.bool (false))))) (.ite (!fmd r0 r1 r2 r4) (.ite (r0 == me) (.ite (false == decide (Int.ofNat n < 12)) (.leaf (.bool (false))) (.leaf (.bool (false)))) (.ite (false == decide (Int.ofNat n < 16)) (.leaf (.bool (false))) (.leaf (.bool (false))))) (.ite (decide (0 ≤ me)) (.ite (!decide (me < 60)) (.ite (r0 == me) (.ite (false == decide (Int.ofNat n < 12)) (.leaf (.bool (false))) (.leaf (.bool (false)))) (.ite (false == decide (Int.ofNat n < 16)) (.leaf (.bool (false))) (.leaf (.bool (false))))) (.ite (Ev.kindK IntKind.i64 (fun j c => Value.int IntKind.i64 (f j c)) n 5) (.ite (Nat.ble n 9223372036854775807) (.ite (decide (qfV (fun j c => f j c) n r0 r1 < Int.ofNat n)) (.ite (r0 == me) (.ite (false == decide (Int.ofNat n < 12)) (.leaf (.bool (false))) (.leaf (.bool (false)))) (.ite (false == decide (Int.ofNat n < 16)) (.leaf (.bool (false))) (.leaf (.bool (false))))) (.ite (decide (Int.ofNat n ≥ 16)) (.ite (r0 == me) (.ite (false == decide (Int.ofNat n < 12)) (.leaf (.bool (true))) (.leaf (.bool (false)))) (.ite (false == decide (Int.ofNat n < 16)) (.leaf (.bool (true))) (.leaf (.bool (false))))) (.ite (decide (Int.ofNat n ≥ 12)) (.ite (r0 == me) (.ite (r0 == me) (.ite (false == decide (Int.ofNat n < 12)) (.leaf (.bool (true))) (.leaf (.bool (false)))) (.ite (false == decide (Int.ofNat n < 16)) (.leaf (.bool (true))) (.leaf (.bool (false))))) (.ite (Ev.isNilA a) (.ite (r0 == me) (.ite (true == decide (Int.ofNat n < 12)) (.leaf (.bool (true))) (.leaf (.bool (false)))) (.ite (true == decide (Int.ofNat n < 16)) (.leaf (.bool (true))) (.leaf (.bool (false))))) (.ite (Nat.ble ((0 + n) * 40) 140737488355328) (.ite (Ev.flatA n 5 (Ev.Ap.rw fun j c => Value.int IntKind.i64 (f j c))) (.ite (Nat.ble ((0 + n + 1) * 40) 140737488355328) (.ite (Ev.flatA 1 5 (Ev.Ap.cl [Value.tuple #[], Value.tuple #[], Value.tuple #[], Value.tuple #[], Value.tuple #[]] [Value.int IntKind.i64 r0, Value.int IntKind.i64 r1, Value.int IntKind.i64 r2, Value.int IntKind.i64 r3, Value.int IntKind.i64 r4])) (.ite (r0 == me) (.ite (true == decide (Int.ofNat n < 12)) (.leaf (.bool (true))) (.leaf (.bool (false)))) (.ite (true == decide (Int.ofNat n < 16)) (.leaf (.bool (true))) (.leaf (.bool (false))))) (.fail 77)) (.fail 76)) (.fail 77)) (.fail 76)))) (.ite (Ev.isNilA a) (.ite (r0 == me) (.ite (true == decide (Int.ofNat n < 12)) (.leaf (.bool (true))) (.leaf (.bool (false)))) (.ite (true == decide (Int.ofNat n < 16)) (.leaf (.bool (true))) (.leaf (.bool (false))))) (.ite (Nat.ble ((0 + n) * 40) 140737488355328) (.ite (Ev.flatA n 5 (Ev.Ap.rw fun j c => Value.int IntKind.i64 (f j c))) (.ite (Nat.ble ((0 + n + 1) * 40) 140737488355328) (.ite (Ev.flatA 1 5 (Ev.Ap.cl [Value.tuple #[], Value.tuple #[], Value.tuple #[], Value.tuple #[], Value.tuple #[]] [Value.int IntKind.i64 r0, Value.int IntKind.i64 r1, Value.int IntKind.i64 r2, Value.int IntKind.i64 r3, Value.int IntKind.i64 r4])) (.ite (r0 == me) (.ite (true == decide (Int.ofNat n < 12)) (.leaf (.bool (true))) (.leaf (.bool (false)))) (.ite (true == decide (Int.ofNat n < 16)) (.leaf (.bool (true))) (.leaf (.bool (false))))) (.fail 77)) (.fail 76)) (.fail 77)) (.fail 76)))))) (.fail 92)) (.fail 92))) (.ite (r0 == me) (.ite (false == decide (Int.ofNat n < 12)) (.leaf (.bool (false))) (.leaf (.bool (false)))) (.ite (false == decide (Int.ofNat n < 16)) (.leaf (.bool (false))) (.leaf (.bool (false)))))))) (.fail 92)) (.fail 92))) (.fail 92)) (.fail 92)))))) (.fail 92)) (.fail 92))) := by kernel_rfl
theorem anyN_mono {p q : Nat → Bool} : ∀ {d i : Nat}, (∀ j, i ≤ j → j < i + d → p j = true → q j = true) → anyN p d i = true → anyN q d i = true
  | 0, _, _, h => h
  | d + 1, i, hpq, h => by
    rw [anyN_s, Bool.or_eq_true] at h ⊢
    rcases h with h | h
    · exact .inl (hpq i (Nat.le_refl _) (by omega) h)
    · exact .inr (anyN_mono (fun j h1 h2 => hpq j (by omega) (by omega)) h)
theorem qfV_of {f : Nat → Nat → Int} {n : Nat} {o m : Int} (h : ¬ rfV f n o m ≥ 0) : qfV f n o m = (n : Int) := by
  unfold rfV at h
  unfold qfV
  split at h
  · omega
  · rename_i h1; rw [if_neg h1]
theorem rVal_qVal {f : Nat → Nat → Int} {n : Nat} (h : rVal f n = true) : qVal f n = true ∧ n ≤ 16 := by
  unfold rVal at h
  simp only [Bool.and_eq_true, Bool.not_eq_true', decide_eq_true_eq] at h
  obtain ⟨h1, h2⟩ := h
  refine ⟨?_, h2⟩
  unfold qVal
  rw [decide_eq_true h2, Bool.and_true, Bool.not_eq_true']
  cases hq : qAny f n n 0 with
  | false => rfl
  | true =>
    have : rAny f n n 0 = true := by
      refine anyN_mono (fun j _ hj hb => ?_) hq
      unfold qBad at hb
      unfold rBad
      simp only [Bool.or_eq_true, decide_eq_true_eq] at hb ⊢
      rcases hb with hb | hb
      · exact .inl hb
      · refine .inr ?_
        unfold qfV at hb
        unfold rfV
        split at hb
        · rename_i h3
          rw [if_pos h3]
          simp only [bne_iff_ne, ne_eq]
          omega
        · omega
    rw [this] at h1
    cases h1
theorem places_c (a : Option Addr) (n ca : Nat) (f : Nat → Nat → Int) (r0 r1 r2 r3 r4 me : Int) (w : World) (ha : Ev.RowT w a 5 n fun j c => .int .i64 (f j c)) :
    Calls Try.prog 6 #[.agg #[.slice a n ca], .agg #[.int .i64 r0, .int .i64 r1, .int .i64 r2, .int .i64 r3, .int .i64 r4], .int .i64 me] w fun e w' => e = .returned (.bool true) ∧ Below w.heap.size w w' := by
  refine Ev.contract1 G3_ok 60 (a1 := [.agg #[(.slice (some ⟨600, 0, some 0⟩) 0 0)], .agg #[undef, undef, undef, undef, undef], undef]) (Ev.rowA_ext ha) (lplaces_L a n ca f r0 r1 r2 r3 r4 me) (lplaces_T a n ca f r0 r1 r2 r3 r4 me) ?_
  refine Ev.ite_good (fun _ => rfl) (fun h1 => ?_)
  simp only [Int.ofNat_eq_natCast, Bool.not_eq_false', decide_eq_true_eq] at h1
  have hb : Nat.ble n 9223372036854775807 = true := Nat.ble_eq_true_of_le (by omega)
  refine Ev.good_t Ev.kindK_t (Ev.good_t hb ?_)
  refine Ev.ite_good (fun _ => rfl) (fun h2 => ?_)
  refine Ev.ite_good (fun _ => rfl) (fun h3 => ?_)
  refine Ev.ite_good (fun _ => rfl) (fun h4 => ?_)
  refine Ev.ite_good (fun _ => rfl) (fun h5 => ?_)
  refine Ev.good_t Ev.kindK_t (Ev.good_t hb ?_)
  refine Ev.ite_good (fun _ => rfl) (fun h6 => ?_)
  simp only [decide_eq_false_iff_not] at h4 h5 h6
  have h2' : rVal f n = true := by simpa using h2
  obtain ⟨hq, h16⟩ := rVal_qVal h2'
  have hqf : qfV f n r0 r1 = (n : Int) := qfV_of h6
  have hf : Ev.flatA n 5 (Ev.Ap.rw fun j c => Value.int IntKind.i64 (f j c)) = true := by
    simp only [Ev.flatA, Ev.flatR, decide_eq_true_eq]
    intro j _ c _
    rfl
  have hb1 : Nat.ble ((0 + n) * 40) 140737488355328 = true := Nat.ble_eq_true_of_le (by omega)
  have hb2 : Nat.ble ((0 + n + 1) * 40) 140737488355328 = true := Nat.ble_eq_true_of_le (by omega)
  refine Ev.good_t Ev.kindK_t (Ev.good_t hb (Ev.good_f (by show (!qVal f n) = false; rw [hq]; rfl) (Ev.good_f h3 (Ev.good_t (decide_eq_true (by omega)) (Ev.good_f (by simp; omega) (Ev.good_t Ev.kindK_t (Ev.good_t hb (Ev.good_f (by show decide (qfV f n r0 r1 < (n : Int)) = false; rw [hqf]; simp) ?_))))))))
  simp only [Int.ofNat_eq_natCast]
  repeat' first | refine Ev.good_t hf ?_ | refine Ev.good_t hb1 ?_ | refine Ev.good_t hb2 ?_ | refine Ev.good_t (show Ev.flatA 1 5 (Ev.Ap.cl _ _) = true from rfl) ?_ | refine Ev.ite_good (fun h => ?_) (fun h => ?_)
  all_goals first | rfl | (exfalso; simp_all; done) | (exfalso; simp_all; omega)
end Go.Proofs.Ytbpnmjjmllgehaa
