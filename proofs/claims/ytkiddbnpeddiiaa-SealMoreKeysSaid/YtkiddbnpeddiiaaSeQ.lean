/- Package seal: More. -/
import Derived.Test.YtkiddbnpeddiiaaSeP
namespace Go.Proofs.Ytkiddbnpeddiiaa
open Go Go.ChangeShapes Go.WideShapes Go.ChangeAt Go.RowKit
set_option linter.all false
set_option maxHeartbeats 2000000 in
theorem lmore_c (kd fm to an ky : Int) (a : Option Addr) (n ca : Nat) (f : Nat → Int) (r1 r2 be af asn : Int) (w : World) (ha : Ev.RowT w a 1 n fun j _ => .int .u8 (f j)) : Calls Try.prog 8 #[(.agg #[.int .i64 kd, .int .i64 fm, .int .i64 to, .int .i64 an, .int .i64 ky, .slice a n ca]), (.agg #[.int .i64 r1, .int .i64 r2]), .int .i64 be, .int .i64 af, .int .i64 asn] w fun e w' => e = .returned (.bool true) ∧ Below w.heap.size w w' := by
  refine Ev.contract1 G4_ok 60 (Ev.rowA_ext (tag := 600) ha) (tmore_L kd fm to an ky a n ca f r1 r2 be af asn) (tmore_T kd fm to an ky a n ca f r1 r2 be af asn) ?_
  refine Ev.ite_good (fun _ => rfl) (fun hn => Ev.ite_good (fun _ => rfl) (fun g1 => Ev.ite_good (fun _ => rfl) (fun g2 => Ev.ite_good (fun _ => rfl) (fun g3 => Ev.ite_good (fun _ => rfl) (fun g4 => Ev.ite_good (fun _ => rfl) (fun g5 => Ev.ite_good (fun _ => rfl) (fun g6 => Ev.ite_good (fun _ => rfl) (fun g7 => ?_))))))))
  simp only [Int.ofNat_eq_natCast, decide_eq_false_iff_not] at hn g1 g2 g3 g4 g5 g6 g7
  have hb : Nat.ble ((0 + n) * 1) 140737488355328 = true := Nat.ble_eq_true_of_le (by omega)
  have hb2 : Nat.ble (0 + n) 9223372036854775807 = true := Nat.ble_eq_true_of_le (by omega)
  have hb3 : Nat.ble n 9223372036854775807 = true := Nat.ble_eq_true_of_le (by omega)
  rw [w64 (x := r1 - be) (by omega) (by omega), w64 (x := r2 + af) (by omega) (by omega)]
  have hw : openV an ky r1 r2 asn = 0 → openV an ky (r1 - be) (r2 + af) asn = 0 := fun h => by
    have := openV_z.1 h
    exact openV_z.2 (by omega)
  generalize IntKind.wrap .i64 (IntKind.wrap .i64 (Int.tdiv an 2000) + 1) = K
  generalize IntKind.wrap .i64 (Int.tdiv an 2000) = e
  have w1 : r1 ≤ e → r1 - be ≤ e := fun h => by omega
  have w2 : e < r2 → e < r2 + af := fun h => by omega
  generalize openV an ky (r1 - be) (r2 + af) asn = ow at hw ⊢
  generalize openV an ky r1 r2 asn = oo at hw ⊢
  have hleaf : Ev.Tree.good (fun v => v = Value.bool true) (.ite (oo != 0) (.leaf (Value.bool true)) (.leaf (Value.bool (ow == 0)))) := by
    by_cases h : oo = 0
    · simp [Ev.Tree.good, h, hw h]
    · simp [Ev.Tree.good, h]
  generalize (Ev.Tree.ite (oo != 0) (.leaf (Value.bool true)) (.leaf (Value.bool (ow == 0)))) = L at hleaf ⊢
  have hbb : Nat.ble (n * 1) 140737488355328 = true := Nat.ble_eq_true_of_le (by omega)
  cases hs : slotB an with
  | false => exact Ev.good_t rfl (Ev.good_t rfl hleaf)
  | true =>
    cases ho : Ev.isNilA a with
    | true =>
      have := row_nil ha ho
      subst this
      by_cases h1 : r1 ≤ e <;> by_cases h2 : e < r2 <;> by_cases h3 : r1 - be ≤ e <;> by_cases h4 : e < r2 + af
      all_goals first
        | (exfalso; omega)
        | (simp [Ev.Tree.good, h1, h2, h3, h4, Ev.kindR_t, Ev.flatR_t, sameB, hleaf])
    | false =>
      by_cases h1 : r1 ≤ e <;> by_cases h2 : e < r2 <;> by_cases h3 : r1 - be ≤ e <;> by_cases h4 : e < r2 + af
      all_goals first
        | (exfalso; omega)
        | (simp [Ev.Tree.good, h1, h2, h3, h4, Ev.kindR_t, Ev.flatR_t, sameB_refl, hb2, hleaf]; done)
        | (simp [Ev.Tree.good, h1, h2, h3, h4, Ev.kindR_t, Ev.flatR_t, sameB_refl, hb2, hleaf]; omega)
end Go.Proofs.Ytkiddbnpeddiiaa
