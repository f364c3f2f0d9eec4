/- Package seal: Sealing. -/
import Derived.Test.YtkiddbnpeddiiaaSeN
import Derived.Test.YtkiddbnpeddiiaaSeL
namespace Go.Proofs.Ytkiddbnpeddiiaa
open Go Go.ChangeShapes Go.WideShapes Go.ChangeAt Go.RowKit
set_option linter.all false
theorem sameB_refl (f : Nat → Int) : ∀ n i, sameB f f n i = true
  | 0, _ => rfl
  | n + 1, i => by simp [sameB, sameB_refl f n (i + 1)]
theorem row_nil {a : Option Addr} {n k : Nat} {w : World} {g : Nat → Nat → Value} (h : Ev.RowT w a (k + 1) n g) (hn : Ev.isNilA a = true) : n = 0 := by
  cases n with
  | zero => rfl
  | succ n =>
    have := (h 0 0 (Nat.succ_pos n) (Nat.succ_pos k)).1
    rw [this] at hn
    cases hn
theorem openV_self {an q1 q2 : Int} (h : slotB an = true) : openV an (an / 2000 + 1) q1 q2 an = if kn q1 q2 (an / 2000) = true then 0 else 13 := by
  unfold openV
  rw [if_pos h, if_pos rfl]
  simp only [true_and]
theorem lsealing_c (kd fm to an ky : Int) (a : Option Addr) (n ca : Nat) (f : Nat → Int) (r1 r2 q1 q2 : Int) (w : World) (ha : Ev.RowT w a 1 n fun j _ => .int .u8 (f j)) : Calls Try.prog 4 #[(.agg #[.int .i64 kd, .int .i64 fm, .int .i64 to, .int .i64 an, .int .i64 ky, .slice a n ca]), (.agg #[.int .i64 r1, .int .i64 r2]), (.agg #[.int .i64 q1, .int .i64 q2])] w fun e w' => e = .returned (.bool true) ∧ Below w.heap.size w w' := by
  refine Ev.contract1 G4_ok 60 (Ev.rowA_ext (tag := 600) ha) (tsealing_L kd fm to an ky a n ca f r1 r2 q1 q2) (tsealing_T kd fm to an ky a n ca f r1 r2 q1 q2) ?_
  refine Ev.ite_good (fun _ => rfl) (fun hn => ?_)
  simp only [Int.ofNat_eq_natCast, decide_eq_false_iff_not] at hn
  have hb : Nat.ble ((0 + n) * 1) 140737488355328 = true := Nat.ble_eq_true_of_le (by omega)
  have hb2 : Nat.ble (0 + n) 9223372036854775807 = true := Nat.ble_eq_true_of_le (by omega)
  have hb3 : Nat.ble n 9223372036854775807 = true := Nat.ble_eq_true_of_le (by omega)
  cases hs : slotB an with
  | false => simp [Ev.Tree.good]
  | true =>
    have hs' := of_decide_eq_true hs
    rw [(epP an hs'.1 hs'.2).1, (epP an hs'.1 hs'.2).2, epR_eq an hs'.1 hs'.2, openV_self hs, openV_self hs]
    have hK : keyV an = an / 2000 + 1 := by simp [keyV, hs]
    have hE : keyE an = 0 := by simp [keyE, hs]
    rw [hK, hE]
    by_cases h1 : r1 ≤ an / 2000
    · by_cases h2 : an / 2000 < r2
      · have hk : kn r1 r2 (an / 2000) = true := by simp [kn, h1, h2]
        rw [hk]
        cases ho : Ev.isNilA a with
        | true =>
          have := row_nil ha ho
          subst this
          cases hq : kn q1 q2 (an / 2000) <;> simp [Ev.Tree.good, h1, h2, Ev.kindR_t, sameB]
        | false =>
          cases hq : kn q1 q2 (an / 2000) <;> simp [Ev.Tree.good, h1, h2, Ev.kindR_t, Ev.flatR_t, sameB_refl, hb2, hb3] <;> omega
      · simp [Ev.Tree.good, h1, h2]
    · simp [Ev.Tree.good, h1]
end Go.Proofs.Ytkiddbnpeddiiaa
