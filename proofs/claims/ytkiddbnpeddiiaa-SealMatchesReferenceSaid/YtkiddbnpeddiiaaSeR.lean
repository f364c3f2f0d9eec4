/- Package seal: MatchesReference. -/
import Derived.Test.YtkiddbnpeddiiaaSeO
import Derived.Test.YtkiddbnpeddiiaaSeP
namespace Go.Proofs.Ytkiddbnpeddiiaa
open Go Go.ChangeShapes Go.WideShapes Go.ChangeAt Go.RowKit
set_option linter.all false
set_option maxHeartbeats 2000000 in
theorem lmatch_c (kd fm to an ky : Int) (a : Option Addr) (n ca : Nat) (f : Nat → Int) (r1 r2 asn id : Int) (w : World) (ha : Ev.RowT w a 1 n fun j _ => .int .u8 (f j)) : Calls Try.prog 3 #[(.agg #[.int .i64 kd, .int .i64 fm, .int .i64 to, .int .i64 an, .int .i64 ky, .slice a n ca]), (.agg #[.int .i64 r1, .int .i64 r2]), .int .i64 asn, .int .i64 id] w fun e w' => e = .returned (.bool true) ∧ Below w.heap.size w w' := by
  refine Ev.contract1 G4_ok 60 (Ev.rowA_ext (tag := 600) ha) (tmatch_L kd fm to an ky a n ca f r1 r2 asn id) (tmatch_T kd fm to an ky a n ca f r1 r2 asn id) ?_
  refine Ev.ite_good (fun _ => rfl) (fun hn => ?_)
  simp only [Int.ofNat_eq_natCast, decide_eq_false_iff_not] at hn
  have hb2 : Nat.ble (0 + n) 9223372036854775807 = true := Nat.ble_eq_true_of_le (by omega)
  cases hs : slotB an with
  | false => simp [Ev.Tree.good]
  | true =>
    have hs' := of_decide_eq_true hs
    rw [(epP an hs'.1 hs'.2).1, (epP an hs'.1 hs'.2).2, epR_eq an hs'.1 hs'.2, w64 (x := an / 2000 + 1) (by omega) (by omega)]
    by_cases h1 : r1 ≤ an / 2000
    · by_cases h2 : an / 2000 < r2
      · have hk : kn r1 r2 (an / 2000) = true := by simp [kn, h1, h2]
        cases ho : Ev.isNilA a with
        | true =>
          have := row_nil ha ho
          subst this
          simp [Ev.Tree.good, h1, h2, hk, Ev.kindR_t, sameB]
        | false =>
          simp [Ev.Tree.good, h1, h2, hk, Ev.kindR_t, Ev.flatR_t, sameB_refl, hb2]
          omega
      · have hk : kn r1 r2 (an / 2000) = false := by simp [kn, h2]
        simp [Ev.Tree.good, h1, h2, hk]
    · have hk : kn r1 r2 (an / 2000) = false := by simp [kn, h1]
      simp [Ev.Tree.good, h1, hk]
end Go.Proofs.Ytkiddbnpeddiiaa
