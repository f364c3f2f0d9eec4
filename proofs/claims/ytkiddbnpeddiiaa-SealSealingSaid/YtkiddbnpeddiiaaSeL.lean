/- Package seal: Strangers and Sealing. -/
import Derived.Test.YtkiddbnpeddiiaaSeJ
namespace Go.Proofs.Ytkiddbnpeddiiaa
open Go Go.ChangeShapes Go.WideShapes Go.ChangeAt Go.RowKit
set_option linter.all false
theorem openV_z {an ky r1 r2 asn : Int} : openV an ky r1 r2 asn = 0 ↔ (0 ≤ asn ∧ asn ≤ 1000000000) ∧ an = asn ∧ ky = asn / 2000 + 1 ∧ r1 ≤ asn / 2000 ∧ asn / 2000 < r2 := by
  by_cases a1 : 0 ≤ asn ∧ asn ≤ 1000000000
  · have e : slotB asn = true := decide_eq_true a1
    simp only [openV, e, if_true]
    by_cases a2 : an = asn
    · rw [if_pos a2]
      by_cases a3 : ky = asn / 2000 + 1 ∧ kn r1 r2 (asn / 2000) = true
      · rw [if_pos a3]
        have a4 := of_decide_eq_true a3.2
        exact ⟨fun _ => ⟨a1, a2, a3.1, a4.1, a4.2⟩, fun _ => rfl⟩
      · rw [if_neg a3]
        exact ⟨fun h => absurd h (by decide), fun h => absurd ⟨h.2.2.1, decide_eq_true h.2.2.2⟩ a3⟩
    · rw [if_neg a2]
      exact ⟨fun h => absurd h (by decide), fun h => absurd h.2.1 a2⟩
  · have e : slotB asn = false := decide_eq_false a1
    simp only [openV, e, Bool.false_eq_true, if_false]
    exact ⟨fun h => absurd h (by decide), fun h => absurd h.1 a1⟩
theorem lstrangers_c (kd fm to an ky : Int) (a : Option Addr) (n ca : Nat) (f : Nat → Int) (r1 r2 asn id : Int) (w : World) (ha : Ev.RowT w a 1 n fun j _ => .int .u8 (f j)) : Calls Try.prog 6 #[(.agg #[.int .i64 kd, .int .i64 fm, .int .i64 to, .int .i64 an, .int .i64 ky, .slice a n ca]), (.agg #[.int .i64 r1, .int .i64 r2]), .int .i64 asn, .int .i64 id] w fun e w' => e = .returned (.bool true) ∧ Below w.heap.size w w' := by
  refine Ev.contract1 G3_ok 60 (Ev.rowA_ext (tag := 600) ha) (tstrangers_L kd fm to an ky a n ca f r1 r2 asn id) (tstrangers_T kd fm to an ky a n ca f r1 r2 asn id) ?_
  refine Ev.ite_good (fun _ => rfl) (fun hn => ?_)
  simp only [Int.ofNat_eq_natCast, decide_eq_false_iff_not] at hn
  have hb : Nat.ble ((0 + n) * 1) 140737488355328 = true := Nat.ble_eq_true_of_le (by omega)
  have z0 : ¬ openV an 0 r1 r2 asn = 0 := fun h => by have := openV_z.1 h; omega
  have zo : ownE id = 0 → ¬ openV an (ownV id) r1 r2 asn = 0 := fun ho h => by
    have := openV_z.1 h
    unfold ownE at ho
    split at ho
    · rename_i h1
      have h2 := of_decide_eq_true h1
      simp only [ownV, h1, if_true] at this
      omega
    · cases ho
  have zk : ¬ r1 < r2 → ¬ openV an ky r1 r2 asn = 0 := fun hr h => by have := openV_z.1 h; omega
  have kk : ¬ r1 < r2 → slotB an = true → r1 ≤ IntKind.wrap .i64 (Int.tdiv an 2000) → ¬ IntKind.wrap .i64 (Int.tdiv an 2000) < r2 := fun hr _ h1 h2 => by omega
  by_cases h1 : ownE id = 0 <;> by_cases h2 : r1 < r2 <;> cases h3 : slotB an <;> by_cases h4 : r1 ≤ IntKind.wrap .i64 (Int.tdiv an 2000)
  all_goals simp_all [Ev.Tree.good, Ev.flatR_t]
  all_goals (try intros) <;> omega
end Go.Proofs.Ytkiddbnpeddiiaa
