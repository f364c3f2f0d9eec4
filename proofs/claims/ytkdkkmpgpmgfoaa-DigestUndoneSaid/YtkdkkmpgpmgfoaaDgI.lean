/- Package digest: the law of undoing, whole. -/
import Derived.Test.YtkdkkmpgpmgfoaaDgH
namespace Go.Proofs.Ytkdkkmpgpmgfoaa
open Go Go.ChangeShapes Go.WideShapes Go.ChangeAt Go.RowKit
set_option linter.all false
theorem lund_L (s : Int) (a : Option Addr) (n ca : Nat) (f : Nat → Int) (r : Ev.Sup) : ((Ev.evalFW Try.prog G1 uL 60 7 [undef, (.slice (some ⟨600, 0, some 0⟩) 0 0)] [.int .u64 s, .slice a n ca] [(Ev.rowA 600 a 1 n fun j _ => .int .u8 (f j))] r)).lhs = ((Ev.evalFW Try.prog G1 uL 60 7 [undef, (.slice (some ⟨600, 0, some 0⟩) 0 0)] [.int .u64 s, .slice a n ca] [(Ev.rowA 600 a 1 n fun j _ => .int .u8 (f j))] r)).rhs := by kernel_rfl
theorem lund_T (s : Int) (a : Option Addr) (n ca : Nat) (f : Nat → Int) (r : Ev.Sup) : ((Ev.evalFW Try.prog G1 uL 60 7 [undef, (.slice (some ⟨600, 0, some 0⟩) 0 0)] [.int .u64 s, .slice a n ca] [(Ev.rowA 600 a 1 n fun j _ => .int .u8 (f j))] r)).val = (.ite (decide (Int.ofNat n > 5000)) (.leaf (.bool (true))) (.ite (Ev.kindR IntKind.u8 (fun j x => Value.int IntKind.u8 (f j)) n) (.ite (Nat.ble n 9223372036854775807) (.ite (Ev.kindR IntKind.u8 (fun j x => Value.int IntKind.u8 (f j)) n) (.ite (Nat.ble n 9223372036854775807) (.ite (decide (-1 ≤ IntKind.wrap IntKind.i64 (Int.ofNat n - 1) ∧ IntKind.wrap IntKind.i64 (Int.ofNat n - 1) < Int.ofNat n)) (.leaf (.bool (unf (fun j => f j) 14886173955864302971 (Int.toNat (IntKind.wrap IntKind.i64 (Int.ofNat n - 1) + 1)) (fol (fun j => f j) n 0 s) == s))) (.fail 92)) (.fail 92)) (.fail 92)) (.fail 92)) (.fail 92))) := by kernel_rfl
theorem fol_snoc (f : Nat → Int) (n : Nat) (s : Int) : fol f (n + 1) 0 s = stp (fol f n 0 s) (f n) := by
  rw [fol_add (n := n) (m := 1), Nat.zero_add]
  rfl
theorem unf_s (f : Nat → Int) (k : Int) (i : Nat) (x : Int) : unf f k (i + 1) x = unf f k i (IntKind.wrap .u64 (und k x (f i))) := rfl
theorem und_stp (k : Int) (hk : BitVec.ofInt 64 1099511628211 * BitVec.ofInt 64 k = 1#64) (b : BitVec 64) (z : Int) : IntKind.wrap .u64 (und k (stp (b.toNat : Int) z) z) = (b.toNat : Int) := by
  rw [stp_bv]
  unfold und
  rw [Bv.wrap_mul, Bv.ofInt_toNat, Int.ofNat_eq_natCast, Bv.wrap_toNat, Bv.mul_inv hk, BitVec.xor_assoc, BitVec.xor_self, BitVec.xor_zero]
theorem unf_fol (f : Nat → Int) (k : Int) (hk : BitVec.ofInt 64 1099511628211 * BitVec.ofInt 64 k = 1#64) (b : BitVec 64) (n : Nat) : unf f k n (fol f n 0 (b.toNat : Int)) = (b.toNat : Int) := by
  induction n with
  | zero => rfl
  | succ n h =>
    obtain ⟨y, hy⟩ := fol_bv f n 0 b
    rw [hy] at h
    rw [fol_snoc, hy, unf_s, und_stp k hk]
    exact h
theorem und_c (s : Int) (a : Option Addr) (n ca : Nat) (f : Nat → Int) (w : World) (hs : 0 ≤ s ∧ s ≤ 18446744073709551615) (ha : Ev.RowT w a 1 n fun j _ => .int .u8 (f j)) :
    Calls Try.prog 7 #[.int .u64 s, .slice a n ca] w fun e w' => e = .returned (.bool true) ∧ Below w.heap.size w w' := by
  refine Ev.contractW G1_ok uL_ok 60 (a1 := [undef, (.slice (some ⟨600, 0, some 0⟩) 0 0)]) (Ev.rowA_ext ha) (lund_L s a n ca f) (lund_T s a n ca f) ?_
  refine Ev.ite_good (fun _ => rfl) (fun h => ?_)
  simp only [decide_eq_false_iff_not, Int.ofNat_eq_natCast] at h ⊢
  have hz : IntKind.wrap .i64 ((n : Int) - 1) = (n : Int) - 1 := Ev.w64 (by omega) (by omega)
  generalize IntKind.wrap .i64 ((n : Int) - 1) = z at hz ⊢
  repeat (first | refine Ev.good_t Ev.kindR_t ?_ | refine Ev.good_t (Nat.ble_eq_true_of_le (by omega)) ?_ | refine Ev.good_t rfl ?_ | refine Ev.good_t (beq_self_eq_true _) ?_)
  refine Ev.good_t (decide_eq_true ⟨by omega, by omega⟩) ?_
  obtain rfl := hz
  rw [show ((n : Int) - 1 + 1).toNat = n by omega]
  obtain ⟨s, rfl⟩ := Bv.of hs.1 hs.2
  have e := unf_fol (fun j => f j) 14886173955864302971 inv_ok s n
  refine congrArg Value.bool ?_
  rw [e, beq_self_eq_true]
end Go.Proofs.Ytkdkkmpgpmgfoaa
