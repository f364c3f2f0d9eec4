/- Numbers of 64 bits without sign as bit vectors: how the operations of the program read there. -/
import Derived.Test.YtkdkkmpgpmgfoaaKit2
namespace Go.Proofs.Ytkdkkmpgpmgfoaa
open Go
namespace Bv
theorem wrapU (n : Int) : IntKind.u64.wrap n = n % 18446744073709551616 := by simp [IntKind.wrap, IntKind.bits, IntKind.signed]
theorem lt (x : BitVec 64) : (x.toNat : Int) < 18446744073709551616 := by have := x.isLt; omega
/-- a number in range is one of a bit vector -/
theorem of {n : Int} (h0 : 0 ≤ n) (h1 : n ≤ 18446744073709551615) : ∃ x : BitVec 64, n = (x.toNat : Int) := by
  refine ⟨BitVec.ofNat 64 n.toNat, ?_⟩
  rw [BitVec.toNat_ofNat]
  omega
theorem ofInt_toNat (x : BitVec 64) : BitVec.ofInt 64 (x.toNat : Int) = x := by
  apply BitVec.eq_of_toNat_eq
  rw [BitVec.toNat_ofInt]
  have := x.isLt
  omega
theorem wrap_toNat (x : BitVec 64) : IntKind.u64.wrap (x.toNat : Int) = (x.toNat : Int) := by
  rw [wrapU]; have := x.isLt; omega
theorem toNat_ofInt (k : Int) : ((BitVec.ofInt 64 k).toNat : Int) = k % 18446744073709551616 := by
  rw [BitVec.toNat_ofInt]
  omega
theorem wrap_int (k : Int) : IntKind.u64.wrap k = ((BitVec.ofInt 64 k).toNat : Int) := by rw [toNat_ofInt, wrapU]
theorem wrap_mul (x : BitVec 64) (k : Int) : IntKind.u64.wrap ((x.toNat : Int) * k) = ((x * BitVec.ofInt 64 k).toNat : Int) := by
  rw [wrapU, BitVec.toNat_mul, Int.natCast_emod, Int.natCast_mul, toNat_ofInt]
  show _ = _ % ((2 ^ 64 : Nat) : Int)
  rw [show ((2 ^ 64 : Nat) : Int) = 18446744073709551616 from rfl, Int.mul_emod _ (k % _), Int.emod_emod_of_dvd _ (Int.dvd_refl _), ← Int.mul_emod]
theorem wrap_add (x : BitVec 64) (k : Int) : IntKind.u64.wrap ((x.toNat : Int) + k) = ((x + BitVec.ofInt 64 k).toNat : Int) := by
  rw [wrapU, BitVec.toNat_add, Int.natCast_emod, Int.natCast_add, toNat_ofInt]
  show _ = _ % ((2 ^ 64 : Nat) : Int)
  rw [show ((2 ^ 64 : Nat) : Int) = 18446744073709551616 from rfl]
  omega
theorem shr (x : BitVec 64) (k : Nat) : ((x.toNat : Int) / 2 ^ k) = ((x >>> k).toNat : Int) := by
  rw [BitVec.toNat_ushiftRight, Nat.shiftRight_eq_div_pow]; push_cast; rfl
theorem beq_iff (x y : BitVec 64) : ((x.toNat : Int) == (y.toNat : Int)) = (x == y) := by
  by_cases h : x = y
  · subst h; simp
  · have h2 : (x.toNat : Int) ≠ (y.toNat : Int) := fun e => h (BitVec.eq_of_toNat_eq (Int.ofNat_inj.1 e))
    rw [beq_eq_false_iff_ne.2 h2, beq_eq_false_iff_ne.2 h]
theorem eq_iff (x y : BitVec 64) : ((x.toNat : Int) = (y.toNat : Int)) ↔ x = y := ⟨fun e => BitVec.eq_of_toNat_eq (Int.ofNat_inj.1 e), fun e => by rw [e]⟩
/-- multiplying by a number that has an inverse -/
theorem mul_inv {p k : BitVec 64} (h : p * k = 1#64) (x : BitVec 64) : x * p * k = x := by rw [BitVec.mul_assoc, h, BitVec.mul_one]
theorem mul_inj {p k : BitVec 64} (h : p * k = 1#64) {x y : BitVec 64} : x * p = y * p ↔ x = y :=
  ⟨fun e => by rw [← mul_inv h x, e, mul_inv h], fun e => by rw [e]⟩
theorem xor_inj {x y z : BitVec 64} : x ^^^ z = y ^^^ z ↔ x = y :=
  ⟨fun e => by have := congrArg (· ^^^ z) e; simpa [BitVec.xor_assoc] using this, fun e => by rw [e]⟩
theorem xor_inj' {x y z : BitVec 64} : z ^^^ x = z ^^^ y ↔ x = y := by rw [BitVec.xor_comm z, BitVec.xor_comm z, xor_inj]
theorem beq_congr {x y x' y' : BitVec 64} (h : x = y ↔ x' = y') : (x == y) = (x' == y') := by
  by_cases hx : x = y
  · rw [beq_iff_eq.2 hx, beq_iff_eq.2 (h.1 hx)]
  · rw [beq_eq_false_iff_ne.2 hx, beq_eq_false_iff_ne.2 fun e => hx (h.2 e)]
theorem mul_beq {p k : BitVec 64} (h : p * k = 1#64) (x y : BitVec 64) : (x * p == y * p) = (x == y) := beq_congr (mul_inj h)
theorem xor_beq (x y z : BitVec 64) : (x ^^^ z == y ^^^ z) = (x == y) := beq_congr xor_inj
theorem xor_beq' (x y z : BitVec 64) : (z ^^^ x == z ^^^ y) = (x == y) := beq_congr xor_inj'
theorem xor_can (x y : BitVec 64) : x ^^^ (y ^^^ x) = y := by rw [BitVec.xor_comm y, ← BitVec.xor_assoc, BitVec.xor_self, BitVec.zero_xor]
/-- a shift and an exclusive or can be undone -/
theorem shift_inj {s : Nat} {x y : BitVec 64} (hs : 64 ≤ s + s + s) : x ^^^ (x >>> s) = y ^^^ (y >>> s) ↔ x = y := by
  refine ⟨fun e => ?_, fun e => by rw [e]⟩
  have key : ∀ x : BitVec 64, (x ^^^ (x >>> s)) ^^^ ((x ^^^ (x >>> s)) >>> s) ^^^ ((x ^^^ (x >>> s)) >>> (s + s)) = x := by
    intro x
    have h0 : x >>> (s + s + s) = 0#64 := by
      apply BitVec.eq_of_toNat_eq
      rw [BitVec.toNat_ushiftRight, Nat.shiftRight_eq_div_pow]
      have h1 := x.isLt
      have h2 := Nat.pow_le_pow_right (n := 2) (by decide) hs
      simp only [BitVec.toNat_ofNat, Nat.zero_mod]
      exact Nat.div_eq_of_lt (by omega)
    have h1 : x >>> s >>> (s + s) = 0#64 := by rw [← BitVec.shiftRight_add, ← Nat.add_assoc]; exact h0
    have h2 : x >>> s >>> s = x >>> (s + s) := by rw [← BitVec.shiftRight_add]
    rw [BitVec.ushiftRight_xor_distrib, BitVec.ushiftRight_xor_distrib, h1, h2, BitVec.xor_zero]
    generalize x >>> s = p
    generalize x >>> (s + s) = q
    rw [show x ^^^ p ^^^ (p ^^^ q) ^^^ q = x ^^^ (p ^^^ p) ^^^ (q ^^^ q) by ac_rfl, BitVec.xor_self, BitVec.xor_self, BitVec.xor_zero, BitVec.xor_zero]
  rw [← key x, e, key y]
end Bv
end Go.Proofs.Ytkdkkmpgpmgfoaa
