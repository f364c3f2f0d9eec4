/- Small facts on the bits of unsigned numbers of 64 bits. -/
import Derived.Test.YtfigmjkogkfkiaaDoorKit2
import Derived.Laws.BitsLemmas
namespace Go.Proofs.YtfigmjkogkfkiaaDoor
open Go
theorem wrapU (n : Int) : IntKind.u64.wrap n = n % 18446744073709551616 := by simp [IntKind.wrap, IntKind.bits, IntKind.signed]
theorem wrapN {n : Nat} (h : n < 18446744073709551616) : IntKind.u64.wrap (n : Int) = n := by rw [wrapU]; omega
theorem wrapM (n : Nat) : IntKind.u64.wrap (n : Int) = ((n % 18446744073709551616 : Nat) : Int) := by rw [wrapU]; omega
theorem wrapI (n : Int) (h0 : 0 ≤ n) (h1 : n < 2 ^ 64) : IntKind.u64.wrap n = n := by rw [wrapU]; omega
theorem u64_and {a b : Nat} (ha : a < 18446744073709551616) (hb : b < 18446744073709551616) : bits BinOp.and IntKind.u64 (a : Int) (b : Int) = ((a &&& b : Nat) : Int) :=
  (bits_nat .u64 64 (by decide) wrapI a b ha hb).1
theorem u64_or {a b : Nat} (ha : a < 18446744073709551616) (hb : b < 18446744073709551616) : bits BinOp.or IntKind.u64 (a : Int) (b : Int) = ((a ||| b : Nat) : Int) :=
  (bits_nat .u64 64 (by decide) wrapI a b ha hb).2
theorem shr_nat (b k : Nat) : ((b : Int) / 2 ^ k) = ((b / 2 ^ k : Nat) : Int) := by push_cast; rfl
theorem shr_lt {b : Nat} (k : Nat) (h : b < 18446744073709551616) : b / 2 ^ k < 18446744073709551616 := Nat.lt_of_le_of_lt (Nat.div_le_self _ _) h
theorem and_one (n : Nat) : n &&& 1 = (n.testBit 0).toNat := by
  rw [Nat.and_one_is_mod, Nat.testBit_zero]
  rcases Nat.mod_two_eq_zero_or_one n with h | h <;> simp [h]
theorem bit_at {b : Nat} (k : Nat) (h : b < 18446744073709551616) : (bits BinOp.and IntKind.u64 ((b : Int) / 2 ^ k) 1 == 1) = b.testBit k := by
  rw [shr_nat, show (1 : Int) = ((1 : Nat) : Int) from rfl, u64_and (shr_lt k h) (by decide), and_one]
  have : (b / 2 ^ k).testBit 0 = b.testBit k := by rw [← Nat.shiftRight_eq_div_pow, Nat.testBit_shiftRight]; simp
  rw [this]
  cases b.testBit k <;> rfl
theorem big_bit {b k : Nat} (h : b < 18446744073709551616) (hk : 64 ≤ k) : b.testBit k = false := by
  refine Nat.testBit_lt_two_pow (Nat.lt_of_lt_of_le h ?_)
  have := Nat.pow_le_pow_right (n := 2) (by decide) hk
  exact this
theorem bit_min {b : Nat} (k : Nat) (h : b < 18446744073709551616) : (bits BinOp.and IntKind.u64 ((b : Int) / 2 ^ min k 64) 1 == 1) = b.testBit k := by
  by_cases hk : k ≤ 64
  · rw [Nat.min_eq_left hk, bit_at k h]
  · rw [Nat.min_eq_right (by omega), bit_at 64 h, big_bit (k := 64) h (by omega), big_bit (k := k) h (by omega)]
theorem pow_lt {k : Nat} (h : k < 64) : 2 ^ k < 18446744073709551616 := by
  have := Nat.pow_lt_pow_right (a := 2) (by decide) h
  exact this
theorem one_shl {k : Nat} (h : k < 64) : IntKind.u64.wrap (2 ^ k) = ((2 ^ k : Nat) : Int) := by
  have := wrapN (pow_lt h)
  rw [← this]; push_cast; rfl
theorem set_bit {b k : Nat} (hb : b < 18446744073709551616) (hk : k < 64) : bits BinOp.or IntKind.u64 (b : Int) (IntKind.u64.wrap (2 ^ k)) = ((b ||| 2 ^ k : Nat) : Int) := by
  rw [one_shl hk, u64_or hb (pow_lt hk)]
theorem or_lt {a b : Nat} (ha : a < 18446744073709551616) (hb : b < 18446744073709551616) : a ||| b < 18446744073709551616 := Nat.or_lt_two_pow (n := 64) ha hb
theorem shl_min (b k : Nat) : IntKind.u64.wrap ((b : Int) * 2 ^ min k 64) = ((b * 2 ^ k % 18446744073709551616 : Nat) : Int) := by
  rw [wrapU]
  by_cases h : k ≤ 64
  · rw [Nat.min_eq_left h, Int.natCast_emod, Int.natCast_mul, Int.natCast_pow]; rfl
  · rw [Nat.min_eq_right (by omega)]
    have h1 : b * 2 ^ k % 18446744073709551616 = 0 := by
      have : k = 64 + (k - 64) := by omega
      rw [this, Nat.pow_add]
      exact Nat.mod_eq_zero_of_dvd ⟨b * 2 ^ (k - 64), by rw [show (2 ^ 64 : Nat) = 18446744073709551616 from rfl]; rw [Nat.mul_left_comm]⟩
    rw [h1]
    have : (2 : Int) ^ 64 = 18446744073709551616 := rfl
    omega
end Go.Proofs.YtfigmjkogkfkiaaDoor
