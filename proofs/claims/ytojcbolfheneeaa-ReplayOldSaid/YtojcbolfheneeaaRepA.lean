/- Contracts of package replay. -/
import Derived.Test.YtojcbolfheneeaaBit
namespace Go.Proofs.Ytojcbolfheneeaa
open Go.ChangeShapes Go.WideShapes Go.ChangeAt Go.RowKit
theorem has {b : Nat} {k : Int} {v : Bool} (hb : b < 18446744073709551616) (k0 : 0 ≤ k) (hv : b.testBit k.toNat = v) (w : World) : Calls Try.prog 24 #[.int .u64 b, .int .i64 k] w fun e w' => e = .returned (.bool v) ∧ w' = w := by
  obtain ⟨k, rfl⟩ := Int.eq_ofNat_of_zero_le k0
  rw [Int.toNat_natCast] at hv
  have e := bit_min k hb
  rw [hv] at e
  have E := Lib.hid e; clear e hv
  have t_w := Below.refl w.heap.size w
  go_enter Try.func24, Try.ntmps24
  go_wp2_with fail
  go_ret
  exact ⟨ret_bool E.out, rfl⟩
theorem and' {b : Nat} {k : Int} {v : Nat} (hb : b < 18446744073709551616) (k0 : 0 ≤ k) (k1 : k < 64) (hv : b ||| 2 ^ k.toNat = v) (w : World) : Calls Try.prog 22 #[.int .u64 b, .int .i64 k] w fun e w' => e = .returned (.int .u64 v) ∧ w' = w := by
  obtain ⟨k, rfl⟩ := Int.eq_ofNat_of_zero_le k0
  rw [Int.toNat_natCast] at hv
  have e := set_bit (k := k) hb (by omega)
  rw [hv] at e
  have E := Lib.hid e; clear e hv
  have t_w := Below.refl w.heap.size w
  go_enter Try.func22, Try.ntmps22
  go_wp2_with fail
  go_ret
  exact ⟨ret_int E.out, rfl⟩
theorem moved {b : Nat} {k : Int} {v : Nat} (k0 : 0 ≤ k) (hv : b * 2 ^ k.toNat % 18446744073709551616 = v) (w : World) : Calls Try.prog 21 #[.int .u64 b, .int .i64 k] w fun e w' => e = .returned (.int .u64 v) ∧ w' = w := by
  obtain ⟨k, rfl⟩ := Int.eq_ofNat_of_zero_le k0
  rw [Int.toNat_natCast] at hv
  have e := shl_min b k
  rw [hv] at e
  have E := Lib.hid e; clear e hv
  have t_w := Below.refl w.heap.size w
  go_enter Try.func21, Try.ntmps21
  go_wp2_with fail
  go_ret
  exact ⟨ret_int E.out, rfl⟩
def okc (n : Int) : Bool := decide (1 ≤ n ∧ n ≤ 1000000000)
theorem okc_t {n : Int} (h : okc n = true) : 1 ≤ n ∧ n ≤ 1000000000 := by simpa [okc] using h
theorem isC {n : Int} {v : Bool} (hv : okc n = v) (w : World) : Calls Try.prog 19 #[.int .i64 n] w fun e w' => e = .returned (.bool v) ∧ w' = w := by
  by_cases h1 : 1 ≤ n
  · by_cases h2 : n ≤ 1000000000
    · obtain rfl : true = v := by rw [← hv]; simp [okc, h1, h2]
      clear hv
      have t_w := Below.refl w.heap.size w
      go_enter Try.func19, Try.ntmps19
      go_wp2_with fail
      go_ret
      exact ⟨rfl, rfl⟩
    · obtain rfl : false = v := by rw [← hv]; simp [okc, h2]
      have d2 : decide (n ≤ 1000000000) = false := decide_eq_false h2
      clear hv
      have t_w := Below.refl w.heap.size w
      go_enter Try.func19, Try.ntmps19
      go_wp2_with fail
      go_ret
      exact ⟨rfl, rfl⟩
  · obtain rfl : false = v := by rw [← hv]; simp [okc, h1]
    have d1 : decide (1 ≤ n) = false := decide_eq_false h1
    clear hv
    have t_w := Below.refl w.heap.size w
    go_enter Try.func19, Try.ntmps19
    go_wp2_with fail
    go_ret
    exact ⟨rfl, rfl⟩
theorem rcounter {n : Int} {v : Bool} (hv : okc n = v) (w : World) : Calls Try.prog 18 #[.int .i64 n] w fun e w' => e = .returned (.bool v) ∧ w' = w := by
  by_cases h1 : 1 ≤ n
  · by_cases h2 : n ≤ 1000000000
    · obtain rfl : true = v := by rw [← hv]; simp [okc, h1, h2]
      clear hv
      have t_w := Below.refl w.heap.size w
      go_enter Try.func18, Try.ntmps18
      go_wp2_with fail
      go_ret
      exact ⟨rfl, rfl⟩
    · obtain rfl : false = v := by rw [← hv]; simp [okc, h2]
      have d2 : decide (n ≤ 1000000000) = false := decide_eq_false h2
      clear hv
      have t_w := Below.refl w.heap.size w
      go_enter Try.func18, Try.ntmps18
      go_wp2_with fail
      go_ret
      exact ⟨rfl, rfl⟩
  · obtain rfl : false = v := by rw [← hv]; simp [okc, h1]
    have d1 : decide (1 ≤ n) = false := decide_eq_false h1
    clear hv
    have t_w := Below.refl w.heap.size w
    go_enter Try.func18, Try.ntmps18
    go_wp2_with fail
    go_ret
    exact ⟨rfl, rfl⟩
/-- what a valid window is -/
def vw (T : Int) (B : Nat) : Bool := if T = 0 then B == 0 else okc T && B.testBit 0 && (decide (64 ≤ T) || B / 2 ^ T.toNat == 0)
theorem vw_t {T : Int} {B : Nat} (h : vw T B = true) : 0 ≤ T ∧ T ≤ 1000000000 := by
  unfold vw at h
  split at h
  · omega
  · simp only [Bool.and_eq_true] at h
    have := okc_t h.1.1
    omega
set_option maxHeartbeats 1000000 in
theorem valid {T : Int} {B : Nat} {v : Bool} (hb : B < 18446744073709551616) (hv : vw T B = v) (w : World) : Calls Try.prog 12 #[.agg #[.int .i64 T, .int .u64 B]] w fun e w' => e = .returned (.bool v) ∧ Below w.heap.size w w' := by
  by_cases hT : T = 0
  · subst hT
    have hv' : (B == 0) = v := by rw [← hv]; simp [vw]
    by_cases hB : B = 0
    · subst hB
      obtain rfl : true = v := by rw [← hv']; rfl
      clear hv hv'
      have t_w := Below.refl w.heap.size w
      go_enter Try.func12, Try.ntmps12
      go_wp2_with fail
      go_ret
      exact ⟨rfl, by go_grown⟩
    · obtain rfl : false = v := by rw [← hv']; simp [hB]
      have d1 : ((B : Int) == 0) = false := by simp [hB]
      clear hv hv'
      have t_w := Below.refl w.heap.size w
      go_enter Try.func12, Try.ntmps12
      go_wp2_with fail
      go_ret
      exact ⟨rfl, by go_grown⟩
  · have d0 : (T == 0) = false := by simp [hT]
    have hv' : (okc T && B.testBit 0 && (decide (64 ≤ T) || B / 2 ^ T.toNat == 0)) = v := by rw [← hv]; simp [vw, hT]
    clear hv hT
    rcases hc : okc T with _ | _
    · obtain rfl : false = v := by rw [← hv', hc]; rfl
      have HC := Lib.hid hc; clear hc hv'
      have t_w := Below.refl w.heap.size w
      go_enter Try.func12, Try.ntmps12
      go_wp2_with fail
      refine (isC HC.out _).mono ?_
      rintro e w_14 ⟨rfl, hw⟩; obtain rfl := hw.symm
      clear hw
      go_wp2_with fail
      go_ret
      exact ⟨rfl, by go_grown⟩
    · rw [hc, Bool.true_and] at hv'
      obtain ⟨c1, c2⟩ := okc_t hc
      have HC := Lib.hid hc; clear hc
      rcases hz : B.testBit 0 with _ | _
      · obtain rfl : false = v := by rw [← hv', hz]; rfl
        have HZ := Lib.hid hz; clear hz hv'
        have t_w := Below.refl w.heap.size w
        go_enter Try.func12, Try.ntmps12
        go_wp2_with fail
        refine (isC HC.out _).mono ?_
        rintro e w_17 ⟨rfl, hw⟩; obtain rfl := hw.symm
        clear hw
        go_wp2_with fail
        refine (has (k := 0) hb (by omega) HZ.out _).mono ?_
        rintro e w_18 ⟨rfl, hw⟩; obtain rfl := hw.symm
        clear hw
        go_wp2_with fail
        go_ret
        exact ⟨rfl, by go_grown⟩
      · rw [hz, Bool.true_and] at hv'
        have HZ := Lib.hid hz; clear hz
        by_cases h64 : 64 ≤ T
        · obtain rfl : true = v := by rw [← hv']; simp [h64]
          have d1 : decide (64 ≤ T) = true := decide_eq_true h64
          clear hv'
          have t_w := Below.refl w.heap.size w
          go_enter Try.func12, Try.ntmps12
          go_wp2_with fail
          refine (isC HC.out _).mono ?_
          rintro e w_21 ⟨rfl, hw⟩; obtain rfl := hw.symm
          clear hw
          go_wp2_with fail
          refine (has (k := 0) hb (by omega) HZ.out _).mono ?_
          rintro e w_22 ⟨rfl, hw⟩; obtain rfl := hw.symm
          clear hw
          go_wp2_with fail
          go_ret
          exact ⟨rfl, by go_grown⟩
        · have d1 : decide (64 ≤ T) = false := decide_eq_false h64
          obtain ⟨t, rfl⟩ := Int.eq_ofNat_of_zero_le (show 0 ≤ T by omega)
          rw [Int.toNat_natCast, d1, Bool.false_or] at hv'
          have e : (((B : Int) / 2 ^ t) == 0) = v := by
            rw [shr_nat, ← hv', Bool.eq_iff_iff, beq_iff_eq, beq_iff_eq]; omega
          have E := Lib.hid e; clear e hv'
          have t_w := Below.refl w.heap.size w
          go_enter Try.func12, Try.ntmps12
          go_wp2_with fail
          refine (isC HC.out _).mono ?_
          rintro e w_25 ⟨rfl, hw⟩; obtain rfl := hw.symm
          clear hw
          go_wp2_with fail
          refine (has (k := 0) hb (by omega) HZ.out _).mono ?_
          rintro e w_26 ⟨rfl, hw⟩; obtain rfl := hw.symm
          clear hw
          go_wp2_with fail
          go_ret
          exact ⟨ret_bool E.out, by go_grown⟩
end Go.Proofs.Ytojcbolfheneeaa
