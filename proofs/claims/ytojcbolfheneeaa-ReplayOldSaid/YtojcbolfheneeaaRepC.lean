/- Contracts of the reference of replay. -/
import Derived.Test.YtojcbolfheneeaaRepB
namespace Go.Proofs.Ytojcbolfheneeaa
open Go.ChangeShapes Go.WideShapes Go.ChangeAt Go.RowKit
theorem rthere {T : Int} {B : Nat} {n : Int} {v : Bool} (hb : B < 18446744073709551616) (T0 : 0 ≤ T) (n0 : -1000000000 ≤ n) (h : n ≤ T) (T1 : T ≤ 1000000000) (hv : B.testBit (T - n).toNat = v) (w : World) : Calls Try.prog 23 #[.agg #[.int .i64 T, .int .u64 B], .int .i64 n] w fun e w' => e = .returned (.bool v) ∧ Below w.heap.size w w' := by
  obtain ⟨k, hk⟩ := Int.eq_ofNat_of_zero_le (show 0 ≤ T - n by omega)
  rw [hk, Int.toNat_natCast] at hv
  have e := bit_min k hb
  rw [hv] at e
  have E := Lib.hid e; clear e hv
  have t_w := Below.refl w.heap.size w
  go_enter Try.func23, Try.ntmps23
  go_wp2_with fail
  go_ret
  exact ⟨ret_bool E.out, by go_grown⟩
theorem div_zero {b t : Nat} (hb : b < 18446744073709551616) : (b / 2 ^ t == 0) = true ↔ ∀ i, t ≤ i → i < 64 → b.testBit i = false := by
  rw [beq_iff_eq, Nat.div_eq_zero_iff]
  constructor
  · intro h i h1 _
    rcases h with h | h
    · exact absurd h (by have := Nat.pow_pos (n := t) (show 0 < 2 by decide); omega)
    · exact Nat.testBit_lt_two_pow (Nat.lt_of_lt_of_le h (Nat.pow_le_pow_right (by decide) h1))
  · intro h
    right
    refine Nat.lt_pow_two_of_testBit _ fun i hi => ?_
    by_cases h64 : i < 64
    · exact h i hi h64
    · exact big_bit hb (by omega)
theorem vw_pos {T : Int} {B : Nat} (hb : B < 18446744073709551616) (T1 : 1 ≤ T) (T2 : T ≤ 1000000000) : vw T B = true ↔ B.testBit 0 = true ∧ ∀ i : Nat, T ≤ i → i < 64 → B.testBit i = false := by
  have hc : okc T = true := by simp [okc, T1, T2]
  have hT : ¬ T = 0 := by omega
  unfold vw
  rw [if_neg hT, hc, Bool.true_and, Bool.and_eq_true, Bool.or_eq_true, decide_eq_true_eq, div_zero hb]
  constructor
  · intro ⟨h1, h2⟩
    exact ⟨h1, fun i hi h64 => h2.elim (fun h => by omega) (fun h => h i (by omega) h64)⟩
  · intro ⟨h1, h2⟩
    exact ⟨h1, .inr fun i hi h64 => h2 i (by omega) h64⟩
set_option maxHeartbeats 2000000 in
theorem rvalid {T : Int} {B : Nat} {v : Bool} (hb : B < 18446744073709551616) (hv : vw T B = v) (w : World) : Calls Try.prog 13 #[.agg #[.int .i64 T, .int .u64 B]] w fun e w' => e = .returned (.bool v) ∧ Below w.heap.size w w' := by
  by_cases hneg : T < 0
  · obtain rfl : false = v := by rw [← hv, eq_comm, ← Bool.not_eq_true]; intro h; have := vw_t h; omega
    have d1 : decide (T < 0) = true := decide_eq_true hneg
    clear hv
    have t_w := Below.refl w.heap.size w
    go_enter Try.func13, Try.ntmps13
    go_wp2_with fail
    go_ret
    exact ⟨rfl, by go_grown⟩
  · have d1 : decide (T < 0) = false := decide_eq_false hneg
    by_cases hbig : 1000000000 < T
    · obtain rfl : false = v := by rw [← hv, eq_comm, ← Bool.not_eq_true]; intro h; have := vw_t h; omega
      have d2 : decide (1000000000 < T) = true := decide_eq_true hbig
      clear hv
      have t_w := Below.refl w.heap.size w
      go_enter Try.func13, Try.ntmps13
      go_wp2_with fail
      go_ret
      exact ⟨rfl, by go_grown⟩
    · have d2 : decide (1000000000 < T) = false := decide_eq_false hbig
      by_cases hT : T = 0
      · subst hT
        have hv' : (B == 0) = v := by rw [← hv]; simp [vw]
        by_cases hB : B = 0
        · subst hB
          obtain rfl : true = v := by rw [← hv']; rfl
          clear hv hv'
          have t_w := Below.refl w.heap.size w
          go_enter Try.func13, Try.ntmps13
          go_wp2_with fail
          go_ret
          exact ⟨rfl, by go_grown⟩
        · obtain rfl : false = v := by rw [← hv']; simp [hB]
          have d3 : ((B : Int) == 0) = false := by simp [hB]
          clear hv hv'
          have t_w := Below.refl w.heap.size w
          go_enter Try.func13, Try.ntmps13
          go_wp2_with fail
          go_ret
          exact ⟨rfl, by go_grown⟩
      · have d3 : (T == 0) = false := by simp [hT]
        have hvp := vw_pos hb (show 1 ≤ T by omega) (show T ≤ 1000000000 by omega)
        rw [hv] at hvp
        have HV := Lib.hid hvp; clear hv hvp
        have t_w := Below.refl w.heap.size w
        go_enter Try.func13, Try.ntmps13
        go_wp2_with fail
        have s_W_1 : Below w.heap.size w (w.alloc (.cells #[.int .i64 T, .int .u64 B] 24)) := Below.alloc (Below.refl _ _) (Nat.le_refl _) _
        have k0 : (w.alloc (.cells #[.int .i64 T, .int .u64 B] 24)).cell? ⟨w.heap.size, 0, none⟩ = some (.int .i64 T) := by simp [go_sem]
        have k1 : (w.alloc (.cells #[.int .i64 T, .int .u64 B] 24)).cell? ⟨w.heap.size, 1, none⟩ = some (.int .u64 B) := by simp [go_sem]
        have t_W_1 := chain t_w s_W_1
        generalize w.alloc (.cells #[.int .i64 T, .int .u64 B] 24) = W_1 at *
        go_loopw [3] (fun i wr => ∃ j : Nat, j ≤ 64 ∧ i = .int .i64 j ∧ Hid (∀ i : Nat, T ≤ i → i < j → B.testBit i = false) ∧ wr.cell? ⟨w.heap.size, 0, none⟩ = some (.int .i64 T) ∧ wr.cell? ⟨w.heap.size, 1, none⟩ = some (.int .u64 B) ∧ Below w.heap.size w wr) (fun i _ => 64 - (intOf i).toNat)
        case atStart => exact ⟨0, by omega, rfl, Lib.hid (fun i h1 h2 => by omega), k0, k1, t_W_1⟩
        case round =>
          clear k0 k1 t_W_1
          obtain ⟨j, hj, rfl, HJ, k0, k1, t_wr⟩ := hrel
          by_cases hlt : j < 64
          · by_cases hTj : T - j < 1
            · have d4 : decide (T - j < 1) = true := decide_eq_true hTj
              obtain ⟨u, hu⟩ : ∃ u, B.testBit j = u := ⟨_, rfl⟩
              have hu' : B.testBit (T - (T - j)).toNat = u := by rw [← hu]; congr 1; omega
              have HU := Lib.hid hu; have HU' := Lib.hid hu'; clear hu hu'
              go_wp2_with fail
              refine (rthere hb (by omega) (by omega) (by omega) (by omega) HU'.out _).mono ?_
              rintro e x1 ⟨rfl, g_x1⟩
              have s_x1 : Below wr.heap.size wr x1 := chain (by go_grown) g_x1
              have t_x1 := chain t_wr s_x1
              replace k0 := keep k0 s_x1
              have z_k0_x1 := lt_of k0
              replace k1 := keep k1 s_x1
              clear g_x1 s_x1 t_wr
              cases u
              · go_wp2_with fail
                go_roundw
                case rel => exact ⟨j + 1, by omega, by go_num, Lib.hid (fun i h1 h2 => by
                  by_cases hij : i = j
                  · rw [hij]; exact HU.out
                  · exact HJ.out i h1 (by omega)), k0, k1, t_x1⟩
                case measure => (simp [intOf]; try omega)
              · go_wp2_with fail
                go_ret
                exact ⟨ret_bool (by rw [eq_comm, ← Bool.not_eq_true, HV.out]; intro ⟨_, h⟩; rw [h j (by omega) hlt] at HU; exact absurd HU.out (by decide)), t_x1⟩
            · have d4 : decide (T - j < 1) = false := decide_eq_false hTj
              go_wp2_with fail
              go_roundw
              case rel => exact ⟨j + 1, by omega, by go_num, Lib.hid (fun i h1 h2 => by
                by_cases hij : i = j
                · omega
                · exact HJ.out i h1 (by omega)), k0, k1, t_wr⟩
              case measure => (simp [intOf]; try omega)
          · obtain rfl : j = 64 := by omega
            obtain ⟨u, hu⟩ : ∃ u, B.testBit 0 = u := ⟨_, rfl⟩
            have hu' : B.testBit (T - T).toNat = u := by rw [← hu]; congr 1; omega
            have HU := Lib.hid hu; have HU' := Lib.hid hu'; clear hu hu'
            go_wp2_with fail
            refine (rthere hb (by omega) (by omega) (by omega) (by omega) HU'.out _).mono ?_
            rintro e x1 ⟨rfl, g_x1⟩
            have s_x1 : Below wr.heap.size wr x1 := chain (by go_grown) g_x1
            have t_x1 := chain t_wr s_x1
            replace k0 := keep k0 s_x1
            have z_k0_x1 := lt_of k0
            replace k1 := keep k1 s_x1
            clear g_x1 s_x1 t_wr
            go_wp2_with fail
            go_ret
            exact ⟨ret_bool (by
              rw [Bool.eq_iff_iff, HV.out, HU.out]
              exact ⟨fun h => ⟨h, HJ.out⟩, fun h => h.1⟩), t_x1⟩
set_option maxHeartbeats 1000000 in
theorem rfresh {T : Int} {B : Nat} {n : Int} {v : Bool} (hb : B < 18446744073709551616) (hv : fr T B n = v) (w : World) : Calls Try.prog 15 #[.agg #[.int .i64 T, .int .u64 B], .int .i64 n] w fun e w' => e = .returned (.bool v) ∧ Below w.heap.size w w' := by
  rcases hw : vw T B with _ | _
  · obtain rfl : false = v := by rw [← hv]; simp [fr, hw]
    have HW := Lib.hid hw; clear hw hv
    have t_w := Below.refl w.heap.size w
    go_enter Try.func15, Try.ntmps15
    go_wp2_with fail
    refine (rvalid hb HW.out _).mono ?_
    rintro e x1 ⟨rfl, g_x1⟩
    have s_x1 : Below w.heap.size w x1 := chain (by go_grown) g_x1
    have t_x1 := chain t_w s_x1
    have k0 : x1.cell? ⟨w.heap.size, 0, none⟩ = some (.int .i64 T) := ((bcell g_x1).1 _ _ (by simp; try omega)).trans (by simp [go_sem])
    have k1 : x1.cell? ⟨w.heap.size, 1, none⟩ = some (.int .u64 B) := ((bcell g_x1).1 _ _ (by simp; try omega)).trans (by simp [go_sem])
    have z_k_x1 := lt_of k0
    clear g_x1 s_x1 t_w
    go_wp2_with fail
    go_ret
    exact ⟨rfl, t_x1⟩
  · obtain ⟨T0, T1⟩ := vw_t hw
    rcases hc : okc n with _ | _
    · obtain rfl : false = v := by rw [← hv]; simp [fr, hc]
      have HW := Lib.hid hw; have HC := Lib.hid hc; clear hw hv hc
      have t_w := Below.refl w.heap.size w
      go_enter Try.func15, Try.ntmps15
      go_wp2_with fail
      refine (rvalid hb HW.out _).mono ?_
      rintro e x1 ⟨rfl, g_x1⟩
      have s_x1 : Below w.heap.size w x1 := chain (by go_grown) g_x1
      have t_x1 := chain t_w s_x1
      have k0 : x1.cell? ⟨w.heap.size, 0, none⟩ = some (.int .i64 T) := ((bcell g_x1).1 _ _ (by simp; try omega)).trans (by simp [go_sem])
      have k1 : x1.cell? ⟨w.heap.size, 1, none⟩ = some (.int .u64 B) := ((bcell g_x1).1 _ _ (by simp; try omega)).trans (by simp [go_sem])
      have z_k_x1 := lt_of k0
      clear g_x1 s_x1 t_w
      go_wp2_with fail
      refine (rcounter HC.out _).mono ?_
      rintro e w_23 ⟨rfl, hw⟩; obtain rfl := hw.symm
      clear hw
      go_wp2_with fail
      go_ret
      exact ⟨rfl, t_x1⟩
    · obtain ⟨n0, n1⟩ := okc_t hc
      by_cases h1 : n ≤ T - 64
      · obtain rfl : false = v := by rw [← hv]; simp [fr]; omega
        have d1 : decide (n ≤ T - 64) = true := decide_eq_true h1
        have HW := Lib.hid hw; have HC := Lib.hid hc; clear hw hv hc
        have t_w := Below.refl w.heap.size w
        go_enter Try.func15, Try.ntmps15
        go_wp2_with fail
        refine (rvalid hb HW.out _).mono ?_
        rintro e x1 ⟨rfl, g_x1⟩
        have s_x1 : Below w.heap.size w x1 := chain (by go_grown) g_x1
        have t_x1 := chain t_w s_x1
        have k0 : x1.cell? ⟨w.heap.size, 0, none⟩ = some (.int .i64 T) := ((bcell g_x1).1 _ _ (by simp; try omega)).trans (by simp [go_sem])
        have k1 : x1.cell? ⟨w.heap.size, 1, none⟩ = some (.int .u64 B) := ((bcell g_x1).1 _ _ (by simp; try omega)).trans (by simp [go_sem])
        have z_k_x1 := lt_of k0
        clear g_x1 s_x1 t_w
        go_wp2_with fail
        refine (rcounter HC.out _).mono ?_
        rintro e w_27 ⟨rfl, hw⟩; obtain rfl := hw.symm
        clear hw
        go_wp2_with fail
        go_ret
        exact ⟨rfl, t_x1⟩
      · have d1 : decide (n ≤ T - 64) = false := decide_eq_false h1
        by_cases h2 : T < n
        · obtain rfl : true = v := by rw [← hv]; simp [fr, hw, hc, h2]; omega
          have d2 : decide (T < n) = true := decide_eq_true h2
          have HW := Lib.hid hw; have HC := Lib.hid hc; clear hw hv hc h1
          have t_w := Below.refl w.heap.size w
          go_enter Try.func15, Try.ntmps15
          go_wp2_with fail
          refine (rvalid hb HW.out _).mono ?_
          rintro e x1 ⟨rfl, g_x1⟩
          have s_x1 : Below w.heap.size w x1 := chain (by go_grown) g_x1
          have t_x1 := chain t_w s_x1
          have k0 : x1.cell? ⟨w.heap.size, 0, none⟩ = some (.int .i64 T) := ((bcell g_x1).1 _ _ (by simp; try omega)).trans (by simp [go_sem])
          have k1 : x1.cell? ⟨w.heap.size, 1, none⟩ = some (.int .u64 B) := ((bcell g_x1).1 _ _ (by simp; try omega)).trans (by simp [go_sem])
          have z_k_x1 := lt_of k0
          clear g_x1 s_x1 t_w
          go_wp2_with fail
          refine (rcounter HC.out _).mono ?_
          rintro e w_31 ⟨rfl, hw⟩; obtain rfl := hw.symm
          clear hw
          go_wp2_with fail
          go_ret
          exact ⟨rfl, t_x1⟩
        · have d2 : decide (T < n) = false := decide_eq_false h2
          have hv' : (!B.testBit (T - n).toNat) = v := by
            rw [← hv]; simp [fr, hw, hc, h2]; omega
          obtain ⟨u, hu⟩ : ∃ u, B.testBit (T - n).toNat = u := ⟨_, rfl⟩
          rw [hu] at hv'
          have HU := Lib.hid hu; have HV := Lib.hid hv'
          have HW := Lib.hid hw; have HC := Lib.hid hc; clear hw hv hc h1 hu hv'
          have t_w := Below.refl w.heap.size w
          go_enter Try.func15, Try.ntmps15
          go_wp2_with fail
          refine (rvalid hb HW.out _).mono ?_
          rintro e x1 ⟨rfl, g_x1⟩
          have s_x1 : Below w.heap.size w x1 := chain (by go_grown) g_x1
          have t_x1 := chain t_w s_x1
          have k0 : x1.cell? ⟨w.heap.size, 0, none⟩ = some (.int .i64 T) := ((bcell g_x1).1 _ _ (by simp; try omega)).trans (by simp [go_sem])
          have k1 : x1.cell? ⟨w.heap.size, 1, none⟩ = some (.int .u64 B) := ((bcell g_x1).1 _ _ (by simp; try omega)).trans (by simp [go_sem])
          have z_k_x1 := lt_of k0
          clear g_x1 s_x1 t_w
          go_wp2_with fail
          refine (rcounter HC.out _).mono ?_
          rintro e w_35 ⟨rfl, hw⟩; obtain rfl := hw.symm
          clear hw
          go_wp2_with fail
          refine (rthere hb T0 (by omega) (by omega) T1 HU.out _).mono ?_
          rintro e x2 ⟨rfl, g_x2⟩
          have s_x2 : Below x1.heap.size x1 x2 := chain (by go_grown) g_x2
          have t_x2 := chain t_x1 s_x2
          replace k0 := keep k0 s_x2
          have z_k0_x2 := lt_of k0
          replace k1 := keep k1 s_x2
          clear g_x2 s_x2 z_k_x1 t_x1
          go_wp2_with fail
          go_ret
          exact ⟨ret_bool HV.out, t_x2⟩
/-- the bits of the window after a counter, one by one -/
def nbC (T : Int) (B : Nat) (n X : Int) (j : Nat) : Bool := decide (X - j = n) || (decide (X - j ≤ T) && decide (T - 64 < X - j) && B.testBit (T - (X - j)).toNat)
def nb (T : Int) (B : Nat) (n X : Int) : Nat → Nat
  | 0 => 0
  | j + 1 => if nbC T B n X j = true then nb T B n X j ||| 2 ^ j else nb T B n X j
theorem nb_bit (T : Int) (B : Nat) (n X : Int) : ∀ k i, (nb T B n X k).testBit i = (decide (i < k) && nbC T B n X i)
  | 0, i => by simp [nb]
  | k + 1, i => by
    unfold nb
    by_cases hik : k = i
    · subst hik
      split
      · rename_i h; rw [Nat.testBit_or, nb_bit T B n X k k, Nat.testBit_two_pow_self]; simp [h]
      · rename_i h; rw [nb_bit T B n X k k]; simp [h]
    · have h1 : decide (i < k + 1) = decide (i < k) := by rw [decide_eq_decide]; omega
      have h2 : (2 ^ k).testBit i = false := Nat.testBit_two_pow_of_ne hik
      split
      · rw [Nat.testBit_or, nb_bit T B n X k i, h1, h2, Bool.or_false]
      · rw [nb_bit T B n X k i, h1]
theorem nb_lt (T : Int) (B : Nat) (n X : Int) (k : Nat) (hk : k ≤ 64) : nb T B n X k < 18446744073709551616 := by
  have : nb T B n X k < 2 ^ 64 := Nat.lt_pow_two_of_testBit _ fun i hi => by rw [nb_bit]; simp; omega
  exact this
theorem nb_all {T : Int} {B : Nat} {n X : Int} (hb : B < 18446744073709551616) (hX : (if T < n then n else T) = X) (h64 : T - 64 < n) :
    nb T B n X 64 = (B * 2 ^ (X - T).toNat % 18446744073709551616) ||| 2 ^ (X - n).toNat := by
  have X0 : T ≤ X := by rw [← hX]; split <;> omega
  have X1 : n ≤ X := by rw [← hX]; split <;> omega
  have X3 : X - n < 64 := by rw [← hX]; split <;> omega
  refine Nat.eq_of_testBit_eq fun i => ?_
  rw [nb_bit, Nat.testBit_or, show (18446744073709551616 : Nat) = 2 ^ 64 from rfl, Nat.testBit_mod_two_pow, Nat.testBit_mul_two_pow, Nat.testBit_two_pow]
  by_cases hi : i < 64
  · simp only [hi, decide_true, Bool.true_and, nbC]
    rw [Bool.or_comm]
    congr 1
    · by_cases hge : (X - T).toNat ≤ i
      · have e1 : decide (X - i ≤ T) = true := decide_eq_true (by omega)
        have e2 : (T - (X - i)).toNat = i - (X - T).toNat := by omega
        rw [e1, e2, Bool.true_and]
        by_cases hw : T - 64 < X - i
        · simp [hw, hge]
        · rw [big_bit hb (by omega)]; simp
      · have e1 : decide (X - i ≤ T) = false := decide_eq_false (by omega)
        rw [e1]; simp [hge]
    · rw [decide_eq_decide]; omega
  · have e1 : decide ((X - n).toNat = i) = false := decide_eq_false (by omega)
    simp [hi, e1]
set_option maxHeartbeats 4000000 in
theorem rnote {T : Int} {B : Nat} {n : Int} {X : Int} {Y : Nat} {E : Int} (hb : B < 18446744073709551616) (hX : ntT T B n = X) (hY : ntB T B n = Y) (hE : ntE T B n = E) (w : World) :
    Calls Try.prog 11 #[.agg #[.int .i64 T, .int .u64 B], .int .i64 n] w fun e w' => e = .returned (.tuple #[.agg #[.int .i64 X, .int .u64 Y], .int .i64 E]) ∧ Below w.heap.size w w' := by
  rcases hw : vw T B with _ | _
  · have hf : fr T B n = false := by simp [fr, hw]
    obtain rfl : 0 = X := by rw [← hX]; simp [ntT, hf]
    obtain rfl : 0 = Y := by rw [← hY]; simp [ntB, hf]
    obtain rfl : 1 = E := by rw [← hE]; simp [ntE, hw]
    have HW := Lib.hid hw; clear hw hX hY hE hf
    have t_w := Below.refl w.heap.size w
    go_enter Try.func11, Try.ntmps11
    go_wp2_with fail
    refine (rvalid hb HW.out _).mono ?_
    rintro e x1 ⟨rfl, g_x1⟩
    have s_x1 : Below w.heap.size w x1 := chain (by go_grown) g_x1
    have t_x1 := chain t_w s_x1
    have k0 : x1.cell? ⟨w.heap.size, 0, none⟩ = some (.int .i64 T) := ((bcell g_x1).1 _ _ (by simp; try omega)).trans (by simp [go_sem])
    have k1 : x1.cell? ⟨w.heap.size, 1, none⟩ = some (.int .u64 B) := ((bcell g_x1).1 _ _ (by simp; try omega)).trans (by simp [go_sem])
    have z_k_x1 := lt_of k0
    have r0 : x1.cell? ⟨w.heap.size + 1, 0, none⟩ = some (.int .i64 0) := ((bcell g_x1).1 _ _ (by simp; try omega)).trans (by simp [go_sem])
    have r1 : x1.cell? ⟨w.heap.size + 1, 1, none⟩ = some (.int .u64 0) := ((bcell g_x1).1 _ _ (by simp; try omega)).trans (by simp [go_sem])
    have z_r_x1 := lt_of r0
    have rf : ∀ i, x1.frozen? ⟨w.heap.size + 1, i, none⟩ = false := fun i => ((bcell g_x1).2 _ _ (by simp; try omega)).trans (by simp [go_sem])
    clear g_x1 s_x1 t_w
    go_wp2_with fail
    refine bodyPost_ret (v := .tuple #[.agg #[.int .i64 0, .int .u64 0], .int .i64 1]) (by simp [results, Try.results11, go_sem, *]) rfl ⟨rfl, by go_grown⟩
  · obtain ⟨T0, T1⟩ := vw_t hw
    rcases hc : okc n with _ | _
    · have hf : fr T B n = false := by simp [fr, hc]
      obtain rfl : 0 = X := by rw [← hX]; simp [ntT, hf]
      obtain rfl : 0 = Y := by rw [← hY]; simp [ntB, hf]
      obtain rfl : 1 = E := by rw [← hE]; simp [ntE, hc]
      have HW := Lib.hid hw; have HC := Lib.hid hc; clear hw hX hY hE hf hc
      have t_w := Below.refl w.heap.size w
      go_enter Try.func11, Try.ntmps11
      go_wp2_with fail
      refine (rvalid hb HW.out _).mono ?_
      rintro e x1 ⟨rfl, g_x1⟩
      have s_x1 : Below w.heap.size w x1 := chain (by go_grown) g_x1
      have t_x1 := chain t_w s_x1
      have k0 : x1.cell? ⟨w.heap.size, 0, none⟩ = some (.int .i64 T) := ((bcell g_x1).1 _ _ (by simp; try omega)).trans (by simp [go_sem])
      have k1 : x1.cell? ⟨w.heap.size, 1, none⟩ = some (.int .u64 B) := ((bcell g_x1).1 _ _ (by simp; try omega)).trans (by simp [go_sem])
      have z_k_x1 := lt_of k0
      have r0 : x1.cell? ⟨w.heap.size + 1, 0, none⟩ = some (.int .i64 0) := ((bcell g_x1).1 _ _ (by simp; try omega)).trans (by simp [go_sem])
      have r1 : x1.cell? ⟨w.heap.size + 1, 1, none⟩ = some (.int .u64 0) := ((bcell g_x1).1 _ _ (by simp; try omega)).trans (by simp [go_sem])
      have z_r_x1 := lt_of r0
      have rf : ∀ i, x1.frozen? ⟨w.heap.size + 1, i, none⟩ = false := fun i => ((bcell g_x1).2 _ _ (by simp; try omega)).trans (by simp [go_sem])
      clear g_x1 s_x1 t_w
      go_wp2_with fail
      refine (rcounter HC.out _).mono ?_
      rintro e w_45 ⟨rfl, hw⟩; obtain rfl := hw.symm
      clear hw
      go_wp2_with fail
      refine bodyPost_ret (v := .tuple #[.agg #[.int .i64 0, .int .u64 0], .int .i64 1]) (by simp [results, Try.results11, go_sem, *]) rfl ⟨rfl, by go_grown⟩
    · obtain ⟨n0, n1⟩ := okc_t hc
      rcases hf : fr T B n with _ | _
      · obtain rfl : 0 = X := by rw [← hX]; simp [ntT, hf]
        obtain rfl : 0 = Y := by rw [← hY]; simp [ntB, hf]
        obtain rfl : 14 = E := by rw [← hE]; simp [ntE, hc, hw, hf]
        have HW := Lib.hid hw; have HC := Lib.hid hc; have HF := Lib.hid hf; clear hw hX hY hE hf hc
        have t_w := Below.refl w.heap.size w
        go_enter Try.func11, Try.ntmps11
        go_wp2_with fail
        refine (rvalid hb HW.out _).mono ?_
        rintro e x1 ⟨rfl, g_x1⟩
        have s_x1 : Below w.heap.size w x1 := chain (by go_grown) g_x1
        have t_x1 := chain t_w s_x1
        have k0 : x1.cell? ⟨w.heap.size, 0, none⟩ = some (.int .i64 T) := ((bcell g_x1).1 _ _ (by simp; try omega)).trans (by simp [go_sem])
        have k1 : x1.cell? ⟨w.heap.size, 1, none⟩ = some (.int .u64 B) := ((bcell g_x1).1 _ _ (by simp; try omega)).trans (by simp [go_sem])
        have z_k_x1 := lt_of k0
        have r0 : x1.cell? ⟨w.heap.size + 1, 0, none⟩ = some (.int .i64 0) := ((bcell g_x1).1 _ _ (by simp; try omega)).trans (by simp [go_sem])
        have r1 : x1.cell? ⟨w.heap.size + 1, 1, none⟩ = some (.int .u64 0) := ((bcell g_x1).1 _ _ (by simp; try omega)).trans (by simp [go_sem])
        have z_r_x1 := lt_of r0
        have rf : ∀ i, x1.frozen? ⟨w.heap.size + 1, i, none⟩ = false := fun i => ((bcell g_x1).2 _ _ (by simp; try omega)).trans (by simp [go_sem])
        clear g_x1 s_x1 t_w
        go_wp2_with fail
        refine (rcounter HC.out _).mono ?_
        rintro e w_50 ⟨rfl, hw⟩; obtain rfl := hw.symm
        clear hw
        go_wp2_with fail
        refine (rfresh hb HF.out _).mono ?_
        rintro e x2 ⟨rfl, g_x2⟩
        have s_x2 : Below x1.heap.size x1 x2 := chain (by go_grown) g_x2
        have t_x2 := chain t_x1 s_x2
        replace rf := fkeep2 rf (lt_of r0) s_x2
        replace k0 := keep k0 s_x2
        have z_k0_x2 := lt_of k0
        replace k1 := keep k1 s_x2
        replace r0 := keep r0 s_x2
        have z_r0_x2 := lt_of r0
        replace r1 := keep r1 s_x2
        clear g_x2 s_x2 z_k_x1 z_r_x1 t_x1
        go_wp2_with fail
        refine bodyPost_ret (v := .tuple #[.agg #[.int .i64 0, .int .u64 0], .int .i64 14]) (by simp [results, Try.results11, go_sem, *]) rfl ⟨rfl, by go_grown⟩
      · obtain rfl : 0 = E := by rw [← hE]; simp [ntE, hc, hw, hf]
        have hX' : (if T < n then n else T) = X := by rw [← hX]; simp [ntT, hf]
        have hY' : (B * 2 ^ (X - T).toNat % 18446744073709551616) ||| 2 ^ (X - n).toNat = Y := by rw [← hY, ← hX']; simp [ntB, hf]
        have h64 : T - 64 < n := by
          have := hf; simp only [fr, Bool.and_eq_true, decide_eq_true_eq] at this; exact this.1.2
        have X0 : T ≤ X := by rw [← hX']; split <;> omega
        have X1 : n ≤ X := by rw [← hX']; split <;> omega
        have X2 : X ≤ 1000000000 := by rw [← hX']; split <;> omega
        rw [← nb_all hb hX' h64] at hY'
        have HY := Lib.hid hY'
        have HW := Lib.hid hw; have HC := Lib.hid hc; have HF := Lib.hid hf; clear hw hX hY hE hf hc hY'
        have t_w := Below.refl w.heap.size w
        go_enter Try.func11, Try.ntmps11
        go_wp2_with fail
        refine (rvalid hb HW.out _).mono ?_
        rintro e x1 ⟨rfl, g_x1⟩
        have s_x1 : Below w.heap.size w x1 := chain (by go_grown) g_x1
        have t_x1 := chain t_w s_x1
        have k0 : x1.cell? ⟨w.heap.size, 0, none⟩ = some (.int .i64 T) := ((bcell g_x1).1 _ _ (by simp; try omega)).trans (by simp [go_sem])
        have k1 : x1.cell? ⟨w.heap.size, 1, none⟩ = some (.int .u64 B) := ((bcell g_x1).1 _ _ (by simp; try omega)).trans (by simp [go_sem])
        have z_k_x1 := lt_of k0
        have r0 : x1.cell? ⟨w.heap.size + 1, 0, none⟩ = some (.int .i64 0) := ((bcell g_x1).1 _ _ (by simp; try omega)).trans (by simp [go_sem])
        have r1 : x1.cell? ⟨w.heap.size + 1, 1, none⟩ = some (.int .u64 0) := ((bcell g_x1).1 _ _ (by simp; try omega)).trans (by simp [go_sem])
        have z_r_x1 := lt_of r0
        have rf : ∀ i, x1.frozen? ⟨w.heap.size + 1, i, none⟩ = false := fun i => ((bcell g_x1).2 _ _ (by simp; try omega)).trans (by simp [go_sem])
        clear g_x1 s_x1 t_w
        go_wp2_with fail
        refine (rcounter HC.out _).mono ?_
        rintro e w_56 ⟨rfl, hw⟩; obtain rfl := hw.symm
        clear hw
        go_wp2_with fail
        refine (rfresh hb HF.out _).mono ?_
        rintro e x2 ⟨rfl, g_x2⟩
        have s_x2 : Below x1.heap.size x1 x2 := chain (by go_grown) g_x2
        have t_x2 := chain t_x1 s_x2
        replace rf := fkeep2 rf (lt_of r0) s_x2
        replace k0 := keep k0 s_x2
        have z_k0_x2 := lt_of k0
        replace k1 := keep k1 s_x2
        replace r0 := keep r0 s_x2
        have z_r0_x2 := lt_of r0
        replace r1 := keep r1 s_x2
        clear g_x2 s_x2 z_k_x1 z_r_x1 t_x1
        go_wp2_with fail
        have s_W_2 : Below x2.heap.size x2 (x2.alloc (.cells #[.int .i64 X, .int .u64 0] 24)) := Below.alloc (Below.refl _ _) (Nat.le_refl _) _
        have o0 : (x2.alloc (.cells #[.int .i64 X, .int .u64 0] 24)).cell? ⟨x2.heap.size, 0, none⟩ = some (.int .i64 X) := by simp [go_sem]
        have o1 : (x2.alloc (.cells #[.int .i64 X, .int .u64 0] 24)).cell? ⟨x2.heap.size, 1, none⟩ = some (.int .u64 0) := by simp [go_sem]
        have of : ∀ i, (x2.alloc (.cells #[.int .i64 X, .int .u64 0] 24)).frozen? ⟨x2.heap.size, i, none⟩ = false := fun i => by simp [go_sem]
        replace rf := fkeep2 rf (lt_of r0) s_W_2
        replace k0 := keep k0 s_W_2
        replace k1 := keep k1 s_W_2
        replace r0 := keep r0 s_W_2
        replace r1 := keep r1 s_W_2
        have t_W_2 := chain t_x2 s_W_2
        generalize x2.alloc (.cells #[.int .i64 X, .int .u64 0] 24) = W_2 at *
        clear hX'
        go_loopw [7] (fun i wr => ∃ (j N : Nat), j ≤ 64 ∧ i = .int .i64 j ∧ Hid (nb T B n X j = N) ∧ wr.cell? ⟨w.heap.size, 0, none⟩ = some (.int .i64 T) ∧ wr.cell? ⟨w.heap.size, 1, none⟩ = some (.int .u64 B) ∧ wr.cell? ⟨w.heap.size + 1, 0, none⟩ = some (.int .i64 0) ∧ wr.cell? ⟨w.heap.size + 1, 1, none⟩ = some (.int .u64 0) ∧ (∀ i, wr.frozen? ⟨w.heap.size + 1, i, none⟩ = false) ∧ wr.cell? ⟨x2.heap.size, 0, none⟩ = some (.int .i64 X) ∧ wr.cell? ⟨x2.heap.size, 1, none⟩ = some (.int .u64 N) ∧ (∀ i, wr.frozen? ⟨x2.heap.size, i, none⟩ = false) ∧ Below w.heap.size w wr) (fun i _ => 64 - (intOf i).toNat)
        case atStart => exact ⟨0, 0, by omega, rfl, Lib.hid rfl, k0, k1, r0, r1, rf, o0, o1, of, by assumption⟩
        case round =>
          clear k0 k1 r0 r1 rf o0 o1 of
          obtain ⟨j, N, hj, rfl, HN, k0, k1, r0, r1, rf, o0, o1, of, t_wr⟩ := hrel
          by_cases hlt : j < 64
          · have hN1 : nb T B n X (j + 1) = if nbC T B n X j = true then N ||| 2 ^ j else N := by rw [← HN.out]; rfl
            have hNL : N < 18446744073709551616 := by rw [← HN.out]; exact nb_lt _ _ _ _ _ hj
            have HNL := Lib.hid hNL; clear hNL
            by_cases e1 : X - j = n
            · have d1 : (X - j == n) = true := by simp [e1]
              have hc : nbC T B n X j = true := by simp [nbC, e1]
              obtain ⟨N1, h1⟩ : ∃ N1, N ||| 2 ^ j = N1 := ⟨_, rfl⟩
              rw [hc, if_pos rfl, h1] at hN1
              have HN1 := Lib.hid h1; have HN1' := Lib.hid hN1; clear h1 hN1 hc e1
              go_wp2_with fail
              go_region
              go_wp2_with fail
              rw [set_bit HNL.out hlt]
              rw [HN1.out]
              have k0n : (wr.setCell ⟨x2.heap.size, 1, none⟩ (.int .u64 N1)).drew.cell? _ = _ := (cset_ne (c := x2.heap.size) k0 (by omega) 1 (.int .u64 N1)); clear k0; have k0 := k0n; clear k0n
              have k1n : (wr.setCell ⟨x2.heap.size, 1, none⟩ (.int .u64 N1)).drew.cell? _ = _ := (cset_ne (c := x2.heap.size) k1 (by omega) 1 (.int .u64 N1)); clear k1; have k1 := k1n; clear k1n
              have r0n : (wr.setCell ⟨x2.heap.size, 1, none⟩ (.int .u64 N1)).drew.cell? _ = _ := (cset_ne (c := x2.heap.size) r0 (by omega) 1 (.int .u64 N1)); clear r0; have r0 := r0n; clear r0n
              have r1n : (wr.setCell ⟨x2.heap.size, 1, none⟩ (.int .u64 N1)).drew.cell? _ = _ := (cset_ne (c := x2.heap.size) r1 (by omega) 1 (.int .u64 N1)); clear r1; have r1 := r1n; clear r1n
              replace rf : ∀ i, (wr.setCell ⟨x2.heap.size, 1, none⟩ (.int .u64 N1)).drew.frozen? ⟨w.heap.size + 1, i, none⟩ = false := fun i => by simp only [World.frozen?_setCell, World.frozen?_drew]; exact rf i
              replace of : ∀ i, (wr.setCell ⟨x2.heap.size, 1, none⟩ (.int .u64 N1)).drew.frozen? ⟨x2.heap.size, i, none⟩ = false := fun i => by simp only [World.frozen?_setCell, World.frozen?_drew]; exact of i
              have o0n : (wr.setCell ⟨x2.heap.size, 1, none⟩ (.int .u64 N1)).drew.cell? ⟨x2.heap.size, 0, none⟩ = _ := (cset_off o0 (by decide) _)
              have o1n : (wr.setCell ⟨x2.heap.size, 1, none⟩ (.int .u64 N1)).drew.cell? ⟨x2.heap.size, 1, none⟩ = some (.int .u64 N1) := (cset_eq o1 (.int .u64 N1))
              have t_W_3 : Below w.heap.size w (wr.setCell ⟨x2.heap.size, 1, none⟩ (.int .u64 N1)).drew := by go_grown
              clear o0 o1 t_wr
              have o0 := o0n; clear o0n
              have o1 := o1n; clear o1n
              generalize (wr.setCell ⟨x2.heap.size, 1, none⟩ (.int .u64 N1)).drew = W_3 at *
              go_roundw
              case rel => exact ⟨j + 1, N1, by omega, by go_num, HN1', k0, k1, r0, r1, rf, o0, o1, of, by assumption⟩
              case measure => (simp [intOf]; try omega)
            · have d1 : (X - j == n) = false := by simp [e1]
              have dd : decide (X - j = n) = false := decide_eq_false e1
              by_cases e2 : X - j ≤ T
              · have d2 : decide (X - j ≤ T) = true := decide_eq_true e2
                by_cases e3 : T - 64 < X - j
                · have d3 : decide (T - 64 < X - j) = true := decide_eq_true e3
                  obtain ⟨u, hu⟩ : ∃ u, B.testBit (T - (X - j)).toNat = u := ⟨_, rfl⟩
                  have hc : nbC T B n X j = u := by unfold nbC; rw [dd, d2, d3, hu]; simp
                  obtain ⟨N1, h1⟩ : ∃ N1, N ||| 2 ^ j = N1 := ⟨_, rfl⟩
                  rw [hc, h1] at hN1
                  have HU := Lib.hid hu; have HN1 := Lib.hid h1; have HN1' := Lib.hid hN1; clear h1 hN1 hc e1 hu dd
                  go_wp2_with fail
                  refine (rthere hb T0 (by omega) e2 T1 HU.out _).mono ?_
                  rintro e x3 ⟨rfl, g_x3⟩
                  have s_x3 : Below wr.heap.size wr x3 := chain (by go_grown) g_x3
                  have t_x3 := chain t_wr s_x3
                  replace rf := fkeep2 rf (lt_of r0) s_x3
                  replace of := fkeep2 of (lt_of o0) s_x3
                  replace k0 := keep k0 s_x3
                  have z_k0_x3 := lt_of k0
                  replace k1 := keep k1 s_x3
                  replace r0 := keep r0 s_x3
                  have z_r0_x3 := lt_of r0
                  replace r1 := keep r1 s_x3
                  replace o0 := keep o0 s_x3
                  have z_o0_x3 := lt_of o0
                  replace o1 := keep o1 s_x3
                  clear g_x3 s_x3 t_wr
                  cases u
                  · go_wp2_with fail
                    go_roundw
                    case rel => exact ⟨j + 1, N, by omega, by go_num, Lib.hid (by have := HN1'.out; simpa using this), k0, k1, r0, r1, rf, o0, o1, of, t_x3⟩
                    case measure => (simp [intOf]; try omega)
                  · go_wp2_with fail
                    have HN2 := Lib.hid (show nb T B n X (j + 1) = N1 by have := HN1'.out; simpa using this)
                    go_region
                    go_wp2_with fail
                    rw [set_bit HNL.out hlt]
                    rw [HN1.out]
                    have k0n : (x3.setCell ⟨x2.heap.size, 1, none⟩ (.int .u64 N1)).drew.cell? _ = _ := (cset_ne (c := x2.heap.size) k0 (by omega) 1 (.int .u64 N1)); clear k0; have k0 := k0n; clear k0n
                    have k1n : (x3.setCell ⟨x2.heap.size, 1, none⟩ (.int .u64 N1)).drew.cell? _ = _ := (cset_ne (c := x2.heap.size) k1 (by omega) 1 (.int .u64 N1)); clear k1; have k1 := k1n; clear k1n
                    have r0n : (x3.setCell ⟨x2.heap.size, 1, none⟩ (.int .u64 N1)).drew.cell? _ = _ := (cset_ne (c := x2.heap.size) r0 (by omega) 1 (.int .u64 N1)); clear r0; have r0 := r0n; clear r0n
                    have r1n : (x3.setCell ⟨x2.heap.size, 1, none⟩ (.int .u64 N1)).drew.cell? _ = _ := (cset_ne (c := x2.heap.size) r1 (by omega) 1 (.int .u64 N1)); clear r1; have r1 := r1n; clear r1n
                    replace rf : ∀ i, (x3.setCell ⟨x2.heap.size, 1, none⟩ (.int .u64 N1)).drew.frozen? ⟨w.heap.size + 1, i, none⟩ = false := fun i => by simp only [World.frozen?_setCell, World.frozen?_drew]; exact rf i
                    replace of : ∀ i, (x3.setCell ⟨x2.heap.size, 1, none⟩ (.int .u64 N1)).drew.frozen? ⟨x2.heap.size, i, none⟩ = false := fun i => by simp only [World.frozen?_setCell, World.frozen?_drew]; exact of i
                    have o0n : (x3.setCell ⟨x2.heap.size, 1, none⟩ (.int .u64 N1)).drew.cell? ⟨x2.heap.size, 0, none⟩ = _ := (cset_off o0 (by decide) _)
                    have o1n : (x3.setCell ⟨x2.heap.size, 1, none⟩ (.int .u64 N1)).drew.cell? ⟨x2.heap.size, 1, none⟩ = some (.int .u64 N1) := (cset_eq o1 (.int .u64 N1))
                    have t_W_4 : Below w.heap.size w (x3.setCell ⟨x2.heap.size, 1, none⟩ (.int .u64 N1)).drew := by go_grown
                    clear o0 o1 t_x3
                    have o0 := o0n; clear o0n
                    have o1 := o1n; clear o1n
                    generalize (x3.setCell ⟨x2.heap.size, 1, none⟩ (.int .u64 N1)).drew = W_4 at *
                    go_roundw
                    case rel => exact ⟨j + 1, N1, by omega, by go_num, HN2, k0, k1, r0, r1, rf, o0, o1, of, by assumption⟩
                    case measure => (simp [intOf]; try omega)
                · exfalso; omega
              · have d2 : decide (X - j ≤ T) = false := decide_eq_false e2
                have hc : nbC T B n X j = false := by unfold nbC; rw [dd, d2]; simp
                rw [hc] at hN1
                have HN2 := Lib.hid (show nb T B n X (j + 1) = N by simpa using hN1); clear hN1 hc dd e1
                go_wp2_with fail
                go_roundw
                case rel => exact ⟨j + 1, N, by omega, by go_num, HN2, k0, k1, r0, r1, rf, o0, o1, of, t_wr⟩
                case measure => (simp [intOf]; try omega)
          · obtain rfl : j = 64 := by omega
            rw [HY.out] at HN
            obtain rfl := HN.out
            clear HN
            go_wp2_with fail
            refine bodyPost_ret (v := .tuple #[.agg #[.int .i64 X, .int .u64 Y], .int .i64 0]) (by simp [results, Try.results11, go_sem, *]) rfl ⟨rfl, by go_grown⟩
end Go.Proofs.Ytojcbolfheneeaa
