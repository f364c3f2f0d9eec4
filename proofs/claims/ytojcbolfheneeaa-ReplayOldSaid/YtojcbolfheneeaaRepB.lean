/- Contracts of package replay: Fresh, Note. -/
import Derived.Test.YtojcbolfheneeaaRepA
namespace Go.Proofs.Ytojcbolfheneeaa
open Go.ChangeShapes Go.WideShapes Go.ChangeAt Go.RowKit
/-- what a fresh counter is -/
def fr (T : Int) (B : Nat) (n : Int) : Bool := vw T B && okc n && decide (T - 64 < n) && (decide (T < n) || !B.testBit (T - n).toNat)
set_option maxHeartbeats 1000000 in
theorem fresh {T : Int} {B : Nat} {n : Int} {v : Bool} (hb : B < 18446744073709551616) (hv : fr T B n = v) (w : World) : Calls Try.prog 14 #[.agg #[.int .i64 T, .int .u64 B], .int .i64 n] w fun e w' => e = .returned (.bool v) ∧ Below w.heap.size w w' := by
  rcases hw : vw T B with _ | _
  · obtain rfl : false = v := by rw [← hv]; simp [fr, hw]
    have HW := Lib.hid hw; clear hw hv
    have t_w := Below.refl w.heap.size w
    go_enter Try.func14, Try.ntmps14
    go_wp2_with fail
    refine (valid hb HW.out _).mono ?_
    rintro e x1 ⟨rfl, g_x1⟩
    have s_x1 : Below w.heap.size w x1 := chain (by go_grown) g_x1
    have t_x1 := chain t_w s_x1
    have k0 : x1.cell? ⟨w.heap.size, 0, none⟩ = some (.int .i64 T) := ((bcell g_x1).1 _ _ (by simp; try omega)).trans (by simp [go_sem])
    have k1 : x1.cell? ⟨w.heap.size, 1, none⟩ = some (.int .u64 B) := ((bcell g_x1).1 _ _ (by simp; try omega)).trans (by simp [go_sem])
    have z_k_x1 := lt_of k0
    clear g_x1 s_x1 t_w
    go_wp2_with fail
    go_ret
    exact ⟨rfl, t_x1⟩
  · obtain ⟨T0, T1⟩ := vw_t hw
    rcases hc : okc n with _ | _
    · obtain rfl : false = v := by rw [← hv]; simp [fr, hc]
      have HW := Lib.hid hw; have HC := Lib.hid hc; clear hw hv hc
      have t_w := Below.refl w.heap.size w
      go_enter Try.func14, Try.ntmps14
      go_wp2_with fail
      refine (valid hb HW.out _).mono ?_
      rintro e x1 ⟨rfl, g_x1⟩
      have s_x1 : Below w.heap.size w x1 := chain (by go_grown) g_x1
      have t_x1 := chain t_w s_x1
      have k0 : x1.cell? ⟨w.heap.size, 0, none⟩ = some (.int .i64 T) := ((bcell g_x1).1 _ _ (by simp; try omega)).trans (by simp [go_sem])
      have k1 : x1.cell? ⟨w.heap.size, 1, none⟩ = some (.int .u64 B) := ((bcell g_x1).1 _ _ (by simp; try omega)).trans (by simp [go_sem])
      have z_k_x1 := lt_of k0
      clear g_x1 s_x1 t_w
      go_wp2_with fail
      refine (isC HC.out _).mono ?_
      rintro e w_7 ⟨rfl, hw⟩; obtain rfl := hw.symm
      clear hw
      go_wp2_with fail
      go_ret
      exact ⟨rfl, t_x1⟩
    · obtain ⟨n0, n1⟩ := okc_t hc
      by_cases h1 : n ≤ T - 64
      · obtain rfl : false = v := by rw [← hv]; simp [fr]; omega
        have d1 : decide (n ≤ T - 64) = true := decide_eq_true h1
        have HW := Lib.hid hw; have HC := Lib.hid hc; clear hw hv hc
        have t_w := Below.refl w.heap.size w
        go_enter Try.func14, Try.ntmps14
        go_wp2_with fail
        refine (valid hb HW.out _).mono ?_
        rintro e x1 ⟨rfl, g_x1⟩
        have s_x1 : Below w.heap.size w x1 := chain (by go_grown) g_x1
        have t_x1 := chain t_w s_x1
        have k0 : x1.cell? ⟨w.heap.size, 0, none⟩ = some (.int .i64 T) := ((bcell g_x1).1 _ _ (by simp; try omega)).trans (by simp [go_sem])
        have k1 : x1.cell? ⟨w.heap.size, 1, none⟩ = some (.int .u64 B) := ((bcell g_x1).1 _ _ (by simp; try omega)).trans (by simp [go_sem])
        have z_k_x1 := lt_of k0
        clear g_x1 s_x1 t_w
        go_wp2_with fail
        refine (isC HC.out _).mono ?_
        rintro e w_11 ⟨rfl, hw⟩; obtain rfl := hw.symm
        clear hw
        go_wp2_with fail
        go_ret
        exact ⟨rfl, t_x1⟩
      · have d1 : decide (n ≤ T - 64) = false := decide_eq_false h1
        by_cases h2 : T < n
        · obtain rfl : true = v := by rw [← hv]; simp [fr, hw, hc, h2]; omega
          have d2 : decide (T < n) = true := decide_eq_true h2
          have HW := Lib.hid hw; have HC := Lib.hid hc; clear hw hv hc h1
          have t_w := Below.refl w.heap.size w
          go_enter Try.func14, Try.ntmps14
          go_wp2_with fail
          refine (valid hb HW.out _).mono ?_
          rintro e x1 ⟨rfl, g_x1⟩
          have s_x1 : Below w.heap.size w x1 := chain (by go_grown) g_x1
          have t_x1 := chain t_w s_x1
          have k0 : x1.cell? ⟨w.heap.size, 0, none⟩ = some (.int .i64 T) := ((bcell g_x1).1 _ _ (by simp; try omega)).trans (by simp [go_sem])
          have k1 : x1.cell? ⟨w.heap.size, 1, none⟩ = some (.int .u64 B) := ((bcell g_x1).1 _ _ (by simp; try omega)).trans (by simp [go_sem])
          have z_k_x1 := lt_of k0
          clear g_x1 s_x1 t_w
          go_wp2_with fail
          refine (isC HC.out _).mono ?_
          rintro e w_15 ⟨rfl, hw⟩; obtain rfl := hw.symm
          clear hw
          go_wp2_with fail
          go_ret
          exact ⟨rfl, t_x1⟩
        · have d2 : decide (T < n) = false := decide_eq_false h2
          have hv' : (!B.testBit (T - n).toNat) = v := by
            rw [← hv]; simp [fr, hw, hc, h2]; omega
          obtain ⟨u, hu⟩ : ∃ u, B.testBit (T - n).toNat = u := ⟨_, rfl⟩
          rw [hu] at hv'
          have HU := Lib.hid hu; have HV := Lib.hid hv'
          have HW := Lib.hid hw; have HC := Lib.hid hc; clear hw hv hc h1 hu hv'
          have t_w := Below.refl w.heap.size w
          go_enter Try.func14, Try.ntmps14
          go_wp2_with fail
          refine (valid hb HW.out _).mono ?_
          rintro e x1 ⟨rfl, g_x1⟩
          have s_x1 : Below w.heap.size w x1 := chain (by go_grown) g_x1
          have t_x1 := chain t_w s_x1
          have k0 : x1.cell? ⟨w.heap.size, 0, none⟩ = some (.int .i64 T) := ((bcell g_x1).1 _ _ (by simp; try omega)).trans (by simp [go_sem])
          have k1 : x1.cell? ⟨w.heap.size, 1, none⟩ = some (.int .u64 B) := ((bcell g_x1).1 _ _ (by simp; try omega)).trans (by simp [go_sem])
          have z_k_x1 := lt_of k0
          clear g_x1 s_x1 t_w
          go_wp2_with fail
          refine (isC HC.out _).mono ?_
          rintro e w_19 ⟨rfl, hw⟩; obtain rfl := hw.symm
          clear hw
          go_wp2_with fail
          refine (has hb (by omega) HU.out _).mono ?_
          rintro e w_20 ⟨rfl, hw⟩; obtain rfl := hw.symm
          clear hw
          go_wp2_with fail
          go_ret
          exact ⟨ret_bool HV.out, t_x1⟩
/-- the window after a counter was noted -/
def ntT (T : Int) (B : Nat) (n : Int) : Int := if fr T B n = true then (if T < n then n else T) else 0
def ntB (T : Int) (B : Nat) (n : Int) : Nat := if fr T B n = true then (B * 2 ^ ((if T < n then n else T) - T).toNat % 18446744073709551616) ||| 2 ^ ((if T < n then n else T) - n).toNat else 0
def ntE (T : Int) (B : Nat) (n : Int) : Int := if (vw T B && okc n) = true then (if fr T B n = true then 0 else 14) else 1
theorem ntB_lt (T : Int) (B : Nat) (n : Int) : ntB T B n < 18446744073709551616 := by
  unfold ntB
  split
  · rename_i h
    have : T - 64 < n := by
      have := h; simp only [fr, Bool.and_eq_true, decide_eq_true_eq] at this; exact this.1.2
    refine or_lt (Nat.mod_lt _ (by decide)) (pow_lt ?_)
    split <;> omega
  · decide
theorem note1 {T : Int} {B : Nat} {t : Int} {v : Nat} {b : Nat} (T0 : 0 ≤ T) (t1 : T ≤ t) (t2 : t ≤ 1000000000) (hv : B * 2 ^ (t - T).toNat % 18446744073709551616 = v) (w : World)
    (c0 : w.cell? ⟨b, 0, none⟩ = some (.int .i64 T)) (c1 : w.cell? ⟨b, 1, none⟩ = some (.int .u64 B)) : Calls Try.prog 20 #[.int .i64 t, .pointer (some ⟨b, 0, none⟩)] w fun e w' => e = .returned (.int .u64 v) ∧ w' = w := by
  have HV := Lib.hid hv; clear hv
  have t_w := Below.refl w.heap.size w
  go_enter Try.func20, Try.ntmps20
  go_wp2_with fail
  refine (moved (by omega) HV.out _).mono ?_
  rintro e w_22 ⟨rfl, hw⟩; obtain rfl := hw.symm
  clear hw
  go_wp2_with fail
  go_ret
  exact ⟨rfl, rfl⟩
set_option maxHeartbeats 1000000 in
theorem note {T : Int} {B : Nat} {n : Int} {X : Int} {Y : Nat} {E : Int} (hb : B < 18446744073709551616) (hX : ntT T B n = X) (hY : ntB T B n = Y) (hE : ntE T B n = E) (w : World) :
    Calls Try.prog 10 #[.agg #[.int .i64 T, .int .u64 B], .int .i64 n] w fun e w' => e = .returned (.tuple #[.agg #[.int .i64 X, .int .u64 Y], .int .i64 E]) ∧ Below w.heap.size w w' := by
  rcases hw : vw T B with _ | _
  · have hf : fr T B n = false := by simp [fr, hw]
    obtain rfl : 0 = X := by rw [← hX]; simp [ntT, hf]
    obtain rfl : 0 = Y := by rw [← hY]; simp [ntB, hf]
    obtain rfl : 1 = E := by rw [← hE]; simp [ntE, hw]
    have HW := Lib.hid hw; clear hw hX hY hE hf
    have t_w := Below.refl w.heap.size w
    go_enter Try.func10, Try.ntmps10
    go_wp2_with fail
    refine (valid hb HW.out _).mono ?_
    rintro e x1 ⟨rfl, g_x1⟩
    have s_x1 : Below w.heap.size w x1 := chain (by go_grown) g_x1
    have t_x1 := chain t_w s_x1
    have k0 : x1.cell? ⟨w.heap.size, 0, none⟩ = some (.int .i64 T) := ((bcell g_x1).1 _ _ (by simp; try omega)).trans (by simp [go_sem])
    have k1 : x1.cell? ⟨w.heap.size, 1, none⟩ = some (.int .u64 B) := ((bcell g_x1).1 _ _ (by simp; try omega)).trans (by simp [go_sem])
    have z_k_x1 := lt_of k0
    have r0 : x1.cell? ⟨w.heap.size + 1, 0, none⟩ = some (.int .i64 0) := ((bcell g_x1).1 _ _ (by simp; try omega)).trans (by simp [go_sem])
    have r1 : x1.cell? ⟨w.heap.size + 1, 1, none⟩ = some (.int .u64 0) := ((bcell g_x1).1 _ _ (by simp; try omega)).trans (by simp [go_sem])
    have z_r_x1 := lt_of r0
    have rf : ∀ i, x1.frozen? ⟨w.heap.size + 1, i, none⟩ = false := fun i => ((bcell g_x1).2 _ _ (by simp; try omega)).trans (by simp [go_sem])
    clear g_x1 s_x1 t_w
    go_wp2_with fail
    refine bodyPost_ret (v := .tuple #[.agg #[.int .i64 0, .int .u64 0], .int .i64 1]) (by simp [results, Try.results10, go_sem, *]) rfl ⟨rfl, by go_grown⟩
  · obtain ⟨T0, T1⟩ := vw_t hw
    rcases hc : okc n with _ | _
    · have hf : fr T B n = false := by simp [fr, hc]
      obtain rfl : 0 = X := by rw [← hX]; simp [ntT, hf]
      obtain rfl : 0 = Y := by rw [← hY]; simp [ntB, hf]
      obtain rfl : 1 = E := by rw [← hE]; simp [ntE, hc]
      have HW := Lib.hid hw; have HC := Lib.hid hc; clear hw hX hY hE hf hc
      have t_w := Below.refl w.heap.size w
      go_enter Try.func10, Try.ntmps10
      go_wp2_with fail
      refine (valid hb HW.out _).mono ?_
      rintro e x1 ⟨rfl, g_x1⟩
      have s_x1 : Below w.heap.size w x1 := chain (by go_grown) g_x1
      have t_x1 := chain t_w s_x1
      have k0 : x1.cell? ⟨w.heap.size, 0, none⟩ = some (.int .i64 T) := ((bcell g_x1).1 _ _ (by simp; try omega)).trans (by simp [go_sem])
      have k1 : x1.cell? ⟨w.heap.size, 1, none⟩ = some (.int .u64 B) := ((bcell g_x1).1 _ _ (by simp; try omega)).trans (by simp [go_sem])
      have z_k_x1 := lt_of k0
      have r0 : x1.cell? ⟨w.heap.size + 1, 0, none⟩ = some (.int .i64 0) := ((bcell g_x1).1 _ _ (by simp; try omega)).trans (by simp [go_sem])
      have r1 : x1.cell? ⟨w.heap.size + 1, 1, none⟩ = some (.int .u64 0) := ((bcell g_x1).1 _ _ (by simp; try omega)).trans (by simp [go_sem])
      have z_r_x1 := lt_of r0
      have rf : ∀ i, x1.frozen? ⟨w.heap.size + 1, i, none⟩ = false := fun i => ((bcell g_x1).2 _ _ (by simp; try omega)).trans (by simp [go_sem])
      clear g_x1 s_x1 t_w
      go_wp2_with fail
      refine (isC HC.out _).mono ?_
      rintro e w_31 ⟨rfl, hw⟩; obtain rfl := hw.symm
      clear hw
      go_wp2_with fail
      refine bodyPost_ret (v := .tuple #[.agg #[.int .i64 0, .int .u64 0], .int .i64 1]) (by simp [results, Try.results10, go_sem, *]) rfl ⟨rfl, by go_grown⟩
    · obtain ⟨n0, n1⟩ := okc_t hc
      rcases hf : fr T B n with _ | _
      · obtain rfl : 0 = X := by rw [← hX]; simp [ntT, hf]
        obtain rfl : 0 = Y := by rw [← hY]; simp [ntB, hf]
        obtain rfl : 14 = E := by rw [← hE]; simp [ntE, hc, hw, hf]
        have HW := Lib.hid hw; have HC := Lib.hid hc; have HF := Lib.hid hf; clear hw hX hY hE hf hc
        have t_w := Below.refl w.heap.size w
        go_enter Try.func10, Try.ntmps10
        go_wp2_with fail
        refine (valid hb HW.out _).mono ?_
        rintro e x1 ⟨rfl, g_x1⟩
        have s_x1 : Below w.heap.size w x1 := chain (by go_grown) g_x1
        have t_x1 := chain t_w s_x1
        have k0 : x1.cell? ⟨w.heap.size, 0, none⟩ = some (.int .i64 T) := ((bcell g_x1).1 _ _ (by simp; try omega)).trans (by simp [go_sem])
        have k1 : x1.cell? ⟨w.heap.size, 1, none⟩ = some (.int .u64 B) := ((bcell g_x1).1 _ _ (by simp; try omega)).trans (by simp [go_sem])
        have z_k_x1 := lt_of k0
        have r0 : x1.cell? ⟨w.heap.size + 1, 0, none⟩ = some (.int .i64 0) := ((bcell g_x1).1 _ _ (by simp; try omega)).trans (by simp [go_sem])
        have r1 : x1.cell? ⟨w.heap.size + 1, 1, none⟩ = some (.int .u64 0) := ((bcell g_x1).1 _ _ (by simp; try omega)).trans (by simp [go_sem])
        have z_r_x1 := lt_of r0
        have rf : ∀ i, x1.frozen? ⟨w.heap.size + 1, i, none⟩ = false := fun i => ((bcell g_x1).2 _ _ (by simp; try omega)).trans (by simp [go_sem])
        clear g_x1 s_x1 t_w
        go_wp2_with fail
        refine (isC HC.out _).mono ?_
        rintro e w_36 ⟨rfl, hw⟩; obtain rfl := hw.symm
        clear hw
        go_wp2_with fail
        refine (fresh hb HF.out _).mono ?_
        rintro e x2 ⟨rfl, g_x2⟩
        have s_x2 : Below x1.heap.size x1 x2 := chain (by go_grown) g_x2
        have t_x2 := chain t_x1 s_x2
        replace rf := fkeep2 rf (lt_of r0) s_x2
        replace k0 := keep k0 s_x2
        have z_k0_x2 := lt_of k0
        replace k1 := keep k1 s_x2
        replace r0 := keep r0 s_x2
        have z_r0_x2 := lt_of r0
        replace r1 := keep r1 s_x2
        clear g_x2 s_x2 z_k_x1 z_r_x1 t_x1
        go_wp2_with fail
        refine bodyPost_ret (v := .tuple #[.agg #[.int .i64 0, .int .u64 0], .int .i64 14]) (by simp [results, Try.results10, go_sem, *]) rfl ⟨rfl, by go_grown⟩
      · obtain rfl : 0 = E := by rw [← hE]; simp [ntE, hc, hw, hf]
        have hX' : (if T < n then n else T) = X := by rw [← hX]; simp [ntT, hf]
        have hY' : (B * 2 ^ (X - T).toNat % 18446744073709551616) ||| 2 ^ (X - n).toNat = Y := by rw [← hY, ← hX']; simp [ntB, hf]
        have h64 : T - 64 < n := by
          have := hf; simp only [fr, Bool.and_eq_true, decide_eq_true_eq] at this; exact this.1.2
        have X0 : T ≤ X := by rw [← hX']; split <;> omega
        have X1 : n ≤ X := by rw [← hX']; split <;> omega
        have X2 : X ≤ 1000000000 := by rw [← hX']; split <;> omega
        have X3 : X - n < 64 := by rw [← hX']; split <;> omega
        obtain ⟨m, hm⟩ : ∃ m, B * 2 ^ (X - T).toNat % 18446744073709551616 = m := ⟨_, rfl⟩
        have hml : m < 18446744073709551616 := by rw [← hm]; exact Nat.mod_lt _ (by decide)
        rw [hm] at hY'
        have HM := Lib.hid hm; have HY := Lib.hid hY'; have HML := Lib.hid hml; have HB := Lib.hid hb
        have HW := Lib.hid hw; have HC := Lib.hid hc; have HF := Lib.hid hf; clear hw hX hY hE hf hc hm hY' hml
        have t_w := Below.refl w.heap.size w
        go_enter Try.func10, Try.ntmps10
        go_wp2_with fail
        refine (valid hb HW.out _).mono ?_
        rintro e x1 ⟨rfl, g_x1⟩
        have s_x1 : Below w.heap.size w x1 := chain (by go_grown) g_x1
        have t_x1 := chain t_w s_x1
        have k0 : x1.cell? ⟨w.heap.size, 0, none⟩ = some (.int .i64 T) := ((bcell g_x1).1 _ _ (by simp; try omega)).trans (by simp [go_sem])
        have k1 : x1.cell? ⟨w.heap.size, 1, none⟩ = some (.int .u64 B) := ((bcell g_x1).1 _ _ (by simp; try omega)).trans (by simp [go_sem])
        have z_k_x1 := lt_of k0
        have r0 : x1.cell? ⟨w.heap.size + 1, 0, none⟩ = some (.int .i64 0) := ((bcell g_x1).1 _ _ (by simp; try omega)).trans (by simp [go_sem])
        have r1 : x1.cell? ⟨w.heap.size + 1, 1, none⟩ = some (.int .u64 0) := ((bcell g_x1).1 _ _ (by simp; try omega)).trans (by simp [go_sem])
        have z_r_x1 := lt_of r0
        have rf : ∀ i, x1.frozen? ⟨w.heap.size + 1, i, none⟩ = false := fun i => ((bcell g_x1).2 _ _ (by simp; try omega)).trans (by simp [go_sem])
        clear g_x1 s_x1 t_w
        go_wp2_with fail
        refine (isC HC.out _).mono ?_
        rintro e w_42 ⟨rfl, hw⟩; obtain rfl := hw.symm
        clear hw
        go_wp2_with fail
        refine (fresh hb HF.out _).mono ?_
        rintro e x2 ⟨rfl, g_x2⟩
        have s_x2 : Below x1.heap.size x1 x2 := chain (by go_grown) g_x2
        have t_x2 := chain t_x1 s_x2
        replace rf := fkeep2 rf (lt_of r0) s_x2
        replace k0 := keep k0 s_x2
        have z_k0_x2 := lt_of k0
        replace k1 := keep k1 s_x2
        replace r0 := keep r0 s_x2
        have z_r0_x2 := lt_of r0
        replace r1 := keep r1 s_x2
        clear g_x2 s_x2 z_k_x1 z_r_x1 t_x1
        go_wp2_with fail
        refine (note1 T0 X0 X2 HM.out _ k0 k1).mono ?_
        rintro e w_44 ⟨rfl, hw⟩; obtain rfl := hw.symm
        clear hw
        go_wp2_with fail
        refine (and' HML.out (by omega) X3 HY.out _).mono ?_
        rintro e w_45 ⟨rfl, hw⟩; obtain rfl := hw.symm
        clear hw
        go_wp2_with fail
        refine bodyPost_ret (v := .tuple #[.agg #[.int .i64 X, .int .u64 Y], .int .i64 0]) (by simp [results, Try.results10, go_sem, *]) rfl ⟨rfl, by go_grown⟩
end Go.Proofs.Ytojcbolfheneeaa
