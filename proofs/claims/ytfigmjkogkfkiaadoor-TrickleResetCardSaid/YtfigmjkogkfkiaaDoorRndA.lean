/- Contracts of package random: Next, upper, Below, and of its reference. -/
import Derived.Test.YtfigmjkogkfkiaaDoorBit
import Derived.Test.YtfigmjkogkfkiaaDoorLaid
namespace Go.Proofs.YtfigmjkogkfkiaaDoor
open Go.ChangeShapes Go.WideShapes Go.ChangeAt Go.RowKit
/-- the table of steps, in a world -/
def Tab (w : World) : Prop := Laid.VarIs 0 [.int .u64 30, .int .u64 13787848793156543929, .int .u64 27, .int .u64 10723151780598845931, .int .u64 31, .int .u64 1] w
theorem Tab.below {w w' : World} (h : Tab w) (hb : Below w.heap.size w w') : Tab w' := Laid.VarIs.below h hb
/-- one step of the mixing -/
def mix (x d : Int) : Int := bits BinOp.xor IntKind.u64 x (x / d)
theorem mix_b (x d : Int) : 0 ≤ mix x d ∧ mix x d ≤ 18446744073709551615 := bounds_u64 (wf_bits _ _ _ _)
def nx1 (s : Int) : Int := IntKind.u64.wrap (s + 11400714819323198485)
def nx2 (s : Int) : Int := IntKind.u64.wrap (mix (nx1 s) 1073741824 * 13787848793156543929)
def nx3 (s : Int) : Int := IntKind.u64.wrap (mix (nx2 s) 134217728 * 10723151780598845931)
def nx (s : Int) : Int := mix (nx3 s) 2147483648
theorem nx_b (s : Int) : 0 ≤ nx s ∧ nx s ≤ 18446744073709551615 := mix_b _ _
theorem wrap_b (x : Int) : 0 ≤ IntKind.u64.wrap x ∧ IntKind.u64.wrap x ≤ 18446744073709551615 := bounds_u64 (wf_wrap _ _)
set_option maxHeartbeats 1000000 in
theorem rnext {s x : Int} (hx : nx s = x) (w : World) : Calls Tryd.prog 35 #[.int .u64 s] w fun e w' => e = .returned (.int .u64 x) ∧ w' = w := by
  have H := Lib.hid hx; clear hx
  go_enter Tryd.func35, Tryd.ntmps35
  go_wp2_with fail
  go_ret
  exact ⟨ret_int H.out, rfl⟩
/-- the number after j steps -/
def nxs (s : Int) : Nat → Int
  | 0 => nx1 s
  | 1 => nx2 s
  | 2 => nx3 s
  | _ => nx s
theorem nxs_b (s : Int) : ∀ j, 0 ≤ nxs s j ∧ nxs s j ≤ 18446744073709551615
  | 0 => wrap_b _
  | 1 => wrap_b _
  | 2 => wrap_b _
  | _ + 3 => nx_b s
theorem mul_one' (x : Int) : IntKind.u64.wrap (mix (nx3 x) 2147483648 * 1) = nx x := by
  have := nx_b x
  unfold nx at this ⊢
  rw [Int.mul_one]
  exact wrapI _ this.1 (by have : (2 : Int) ^ 64 = 18446744073709551616 := rfl; omega)
set_option maxHeartbeats 1000000 in
theorem next {s x : Int} (hx : nx s = x) (w : World) (ht : Tab w) : Calls Tryd.prog 33 #[.int .u64 s] w fun e w' => e = .returned (.int .u64 x) ∧ Below w.heap.size w w' := by
  have H := Lib.hid hx; clear hx
  have c0 := ht 0 _ rfl; have c1 := ht 1 _ rfl; have c2 := ht 2 _ rfl; have c3 := ht 3 _ rfl; have c4 := ht 4 _ rfl; have c5 := ht 5 _ rfl
  clear ht
  have i0 : ∀ w, Sem.run Tryd.prog (Instr.index 54 (.agg #[.int .u64 30, .int .u64 13787848793156543929, .int .u64 27, .int .u64 10723151780598845931, .int .u64 31, .int .u64 1]) (.int .i64 0)) w = .ok (.agg #[.int .u64 30, .int .u64 13787848793156543929]) w := fun _ => by kernel_rfl
  have i1 : ∀ w, Sem.run Tryd.prog (Instr.index 54 (.agg #[.int .u64 30, .int .u64 13787848793156543929, .int .u64 27, .int .u64 10723151780598845931, .int .u64 31, .int .u64 1]) (.int .i64 1)) w = .ok (.agg #[.int .u64 27, .int .u64 10723151780598845931]) w := fun _ => by kernel_rfl
  have i2 : ∀ w, Sem.run Tryd.prog (Instr.index 54 (.agg #[.int .u64 30, .int .u64 13787848793156543929, .int .u64 27, .int .u64 10723151780598845931, .int .u64 31, .int .u64 1]) (.int .i64 2)) w = .ok (.agg #[.int .u64 31, .int .u64 1]) w := fun _ => by kernel_rfl
  go_enter Tryd.func33, Tryd.ntmps33
  go_wp2_with fail
  go_loopw [3, 9] (fun x i wr => ∃ (j : Nat) (y : Int), j ≤ 3 ∧ i = .int .i64 j ∧ x = .int .u64 y ∧ Hid (nxs s j = y) ∧ Below w.heap.size w wr) (fun _ i _ => 3 - (intOf i).toNat)
  case atStart => exact ⟨0, _, by omega, rfl, rfl, Lib.hid rfl, Below.refl _ _⟩
  case round =>
    obtain ⟨j, y, hj, rfl, rfl, HY, t_wr⟩ := hrel
    have yb := nxs_b s j
    rw [HY.out] at yb
    obtain ⟨y0, y1⟩ := yb
    have zb := t_wr.size
    rcases (by omega : j = 0 ∨ j = 1 ∨ j = 2 ∨ j = 3) with rfl | rfl | rfl | rfl
    · have HZ := Lib.hid (show nxs s 1 = IntKind.u64.wrap (bits BinOp.xor IntKind.u64 y (y / 1073741824) * 13787848793156543929) by rw [← HY.out]; rfl)
      go_wp2_with fail
      go_roundw
      case rel => exact ⟨1, _, by omega, rfl, rfl, HZ, by go_grown⟩
      case measure => (simp [intOf]; try omega)
    · have HZ := Lib.hid (show nxs s 2 = IntKind.u64.wrap (bits BinOp.xor IntKind.u64 y (y / 134217728) * 10723151780598845931) by rw [← HY.out]; rfl)
      go_wp2_with fail
      go_roundw
      case rel => exact ⟨2, _, by omega, rfl, rfl, HZ, by go_grown⟩
      case measure => (simp [intOf]; try omega)
    · have HZ := Lib.hid (show nxs s 3 = IntKind.u64.wrap (bits BinOp.xor IntKind.u64 y (y / 2147483648)) by
        rw [← HY.out]
        have h1 := mul_one' s
        rw [Int.mul_one] at h1
        exact h1.symm)
      go_wp2_with fail
      go_roundw
      case rel => exact ⟨3, _, by omega, rfl, rfl, HZ, by go_grown⟩
      case measure => (simp [intOf]; try omega)
    · have HZ := Lib.hid (show y = x by rw [← HY.out]; exact H.out)
      go_wp2_with fail
      go_ret
      exact ⟨ret_int HZ.out, t_wr⟩
theorem upper {s n v : Int} (s0 : 0 ≤ s) (s1 : s ≤ 18446744073709551615) (n0 : 1 ≤ n) (n1 : n ≤ 1000000000) (hv : s / 4294967296 % n = v) (w : World) : Calls Tryd.prog 32 #[.int .u64 s, .int .i64 n] w fun e w' => e = .returned (.int .i64 v) ∧ w' = w := by
  have h0 : 0 ≤ s / 4294967296 := by omega
  have hm0 := Int.emod_nonneg (s / 4294967296) (show n ≠ 0 by omega)
  have hm1 := Int.emod_lt_of_pos (s / 4294967296) (show 0 < n by omega)
  rw [hv] at hm0 hm1
  obtain ⟨a, ha⟩ : ∃ a, s / 4294967296 = a := ⟨_, rfl⟩
  rw [ha] at h0 hv
  have h1 : a ≤ 4294967295 := by omega
  have H := Lib.hid hv
  go_enter Tryd.func32, Tryd.ntmps32
  go_wp2_with fail
  go_ret
  exact ⟨rfl, rfl⟩
theorem rhalf {s v : Int} (s0 : 0 ≤ s) (s1 : s ≤ 18446744073709551615) (hv : s / 4294967296 = v) (w : World) : Calls Tryd.prog 34 #[.int .u64 s] w fun e w' => e = .returned (.int .i64 v) ∧ w' = w := by
  have h1 : v ≤ 4294967295 := by omega
  have h0 : 0 ≤ v := by omega
  go_enter Tryd.func34, Tryd.ntmps34
  go_wp2_with fail
  go_ret
  exact ⟨rfl, rfl⟩
/-- a number below n -/
def bel (s n : Int) : Int := if 1 ≤ n ∧ n ≤ 1000000000 then nx s / 4294967296 % n else 0
theorem bel_b {s n : Int} (h0 : 1 ≤ n) (h1 : n ≤ 1000000000) : 0 ≤ bel s n ∧ bel s n < n := by
  unfold bel
  rw [if_pos ⟨h0, h1⟩]
  exact ⟨Int.emod_nonneg _ (by omega), Int.emod_lt_of_pos _ (by omega)⟩
theorem below {s n v : Int} (hv : bel s n = v) (w : World) (ht : Tab w) : Calls Tryd.prog 29 #[.int .u64 s, .int .i64 n] w fun e w' => e = .returned (.int .i64 v) ∧ Below w.heap.size w w' := by
  by_cases h1 : n < 1
  · obtain rfl : 0 = v := by rw [← hv]; unfold bel; rw [if_neg (by omega)]
    have d1 : decide (n < 1) = true := decide_eq_true h1
    clear hv ht
    have t_w := Below.refl w.heap.size w
    go_enter Tryd.func29, Tryd.ntmps29
    go_wp2_with fail
    go_ret
    exact ⟨rfl, Below.refl _ _⟩
  · have d1 : decide (n < 1) = false := decide_eq_false h1
    by_cases h2 : 1000000000 < n
    · obtain rfl : 0 = v := by rw [← hv]; unfold bel; rw [if_neg (by omega)]
      have d2 : decide (1000000000 < n) = true := decide_eq_true h2
      clear hv ht
      have t_w := Below.refl w.heap.size w
      go_enter Tryd.func29, Tryd.ntmps29
      go_wp2_with fail
      go_ret
      exact ⟨rfl, Below.refl _ _⟩
    · have d2 : decide (1000000000 < n) = false := decide_eq_false h2
      obtain ⟨x, hx⟩ : ∃ x, nx s = x := ⟨_, rfl⟩
      have hb := nx_b s
      have hv' : x / 4294967296 % n = v := by rw [← hx, ← hv]; unfold bel; rw [if_pos (by omega)]
      rw [hx] at hb
      obtain ⟨b0, b1⟩ := hb
      have HX := Lib.hid hx; have HV := Lib.hid hv'; have HT := Lib.hid ht
      clear hv ht hx hv'
      have t_w := Below.refl w.heap.size w
      go_enter Tryd.func29, Tryd.ntmps29
      go_wp2_with fail
      refine (next HX.out _ HT.out).mono ?_
      rintro e x1 ⟨rfl, g_x1⟩
      have s_x1 : Below w.heap.size w x1 := chain (by go_grown) g_x1
      have t_x1 := chain t_w s_x1
      clear g_x1 s_x1 t_w
      go_wp2_with fail
      refine (upper b0 b1 (by omega) (by omega) HV.out _).mono ?_
      rintro e w_5 ⟨rfl, hw⟩; obtain rfl := hw.symm
      clear hw
      go_wp2_with fail
      go_ret
      exact ⟨rfl, by first | exact t_x1 | go_grown⟩
theorem rbelow {s n v : Int} (hv : bel s n = v) (w : World) : Calls Tryd.prog 30 #[.int .u64 s, .int .i64 n] w fun e w' => e = .returned (.int .i64 v) ∧ w' = w := by
  by_cases h1 : n < 1
  · obtain rfl : 0 = v := by rw [← hv]; unfold bel; rw [if_neg (by omega)]
    have d1 : decide (n < 1) = true := decide_eq_true h1
    clear hv
    have t_w := Below.refl w.heap.size w
    go_enter Tryd.func30, Tryd.ntmps30
    go_wp2_with fail
    go_ret
    exact ⟨rfl, rfl⟩
  · have d1 : decide (n < 1) = false := decide_eq_false h1
    by_cases h2 : 1000000000 < n
    · obtain rfl : 0 = v := by rw [← hv]; unfold bel; rw [if_neg (by omega)]
      have d2 : decide (1000000000 < n) = true := decide_eq_true h2
      clear hv
      have t_w := Below.refl w.heap.size w
      go_enter Tryd.func30, Tryd.ntmps30
      go_wp2_with fail
      go_ret
      exact ⟨rfl, rfl⟩
    · have d2 : decide (1000000000 < n) = false := decide_eq_false h2
      obtain ⟨x, hx⟩ : ∃ x, nx s = x := ⟨_, rfl⟩
      have hb := nx_b s
      obtain ⟨y, hy⟩ : ∃ y, x / 4294967296 = y := ⟨_, rfl⟩
      have hv' : y % n = v := by rw [← hy, ← hx, ← hv]; unfold bel; rw [if_pos (by omega)]
      rw [hx] at hb
      obtain ⟨b0, b1⟩ := hb
      have y0 : 0 ≤ y := by omega
      have HX := Lib.hid hx; have HV := Lib.hid hv'; have HY := Lib.hid hy
      clear hv hx hv' hy
      have t_w := Below.refl w.heap.size w
      go_enter Tryd.func30, Tryd.ntmps30
      go_wp2_with fail
      refine (rnext HX.out _).mono ?_
      rintro e w_10 ⟨rfl, hw⟩; obtain rfl := hw.symm
      clear hw
      go_wp2_with fail
      refine (rhalf b0 b1 HY.out _).mono ?_
      rintro e w_11 ⟨rfl, hw⟩; obtain rfl := hw.symm
      clear hw
      go_wp2_with fail
      go_ret
      exact ⟨ret_int HV.out, rfl⟩
end Go.Proofs.YtfigmjkogkfkiaaDoor
