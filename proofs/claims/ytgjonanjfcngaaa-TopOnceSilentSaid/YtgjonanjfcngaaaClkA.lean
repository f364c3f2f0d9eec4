/- Contracts of package clock. -/
import Derived.Test.YtgjonanjfcngaaaKit
namespace Go.Proofs.Ytgjonanjfcngaaa
open Go.ChangeShapes Go.WideShapes Go.ChangeAt Go.RowKit
theorem tdiv_floor (n : Int) : (n.tmod 1000000 < 0 → n.tdiv 1000000 - 1 = n / 1000000) ∧ (¬ n.tmod 1000000 < 0 → n.tdiv 1000000 = n / 1000000) := by
  rcases Int.le_total 0 n with h | h
  · have e : n.tdiv 1000000 = n / 1000000 := Int.tdiv_eq_ediv_of_nonneg h
    have e2 : n.tmod 1000000 = n % 1000000 := Int.tmod_eq_emod_of_nonneg h
    rw [e, e2]; omega
  · obtain ⟨m, rfl⟩ : ∃ m, n = -m := ⟨-n, by omega⟩
    have e : (-m).tdiv 1000000 = -(m / 1000000) := by rw [Int.neg_tdiv, Int.tdiv_eq_ediv_of_nonneg (by omega)]
    have e2 : (-m).tmod 1000000 = -(m % 1000000) := by rw [Int.neg_tmod, Int.tmod_eq_emod_of_nonneg (by omega)]
    rw [e, e2]; omega
theorem floorDiv (n : Int) (h1 : -1000000000000000000 ≤ n) (h2 : n ≤ 1000000000000000000) (w : World) : Calls Try.prog 47 #[.int .i64 n, .int .i64 1000000] w fun e w' => e = .returned (.int .i64 (n / 1000000)) ∧ w' = w := by
  have ht := tdiv_floor n
  have hb : -1000000000001 ≤ n.tdiv 1000000 ∧ n.tdiv 1000000 ≤ 1000000000001 := by
    by_cases h : n.tmod 1000000 < 0
    · have := ht.1 h; omega
    · have := ht.2 h; omega
  obtain ⟨hb1, hb2⟩ := hb
  have Ht := Lib.hid ht
  clear ht
  by_cases h : n.tmod 1000000 < 0
  · have t_w := Below.refl w.heap.size w
    go_enter Try.func47, Try.ntmps47
    go_wp2_with fail
    go_ret
    exact ⟨ret_int (Ht.out.1 h), rfl⟩
  · have t_w := Below.refl w.heap.size w
    go_enter Try.func47, Try.ntmps47
    go_wp2_with fail
    go_ret
    exact ⟨ret_int (Ht.out.2 h), rfl⟩
def okc (o d : Int) : Bool := decide (-1000000000 ≤ o ∧ o ≤ 1000000000 ∧ -50 ≤ d ∧ d ≤ 50)
theorem okc_t {o d : Int} (h : okc o d = true) : -1000000000 ≤ o ∧ o ≤ 1000000000 ∧ -50 ≤ d ∧ d ≤ 50 := by simpa [okc] using h
set_option maxHeartbeats 2000000 in
theorem fvalid (o d : Int) (w : World) : Calls Try.prog 38 #[.agg #[.int .i64 o, .int .i64 d]] w fun e w' => e = .returned (.bool (okc o d)) ∧ w' = w.alloc (.cells #[.int .i64 o, .int .i64 d] 86) := by
  by_cases h1 : -1000000000 ≤ o
  · by_cases h2 : o ≤ 1000000000
    · by_cases h3 : -50 ≤ d
      · by_cases h4 : d ≤ 50
        all_goals
          have t_w := Below.refl w.heap.size w
          go_enter Try.func38, Try.ntmps38
          go_wp2_with fail
          go_ret
          exact ⟨ret_bool (by unfold okc; first | exact bt (by omega) | exact bf (by omega)), rfl⟩
      · have t_w := Below.refl w.heap.size w
        go_enter Try.func38, Try.ntmps38
        go_wp2_with fail
        go_ret
        exact ⟨ret_bool (by unfold okc; first | exact bt (by omega) | exact bf (by omega)), rfl⟩
    · have t_w := Below.refl w.heap.size w
      go_enter Try.func38, Try.ntmps38
      go_wp2_with fail
      go_ret
      exact ⟨ret_bool (by unfold okc; first | exact bt (by omega) | exact bf (by omega)), rfl⟩
  · have t_w := Below.refl w.heap.size w
    go_enter Try.func38, Try.ntmps38
    go_wp2_with fail
    go_ret
    exact ⟨ret_bool (by unfold okc; first | exact bt (by omega) | exact bf (by omega)), rfl⟩
set_option maxHeartbeats 2000000 in
theorem cvalid {o d : Int} {b : Bool} (hv : okc o d = b) (w : World) : Calls Try.prog 31 #[.agg #[.int .i64 o, .int .i64 d]] w fun e w' => e = .returned (.bool b) ∧ Below w.heap.size w w' := by
  subst hv
  have t_w := Below.refl w.heap.size w
  go_enter Try.func31, Try.ntmps31
  go_wp2_with fail
  refine (fvalid _ _ _).mono ?_
  rintro e w1 ⟨rfl, rfl⟩
  go_wp2_with fail
  go_ret
  exact ⟨rfl, by go_grown⟩
/-- what a clock shows -/
def sh (o d t : Int) : Int := t + o + d * t / 1000000
theorem mulb {d t : Int} (h1 : -50 ≤ d) (h2 : d ≤ 50) (h3 : 0 ≤ t) : -50 * t ≤ d * t ∧ d * t ≤ 50 * t :=
  ⟨Int.mul_le_mul_of_nonneg_right h1 h3, Int.mul_le_mul_of_nonneg_right h2 h3⟩
theorem sh_b {o d t : Int} (h : okc o d = true) (h0 : 0 ≤ t) (h1 : t ≤ 10000000000001) : -2000000000 ≤ sh o d t ∧ sh o d t ≤ 10002000000001 := by
  have := okc_t h
  have := mulb this.2.2.1 this.2.2.2 h0
  unfold sh
  omega
theorem fshows {o d t v : Int} (h : okc o d = true) (h0 : 0 ≤ t) (h1 : t ≤ 10000000000001) (hv : sh o d t = v) (w : World) : Calls Try.prog 46 #[.agg #[.int .i64 o, .int .i64 d], .int .i64 t] w fun e w' => e = .returned (.int .i64 v) ∧ Below w.heap.size w w' := by
  subst hv
  have hk := okc_t h
  obtain ⟨k1, k2, k3, k4⟩ := hk
  obtain ⟨m1, m2⟩ := mulb k3 k4 h0
  unfold sh
  have hf := floorDiv (d * t) (by omega) (by omega)
  have HF := Lib.hid hf
  have n1 : -500000001 ≤ d * t / 1000000 := by omega
  have n2 : d * t / 1000000 ≤ 500000001 := by omega
  clear h hf
  have t_w := Below.refl w.heap.size w
  go_enter Try.func46, Try.ntmps46
  go_wp2_with fail
  have s_W_1 : Below w.heap.size w (w.alloc (.cells #[.int .i64 o, .int .i64 d] 86)) := Below.alloc (Below.refl _ _) (Nat.le_refl _) _
  have k0 : (w.alloc (.cells #[.int .i64 o, .int .i64 d] 86)).cell? ⟨w.heap.size, 0, none⟩ = some (.int .i64 o) := by simp [go_sem]
  have k1 : (w.alloc (.cells #[.int .i64 o, .int .i64 d] 86)).cell? ⟨w.heap.size, 1, none⟩ = some (.int .i64 d) := by simp [go_sem]
  have t_W_1 := chain t_w s_W_1
  generalize w.alloc (.cells #[.int .i64 o, .int .i64 d] 86) = W_1 at *
  have fu_k0 := fut_cell k0
  have fu_k1 := fut_cell k1
  refine wp_region_fut (by kernel_rfl) (by kernel_rfl) ?_
  repeat (go_big_quiet_step (first
    | (go_at_call 47; with_reducible exact fut_same (HF.out _))))
  refine wpQuiet_nil ?_
  rintro w5 ⟨⟨y_w5, s_w5⟩, hw_w5⟩
  have hw_w5 : w5 = y_w5 := hw_w5
  subst hw_w5
  clear fu_k0 fu_k1
  have t_w5 := chain t_W_1 s_w5
  replace k0 := keep k0 s_w5
  replace k1 := keep k1 s_w5
  go_wp2_with fail
  go_ret
  exact ⟨rfl, by first | exact t_w5 | go_grown⟩
theorem reached {o d s t : Int} (h : okc o d = true) (h0 : 0 ≤ t) (h1 : t ≤ 10000000000001) (w : World) : Calls Try.prog 42 #[.agg #[.int .i64 o, .int .i64 d, .int .i64 s], .int .i64 t] w fun e w' => e = .returned (.bool (decide (s ≤ sh o d t))) ∧ Below w.heap.size w w' := by
  generalize hv : sh o d t = v at *
  have hf := fshows h h0 h1 hv
  have HF := Lib.hid hf
  clear hf hv h
  have t_w := Below.refl w.heap.size w
  go_enter Try.func42, Try.ntmps42
  go_wp2_with fail
  have s_W_2 : Below w.heap.size w (w.alloc (.cells #[.int .i64 o, .int .i64 d, .int .i64 s] 90)) := Below.alloc (Below.refl _ _) (Nat.le_refl _) _
  have k0 : (w.alloc (.cells #[.int .i64 o, .int .i64 d, .int .i64 s] 90)).cell? ⟨w.heap.size, 0, none⟩ = some (.int .i64 o) := by simp [go_sem]
  have k1 : (w.alloc (.cells #[.int .i64 o, .int .i64 d, .int .i64 s] 90)).cell? ⟨w.heap.size, 1, none⟩ = some (.int .i64 d) := by simp [go_sem]
  have k2 : (w.alloc (.cells #[.int .i64 o, .int .i64 d, .int .i64 s] 90)).cell? ⟨w.heap.size, 2, none⟩ = some (.int .i64 s) := by simp [go_sem]
  have t_W_2 := chain t_w s_W_2
  generalize w.alloc (.cells #[.int .i64 o, .int .i64 d, .int .i64 s] 90) = W_2 at *
  have fu_k0 := fut_cell k0
  have fu_k1 := fut_cell k1
  have fu_k2 := fut_cell k2
  refine wp_region_fut (by kernel_rfl) (by kernel_rfl) ?_
  repeat (go_big_quiet_step (first
    | (go_at_call 46; with_reducible exact fut_call (HF.out _))))
  refine wpQuiet_nil ?_
  rintro w5 ⟨⟨y_w5, s_w5⟩, hw_w5⟩
  have hw_w5 : w5 = y_w5 := hw_w5
  subst hw_w5
  clear fu_k0 fu_k1 fu_k2
  have t_w5 := chain t_W_2 s_w5
  replace k0 := keep k0 s_w5
  replace k1 := keep k1 s_w5
  replace k2 := keep k2 s_w5
  go_wp2_with fail
  go_ret
  exact ⟨rfl, by first | exact t_w5 | go_grown⟩
theorem passed {o d s t : Int} (h : okc o d = true) (h0 : 0 ≤ t) (h1 : t ≤ 10000000000001) (w : World) : Calls Try.prog 43 #[.agg #[.int .i64 o, .int .i64 d, .int .i64 s], .int .i64 t] w fun e w' => e = .returned (.bool (decide (s < sh o d t))) ∧ Below w.heap.size w w' := by
  generalize hv : sh o d t = v at *
  have hf := fshows h h0 h1 hv
  have HF := Lib.hid hf
  clear hf hv h
  have t_w := Below.refl w.heap.size w
  go_enter Try.func43, Try.ntmps43
  go_wp2_with fail
  have s_W_3 : Below w.heap.size w (w.alloc (.cells #[.int .i64 o, .int .i64 d, .int .i64 s] 90)) := Below.alloc (Below.refl _ _) (Nat.le_refl _) _
  have k0 : (w.alloc (.cells #[.int .i64 o, .int .i64 d, .int .i64 s] 90)).cell? ⟨w.heap.size, 0, none⟩ = some (.int .i64 o) := by simp [go_sem]
  have k1 : (w.alloc (.cells #[.int .i64 o, .int .i64 d, .int .i64 s] 90)).cell? ⟨w.heap.size, 1, none⟩ = some (.int .i64 d) := by simp [go_sem]
  have k2 : (w.alloc (.cells #[.int .i64 o, .int .i64 d, .int .i64 s] 90)).cell? ⟨w.heap.size, 2, none⟩ = some (.int .i64 s) := by simp [go_sem]
  have t_W_3 := chain t_w s_W_3
  generalize w.alloc (.cells #[.int .i64 o, .int .i64 d, .int .i64 s] 90) = W_3 at *
  have fu_k0 := fut_cell k0
  have fu_k1 := fut_cell k1
  have fu_k2 := fut_cell k2
  refine wp_region_fut (by kernel_rfl) (by kernel_rfl) ?_
  repeat (go_big_quiet_step (first
    | (go_at_call 46; with_reducible exact fut_call (HF.out _))))
  refine wpQuiet_nil ?_
  rintro w5 ⟨⟨y_w5, s_w5⟩, hw_w5⟩
  have hw_w5 : w5 = y_w5 := hw_w5
  subst hw_w5
  clear fu_k0 fu_k1 fu_k2
  have t_w5 := chain t_W_3 s_w5
  replace k0 := keep k0 s_w5
  replace k1 := keep k1 s_w5
  replace k2 := keep k2 s_w5
  go_wp2_with fail
  go_ret
  exact ⟨rfl, by first | exact t_w5 | go_grown⟩
def FirstAt (p : Int → Bool) (a v : Int) : Prop := a ≤ v ∧ v ≤ 10000000000001 ∧ (∀ t, a ≤ t → t < v → p t = false) ∧ (∀ t, v ≤ t → t < 10000000000001 → p t = true)
/-- the search, for the predicate that a function value computes -/
def FirstPost (p : Int → Bool) (a : Int) (W : World) (e : Ending) (w' : World) : Prop := ∃ v : Int, e = .returned (.int .i64 v) ∧ FirstAt p a v ∧ Below W.heap.size W w'
theorem firstR {r : Value} {p : Int → Bool} {a : Int} (ha : 0 ≤ a) (ha2 : a ≤ 10000000000001)
    (hg : ∀ (t : Int) (w : World), 0 ≤ t → t ≤ 10000000000001 → Calls Try.prog 42 #[r, .int .i64 t] w fun e w' => e = .returned (.bool (p t)) ∧ Below w.heap.size w w')
    (hm : ∀ t u, 0 ≤ t → t ≤ u → u ≤ 10000000000001 → p t = true → p u = true) (w : World) :
    Calls Try.prog 41 #[.int .i64 a, .int .i64 10000000000001, .func (.func 42) #[r] #[]] w (FirstPost p a w) := by
  have HG := Lib.hid hg
  have HM := Lib.hid hm
  have hW := Below.refl w.heap.size w
  clear hg hm
  go_enter Try.func41, Try.ntmps41
  go_wp2_with fail
  go_loopw [0, 1] (fun x y wr => ∃ lo hi : Int, x = .int .i64 lo ∧ y = .int .i64 hi ∧ a ≤ lo ∧ lo ≤ hi ∧ hi ≤ 10000000000001 ∧ (Hid (∀ t, a ≤ t → t < lo → p t = false)) ∧ (Hid (∀ t, hi ≤ t → t < 10000000000001 → p t = true)) ∧ Below w.heap.size w wr) (fun x y _ => (intOf y - intOf x).toNat)
  case atStart => exact ⟨a, 10000000000001, rfl, rfl, by omega, ha2, by omega, Lib.hid (fun t h1 h2 => by omega), Lib.hid (fun t h1 h2 => by omega), hW⟩
  case round =>
    obtain ⟨lo, hi, rfl, rfl, b1, b2, b3, H1, H2, hB⟩ := hrel
    by_cases hlt : lo < hi
    · have c1 : lo ≤ lo + (hi - lo) / 2 := by omega
      have c2 : lo + (hi - lo) / 2 < hi := by omega
      rcases hpm : p (lo + (hi - lo) / 2) with _ | _
      · have HP := Lib.hid hpm
        clear hpm
        go_wp2_with fail
        refine (HG.out (lo + (hi - lo) / 2) _ (by omega) (by omega)).mono ?_
        rintro e w1 ⟨rfl, h1⟩
        have hB1 := chain hB h1
        rw [HP.out]
        go_wp2_with fail
        go_roundw
        case rel => exact ⟨lo + (hi - lo) / 2 + 1, hi, rfl, rfl, by omega, by omega, b3, Lib.hid (fun t h1 h2 => by
          rcases Bool.eq_false_or_eq_true (p t) with h | h
          · have := HM.out t (lo + (hi - lo) / 2) (by omega) (by omega) (by omega) h
            rw [HP.out] at this; cases this
          · exact h), H2, hB1⟩
        case measure => simp [intOf]; omega
      · have HP := Lib.hid hpm
        clear hpm
        go_wp2_with fail
        refine (HG.out (lo + (hi - lo) / 2) _ (by omega) (by omega)).mono ?_
        rintro e w1 ⟨rfl, h1⟩
        have hB1 := chain hB h1
        rw [HP.out]
        go_wp2_with fail
        go_roundw
        case rel => exact ⟨lo, lo + (hi - lo) / 2, rfl, rfl, by omega, by omega, by omega, H1, Lib.hid (fun t h1 h2 => HM.out _ t (by omega) h1 (by omega) HP.out), hB1⟩
        case measure => simp [intOf]; omega
    · obtain rfl : lo = hi := by omega
      go_wp2_with fail
      go_ret
      exact ⟨lo, rfl, ⟨by omega, by omega, H1.out, H2.out⟩, hB⟩
theorem firstP {r : Value} {p : Int → Bool} {a : Int} (ha : 0 ≤ a) (ha2 : a ≤ 10000000000001)
    (hg : ∀ (t : Int) (w : World), 0 ≤ t → t ≤ 10000000000001 → Calls Try.prog 43 #[r, .int .i64 t] w fun e w' => e = .returned (.bool (p t)) ∧ Below w.heap.size w w')
    (hm : ∀ t u, 0 ≤ t → t ≤ u → u ≤ 10000000000001 → p t = true → p u = true) (w : World) :
    Calls Try.prog 41 #[.int .i64 a, .int .i64 10000000000001, .func (.func 43) #[r] #[]] w (FirstPost p a w) := by
  have HG := Lib.hid hg
  have HM := Lib.hid hm
  have hW := Below.refl w.heap.size w
  clear hg hm
  go_enter Try.func41, Try.ntmps41
  go_wp2_with fail
  go_loopw [0, 1] (fun x y wr => ∃ lo hi : Int, x = .int .i64 lo ∧ y = .int .i64 hi ∧ a ≤ lo ∧ lo ≤ hi ∧ hi ≤ 10000000000001 ∧ (Hid (∀ t, a ≤ t → t < lo → p t = false)) ∧ (Hid (∀ t, hi ≤ t → t < 10000000000001 → p t = true)) ∧ Below w.heap.size w wr) (fun x y _ => (intOf y - intOf x).toNat)
  case atStart => exact ⟨a, 10000000000001, rfl, rfl, by omega, ha2, by omega, Lib.hid (fun t h1 h2 => by omega), Lib.hid (fun t h1 h2 => by omega), hW⟩
  case round =>
    obtain ⟨lo, hi, rfl, rfl, b1, b2, b3, H1, H2, hB⟩ := hrel
    by_cases hlt : lo < hi
    · have c1 : lo ≤ lo + (hi - lo) / 2 := by omega
      have c2 : lo + (hi - lo) / 2 < hi := by omega
      rcases hpm : p (lo + (hi - lo) / 2) with _ | _
      · have HP := Lib.hid hpm
        clear hpm
        go_wp2_with fail
        refine (HG.out (lo + (hi - lo) / 2) _ (by omega) (by omega)).mono ?_
        rintro e w1 ⟨rfl, h1⟩
        have hB1 := chain hB h1
        rw [HP.out]
        go_wp2_with fail
        go_roundw
        case rel => exact ⟨lo + (hi - lo) / 2 + 1, hi, rfl, rfl, by omega, by omega, b3, Lib.hid (fun t h1 h2 => by
          rcases Bool.eq_false_or_eq_true (p t) with h | h
          · have := HM.out t (lo + (hi - lo) / 2) (by omega) (by omega) (by omega) h
            rw [HP.out] at this; cases this
          · exact h), H2, hB1⟩
        case measure => simp [intOf]; omega
      · have HP := Lib.hid hpm
        clear hpm
        go_wp2_with fail
        refine (HG.out (lo + (hi - lo) / 2) _ (by omega) (by omega)).mono ?_
        rintro e w1 ⟨rfl, h1⟩
        have hB1 := chain hB h1
        rw [HP.out]
        go_wp2_with fail
        go_roundw
        case rel => exact ⟨lo, lo + (hi - lo) / 2, rfl, rfl, by omega, by omega, by omega, H1, Lib.hid (fun t h1 h2 => HM.out _ t (by omega) h1 (by omega) HP.out), hB1⟩
        case measure => simp [intOf]; omega
    · obtain rfl : lo = hi := by omega
      go_wp2_with fail
      go_ret
      exact ⟨lo, rfl, ⟨by omega, by omega, H1.out, H2.out⟩, hB⟩
end Go.Proofs.Ytgjonanjfcngaaa
