/- Contracts of package clock: Show. -/
import Derived.Test.YtkmkfjaokjcelaaKit
namespace Go.Proofs.Ytkmkfjaokjcelaa
open Go.ChangeShapes Go.WideShapes Go.ChangeAt Go.RowKit
theorem tdiv_floor (n : Int) : (n.tmod 1000000 < 0 → n.tdiv 1000000 - 1 = n / 1000000) ∧ (¬ n.tmod 1000000 < 0 → n.tdiv 1000000 = n / 1000000) := by
  rcases Int.le_total 0 n with h | h
  · have e : n.tdiv 1000000 = n / 1000000 := Int.tdiv_eq_ediv_of_nonneg h
    have e2 : n.tmod 1000000 = n % 1000000 := Int.tmod_eq_emod_of_nonneg h
    rw [e, e2]; omega
  · obtain ⟨m, rfl⟩ : ∃ m, n = -m := ⟨-n, by omega⟩
    have e : (-m).tdiv 1000000 = -(m / 1000000) := by rw [Int.neg_tdiv, Int.tdiv_eq_ediv_of_nonneg (by omega)]
    have e2 : (-m).tmod 1000000 = -(m % 1000000) := by rw [Int.neg_tmod, Int.tmod_eq_emod_of_nonneg (by omega)]
    rw [e, e2]; omega
theorem floorDiv (n : Int) (h1 : -1000000000000000000 ≤ n) (h2 : n ≤ 1000000000000000000) (w : World) : Calls Try.prog 36 #[.int .i64 n, .int .i64 1000000] w fun e w' => e = .returned (.int .i64 (n / 1000000)) ∧ w' = w := by
  have ht := tdiv_floor n
  have hb : -1000000000001 ≤ n.tdiv 1000000 ∧ n.tdiv 1000000 ≤ 1000000000001 := by
    by_cases h : n.tmod 1000000 < 0
    · have := ht.1 h; omega
    · have := ht.2 h; omega
  obtain ⟨hb1, hb2⟩ := hb
  have Ht := Lib.hid ht
  clear ht
  by_cases h : n.tmod 1000000 < 0
  · have t_w := Below.refl w.heap.size w
    go_enter Try.func36, Try.ntmps36
    go_wp2_with fail
    go_ret
    exact ⟨ret_int (Ht.out.1 h), rfl⟩
  · have t_w := Below.refl w.heap.size w
    go_enter Try.func36, Try.ntmps36
    go_wp2_with fail
    go_ret
    exact ⟨ret_int (Ht.out.2 h), rfl⟩
def okc (o d : Int) : Bool := decide (-1000000000 ≤ o ∧ o ≤ 1000000000 ∧ -50 ≤ d ∧ d ≤ 50)
theorem okc_t {o d : Int} (h : okc o d = true) : -1000000000 ≤ o ∧ o ≤ 1000000000 ∧ -50 ≤ d ∧ d ≤ 50 := by simpa [okc] using h
set_option maxHeartbeats 2000000 in
theorem fvalid (o d : Int) (w : World) : Calls Try.prog 34 #[.agg #[.int .i64 o, .int .i64 d]] w fun e w' => e = .returned (.bool (okc o d)) ∧ w' = w.alloc (.cells #[.int .i64 o, .int .i64 d] 60) := by
  by_cases h1 : -1000000000 ≤ o
  · by_cases h2 : o ≤ 1000000000
    · by_cases h3 : -50 ≤ d
      · by_cases h4 : d ≤ 50
        all_goals
          have t_w := Below.refl w.heap.size w
          go_enter Try.func34, Try.ntmps34
          go_wp2_with fail
          go_ret
          exact ⟨ret_bool (by unfold okc; first | exact bt (by omega) | exact bf (by omega)), rfl⟩
      · have t_w := Below.refl w.heap.size w
        go_enter Try.func34, Try.ntmps34
        go_wp2_with fail
        go_ret
        exact ⟨ret_bool (by unfold okc; first | exact bt (by omega) | exact bf (by omega)), rfl⟩
    · have t_w := Below.refl w.heap.size w
      go_enter Try.func34, Try.ntmps34
      go_wp2_with fail
      go_ret
      exact ⟨ret_bool (by unfold okc; first | exact bt (by omega) | exact bf (by omega)), rfl⟩
  · have t_w := Below.refl w.heap.size w
    go_enter Try.func34, Try.ntmps34
    go_wp2_with fail
    go_ret
    exact ⟨ret_bool (by unfold okc; first | exact bt (by omega) | exact bf (by omega)), rfl⟩
/-- what a clock shows -/
def sh (o d t : Int) : Int := t + o + d * t / 1000000
theorem mulb {d t : Int} (h1 : -50 ≤ d) (h2 : d ≤ 50) (h3 : 0 ≤ t) : -50 * t ≤ d * t ∧ d * t ≤ 50 * t :=
  ⟨Int.mul_le_mul_of_nonneg_right h1 h3, Int.mul_le_mul_of_nonneg_right h2 h3⟩
theorem sh_b {o d t : Int} (h : okc o d = true) (h0 : 0 ≤ t) (h1 : t ≤ 10000000000001) : -2000000000 ≤ sh o d t ∧ sh o d t ≤ 10002000000001 := by
  have := okc_t h
  have := mulb this.2.2.1 this.2.2.2 h0
  unfold sh
  omega
theorem fshows {o d t v : Int} (h : okc o d = true) (h0 : 0 ≤ t) (h1 : t ≤ 10000000000001) (hv : sh o d t = v) (w : World) : Calls Try.prog 35 #[.agg #[.int .i64 o, .int .i64 d], .int .i64 t] w fun e w' => e = .returned (.int .i64 v) ∧ Below w.heap.size w w' := by
  subst hv
  have hk := okc_t h
  obtain ⟨k1, k2, k3, k4⟩ := hk
  obtain ⟨m1, m2⟩ := mulb k3 k4 h0
  unfold sh
  have hf := floorDiv (d * t) (by omega) (by omega)
  have HF := Lib.hid hf
  have n1 : -500000001 ≤ d * t / 1000000 := by omega
  have n2 : d * t / 1000000 ≤ 500000001 := by omega
  clear h hf
  have t_w := Below.refl w.heap.size w
  go_enter Try.func35, Try.ntmps35
  go_wp2_with fail
  have s_W_1 : Below w.heap.size w (w.alloc (.cells #[.int .i64 o, .int .i64 d] 60)) := Below.alloc (Below.refl _ _) (Nat.le_refl _) _
  have k0 : (w.alloc (.cells #[.int .i64 o, .int .i64 d] 60)).cell? ⟨w.heap.size, 0, none⟩ = some (.int .i64 o) := by simp [go_sem]
  have k1 : (w.alloc (.cells #[.int .i64 o, .int .i64 d] 60)).cell? ⟨w.heap.size, 1, none⟩ = some (.int .i64 d) := by simp [go_sem]
  have t_W_1 := chain t_w s_W_1
  generalize w.alloc (.cells #[.int .i64 o, .int .i64 d] 60) = W_1 at *
  have fu_k0 := fut_cell k0
  have fu_k1 := fut_cell k1
  refine wp_region_fut (by kernel_rfl) (by kernel_rfl) ?_
  repeat (go_big_quiet_step (first
    | (go_at_call 36; with_reducible exact fut_same (HF.out _))))
  refine wpQuiet_nil ?_
  rintro _ ⟨⟨w5, s_w5⟩, rfl⟩
  clear fu_k0 fu_k1
  have t_w5 := chain t_W_1 s_w5
  replace k0 := keep k0 s_w5
  replace k1 := keep k1 s_w5
  go_wp2_with fail
  go_ret
  exact ⟨rfl, by first | exact t_w5 | go_grown⟩
def shOk (o d t : Int) : Bool := okc o d && decide (0 ≤ t ∧ t ≤ 10000000000000)
def shV (o d t : Int) : Int := if shOk o d t = true then sh o d t else 0
def shE (o d t : Int) : Int := if shOk o d t = true then 0 else 1
theorem shOk_t {o d t : Int} (h : shOk o d t = true) : okc o d = true ∧ 0 ≤ t ∧ t ≤ 10000000000000 := by simpa [shOk] using h
theorem showV {o d t v er : Int} (hv : shV o d t = v) (he : shE o d t = er) (w : World) : Calls Try.prog 24 #[.agg #[.int .i64 o, .int .i64 d], .int .i64 t] w fun e w' => e = .returned (.tuple #[.int .i64 v, .int .i64 er]) ∧ Below w.heap.size w w' := by
  subst hv he
  rcases hok : okc o d with _ | _
  · have h1 : shV o d t = 0 := by simp [shV, shOk, hok]
    have h2 : shE o d t = 1 := by simp [shE, shOk, hok]
    rw [h1, h2]
    have H := Lib.hid hok
    clear hok h1 h2
    have t_w := Below.refl w.heap.size w
    go_enter Try.func24, Try.ntmps24
    go_wp2_with fail
    refine (fvalid _ _ _).mono ?_
    rintro e w1 ⟨rfl, rfl⟩
    rw [H.out]
    go_wp2_with fail
    go_ret2
    exact ⟨rfl, by go_grown⟩
  · by_cases ht : 0 ≤ t ∧ t ≤ 10000000000000
    · have h1 : shV o d t = sh o d t := by simp [shV, shOk, hok, ht]
      have h2 : shE o d t = 0 := by simp [shE, shOk, hok, ht]
      rw [h1, h2]
      obtain ⟨t0, t1⟩ := ht
      have H := Lib.hid hok
      generalize hx : sh o d t = x
      have HX := Lib.hid hx
      clear hok h1 h2 hx
      have t_w := Below.refl w.heap.size w
      go_enter Try.func24, Try.ntmps24
      go_wp2_with fail
      refine (fvalid _ _ _).mono ?_
      rintro e w1 ⟨rfl, rfl⟩
      rw [H.out]
      go_wp2_with fail
      refine (fshows H.out t0 (by omega) HX.out _).mono ?_
      rintro e w2 ⟨rfl, h2⟩
      go_wp2_with fail
      go_ret2
      exact ⟨rfl, chain (by go_grown) h2⟩
    · have hf : shOk o d t = false := by unfold shOk; rw [hok, Bool.true_and, decide_eq_false_iff_not]; exact ht
      have h1 : shV o d t = 0 := by simp [shV, hf]
      have h2 : shE o d t = 1 := by simp [shE, hf]
      rw [h1, h2]
      have H := Lib.hid hok
      clear hok h1 h2
      by_cases t0 : 0 ≤ t
      · have t1 : 10000000000000 < t := by omega
        clear ht
        have t_w := Below.refl w.heap.size w
        go_enter Try.func24, Try.ntmps24
        go_wp2_with fail
        refine (fvalid _ _ _).mono ?_
        rintro e w1 ⟨rfl, rfl⟩
        rw [H.out]
        go_wp2_with fail
        go_ret2
        exact ⟨rfl, by go_grown⟩
      · clear ht
        have t_w := Below.refl w.heap.size w
        go_enter Try.func24, Try.ntmps24
        go_wp2_with fail
        refine (fvalid _ _ _).mono ?_
        rintro e w1 ⟨rfl, rfl⟩
        rw [H.out]
        go_wp2_with fail
        go_ret2
        exact ⟨rfl, by go_grown⟩
theorem sh_mono {o d t u : Int} (h : okc o d = true) (h1 : t ≤ u) : sh o d t ≤ sh o d u := by
  have hk := okc_t h
  have := mulb hk.2.2.1 hk.2.2.2 (show 0 ≤ u - t by omega)
  have e := Int.mul_sub d u t
  unfold sh
  omega
theorem sh_step {o d t u : Int} (h : okc o d = true) (h1 : t ≤ u) : -50 * (u - t) ≤ d * u - d * t ∧ d * u - d * t ≤ 50 * (u - t) := by
  have hk := okc_t h
  have := mulb hk.2.2.1 hk.2.2.2 (show 0 ≤ u - t by omega)
  have e := Int.mul_sub d u t
  omega
end Go.Proofs.Ytkmkfjaokjcelaa
