/- Contracts of package keyring and its reference. -/
import Derived.Test.YtabfmhkmofebnaaKit2
namespace Go.Proofs.Ytabfmhkmofebnaa
open Go.ChangeShapes Go.WideShapes Go.ChangeAt Go.RowKit
theorem dt {p : Prop} [Decidable p] {v : Bool} (h : Hid (decide p = v)) (hp : p) : true = v := by rw [← h.out]; simp [hp]
theorem df {p : Prop} [Decidable p] {v : Bool} (h : Hid (decide p = v)) (hp : ¬ p) : false = v := by rw [← h.out]; simp [hp]
theorem within1 {lo hi n : Int} {v : Bool} (hv : decide (lo ≤ n ∧ n ≤ hi) = v) (b : Nat) (w : World) (hc : w.cell? ⟨b, 0, none⟩ = some (.int .i64 n)) :
    Calls Try.prog 25 #[.int .i64 lo, .int .i64 hi, .slice (some ⟨b, 0, none⟩) 1 1] w fun e w' => e = .returned (.bool v) ∧ w' = w := by
  have HV := Lib.hid hv; clear hv
  by_cases h1 : lo ≤ n
  · have d1 : decide (n < lo) = false := by simp; omega
    by_cases h2 : n ≤ hi
    · have d2 : decide (hi < n) = false := by simp; omega
      go_enter Try.func25, Try.ntmps25
      go_wp2_with fail
      go_loop [11] (fun i => ∃ k : Nat, k ≤ 1 ∧ (k = 1 → lo ≤ n ∧ n ≤ hi) ∧ i = .int .i64 k) (fun i => 1 - (intOf i).toNat)
      case atStart => exact ⟨0, by omega, by omega, rfl⟩
      case round =>
        obtain ⟨k, hk, hk1, rfl⟩ := hrel
        rcases (by omega : k = 0 ∨ k = 1) with rfl | rfl
        · go_wp2_with fail
          all_goals first | exact ⟨⟨1, by omega, by omega, rfl⟩, by simp [intOf]⟩ | (go_ret; exact ⟨ret_bool (by first | exact dt HV (by omega) | exact df HV (by omega)), rfl⟩)
        · have hk2 := hk1 rfl
          clear hk1
          first
            | (exfalso; omega)
            | (go_wp2_with fail
               go_ret
               exact ⟨ret_bool (dt HV (by omega)), rfl⟩)
    · have d2 : decide (hi < n) = true := by simp; omega
      go_enter Try.func25, Try.ntmps25
      go_wp2_with fail
      go_loop [11] (fun i => ∃ k : Nat, k ≤ 1 ∧ (k = 1 → lo ≤ n ∧ n ≤ hi) ∧ i = .int .i64 k) (fun i => 1 - (intOf i).toNat)
      case atStart => exact ⟨0, by omega, by omega, rfl⟩
      case round =>
        obtain ⟨k, hk, hk1, rfl⟩ := hrel
        rcases (by omega : k = 0 ∨ k = 1) with rfl | rfl
        · go_wp2_with fail
          all_goals first | exact ⟨⟨1, by omega, by omega, rfl⟩, by simp [intOf]⟩ | (go_ret; exact ⟨ret_bool (by first | exact dt HV (by omega) | exact df HV (by omega)), rfl⟩)
        · have hk2 := hk1 rfl
          clear hk1
          first
            | (exfalso; omega)
            | (go_wp2_with fail
               go_ret
               exact ⟨ret_bool (dt HV (by omega)), rfl⟩)
  · have d1 : decide (n < lo) = true := by simp; omega
    go_enter Try.func25, Try.ntmps25
    go_wp2_with fail
    go_loop [11] (fun i => ∃ k : Nat, k ≤ 1 ∧ (k = 1 → lo ≤ n ∧ n ≤ hi) ∧ i = .int .i64 k) (fun i => 1 - (intOf i).toNat)
    case atStart => exact ⟨0, by omega, by omega, rfl⟩
    case round =>
      obtain ⟨k, hk, hk1, rfl⟩ := hrel
      rcases (by omega : k = 0 ∨ k = 1) with rfl | rfl
      · go_wp2_with fail
        all_goals first | exact ⟨⟨1, by omega, by omega, rfl⟩, by simp [intOf]⟩ | (go_ret; exact ⟨ret_bool (by first | exact dt HV (by omega) | exact df HV (by omega)), rfl⟩)
      · have hk2 := hk1 rfl
        clear hk1
        first
          | (exfalso; omega)
          | (go_wp2_with fail
             go_ret
             exact ⟨ret_bool (dt HV (by omega)), rfl⟩)
/-- what a valid ring is -/
def okr (f n : Int) : Bool := decide ((f = 0 ∧ n = 0) ∨ (0 ≤ f ∧ f ≤ 500000 ∧ f + 1 ≤ n ∧ n ≤ 500002))
theorem empty {f n : Int} {v : Bool} (hv : decide (f = 0 ∧ n = 0) = v) (w : World) : Calls Try.prog 32 #[.agg #[.int .i64 f, .int .i64 n]] w fun e w' => e = .returned (.bool v) ∧ Below w.heap.size w w' := by
  have HV := Lib.hid hv; clear hv
  by_cases h1 : f = 0
  · subst h1
    by_cases h2 : n = 0
    · subst h2
      obtain rfl : true = v := by rw [← HV.out]; simp
      clear HV
      have t_w := Below.refl w.heap.size w
      go_enter Try.func32, Try.ntmps32
      go_wp2_with fail
      go_ret
      exact ⟨rfl, by go_grown⟩
    · obtain rfl : false = v := by rw [← HV.out]; simp [h2]
      clear HV
      have d2 : (n == 0) = false := by simp [h2]
      have t_w := Below.refl w.heap.size w
      go_enter Try.func32, Try.ntmps32
      go_wp2_with fail
      go_ret
      exact ⟨rfl, by go_grown⟩
  · have d1 : (f == 0) = false := by simp [h1]
    have t_w := Below.refl w.heap.size w
    go_enter Try.func32, Try.ntmps32
    go_wp2_with fail
    go_ret
    exact ⟨ret_bool (df HV (by omega)), by go_grown⟩
theorem svalid {f n : Int} {v : Bool} (hv : okr f n = v) (w : World) : Calls Try.prog 30 #[.agg #[.int .i64 f, .int .i64 n]] w fun e w' => e = .returned (.bool v) ∧ Below w.heap.size w w' := by
  rcases he : decide (f = 0 ∧ n = 0) with _ | _
  · have h0 : ¬ (f = 0 ∧ n = 0) := by simpa using he
    have HE := Lib.hid he; clear he
    rcases hw : decide (0 ≤ f ∧ f ≤ 500000) with _ | _
    · obtain rfl : false = v := by rw [← hv]; unfold okr; simp at hw ⊢; omega
      have HW := Lib.hid hw; clear hw hv h0
      have t_w := Below.refl w.heap.size w
      go_enter Try.func30, Try.ntmps30
      go_wp2_with fail
      refine (empty HE.out _).mono ?_
      rintro e x1 ⟨rfl, g_x1⟩
      have s_x1 : Below w.heap.size w x1 := chain (by go_grown) g_x1
      have t_x1 := chain t_w s_x1
      have k0 : x1.cell? ⟨w.heap.size, 0, none⟩ = some (.int .i64 f) := ((bcell g_x1).1 _ _ (by simp; try omega)).trans (by simp [go_sem])
      have k1 : x1.cell? ⟨w.heap.size, 1, none⟩ = some (.int .i64 n) := ((bcell g_x1).1 _ _ (by simp; try omega)).trans (by simp [go_sem])
      have z_k_x1 := lt_of k0
      clear g_x1 s_x1 t_w
      go_wp2_with fail
      refine (within1 HW.out _ _ (by simp [go_sem])).mono ?_
      rintro e w_8 ⟨rfl, hw⟩; obtain rfl := hw.symm
      clear hw
      go_wp2_with fail
      go_ret
      exact ⟨rfl, by first | exact t_x1 | go_grown⟩
    · have hw' : 0 ≤ f ∧ f ≤ 500000 := by simpa using hw
      obtain ⟨f0, f1⟩ := hw'
      have hv' : decide (f + 1 ≤ n ∧ n ≤ 500002) = v := by rw [← hv]; unfold okr; rw [decide_eq_decide]; omega
      have HW := Lib.hid hw; have HV := Lib.hid hv'; clear hw hv h0 hv'
      have t_w := Below.refl w.heap.size w
      go_enter Try.func30, Try.ntmps30
      go_wp2_with fail
      refine (empty HE.out _).mono ?_
      rintro e x1 ⟨rfl, g_x1⟩
      have s_x1 : Below w.heap.size w x1 := chain (by go_grown) g_x1
      have t_x1 := chain t_w s_x1
      have k0 : x1.cell? ⟨w.heap.size, 0, none⟩ = some (.int .i64 f) := ((bcell g_x1).1 _ _ (by simp; try omega)).trans (by simp [go_sem])
      have k1 : x1.cell? ⟨w.heap.size, 1, none⟩ = some (.int .i64 n) := ((bcell g_x1).1 _ _ (by simp; try omega)).trans (by simp [go_sem])
      have z_k_x1 := lt_of k0
      clear g_x1 s_x1 t_w
      go_wp2_with fail
      refine (within1 HW.out _ _ (by simp [go_sem])).mono ?_
      rintro e w_14 ⟨rfl, hw⟩; obtain rfl := hw.symm
      clear hw
      go_wp2_with fail
      refine (within1 HV.out _ _ (by simp [go_sem])).mono ?_
      rintro e w_16 ⟨rfl, hw⟩; obtain rfl := hw.symm
      clear hw
      go_wp2_with fail
      go_ret
      exact ⟨rfl, by first | exact t_x1 | go_grown⟩
  · have h0 : f = 0 ∧ n = 0 := by simpa using he
    have HE := Lib.hid he; clear he
    obtain ⟨rfl, rfl⟩ := h0
    obtain rfl : true = v := by rw [← hv]; decide
    clear HE hv
    have t_w := Below.refl w.heap.size w
    go_enter Try.func30, Try.ntmps30
    go_wp2_with fail
    refine (empty (v := true) (by decide) _).mono ?_
    rintro e x1 ⟨rfl, g_x1⟩
    have s_x1 : Below w.heap.size w x1 := chain (by go_grown) g_x1
    have t_x1 := chain t_w s_x1
    have k0 : x1.cell? ⟨w.heap.size, 0, none⟩ = some (.int .i64 0) := ((bcell g_x1).1 _ _ (by simp; try omega)).trans (by simp [go_sem])
    have k1 : x1.cell? ⟨w.heap.size, 1, none⟩ = some (.int .i64 0) := ((bcell g_x1).1 _ _ (by simp; try omega)).trans (by simp [go_sem])
    have z_k_x1 := lt_of k0
    clear g_x1 s_x1 t_w
    go_wp2_with fail
    go_ret
    exact ⟨rfl, by first | exact t_x1 | go_grown⟩
/-- what a ring knows -/
def knb (f n e : Int) : Bool := okr f n && decide (f ≤ e ∧ e < n)
theorem has {f n e : Int} {v : Bool} (hv : knb f n e = v) (w : World) : Calls Try.prog 27 #[.agg #[.int .i64 f, .int .i64 n], .int .i64 e] w fun e w' => e = .returned (.bool v) ∧ Below w.heap.size w w' := by
  rcases ho : okr f n with _ | _
  · obtain rfl : false = v := by rw [← hv]; simp [knb, ho]
    have HO := Lib.hid ho; clear ho hv
    have t_w := Below.refl w.heap.size w
    go_enter Try.func27, Try.ntmps27
    go_wp2_with fail
    refine (svalid HO.out _).mono ?_
    rintro e x1 ⟨rfl, g_x1⟩
    have s_x1 : Below w.heap.size w x1 := chain (by go_grown) g_x1
    have t_x1 := chain t_w s_x1
    have k0 : x1.cell? ⟨w.heap.size, 0, none⟩ = some (.int .i64 f) := ((bcell g_x1).1 _ _ (by simp; try omega)).trans (by simp [go_sem])
    have k1 : x1.cell? ⟨w.heap.size, 1, none⟩ = some (.int .i64 n) := ((bcell g_x1).1 _ _ (by simp; try omega)).trans (by simp [go_sem])
    have z_k_x1 := lt_of k0
    clear g_x1 s_x1 t_w
    go_wp2_with fail
    go_ret
    exact ⟨rfl, by first | exact t_x1 | go_grown⟩
  · have hv' : decide (f ≤ e ∧ e < n) = v := by rw [← hv]; simp [knb, ho]
    have HO := Lib.hid ho; have HV := Lib.hid hv'; clear ho hv hv'
    by_cases h1 : f ≤ e
    · have d1 : decide (f ≤ e) = true := by simp [h1]
      by_cases h2 : e < n
      · have d2 : decide (e < n) = true := by simp [h2]
        obtain rfl : true = v := by rw [← HV.out]; simp [h1, h2]
        clear HV
        have t_w := Below.refl w.heap.size w
        go_enter Try.func27, Try.ntmps27
        go_wp2_with fail
        refine (svalid HO.out _).mono ?_
        rintro e x1 ⟨rfl, g_x1⟩
        have s_x1 : Below w.heap.size w x1 := chain (by go_grown) g_x1
        have t_x1 := chain t_w s_x1
        have k0 : x1.cell? ⟨w.heap.size, 0, none⟩ = some (.int .i64 f) := ((bcell g_x1).1 _ _ (by simp; try omega)).trans (by simp [go_sem])
        have k1 : x1.cell? ⟨w.heap.size, 1, none⟩ = some (.int .i64 n) := ((bcell g_x1).1 _ _ (by simp; try omega)).trans (by simp [go_sem])
        have z_k_x1 := lt_of k0
        clear g_x1 s_x1 t_w
        go_wp2_with fail
        go_ret
        exact ⟨rfl, by first | exact t_x1 | go_grown⟩
      · have d2 : decide (e < n) = false := by simp; omega
        obtain rfl : false = v := by rw [← HV.out]; simp [h2]
        clear HV
        have t_w := Below.refl w.heap.size w
        go_enter Try.func27, Try.ntmps27
        go_wp2_with fail
        refine (svalid HO.out _).mono ?_
        rintro e x1 ⟨rfl, g_x1⟩
        have s_x1 : Below w.heap.size w x1 := chain (by go_grown) g_x1
        have t_x1 := chain t_w s_x1
        have k0 : x1.cell? ⟨w.heap.size, 0, none⟩ = some (.int .i64 f) := ((bcell g_x1).1 _ _ (by simp; try omega)).trans (by simp [go_sem])
        have k1 : x1.cell? ⟨w.heap.size, 1, none⟩ = some (.int .i64 n) := ((bcell g_x1).1 _ _ (by simp; try omega)).trans (by simp [go_sem])
        have z_k_x1 := lt_of k0
        clear g_x1 s_x1 t_w
        go_wp2_with fail
        go_ret
        exact ⟨rfl, by first | exact t_x1 | go_grown⟩
    · obtain rfl : false = v := by rw [← HV.out]; simp [h1]
      have d1 : decide (f ≤ e) = false := by simp [h1]
      clear HV
      have t_w := Below.refl w.heap.size w
      go_enter Try.func27, Try.ntmps27
      go_wp2_with fail
      refine (svalid HO.out _).mono ?_
      rintro e x1 ⟨rfl, g_x1⟩
      have s_x1 : Below w.heap.size w x1 := chain (by go_grown) g_x1
      have t_x1 := chain t_w s_x1
      have k0 : x1.cell? ⟨w.heap.size, 0, none⟩ = some (.int .i64 f) := ((bcell g_x1).1 _ _ (by simp; try omega)).trans (by simp [go_sem])
      have k1 : x1.cell? ⟨w.heap.size, 1, none⟩ = some (.int .i64 n) := ((bcell g_x1).1 _ _ (by simp; try omega)).trans (by simp [go_sem])
      have z_k_x1 := lt_of k0
      clear g_x1 s_x1 t_w
      go_wp2_with fail
      go_ret
      exact ⟨rfl, by first | exact t_x1 | go_grown⟩
theorem knows {f n e : Int} {v : Bool} (hv : knb f n e = v) (w : World) : Calls Try.prog 13 #[.agg #[.int .i64 f, .int .i64 n], .int .i64 e] w fun e w' => e = .returned (.bool v) ∧ Below w.heap.size w w' := by
  have HV := Lib.hid hv; clear hv
  have t_w := Below.refl w.heap.size w
  go_enter Try.func13, Try.ntmps13
  go_wp2_with fail
  refine (has HV.out _).mono ?_
  rintro e x1 ⟨rfl, g_x1⟩
  have s_x1 : Below w.heap.size w x1 := chain (by go_grown) g_x1
  have t_x1 := chain t_w s_x1
  have k0 : x1.cell? ⟨w.heap.size, 0, none⟩ = some (.int .i64 f) := ((bcell g_x1).1 _ _ (by simp; try omega)).trans (by simp [go_sem])
  have k1 : x1.cell? ⟨w.heap.size, 1, none⟩ = some (.int .i64 n) := ((bcell g_x1).1 _ _ (by simp; try omega)).trans (by simp [go_sem])
  have z_k_x1 := lt_of k0
  clear g_x1 s_x1 t_w
  go_wp2_with fail
  go_ret
  exact ⟨rfl, by first | exact t_x1 | go_grown⟩
theorem joined {f n g m lo hi : Int} (hl : (if g < f then g else f) = lo) (hh : (if n < m then m else n) = hi) (w : World) :
    Calls Try.prog 29 #[.agg #[.int .i64 f, .int .i64 n], .agg #[.int .i64 g, .int .i64 m]] w fun e w' => e = .returned (.agg #[.int .i64 lo, .int .i64 hi]) ∧ Below w.heap.size w w' := by
  have t_w := Below.refl w.heap.size w
  go_enter Try.func29, Try.ntmps29
  go_wp2_with fail
  refine bodyPost_ret (v := .agg #[.int .i64 lo, .int .i64 hi]) (by simp [results, Try.results29, go_sem, *]) rfl ⟨rfl, by first | exact t_w | go_grown⟩
theorem from0 {f n e : Int} (h : n ≤ e) (w : World) : Calls Try.prog 31 #[.agg #[.int .i64 f, .int .i64 n], .int .i64 e] w fun e w' => e = .returned (.agg #[.int .i64 0, .int .i64 0]) ∧ Below w.heap.size w w' := by
  have t_w := Below.refl w.heap.size w
  go_enter Try.func31, Try.ntmps31
  go_wp2_with fail
  refine bodyPost_ret (v := .agg #[.int .i64 0, .int .i64 0]) (by simp [results, Try.results31, go_sem, *]) rfl ⟨rfl, by first | exact t_w | go_grown⟩
theorem from1 {f n e lo : Int} (h : e < n) (hl : (if f < e then e else f) = lo) (w : World) : Calls Try.prog 31 #[.agg #[.int .i64 f, .int .i64 n], .int .i64 e] w fun e w' => e = .returned (.agg #[.int .i64 lo, .int .i64 n]) ∧ Below w.heap.size w w' := by
  have t_w := Below.refl w.heap.size w
  go_enter Try.func31, Try.ntmps31
  go_wp2_with fail
  refine bodyPost_ret (v := .agg #[.int .i64 lo, .int .i64 n]) (by simp [results, Try.results31, go_sem, *]) rfl ⟨rfl, by first | exact t_w | go_grown⟩
def oka (a : Int) : Bool := decide (0 ≤ a ∧ a ≤ 1000000000)
theorem oka_t {a : Int} (h : oka a = true) : 0 ≤ a ∧ a ≤ 1000000000 := by simpa [oka] using h
theorem epoch1 {a q : Int} (h : oka a = true) (hq : a / 2000 = q) (w : World) : Calls Try.prog 11 #[.int .i64 a] w fun e w' => e = .returned (.tuple #[.int .i64 q, .int .i64 0]) ∧ Below w.heap.size w w' := by
  obtain ⟨h0, h1⟩ := oka_t h
  have hw : decide (0 ≤ a ∧ a ≤ 1000000000) = true := h
  have HQ := Lib.hid hq; have HW := Lib.hid hw; clear hq h hw
  have t_w := Below.refl w.heap.size w
  go_enter Try.func11, Try.ntmps11
  go_wp2_with fail
  refine (within1 HW.out _ _ (by simp [go_sem])).mono ?_
  rintro e w_50 ⟨rfl, hw⟩; obtain rfl := hw.symm
  clear hw
  go_wp2_with fail
  go_ret2
  exact ⟨by rw [HQ.out]; rfl, by go_grown⟩
theorem epoch0 {a : Int} (h : oka a = false) (w : World) : Calls Try.prog 11 #[.int .i64 a] w fun e w' => e = .returned (.tuple #[.int .i64 0, .int .i64 1]) ∧ Below w.heap.size w w' := by
  have hw : decide (0 ≤ a ∧ a ≤ 1000000000) = false := h
  have HW := Lib.hid hw; clear h hw
  have t_w := Below.refl w.heap.size w
  go_enter Try.func11, Try.ntmps11
  go_wp2_with fail
  refine (within1 HW.out _ _ (by simp [go_sem])).mono ?_
  rintro e w_53 ⟨rfl, hw⟩; obtain rfl := hw.symm
  clear hw
  go_wp2_with fail
  go_ret2
  exact ⟨rfl, by go_grown⟩
end Go.Proofs.Ytabfmhkmofebnaa
