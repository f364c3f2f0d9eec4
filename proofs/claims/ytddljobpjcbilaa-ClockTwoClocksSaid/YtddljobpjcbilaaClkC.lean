/- Contracts of the reference of clock, and of the laws' helpers. -/
import Derived.Test.YtddljobpjcbilaaClkB
namespace Go.Proofs.Ytddljobpjcbilaa
open Go.ChangeShapes Go.WideShapes Go.ChangeAt Go.RowKit
theorem rdown (n : Int) (h1 : -1000000000000000000 ≤ n) (h2 : n ≤ 1000000000000000000) (w : World) : Calls Try.prog 58 #[.int .i64 n] w fun e w' => e = .returned (.int .i64 (n / 1000000)) ∧ w' = w := by
  by_cases h : 0 ≤ n
  · have t_w := Below.refl w.heap.size w
    go_enter Try.func58, Try.ntmps58
    go_wp2_with fail
    go_ret
    exact ⟨rfl, rfl⟩
  · have e : -((-n + 999999) / 1000000) = n / 1000000 := by omega
    have H := Lib.hid e
    clear e
    have t_w := Below.refl w.heap.size w
    go_enter Try.func58, Try.ntmps58
    go_wp2_with fail
    go_ret
    exact ⟨ret_int H.out, rfl⟩
theorem rat {o d t v : Int} (h : okc o d = true) (h0 : 0 ≤ t) (h1 : t ≤ 10000000000001) (hv : sh o d t = v) (w : World) : Calls Try.prog 45 #[.agg #[.int .i64 o, .int .i64 d], .int .i64 t] w fun e w' => e = .returned (.int .i64 v) ∧ Below w.heap.size w w' := by
  subst hv
  have hk := okc_t h
  obtain ⟨k1, k2, k3, k4⟩ := hk
  obtain ⟨m1, m2⟩ := mulb k3 k4 h0
  unfold sh
  have hf := rdown (d * t) (by omega) (by omega)
  have HF := Lib.hid hf
  have n1 : -500000001 ≤ d * t / 1000000 := by omega
  have n2 : d * t / 1000000 ≤ 500000001 := by omega
  clear h hf
  have t_w := Below.refl w.heap.size w
  go_enter Try.func45, Try.ntmps45
  go_wp2_with fail
  have s_W_1 : Below w.heap.size w (w.alloc (.cells #[.int .i64 o, .int .i64 d] 23)) := Below.alloc (Below.refl _ _) (Nat.le_refl _) _
  have k0 : (w.alloc (.cells #[.int .i64 o, .int .i64 d] 23)).cell? ⟨w.heap.size, 0, none⟩ = some (.int .i64 o) := by simp [go_sem]
  have k1 : (w.alloc (.cells #[.int .i64 o, .int .i64 d] 23)).cell? ⟨w.heap.size, 1, none⟩ = some (.int .i64 d) := by simp [go_sem]
  have t_W_1 := chain t_w s_W_1
  generalize w.alloc (.cells #[.int .i64 o, .int .i64 d] 23) = W_1 at *
  have fut_0_5 := fut_cell k0
  have fut_1_5 := fut_cell k1
  refine wp_region_fut (by kernel_rfl) (by kernel_rfl) ?_
  repeat (go_big_quiet_step (first
    | (go_at_call 58; with_reducible exact fut_same (HF.out _))))
  refine wpQuiet_nil ?_
  rintro _ ⟨⟨w5, s_w5⟩, rfl⟩
  clear fut_0_5 fut_1_5
  have t_w5 := chain t_W_1 s_w5
  replace k0 := keep k0 s_w5
  replace k1 := keep k1 s_w5
  go_wp2_with fail
  go_ret
  exact ⟨rfl, by first | exact t_w5 | go_grown⟩
theorem rshowV {o d t v er : Int} (hv : shV o d t = v) (he : shE o d t = er) (w : World) : Calls Try.prog 20 #[.agg #[.int .i64 o, .int .i64 d], .int .i64 t] w fun e w' => e = .returned (.tuple #[.int .i64 v, .int .i64 er]) ∧ Below w.heap.size w w' := by
  subst hv he
  rcases hok : okc o d with _ | _
  · have h1 : shV o d t = 0 := by simp [shV, shOk, hok]
    have h2 : shE o d t = 1 := by simp [shE, shOk, hok]
    rw [h1, h2]
    have H := Lib.hid hok
    clear hok h1 h2
    have t_w := Below.refl w.heap.size w
    go_enter Try.func20, Try.ntmps20
    go_wp2_with fail
    refine (rcvalid _ _ _).mono ?_
    rintro e w1 ⟨rfl, rfl⟩
    rw [H.out]
    go_wp2_with fail
    go_ret2
    exact ⟨rfl, by go_grown⟩
  · by_cases ht : 0 ≤ t ∧ t ≤ 10000000000000
    · have h1 : shV o d t = sh o d t := by simp [shV, shOk, hok, ht]
      have h2 : shE o d t = 0 := by simp [shE, shOk, hok, ht]
      rw [h1, h2]
      obtain ⟨t0, t1⟩ := ht
      have H := Lib.hid hok
      generalize hx : sh o d t = x
      have HX := Lib.hid hx
      clear hok h1 h2 hx
      have t_w := Below.refl w.heap.size w
      go_enter Try.func20, Try.ntmps20
      go_wp2_with fail
      refine (rcvalid _ _ _).mono ?_
      rintro e w1 ⟨rfl, rfl⟩
      rw [H.out]
      go_wp2_with fail
      refine (rat H.out t0 (by omega) HX.out _).mono ?_
      rintro e w2 ⟨rfl, h2⟩
      go_wp2_with fail
      go_ret2
      exact ⟨rfl, chain (by go_grown) h2⟩
    · have hf : shOk o d t = false := by unfold shOk; rw [hok, Bool.true_and, decide_eq_false_iff_not]; exact ht
      have h1 : shV o d t = 0 := by simp [shV, hf]
      have h2 : shE o d t = 1 := by simp [shE, hf]
      rw [h1, h2]
      have H := Lib.hid hok
      clear hok h1 h2 hf
      by_cases t0 : 0 ≤ t
      · have t1 : 10000000000000 < t := by omega
        clear ht
        have t_w := Below.refl w.heap.size w
        go_enter Try.func20, Try.ntmps20
        go_wp2_with fail
        refine (rcvalid _ _ _).mono ?_
        rintro e w1 ⟨rfl, rfl⟩
        rw [H.out]
        go_wp2_with fail
        go_ret2
        exact ⟨rfl, by go_grown⟩
      · clear ht
        have t_w := Below.refl w.heap.size w
        go_enter Try.func20, Try.ntmps20
        go_wp2_with fail
        refine (rcvalid _ _ _).mono ?_
        rintro e w1 ⟨rfl, rfl⟩
        rw [H.out]
        go_wp2_with fail
        go_ret2
        exact ⟨rfl, by go_grown⟩
theorem rcvalid_b {o d : Int} {b : Bool} (hv : okc o d = b) (w : World) : Calls Try.prog 24 #[.agg #[.int .i64 o, .int .i64 d]] w fun e w' => e = .returned (.bool b) ∧ Below w.heap.size w w' := by
  subst hv
  exact (rcvalid o d w).mono fun _ _ ⟨a, b⟩ => ⟨a, by subst b; exact Below.alloc (Below.refl _ _) (Nat.le_refl _) _⟩
def Pow2 (x : Int) : Prop := x ∈ ([17592186044416, 8796093022208, 4398046511104, 2199023255552, 1099511627776, 549755813888, 274877906944, 137438953472, 68719476736, 34359738368, 17179869184, 8589934592, 4294967296, 2147483648, 1073741824, 536870912, 268435456, 134217728, 67108864, 33554432, 16777216, 8388608, 4194304, 2097152, 1048576, 524288, 262144, 131072, 65536, 32768, 16384, 8192, 4096, 2048, 1024, 512, 256, 128, 64, 32, 16, 8, 4, 2, 1] : List Int)
theorem pow2_half {x : Int} (h : Pow2 x) : x = 1 ∨ (Pow2 (x / 2) ∧ x = 2 * (x / 2)) := by
  simp only [Pow2, List.mem_cons, List.not_mem_nil, or_false] at h ⊢
  omega
theorem pow2_pos {x : Int} (h : Pow2 x) : 1 ≤ x ∧ x ≤ 17592186044416 := by
  simp only [Pow2, List.mem_cons, List.not_mem_nil, or_false] at h
  omega
theorem rbefore {o d s a : Int} (h : okc o d = true) (ha : FirstAt (fun t => decide (s ≤ sh o d t)) 0 a) (w : World) : Calls Try.prog 49 #[.agg #[.int .i64 o, .int .i64 d], .int .i64 s] w fun e w' => e = .returned (.int .i64 a) ∧ Below w.heap.size w w' := by
  have H := Lib.hid h
  have HA := Lib.hid ha
  have a0 := ha.1
  have a1 := ha.2.1
  clear h ha
  have t_w := Below.refl w.heap.size w
  go_enter Try.func49, Try.ntmps49
  go_wp2_with fail
  go_loopw [5, 6] (fun x y wr => ∃ n st : Int, x = .int .i64 n ∧ y = .int .i64 st ∧ 0 ≤ n ∧ n ≤ a ∧ (Hid ((st = 0 ∧ n = a) ∨ (Pow2 st ∧ a < n + 2 * st))) ∧ wr.cell? ⟨w.heap.size, 0, none⟩ = some (.int .i64 o) ∧ wr.cell? ⟨w.heap.size, 1, none⟩ = some (.int .i64 d) ∧ Below w.heap.size w wr) (fun _ y _ => (intOf y).toNat)
  case atStart => exact ⟨0, 17592186044416, rfl, rfl, by omega, a0, Lib.hid (.inr ⟨by simp [Pow2], by omega⟩), by simp [go_sem], by simp [go_sem], by go_grown⟩
  case round =>
    obtain ⟨n, st, rfl, rfl, n0, n1, HS, c0, c1, hB⟩ := hrel
    rcases HS.out with ⟨rfl, rfl⟩ | ⟨hp, hlt⟩
    · clear HS
      go_wp2_with fail
      go_ret
      exact ⟨rfl, hB⟩
    · have hpp := pow2_pos hp
      obtain ⟨p1, p2⟩ := hpp
      have hh := pow2_half hp
      have HH := Lib.hid hh
      have HL := Lib.hid hlt
      have q1 : 0 ≤ st / 2 := by omega
      have q2 : st / 2 < st := by omega
      clear HS hp hlt hh
      by_cases hle : n + st ≤ 10000000000001
      · generalize hx : sh o d (n + st - 1) = x
        have HX := Lib.hid hx
        by_cases hxs : x < s
        · have hna : n + st ≤ a := by
            rcases Int.lt_or_le a (n + st) with hl | hl
            · have := HA.out.2.2.2 (n + st - 1) (by omega) (by omega); simp only [decide_eq_true_eq] at this; rw [hx] at this; omega
            · exact hl
          clear hx
          go_wp2_with fail
          refine (rat H.out (by omega) (by omega) HX.out _).mono ?_
          rintro e w2 ⟨rfl, h2⟩
          have hB2 := chain hB h2
          replace c0 := keep c0 h2
          replace c1 := keep c1 h2
          clear h2 hB
          go_wp2_with fail
          go_roundw
          case rel => exact ⟨n + st, st / 2, rfl, rfl, by omega, hna, Lib.hid (by rcases HH.out with e | ⟨e1, e2⟩; exact .inl ⟨by omega, by have := HL.out; omega⟩; exact .inr ⟨e1, by have := HL.out; omega⟩), c0, c1, hB2⟩
          case measure => simp [intOf]; omega
        · have hna : a < n + st := by
            rcases Int.lt_or_le a (n + st) with hl | hl
            · exact hl
            · have := HA.out.2.2.1 (n + st - 1) (by omega) (by omega); simp only [decide_eq_false_iff_not] at this; rw [hx] at this; omega
          clear hx
          go_wp2_with fail
          refine (rat H.out (by omega) (by omega) HX.out _).mono ?_
          rintro e w2 ⟨rfl, h2⟩
          have hB2 := chain hB h2
          replace c0 := keep c0 h2
          replace c1 := keep c1 h2
          clear h2 hB
          go_wp2_with fail
          go_roundw
          case rel => exact ⟨n, st / 2, rfl, rfl, by omega, n1, Lib.hid (by rcases HH.out with e | ⟨e1, e2⟩; exact .inl ⟨by omega, by omega⟩; exact .inr ⟨e1, by omega⟩), c0, c1, hB2⟩
          case measure => simp [intOf]; omega
      · go_wp2_with fail
        go_roundw
        case rel => exact ⟨n, st / 2, rfl, rfl, by omega, n1, Lib.hid (by rcases HH.out with e | ⟨e1, e2⟩; exact .inl ⟨by omega, by omega⟩; exact .inr ⟨e1, by omega⟩), c0, c1, hB⟩
        case measure => simp [intOf]; omega
theorem showsT {o d t v : Int} (hv : shV o d t = v) (he : shE o d t = 0) (w : World) : Calls Try.prog 42 #[.agg #[.int .i64 o, .int .i64 d], .int .i64 t, .int .i64 v] w fun e w' => e = .returned (.bool true) ∧ Below w.heap.size w w' := by
  have HV := Lib.hid hv
  have HE := Lib.hid he
  clear hv he
  have t_w := Below.refl w.heap.size w
  go_enter Try.func42, Try.ntmps42
  go_wp2_with fail
  refine (showV HV.out HE.out _).mono ?_
  rintro e w1 ⟨rfl, g_w1⟩
  have s_w1 : Below w.heap.size w w1 := chain (by go_grown) g_w1
  have t_w1 := chain t_w s_w1
  have k0 : w1.cell? ⟨w.heap.size, 0, none⟩ = some (.int .i64 o) := ((bcell g_w1).1 _ _ (by simp; try omega)).trans (by simp [go_sem])
  have k1 : w1.cell? ⟨w.heap.size, 1, none⟩ = some (.int .i64 d) := ((bcell g_w1).1 _ _ (by simp; try omega)).trans (by simp [go_sem])
  have z_k_w1 := lt_of k0
  clear g_w1 s_w1
  go_wp2_with fail
  go_ret
  exact ⟨rfl, by first | exact t_w1 | go_grown⟩
def twoB (o d t u : Int) : Bool := shOk o d t && shOk o d u && decide (t ≤ u)
theorem two {o d t u a b : Int} {k : Bool} (ha : shV o d t = a) (hb : shV o d u = b) (hk : twoB o d t u = k) (w : World) : Calls Try.prog 25 #[.agg #[.int .i64 o, .int .i64 d], .int .i64 t, .int .i64 u] w fun e w' => e = .returned (.tuple #[.int .i64 a, .int .i64 b, .bool k]) ∧ Below w.heap.size w w' := by
  subst hk
  have HA := Lib.hid ha
  have HB := Lib.hid hb
  clear ha hb
  rcases h1 : shOk o d t with _ | _ <;> rcases h2 : shOk o d u with _ | _ <;> rcases h3 : decide (t ≤ u) with _ | _
  all_goals
    obtain ⟨e1, he1⟩ : ∃ x, shE o d t = x := ⟨_, rfl⟩
    obtain ⟨e2, he2⟩ : ∃ x, shE o d u = x := ⟨_, rfl⟩
    have HE1 := Lib.hid he1
    have HE2 := Lib.hid he2
    simp only [shE, h1, h2] at he1 he2
    simp at he1 he2
    subst he1 he2
    have hk : twoB o d t u = (shOk o d t && shOk o d u && decide (t ≤ u)) := rfl
    rw [h1, h2, h3] at hk
    simp at hk
    rw [hk]
    clear h1 h2 hk
    have t_w := Below.refl w.heap.size w
    go_enter Try.func25, Try.ntmps25
    go_wp2_with fail
    refine (showV HA.out HE1.out _).mono ?_
    rintro e w1 ⟨rfl, g_w1⟩
    have s_w1 : Below w.heap.size w w1 := chain (by go_grown) g_w1
    have t_w1 := chain t_w s_w1
    have k0 : w1.cell? ⟨w.heap.size, 0, none⟩ = some (.int .i64 o) := ((bcell g_w1).1 _ _ (by simp; try omega)).trans (by simp [go_sem])
    have k1 : w1.cell? ⟨w.heap.size, 1, none⟩ = some (.int .i64 d) := ((bcell g_w1).1 _ _ (by simp; try omega)).trans (by simp [go_sem])
    have z_k_w1 := lt_of k0
    clear g_w1 s_w1
    go_wp2_with fail
    refine (showV HB.out HE2.out _).mono ?_
    rintro e w2 ⟨rfl, g_w2⟩
    have s_w2 : Below w1.heap.size w1 w2 := chain (by go_grown) g_w2
    have t_w2 := chain t_w1 s_w2
    replace k0 := keep k0 s_w2
    have z_k0_w2 := lt_of k0
    replace k1 := keep k1 s_w2
    have z_k1_w2 := lt_of k1
    clear g_w2 s_w2
    go_wp2_with fail
    go_ret3
    exact ⟨rfl, t_w2⟩
end Go.Proofs.Ytddljobpjcbilaa
