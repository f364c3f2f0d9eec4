/- The law of replay: Old; counters. -/
import Derived.Test.YtojcbolfheneeaaRepE
import Derived.Test.YtojcbolfheneeaaRow
namespace Go.Proofs.Ytojcbolfheneeaa
open Go.ChangeShapes Go.WideShapes Go.ChangeAt Go.RowKit
/-- where the counters are after some steps -/
def ctA (z : List Int) : Nat → Int
  | 0 => 500
  | k + 1 => if 1 < ctA z k + z.getD k 0 then ctA z k + z.getD k 0 else 1
def ctL (z : List Int) (m : Nat) : List Int := (List.range m).map fun i => ctA z (i + 1)
theorem ctL_succ (z : List Int) (m : Nat) : ctL z (m + 1) = ctL z m ++ [ctA z (m + 1)] := by simp [ctL, List.range_succ]
theorem ctL_len (z : List Int) (m : Nat) : (ctL z m).length = m := by simp [ctL]
theorem ctA_b {z : List Int} (h : ∀ x ∈ z, (Lit.int .i8 x).wf = true) : ∀ k : Nat, 1 ≤ ctA z k ∧ ctA z k ≤ 500 + 127 * k
  | 0 => by simp [ctA]
  | k + 1 => by
    have ih := ctA_b h k
    have hb : -128 ≤ z.getD k 0 ∧ z.getD k 0 ≤ 127 := by
      by_cases hk : k < z.length
      · rw [show z.getD k 0 = z[k] by simp [List.getD, hk]]
        exact bounds_i8 (h _ (List.getElem_mem hk))
      · rw [show z.getD k 0 = 0 by simp [List.getD, hk]]; omega
    simp only [ctA]
    split <;> omega
theorem infoInt : (Try.prog.info? 3).map (fun i => (i.zero, i.size, i.bytes)) = some (some (.int .i64 0), 1, 8) := by kernel_rfl
def IsInts (xs : List Int) (w : World) (e : Ending) (w' : World) : Prop := ∃ v, e = .returned v ∧ w'.ownsRow w.heap.size 3 1 v xs.length (xs.map (Value.int .i64)) ∧ Below w.heap.size w w'
set_option maxHeartbeats 2000000 in
theorem counters {v : Value} {z : List Int} (w : World) (hz : Reads .i8 w v z) (hw : ∀ x ∈ z, (Lit.int .i8 x).wf = true) : Calls Try.prog 16 #[v] w (IsInts (ctL z (min z.length 100)) w) := by
  obtain ⟨i0, hi, hz0, hz1, hz2⟩ := info_parts infoInt
  obtain ⟨a, cap, rfl, hlen⟩ := hz.len
  have HZ := Lib.hid hz; have HW := Lib.hid hw; clear hz hw
  go_enter Try.func16, Try.ntmps16
  go_wp2_with fail
  go_loopw [3, 4, 5] (fun u t i wr => ∃ (k : Nat) (x : Int), k ≤ z.length ∧ k ≤ 100 ∧ i = .int .i64 k ∧ t = .int .i64 x ∧ Hid (ctA z k = x) ∧ wr.ownsRow w.heap.size 3 1 u k ((ctL z k).map (Value.int .i64)) ∧ Below w.heap.size w wr) (fun _ _ i _ => 100 - (intOf i).toNat)
  case atStart => exact ⟨0, 500, by omega, by omega, rfl, rfl, Lib.hid rfl, World.ownsRow_nil _ _ _ _, Below.refl _ _⟩
  case round =>
    obtain ⟨k, x, k0, k1, rfl, rfl, HX, hown, t_wr⟩ := hrel
    by_cases hlt : k < z.length ∧ k < 100
    · obtain ⟨q1, q2⟩ := hlt
      have hx := ctA_b HW.out k
      rw [HX.out] at hx
      obtain ⟨x0, x1⟩ := hx
      obtain ⟨b, o, rfl, hc⟩ := (HZ.out.below t_wr).at q1
      have hcr := hc k q1
      have hg := bounds_i8 (HW.out (z.getD k 0) (by rw [show z.getD k 0 = z[k] by simp [List.getD, q1]]; exact List.getElem_mem q1))
      have hx' : ctA z (k + 1) = if 1 < x + z.getD k 0 then x + z.getD k 0 else 1 := by rw [← HX.out]; rfl
      clear hc
      generalize z.getD k 0 = g at *
      obtain ⟨g0, g1⟩ := hg
      obtain ⟨y, hy⟩ : ∃ y, (if 1 < x + g then x + g else 1) = y := ⟨_, rfl⟩
      rw [hy] at hx'
      have HY := Lib.hid hx'; clear hx'
      have hown0 := Lib.hid hown; clear hown
      have hb := t_wr.size
      go_wp2_with (at_builtin; refine wpList_append_own _ rfl _ _ 33 rfl w.heap.size 3 i0 (.int .i64 0) 1 8 Try.underlying33 hi hz0 hz1 hz2 rfl (by decide) _ _ _ rfl (hown0.out.alloc _) ⟨wr.heap.size, 0, none⟩ 1 1 [.int .i64 y] rfl rfl ?c1 ?c2 ?c3 ?c4 ?c5 ?_)
      case c1 =>
        intro j u hj
        match j, hj with
        | 0, hj => simp at hj; subst hj; simp [Addr.add, go_sem]
      case c2 => intro u hu; simp at hu; subst hu; rfl
      case c3 => unfold maxLen; omega
      case c4 => omega
      case c5 => simp; omega
      intro v' w1 hown1 hgrow1 _
      have hB1 : Below w.heap.size w w1 := (t_wr.alloc hb _).grown hgrow1 (by simp; omega) (fun j hj => (hown0.out.lt j hj).1)
      rw [show (ctL z k).map (Value.int .i64) ++ [.int .i64 y] = (ctL z (k + 1)).map (Value.int .i64) by rw [ctL_succ, HY.out]; simp] at hown1
      have hown2 := Lib.hid hown1; clear hown1 hgrow1
      go_wp2_with fail
      go_roundw
      case rel => exact ⟨k + 1, y, by omega, by omega, by go_num, rfl, HY, hown2.out, hB1⟩
      case measure => (simp [intOf]; try omega)
    · have hk' : k = min z.length 100 := by omega
      have HK := Lib.hid hk'; clear hk'
      have hown0 := Lib.hid hown; clear hown
      by_cases q1 : k < z.length
      · have d1 : decide ((k : Int) < z.length) = true := decide_eq_true (by omega)
        have d0 : decide (k < z.length) = true := decide_eq_true (by omega)
        have d2 : decide ((k : Int) < 100) = false := decide_eq_false (by omega)
        clear hlt q1
        go_wp2_with fail
        go_ret
        exact ⟨_, rfl, by rw [← HK.out, ctL_len]; exact hown0.out, t_wr⟩
      · have d1 : decide ((k : Int) < z.length) = false := decide_eq_false (by omega)
        have d0 : decide (k < z.length) = false := decide_eq_false (by omega)
        clear hlt q1
        go_wp2_with fail
        go_ret
        exact ⟨_, rfl, by rw [← HK.out, ctL_len]; exact hown0.out, t_wr⟩
theorem vw_iff {T : Int} {B : Nat} (hb : B < 18446744073709551616) : vw T B = true ↔ (T = 0 ∧ B = 0) ∨ (1 ≤ T ∧ T ≤ 1000000000 ∧ B.testBit 0 = true ∧ ∀ i : Nat, T ≤ i → i < 64 → B.testBit i = false) := by
  by_cases hT : T = 0
  · subst hT; simp [vw]
  · constructor
    · intro h
      have h1 : 1 ≤ T ∧ T ≤ 1000000000 := by have := vw_t h; omega
      exact .inr ⟨h1.1, h1.2, (vw_pos hb h1.1 h1.2).1 h⟩
    · intro h
      rcases h with h | ⟨h1, h2, h3⟩
      · exact absurd h.1 hT
      · exact (vw_pos hb h1 h2).2 h3
/-- the bits of a window after a counter -/
theorem ntB_bit {T n : Int} {B : Nat} (hf : fr T B n = true) (i : Nat) (hi : i < 64) : (ntB T B n).testBit i = ((decide ((ntT T B n - T).toNat ≤ i) && B.testBit (i - (ntT T B n - T).toNat)) || decide ((ntT T B n - n).toNat = i)) := by
  unfold ntB
  rw [if_pos hf, show ntT T B n = (if T < n then n else T) by simp [ntT, hf], Nat.testBit_or, show (18446744073709551616 : Nat) = 2 ^ 64 from rfl, Nat.testBit_mod_two_pow, Nat.testBit_mul_two_pow, Nat.testBit_two_pow]
  simp [hi]
theorem fr_t {T n : Int} {B : Nat} (h : fr T B n = true) : vw T B = true ∧ 1 ≤ n ∧ n ≤ 1000000000 ∧ T - 64 < n ∧ (T < n ∨ B.testBit (T - n).toNat = false) := by
  simp only [fr, Bool.and_eq_true, Bool.or_eq_true, decide_eq_true_eq, Bool.not_eq_true'] at h
  have := okc_t h.1.1.2
  exact ⟨h.1.1.1, this.1, this.2, h.1.2, h.2⟩
theorem note_vw {T n : Int} {B : Nat} (hb : B < 18446744073709551616) (hf : fr T B n = true) : vw (ntT T B n) (ntB T B n) = true := by
  obtain ⟨h1, h2, h3, h4, h5⟩ := fr_t hf
  have hT := vw_t h1
  have hX : ntT T B n = if T < n then n else T := by simp [ntT, hf]
  have hXb : 1 ≤ ntT T B n ∧ ntT T B n ≤ 1000000000 ∧ T ≤ ntT T B n ∧ n ≤ ntT T B n := by rw [hX]; split <;> omega
  have hv := (vw_iff hb).1 h1
  refine (vw_iff (ntB_lt T B n)).2 (.inr ⟨hXb.1, hXb.2.1, ?_, fun i hi h64 => ?_⟩)
  · rw [ntB_bit hf 0 (by decide)]
    by_cases hl : T < n
    · rw [show ntT T B n = n by rw [hX, if_pos hl]]; simp
    · rcases hv with ⟨rfl, rfl⟩ | ⟨_, _, hb0, _⟩
      · omega
      · rw [show ntT T B n = T by rw [hX, if_neg hl]]; simp [hb0]
  · rw [ntB_bit hf i h64, Bool.or_eq_false_iff]
    refine ⟨?_, decide_eq_false (by omega)⟩
    rcases hv with ⟨rfl, rfl⟩ | ⟨_, _, _, hz⟩
    · simp
    · by_cases hle : (ntT T B n - T).toNat ≤ i
      · rw [hz (i - (ntT T B n - T).toNat) (by omega) (by omega)]; simp
      · simp [hle]
/-- what is old stays old -/
theorem old_stays {T n m : Int} {B : Nat} (hv : vw T B = true) (hc : okc n = true) (ho : fr T B n = false) (hf : fr T B m = true) : fr (ntT T B m) (ntB T B m) n = false := by
  obtain ⟨h1, h2, h3, h4, h5⟩ := fr_t hf
  have hn := okc_t hc
  have hT := vw_t h1
  have hX : ntT T B m = if T < m then m else T := by simp [ntT, hf]
  have hXb : T ≤ ntT T B m ∧ m ≤ ntT T B m := by rw [hX]; split <;> omega
  rw [← Bool.not_eq_true]
  intro hn2
  obtain ⟨g1, g2, g3, g4, g5⟩ := fr_t hn2
  have ho' : n ≤ T ∧ B.testBit (T - n).toNat = true := by
    have : ¬ fr T B n = true := by rw [ho]; decide
    unfold fr at this
    rw [hv, hc, decide_eq_true (show T - 64 < n by omega)] at this
    simp only [Bool.and_true, Bool.true_and, Bool.or_eq_true, decide_eq_true_eq, Bool.not_eq_true', not_or, Bool.not_eq_false] at this
    exact ⟨by omega, this.2⟩
  rcases g5 with g5 | g5
  · omega
  · rw [ntB_bit hf _ (by omega), Bool.or_eq_false_iff] at g5
    have e1 : decide ((ntT T B m - T).toNat ≤ (ntT T B m - n).toNat) = true := decide_eq_true (by omega)
    have e2 : (ntT T B m - n).toNat - (ntT T B m - T).toNat = (T - n).toNat := by omega
    rw [e1, e2, ho'.2] at g5
    exact absurd g5.1 (by decide)
theorem ntE_14 {T n : Int} {B : Nat} : ntE T B n = 14 ↔ vw T B = true ∧ okc n = true ∧ fr T B n = false := by
  unfold ntE
  constructor
  · intro h
    split at h
    · rename_i h1
      simp only [Bool.and_eq_true] at h1
      refine ⟨h1.1, h1.2, ?_⟩
      split at h
      · omega
      · rename_i h2; simpa using h2
    · omega
  · intro ⟨h1, h2, h3⟩
    simp [h1, h2, h3]
theorem ctL_at (z : List Int) (m j : Nat) (h : j < m) : (ctL z m).getD j 0 = ctA z (j + 1) := by
  simp [ctL, List.getD, h]
set_option maxRecDepth 100000 in
set_option maxHeartbeats 8000000 in
theorem oldW {T : Int} {B : Nat} {n : Int} {v : Value} {z : List Int} (hb : B < 18446744073709551616) (w : World) (hz : Reads .i8 w v z) (hw : ∀ x ∈ z, (Lit.int .i8 x).wf = true) :
    Calls Try.prog 8 #[.agg #[.int .i64 T, .int .u64 B], .int .i64 n, v] w fun e w' => e = .returned (.bool true) ∧ Below w.heap.size w w' := by
  obtain ⟨X, hX⟩ : ∃ x, ntT T B n = x := ⟨_, rfl⟩
  obtain ⟨Y, hY⟩ : ∃ x, ntB T B n = x := ⟨_, rfl⟩
  obtain ⟨E, hE⟩ : ∃ x, ntE T B n = x := ⟨_, rfl⟩
  have HX := Lib.hid hX; have HY := Lib.hid hY
  by_cases h14 : E = 14
  · subst h14
    obtain ⟨hv, hc, hf⟩ := ntE_14.1 hE
    have HE := Lib.hid hE; have HV := Lib.hid hv; have HC := Lib.hid hc; have HF := Lib.hid hf; have HZ := Lib.hid hz; have HW := Lib.hid hw; have HB := Lib.hid hb
    clear hX hY hE hv hc hf hz hw
    have t_w := Below.refl w.heap.size w
    go_enter Try.func8, Try.ntmps8
    go_wp2_with fail
    refine (head _).mono ?_
    rintro e x1 ⟨rfl, g_x1⟩
    have s_x1 : Below w.heap.size w x1 := chain (by go_grown) g_x1
    have t_x1 := chain t_w s_x1
    have p0 : x1.cell? ⟨w.heap.size, 0, none⟩ = some (.int .i64 T) := ((bcell g_x1).1 _ _ (by simp; try omega)).trans (by simp [go_sem])
    have p1 : x1.cell? ⟨w.heap.size, 1, none⟩ = some (.int .u64 B) := ((bcell g_x1).1 _ _ (by simp; try omega)).trans (by simp [go_sem])
    have z_p_x1 := lt_of p0
    have pf : ∀ i, x1.frozen? ⟨w.heap.size, i, none⟩ = false := fun i => ((bcell g_x1).2 _ _ (by simp; try omega)).trans (by simp [go_sem])
    clear g_x1 s_x1 t_w
    go_wp2_with fail
    refine (note hb HX.out HY.out HE.out _).mono ?_
    rintro e x2 ⟨rfl, g_x2⟩
    have s_x2 : Below x1.heap.size x1 x2 := chain (by go_grown) g_x2
    have t_x2 := chain t_x1 s_x2
    replace pf := fkeep2 pf (lt_of p0) s_x2
    replace p0 := keep p0 s_x2
    have z_p0_x2 := lt_of p0
    replace p1 := keep p1 s_x2
    clear g_x2 s_x2 z_p_x1 t_x1
    go_wp2_with fail
    have s_W_1 : Below x2.heap.size x2 (x2.alloc (.cells #[.int .i64 X, .int .u64 Y] 24)) := Below.alloc (Below.refl _ _) (Nat.le_refl _) _
    have q0 : (x2.alloc (.cells #[.int .i64 X, .int .u64 Y] 24)).cell? ⟨x2.heap.size, 0, none⟩ = some (.int .i64 X) := by simp [go_sem]
    have q1 : (x2.alloc (.cells #[.int .i64 X, .int .u64 Y] 24)).cell? ⟨x2.heap.size, 1, none⟩ = some (.int .u64 Y) := by simp [go_sem]
    replace pf := fkeep2 pf (lt_of p0) s_W_1
    replace p0 := keep p0 s_W_1
    replace p1 := keep p1 s_W_1
    have t_W_1 := chain t_x2 s_W_1
    generalize x2.alloc (.cells #[.int .i64 X, .int .u64 Y] 24) = W_1 at *
    refine (counters _ (HZ.out.below (by assumption)) HW.out).mono ?_
    rintro e w5 ⟨u, rfl, hown, s_w5⟩
    obtain ⟨a, cap, bL, rfl, hlen, hA, hbL, hR⟩ := own_row hown
    have hA := Lib.hid hA
    have hwW := (by assumption : Below w.heap.size w W_1).size
    have hwW2 := lt_of p0
    clear hown hb
    have hL : (ctL z (min z.length 100)).length = min z.length 100 := ctL_len _ _
    have HL := Lib.hid hL; clear hL
    generalize hLL : ctL z (min z.length 100) = LL at *
    have HLL := Lib.hid hLL; clear hLL
    have t_w5 := chain (by assumption : Below w.heap.size w W_1) s_w5
    replace pf := fkeep2 pf (lt_of p0) s_w5
    replace p0 := keep p0 s_w5
    replace p1 := keep p1 s_w5
    clear s_w5
    go_wp2_with fail
    go_loopw [29] (fun i wr => ∃ (j : Nat) (T' : Int) (B' : Nat), j ≤ LL.length ∧ i = .int .i64 j ∧ Hid (vw T' B' = true) ∧ Hid (B' < 18446744073709551616) ∧ Hid (fr T' B' n = false) ∧ (∀ j, j < LL.length → wr.cell? ⟨bL, 0 + j, none⟩ = some (.int .i64 (LL.getD j 0))) ∧ wr.cell? ⟨w.heap.size, 0, none⟩ = some (.int .i64 T') ∧ wr.cell? ⟨w.heap.size, 1, none⟩ = some (.int .u64 B') ∧ (∀ i, wr.frozen? ⟨w.heap.size, i, none⟩ = false) ∧ Below w.heap.size w wr) (fun i _ => LL.length - (intOf i).toNat)
    case atStart => exact ⟨0, T, B, by omega, rfl, HV, HB, HF, hR, p0, p1, pf, t_w5⟩
    case round =>
      clear p0 p1 pf t_w5 hR
      obtain ⟨j, T', B', hj, rfl, HV', HB', HF', hR, p0, p1, pf, t_wr⟩ := hrel
      obtain ⟨T0, T1⟩ := vw_t HV'.out
      by_cases hlt : j < LL.length
      · obtain rfl := hA.out (by omega)
        have hcr := hR j hlt
        rw [Nat.zero_add] at hcr
        have HRR := Lib.hid hR
        clear hR
        have hcb : 1 ≤ LL.getD j 0 ∧ LL.getD j 0 ≤ 13200 := by
          have hj2 : j < min z.length 100 := by have := HL.out; omega
          rw [← HLL.out, ctL_at _ _ _ hj2]
          have := ctA_b HW.out (j + 1)
          omega
        generalize LL.getD j 0 = c at *
        obtain ⟨c0, c1⟩ := hcb
        obtain ⟨y, hy⟩ : ∃ y, (if T' + c - 500 < 1000000000 then T' + c - 500 else 1000000000) = y := ⟨_, rfl⟩
        obtain ⟨m, hm⟩ : ∃ m, (if 1 < y then y else 1) = m := ⟨_, rfl⟩
        have hmb : 1 ≤ m ∧ m ≤ 1000000000 := by rw [← hm, ← hy]; (repeat' split) <;> omega
        have hcm : okc m = true := by simp [okc]; omega
        obtain ⟨X', hX'⟩ : ∃ x, ntT T' B' m = x := ⟨_, rfl⟩
        obtain ⟨Y', hY'⟩ : ∃ x, ntB T' B' m = x := ⟨_, rfl⟩
        have HX' := Lib.hid hX'; have HY' := Lib.hid hY'
        rcases hfm : fr T' B' m with _ | _
        · have HE' := Lib.hid (show ntE T' B' m = 14 from ntE_14.2 ⟨HV'.out, hcm, hfm⟩)
          have HN := Lib.hid (show ntE T' B' n = 14 from ntE_14.2 ⟨HV'.out, HC.out, HF'.out⟩)
          obtain ⟨X2, hX2⟩ : ∃ x, ntT T' B' n = x := ⟨_, rfl⟩
          obtain ⟨Y2, hY2⟩ : ∃ x, ntB T' B' n = x := ⟨_, rfl⟩
          have HX2 := Lib.hid hX2; have HY2 := Lib.hid hY2
          clear hX' hY' hfm hcm hX2 hY2 hmb
          go_wp2_with fail
          have hR := HRR.out
          clear HRR
          refine (note HB'.out HX'.out HY'.out HE'.out _).mono ?_
          rintro e y1 ⟨rfl, g_y1⟩
          have s_y1 : Below wr.heap.size wr y1 := chain (by go_grown) g_y1
          have t_y1 := chain t_wr s_y1
          replace pf := fkeep2 pf (lt_of p0) s_y1
          replace p0 := keep p0 s_y1
          have z_p0_y1 := lt_of p0
          replace p1 := keep p1 s_y1
          replace hR := fun j hj => keep (hR j hj) s_y1
          clear g_y1 s_y1 t_wr
          go_wp2_with fail
          refine (note HB'.out HX2.out HY2.out HN.out _).mono ?_
          rintro e y2 ⟨rfl, g_y2⟩
          have s_y2 : Below y1.heap.size y1 y2 := chain (by go_grown) g_y2
          have t_y2 := chain t_y1 s_y2
          replace pf := fkeep2 pf (lt_of p0) s_y2
          replace p0 := keep p0 s_y2
          have z_p0_y2 := lt_of p0
          replace p1 := keep p1 s_y2
          replace hR := fun j hj => keep (hR j hj) s_y2
          have x0 : y2.cell? ⟨y1.heap.size, 0, none⟩ = some (.int .i64 X') := ((bcell g_y2).1 _ _ (by simp; try omega)).trans (by simp [go_sem])
          have x1 : y2.cell? ⟨y1.heap.size, 1, none⟩ = some (.int .u64 Y') := ((bcell g_y2).1 _ _ (by simp; try omega)).trans (by simp [go_sem])
          have z_x_y2 := lt_of x0
          clear g_y2 s_y2 t_y1
          go_wp2_with fail
          refine (fresh HB'.out HF'.out _).mono ?_
          rintro e y3 ⟨rfl, g_y3⟩
          have s_y3 : Below y2.heap.size y2 y3 := chain (by go_grown) g_y3
          have t_y3 := chain t_y2 s_y3
          replace pf := fkeep2 pf (lt_of p0) s_y3
          replace p0 := keep p0 s_y3
          have z_p0_y3 := lt_of p0
          replace p1 := keep p1 s_y3
          replace x0 := keep x0 s_y3
          have z_x0_y3 := lt_of x0
          replace x1 := keep x1 s_y3
          replace hR := fun j hj => keep (hR j hj) s_y3
          have x20 : y3.cell? ⟨y2.heap.size, 0, none⟩ = some (.int .i64 X2) := ((bcell g_y3).1 _ _ (by simp; try omega)).trans (by simp [go_sem])
          have x21 : y3.cell? ⟨y2.heap.size, 1, none⟩ = some (.int .u64 Y2) := ((bcell g_y3).1 _ _ (by simp; try omega)).trans (by simp [go_sem])
          have z_x2_y3 := lt_of x20
          clear g_y3 s_y3 t_y2
          go_wp2_with fail
          go_roundw
          case rel => exact ⟨j + 1, T', B', by omega, by go_num, HV', HB', HF', hR, p0, p1, pf, t_y3⟩
          case measure => (simp [intOf]; try omega)
        · have HE' := Lib.hid (show ntE T' B' m = 0 by unfold ntE; rw [HV'.out, hcm, hfm]; rfl)
          have hv2 := note_vw HB'.out hfm
          have hf2 := old_stays HV'.out HC.out HF'.out hfm
          have hb2 := ntB_lt T' B' m
          rw [hX', hY'] at hv2 hf2
          rw [hY'] at hb2
          have HV2 := Lib.hid hv2; have HF2 := Lib.hid hf2; have HB2 := Lib.hid hb2
          have HN := Lib.hid (show ntE X' Y' n = 14 from ntE_14.2 ⟨hv2, HC.out, hf2⟩)
          obtain ⟨X2, hX2⟩ : ∃ x, ntT X' Y' n = x := ⟨_, rfl⟩
          obtain ⟨Y2, hY2⟩ : ∃ x, ntB X' Y' n = x := ⟨_, rfl⟩
          have HX2 := Lib.hid hX2; have HY2 := Lib.hid hY2
          clear hX' hY' hfm hcm hX2 hY2 hmb hv2 hf2 hb2
          go_wp2_with fail
          have hR := HRR.out
          clear HRR
          refine (note HB'.out HX'.out HY'.out HE'.out _).mono ?_
          rintro e y1 ⟨rfl, g_y1⟩
          have s_y1 : Below wr.heap.size wr y1 := chain (by go_grown) g_y1
          have t_y1 := chain t_wr s_y1
          replace pf := fkeep2 pf (lt_of p0) s_y1
          replace p0 := keep p0 s_y1
          have z_p0_y1 := lt_of p0
          replace p1 := keep p1 s_y1
          replace hR := fun j hj => keep (hR j hj) s_y1
          clear g_y1 s_y1 t_wr
          go_wp2_with fail
          replace pf : ∀ i, ((y1.setCell ⟨w.heap.size, 0, none⟩ (.int .i64 X')).setCell ⟨w.heap.size, 1, none⟩ (.int .u64 Y')).frozen? ⟨w.heap.size, i, none⟩ = false := fun i => by simp only [World.frozen?_setCell]; exact pf i
          replace hR := fun j hj => (cset_ne (c := w.heap.size) (cset_ne (c := w.heap.size) (hR j hj) (by omega) 0 (.int .i64 X')) (by omega) 1 (.int .u64 Y'))
          have p0n : ((y1.setCell ⟨w.heap.size, 0, none⟩ (.int .i64 X')).setCell ⟨w.heap.size, 1, none⟩ (.int .u64 Y')).cell? ⟨w.heap.size, 0, none⟩ = some (.int .i64 X') := (cset_off (cset_eq p0 (.int .i64 X')) (by decide) _)
          have p1n : ((y1.setCell ⟨w.heap.size, 0, none⟩ (.int .i64 X')).setCell ⟨w.heap.size, 1, none⟩ (.int .u64 Y')).cell? ⟨w.heap.size, 1, none⟩ = some (.int .u64 Y') := (cset_eq (cset_off p1 (by decide) _) (.int .u64 Y'))
          have t_W_2 : Below w.heap.size w ((y1.setCell ⟨w.heap.size, 0, none⟩ (.int .i64 X')).setCell ⟨w.heap.size, 1, none⟩ (.int .u64 Y')) := by go_grown
          clear p0 p1 t_y1
          have p0 := p0n; clear p0n
          have p1 := p1n; clear p1n
          generalize (y1.setCell ⟨w.heap.size, 0, none⟩ (.int .i64 X')).setCell ⟨w.heap.size, 1, none⟩ (.int .u64 Y') = W_2 at *
          refine (note HB2.out HX2.out HY2.out HN.out _).mono ?_
          rintro e y2 ⟨rfl, g_y2⟩
          have s_y2 : Below W_2.heap.size W_2 y2 := chain (by go_grown) g_y2
          have t_y2 := chain t_W_2 s_y2
          replace pf := fkeep2 pf (lt_of p0) s_y2
          replace p0 := keep p0 s_y2
          have z_p0_y2 := lt_of p0
          replace p1 := keep p1 s_y2
          replace hR := fun j hj => keep (hR j hj) s_y2
          have x0 : y2.cell? ⟨W_2.heap.size, 0, none⟩ = some (.int .i64 X') := ((bcell g_y2).1 _ _ (by simp; try omega)).trans (by simp [go_sem])
          have x1 : y2.cell? ⟨W_2.heap.size, 1, none⟩ = some (.int .u64 Y') := ((bcell g_y2).1 _ _ (by simp; try omega)).trans (by simp [go_sem])
          have z_x_y2 := lt_of x0
          clear g_y2 s_y2 t_W_2
          go_wp2_with fail
          refine (fresh HB2.out HF2.out _).mono ?_
          rintro e y3 ⟨rfl, g_y3⟩
          have s_y3 : Below y2.heap.size y2 y3 := chain (by go_grown) g_y3
          have t_y3 := chain t_y2 s_y3
          replace pf := fkeep2 pf (lt_of p0) s_y3
          replace p0 := keep p0 s_y3
          have z_p0_y3 := lt_of p0
          replace p1 := keep p1 s_y3
          replace x0 := keep x0 s_y3
          have z_x0_y3 := lt_of x0
          replace x1 := keep x1 s_y3
          replace hR := fun j hj => keep (hR j hj) s_y3
          have x20 : y3.cell? ⟨y2.heap.size, 0, none⟩ = some (.int .i64 X2) := ((bcell g_y3).1 _ _ (by simp; try omega)).trans (by simp [go_sem])
          have x21 : y3.cell? ⟨y2.heap.size, 1, none⟩ = some (.int .u64 Y2) := ((bcell g_y3).1 _ _ (by simp; try omega)).trans (by simp [go_sem])
          have z_x2_y3 := lt_of x20
          clear g_y3 s_y3 t_y2
          go_wp2_with fail
          go_roundw
          case rel => exact ⟨j + 1, X', Y', by omega, by go_num, HV2, HB2, HF2, hR, p0, p1, pf, t_y3⟩
          case measure => (simp [intOf]; try omega)
      · go_wp2_with fail
        go_ret
        exact ⟨rfl, t_wr⟩
  · have e1 : (E != 14) = true := by simp [h14]
    have HE := Lib.hid hE
    clear hX hY hE h14 hz hw
    have t_w := Below.refl w.heap.size w
    go_enter Try.func8, Try.ntmps8
    go_wp2_with fail
    refine (head _).mono ?_
    rintro e x1 ⟨rfl, g_x1⟩
    have s_x1 : Below w.heap.size w x1 := chain (by go_grown) g_x1
    have t_x1 := chain t_w s_x1
    have p0 : x1.cell? ⟨w.heap.size, 0, none⟩ = some (.int .i64 T) := ((bcell g_x1).1 _ _ (by simp; try omega)).trans (by simp [go_sem])
    have p1 : x1.cell? ⟨w.heap.size, 1, none⟩ = some (.int .u64 B) := ((bcell g_x1).1 _ _ (by simp; try omega)).trans (by simp [go_sem])
    have z_p_x1 := lt_of p0
    have pf : ∀ i, x1.frozen? ⟨w.heap.size, i, none⟩ = false := fun i => ((bcell g_x1).2 _ _ (by simp; try omega)).trans (by simp [go_sem])
    clear g_x1 s_x1 t_w
    go_wp2_with fail
    refine (note hb HX.out HY.out HE.out _).mono ?_
    rintro e x2 ⟨rfl, g_x2⟩
    have s_x2 : Below x1.heap.size x1 x2 := chain (by go_grown) g_x2
    have t_x2 := chain t_x1 s_x2
    replace pf := fkeep2 pf (lt_of p0) s_x2
    replace p0 := keep p0 s_x2
    have z_p0_x2 := lt_of p0
    replace p1 := keep p1 s_x2
    clear g_x2 s_x2 z_p_x1 t_x1
    go_wp2_with fail
    go_ret
    exact ⟨rfl, by first | exact t_x2 | go_grown⟩
theorem oldI {T B n : Int} {a : Option Addr} {len cap : Nat} {z : List Int} (h : (Lit.int .u64 B).wf = true) (w : World) (hz : IsRow .i8 w a len cap z) : Calls Try.prog 8 #[.agg #[.int .i64 T, .int .u64 B], .int .i64 n, .slice a len cap] w fun e w' => e = .returned (.bool true) ∧ Below w.heap.size w w' := by
  have hb := bounds_u64 h
  obtain ⟨b, rfl⟩ := Int.eq_ofNat_of_zero_le hb.1
  exact oldW (by omega) w (reads_of_row hz).1 (reads_of_row hz).2.2
end Go.Proofs.Ytojcbolfheneeaa
