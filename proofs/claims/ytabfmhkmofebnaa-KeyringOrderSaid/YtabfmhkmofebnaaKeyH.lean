/- The law of keyring: Order. -/
import Derived.Test.YtabfmhkmofebnaaKeyD
import Derived.Test.YtabfmhkmofebnaaReg
namespace Go.Proofs.Ytabfmhkmofebnaa
open Go.ChangeShapes Go.WideShapes Go.ChangeAt Go.RowKit
theorem near1 {s b e x y : Int} {k : Bool} (s0 : 0 ≤ s) (s1 : s ≤ 1000000000) (b0 : 0 ≤ b) (b1 : b ≤ 255) (he : s / 2000 = e) (hx : (if b % 4 < e then e - b % 4 else 0) = x) (hy : (if k = true then e + 2 else e + 1) = y) (w : World) :
    Calls Try.prog 22 #[.int .i64 s, .int .u8 b, .bool k] w fun e w' => e = .returned (.agg #[.int .i64 x, .int .i64 y]) ∧ Below w.heap.size w w' := by
  have e0 : 0 ≤ e := by omega
  have e1 : e ≤ 500000 := by omega
  cases k
  · simp only [Bool.false_eq_true, if_false] at hy
    subst hy
    have t_w := Below.refl w.heap.size w
    go_enter Try.func22, Try.ntmps22
    go_wp2_with fail
    refine (lring _).mono ?_
    rintro e x1 ⟨rfl, g_x1⟩
    have s_x1 : Below w.heap.size w x1 := chain (by go_grown) g_x1
    have t_x1 := chain t_w s_x1
    have r0 : x1.cell? ⟨w.heap.size, 0, none⟩ = some (.int .i64 0) := ((bcell g_x1).1 _ _ (by simp; try omega)).trans (by simp [go_sem])
    have r1 : x1.cell? ⟨w.heap.size, 1, none⟩ = some (.int .i64 0) := ((bcell g_x1).1 _ _ (by simp; try omega)).trans (by simp [go_sem])
    have z_r_x1 := lt_of r0
    have rf : ∀ i, x1.frozen? ⟨w.heap.size, i, none⟩ = false := fun i => ((bcell g_x1).2 _ _ (by simp; try omega)).trans (by simp [go_sem])
    clear g_x1 s_x1 t_w
    go_wp2_with fail
    refine bodyPost_ret (v := .agg #[.int .i64 x, .int .i64 (e + 1)]) (by simp [results, Try.results22, go_sem, *]) rfl ⟨rfl, by first | exact t_x1 | go_grown⟩
  · simp only [if_true] at hy
    subst hy
    have HY := Lib.hid (show e + 1 + 1 = e + 2 by omega)
    have t_w := Below.refl w.heap.size w
    go_enter Try.func22, Try.ntmps22
    go_wp2_with fail
    refine (lring _).mono ?_
    rintro e x1 ⟨rfl, g_x1⟩
    have s_x1 : Below w.heap.size w x1 := chain (by go_grown) g_x1
    have t_x1 := chain t_w s_x1
    have r0 : x1.cell? ⟨w.heap.size, 0, none⟩ = some (.int .i64 0) := ((bcell g_x1).1 _ _ (by simp; try omega)).trans (by simp [go_sem])
    have r1 : x1.cell? ⟨w.heap.size, 1, none⟩ = some (.int .i64 0) := ((bcell g_x1).1 _ _ (by simp; try omega)).trans (by simp [go_sem])
    have z_r_x1 := lt_of r0
    have rf : ∀ i, x1.frozen? ⟨w.heap.size, i, none⟩ = false := fun i => ((bcell g_x1).2 _ _ (by simp; try omega)).trans (by simp [go_sem])
    clear g_x1 s_x1 t_w
    go_wp2_with fail
    refine bodyPost_ret (v := .agg #[.int .i64 x, .int .i64 (e + 2)]) (by rw [← HY.out]; simp [results, Try.results22, go_sem, *]) rfl ⟨rfl, by go_grown⟩
theorem ord1 {f n g m s x y : Int} (hx : lrF f n g m s = x) (hy : lrN f n g m s = y) (b : Nat) (w : World) (hc : w.cell? ⟨b, 0, none⟩ = some (.int .i64 s)) :
    Calls Try.prog 23 #[.agg #[.int .i64 f, .int .i64 n], .agg #[.int .i64 g, .int .i64 m], .pointer (some ⟨b, 0, none⟩)] w fun e w' => e = .returned (.agg #[.int .i64 x, .int .i64 y]) ∧ Below w.heap.size w w' := by
  have HX := Lib.hid hx; have HY := Lib.hid hy; clear hx hy
  have hc3 := keepA (keepA (keepA hc (.cells #[.int .i64 f, .int .i64 n] 23)) (.cells #[.int .i64 g, .int .i64 m] 23)) (.cells #[.int .i64 0, .int .i64 0] 23)
  have t_w := Below.refl w.heap.size w
  go_enter Try.func23, Try.ntmps23
  go_wp2_with fail
  refine (learn HX.out HY.out _).mono ?_
  rintro e x1 ⟨rfl, g_x1⟩
  have s_x1 : Below w.heap.size w x1 := chain (by go_grown) g_x1
  have t_x1 := chain t_w s_x1
  have p0 : x1.cell? ⟨w.heap.size, 0, none⟩ = some (.int .i64 f) := ((bcell g_x1).1 _ _ (by simp; try omega)).trans (by simp [go_sem])
  have p1 : x1.cell? ⟨w.heap.size, 1, none⟩ = some (.int .i64 n) := ((bcell g_x1).1 _ _ (by simp; try omega)).trans (by simp [go_sem])
  have z_p_x1 := lt_of p0
  have q0 : x1.cell? ⟨w.heap.size + 1, 0, none⟩ = some (.int .i64 g) := ((bcell g_x1).1 _ _ (by simp; try omega)).trans (by simp [go_sem])
  have q1 : x1.cell? ⟨w.heap.size + 1, 1, none⟩ = some (.int .i64 m) := ((bcell g_x1).1 _ _ (by simp; try omega)).trans (by simp [go_sem])
  have z_q_x1 := lt_of q0
  have r0 : x1.cell? ⟨w.heap.size + 2, 0, none⟩ = some (.int .i64 0) := ((bcell g_x1).1 _ _ (by simp; try omega)).trans (by simp [go_sem])
  have r1 : x1.cell? ⟨w.heap.size + 2, 1, none⟩ = some (.int .i64 0) := ((bcell g_x1).1 _ _ (by simp; try omega)).trans (by simp [go_sem])
  have z_r_x1 := lt_of r0
  have rf : ∀ i, x1.frozen? ⟨w.heap.size + 2, i, none⟩ = false := fun i => ((bcell g_x1).2 _ _ (by simp; try omega)).trans (by simp [go_sem])
  clear g_x1 s_x1 t_w
  go_wp2_with fail
  refine bodyPost_ret (v := .agg #[.int .i64 x, .int .i64 y]) (by simp [results, Try.results23, go_sem, *]) rfl ⟨rfl, by first | exact t_x1 | go_grown⟩
/-- a ring that knows the present epoch e, and none after the next one -/
def good (e f n : Int) : Prop := 0 ≤ f ∧ f ≤ e ∧ e + 1 ≤ n ∧ n ≤ e + 2
theorem good_learn {s e f n g m : Int} (hs : oka s = true) (he : s / 2000 = e) (h1 : good e f n) (h2 : good e g m) : lrF f n g m s = (if g < f then g else f) ∧ lrN f n g m s = (if n < m then m else n) ∧ good e (if g < f then g else f) (if n < m then m else n) := by
  obtain ⟨a1, a2, a3, a4⟩ := h1
  obtain ⟨b1, b2, b3, b4⟩ := h2
  have hs' := oka_t hs
  have k1 : knb f n e = true := by simp only [knb, okr, Bool.and_eq_true, decide_eq_true_eq]; omega
  have k2 : knb g m e = true := by simp only [knb, okr, Bool.and_eq_true, decide_eq_true_eq]; omega
  have hl : lrn f n g m s = true := by simp [lrn, hs, he, k1, k2, b4]
  refine ⟨by simp [lrF, hl], by simp [lrN, hl], ?_⟩
  unfold good
  refine ⟨?_, ?_, ?_, ?_⟩ <;> split <;> omega
theorem near_good {s e b x y : Int} {k : Bool} (s0 : 0 ≤ s) (he : s / 2000 = e) (hx : (if b % 4 < e then e - b % 4 else 0) = x) (hy : (if k = true then e + 2 else e + 1) = y) : good e x y := by
  subst hx hy
  unfold good
  refine ⟨?_, ?_, ?_, ?_⟩ <;> split <;> omega
set_option maxRecDepth 100000 in
set_option maxHeartbeats 8000000 in
theorem orderW {u b1 b2 b3 : Int} {k1 k2 k3 : Bool} (u0 : 0 ≤ u) (u1 : u ≤ 4294967295) (p0 : 0 ≤ b1) (p1 : b1 ≤ 255) (q0 : 0 ≤ b2) (q1 : b2 ≤ 255) (r0 : 0 ≤ b3) (r1 : b3 ≤ 255) (w : World) :
    Calls Try.prog 7 #[.int .u32 u, .agg #[.int .u8 b1, .int .u8 b2, .int .u8 b3], .agg #[.bool k1, .bool k2, .bool k3]] w fun e w' => e = .returned (.bool true) ∧ Below w.heap.size w w' := by
  obtain ⟨s, hs⟩ : ∃ s, u % 999996000 = s := ⟨_, rfl⟩
  obtain ⟨s0, s1⟩ := slot_b u0 hs
  obtain ⟨e, he⟩ : ∃ e, s / 2000 = e := ⟨_, rfl⟩
  have hs0 : oka s = true := oka_mk s0 (by omega)
  obtain ⟨f1, hf1⟩ : ∃ x, (if b1 % 4 < e then e - b1 % 4 else 0) = x := ⟨_, rfl⟩
  obtain ⟨f2, hf2⟩ : ∃ x, (if b2 % 4 < e then e - b2 % 4 else 0) = x := ⟨_, rfl⟩
  obtain ⟨f3, hf3⟩ : ∃ x, (if b3 % 4 < e then e - b3 % 4 else 0) = x := ⟨_, rfl⟩
  obtain ⟨n1, hn1⟩ : ∃ x, (if k1 = true then e + 2 else e + 1) = x := ⟨_, rfl⟩
  obtain ⟨n2, hn2⟩ : ∃ x, (if k2 = true then e + 2 else e + 1) = x := ⟨_, rfl⟩
  obtain ⟨n3, hn3⟩ : ∃ x, (if k3 = true then e + 2 else e + 1) = x := ⟨_, rfl⟩
  have g1 := near_good s0 he hf1 hn1
  have g2 := near_good s0 he hf2 hn2
  have g3 := near_good s0 he hf3 hn3
  have c12 := good_learn hs0 he g1 g2
  have c21 := good_learn hs0 he g2 g1
  obtain ⟨x, hx⟩ : ∃ x, (if f2 < f1 then f2 else f1) = x := ⟨_, rfl⟩
  obtain ⟨y, hy⟩ : ∃ x, (if n1 < n2 then n2 else n1) = x := ⟨_, rfl⟩
  rw [hx, hy] at c12
  have hx2 : (if f1 < f2 then f1 else f2) = x := by rw [← hx]; (repeat' split) <;> omega
  have hy2 : (if n2 < n1 then n1 else n2) = y := by rw [← hy]; (repeat' split) <;> omega
  rw [hx2, hy2] at c21
  have d1 := good_learn hs0 he c12.2.2 g2
  have d2 := good_learn hs0 he c12.2.2 g1
  have d3 := good_learn hs0 he c12.2.2 g3
  have d4 := good_learn hs0 he g1 g3
  have d6 := good_learn hs0 he g1 g1
  have e1 : (if f2 < x then f2 else x) = x := by rw [← hx]; (repeat' split) <;> omega
  have e2 : (if y < n2 then n2 else y) = y := by rw [← hy]; (repeat' split) <;> omega
  have e3 : (if f1 < x then f1 else x) = x := by rw [← hx]; (repeat' split) <;> omega
  have e4 : (if y < n1 then n1 else y) = y := by rw [← hy]; (repeat' split) <;> omega
  have e5 : (if f1 < f1 then f1 else f1) = f1 := by simp
  have e6 : (if n1 < n1 then n1 else n1) = n1 := by simp
  rw [e1, e2] at d1
  rw [e3, e4] at d2
  rw [e5, e6] at d6
  obtain ⟨p, hp⟩ : ∃ z, (if f3 < x then f3 else x) = z := ⟨_, rfl⟩
  obtain ⟨q, hq⟩ : ∃ z, (if y < n3 then n3 else y) = z := ⟨_, rfl⟩
  obtain ⟨v, hv⟩ : ∃ z, (if f3 < f1 then f3 else f1) = z := ⟨_, rfl⟩
  obtain ⟨z, hz⟩ : ∃ z, (if n1 < n3 then n3 else n1) = z := ⟨_, rfl⟩
  rw [hp, hq] at d3
  rw [hv, hz] at d4
  have d5 := good_learn hs0 he d4.2.2 g2
  have e7 : (if f2 < v then f2 else v) = p := by rw [← hp, ← hv, ← hx]; (repeat' split) <;> omega
  have e8 : (if z < n2 then n2 else z) = q := by rw [← hq, ← hz, ← hy]; (repeat' split) <;> omega
  rw [e7, e8] at d5
  have HS := Lib.hid hs; have HE := Lib.hid he
  have F1 := Lib.hid hf1; have F2 := Lib.hid hf2; have F3 := Lib.hid hf3; have N1 := Lib.hid hn1; have N2 := Lib.hid hn2; have N3 := Lib.hid hn3
  have C12 := Lib.hid c12; have C21 := Lib.hid c21; have D1 := Lib.hid d1; have D2 := Lib.hid d2; have D3 := Lib.hid d3; have D4 := Lib.hid d4; have D5 := Lib.hid d5; have D6 := Lib.hid d6
  clear hs he hf1 hf2 hf3 hn1 hn2 hn3 g1 g2 g3 c12 c21 hx hy hx2 hy2 d1 d2 d3 d4 d5 d6 e1 e2 e3 e4 e5 e6 e7 e8 hp hq hv hz hs0
  have s2 : s ≤ 1000000000 := by omega
  have t_w := Below.refl w.heap.size w
  go_enter Try.func7, Try.ntmps7
  go_wp2_with fail
  refine (head _).mono ?_
  rintro e x1 ⟨rfl, g_x1⟩
  have s_x1 : Below w.heap.size w x1 := chain (by go_grown) g_x1
  have t_x1 := chain t_w s_x1
  have aa0 : x1.cell? ⟨w.heap.size, 0, none⟩ = some (.int .u8 b1) := ((bcell g_x1).1 _ _ (by simp; try omega)).trans (by simp [go_sem])
  have aa1 : x1.cell? ⟨w.heap.size, 1, none⟩ = some (.int .u8 b2) := ((bcell g_x1).1 _ _ (by simp; try omega)).trans (by simp [go_sem])
  have aa2 : x1.cell? ⟨w.heap.size, 2, none⟩ = some (.int .u8 b3) := ((bcell g_x1).1 _ _ (by simp; try omega)).trans (by simp [go_sem])
  have z_aa_x1 := lt_of aa0
  have ab0 : x1.cell? ⟨w.heap.size + 1, 0, none⟩ = some (.bool k1) := ((bcell g_x1).1 _ _ (by simp; try omega)).trans (by simp [go_sem])
  have ab1 : x1.cell? ⟨w.heap.size + 1, 1, none⟩ = some (.bool k2) := ((bcell g_x1).1 _ _ (by simp; try omega)).trans (by simp [go_sem])
  have ab2 : x1.cell? ⟨w.heap.size + 1, 2, none⟩ = some (.bool k3) := ((bcell g_x1).1 _ _ (by simp; try omega)).trans (by simp [go_sem])
  have z_ab_x1 := lt_of ab0
  clear g_x1 s_x1 t_w
  go_wp2_with fail
  refine (lslot u0 u1 HS.out _).mono ?_
  rintro e w_18 ⟨rfl, hw⟩; obtain rfl := hw.symm
  clear hw
  go_wp2_with fail
  have s_W_1 : Below x1.heap.size x1 (x1.alloc (.cells #[.int .i64 s] 3)) := Below.alloc (Below.refl _ _) (Nat.le_refl _) _
  have as0 : (x1.alloc (.cells #[.int .i64 s] 3)).cell? ⟨x1.heap.size, 0, none⟩ = some (.int .i64 s) := by simp [go_sem]
  replace aa0 := keep aa0 s_W_1
  replace aa1 := keep aa1 s_W_1
  replace aa2 := keep aa2 s_W_1
  replace ab0 := keep ab0 s_W_1
  replace ab1 := keep ab1 s_W_1
  replace ab2 := keep ab2 s_W_1
  have t_W_1 := chain t_x1 s_W_1
  generalize x1.alloc (.cells #[.int .i64 s] 3) = W_1 at *

  refine Reg.wp_region_new (fun _ => Reg.NewCells [.int .i64 0, .int .i64 0] 23) 21 [(18, 9), (19, 10), (20, 11)] [_, _, _, _, _, _, _, _, _, _, _, _, _, _, _, _, _, _] (by kernel_rfl) (by kernel_rfl) rfl (fun _ _ _ _ _ _ _ h hb => Reg.NewCells.stable h hb) ?_
  apply Exists.intro
  refine ⟨?hq, ?hF, ?hk⟩
  case hq =>
    intro g hg
    have fu_aa0 := fut_cell (keep aa0 hg)
    have fu_aa1 := fut_cell (keep aa1 hg)
    have fu_aa2 := fut_cell (keep aa2 hg)
    have fu_ab0 := fut_cell (keep ab0 hg)
    have fu_ab1 := fut_cell (keep ab1 hg)
    have fu_ab2 := fut_cell (keep ab2 hg)
    have fu_as0 := fut_cell (keep as0 hg)
    repeat (go_big_quiet_step (first
      | (go_at_call 22; with_reducible exact fut_call (near1 s0 s2 p0 p1 HE.out F1.out N1.out _))
      | (go_at_call 22; with_reducible exact fut_call (near1 s0 s2 q0 q1 HE.out F2.out N2.out _))
      | (go_at_call 22; with_reducible exact fut_call (near1 s0 s2 r0 r1 HE.out F3.out N3.out _))))
    exact wpQuiet_nil rfl
  case hF =>
    intro p hp o ho
    simp only [List.mem_cons, List.not_mem_nil, or_false] at hp
    rcases hp with rfl | rfl | rfl
    all_goals
      obtain rfl := Option.some.inj (show some _ = some o from ho)
      refine ⟨rfl, fun w hw => Reg.fresh_of_run ?_ (Reg.newCells_alloc _ _ w)⟩
      go_simp
  intro U L H w6 s_w6 hF hA
  have f_ra := hF (18, 9) (by simp)
  have f_rb := hF (19, 10) (by simp)
  have f_rc := hF (20, 11) (by simp)
  have n_ra_rb := hA (18, 9) (by simp) (19, 10) (by simp) (by decide)
  have n_ra_rc := hA (18, 9) (by simp) (20, 11) (by simp) (by decide)
  have n_rb_rc := hA (19, 10) (by simp) (20, 11) (by simp) (by decide)
  clear hF hA
  simp only [List.foldl_cons, List.foldl_nil, List.drop_succ_cons, List.drop_zero, Act.put, List.setIfInBounds_toArray, List.set_cons_succ, List.set_cons_zero]
  rw [show U 18 = _ from f_ra.1.1]
  have ra0 : w6.cell? ⟨L 18, 0, none⟩ = some (.int .i64 0) := f_ra.1.cell 0
  have ra1 : w6.cell? ⟨L 18, 1, none⟩ = some (.int .i64 0) := f_ra.1.cell 1
  have raf : ∀ i, w6.frozen? ⟨L 18, i, none⟩ = false := fun i => f_ra.1.frozen i
  have hl_ra : W_1.heap.size ≤ L 18 := f_ra.2.1
  have hu_ra : L 18 < H 18 := f_ra.1.2.1
  have hv_ra : H 18 ≤ w6.heap.size := f_ra.1.2.2.1
  clear f_ra
  rw [show U 19 = _ from f_rb.1.1]
  have rb0 : w6.cell? ⟨L 19, 0, none⟩ = some (.int .i64 0) := f_rb.1.cell 0
  have rb1 : w6.cell? ⟨L 19, 1, none⟩ = some (.int .i64 0) := f_rb.1.cell 1
  have rbf : ∀ i, w6.frozen? ⟨L 19, i, none⟩ = false := fun i => f_rb.1.frozen i
  have hl_rb : W_1.heap.size ≤ L 19 := f_rb.2.1
  have hu_rb : L 19 < H 19 := f_rb.1.2.1
  have hv_rb : H 19 ≤ w6.heap.size := f_rb.1.2.2.1
  clear f_rb
  rw [show U 20 = _ from f_rc.1.1]
  have rc0 : w6.cell? ⟨L 20, 0, none⟩ = some (.int .i64 0) := f_rc.1.cell 0
  have rc1 : w6.cell? ⟨L 20, 1, none⟩ = some (.int .i64 0) := f_rc.1.cell 1
  have rcf : ∀ i, w6.frozen? ⟨L 20, i, none⟩ = false := fun i => f_rc.1.frozen i
  have hl_rc : W_1.heap.size ≤ L 20 := f_rc.2.1
  have hu_rc : L 20 < H 20 := f_rc.1.2.1
  have hv_rc : H 20 ≤ w6.heap.size := f_rc.1.2.2.1
  clear f_rc
  have d_ra_rb : L 18 ≠ L 19 := by have h1 : H 18 ≤ L 19 ∨ H 19 ≤ L 18 := n_ra_rb; omega
  clear n_ra_rb
  have d_ra_rc : L 18 ≠ L 20 := by have h1 : H 18 ≤ L 20 ∨ H 20 ≤ L 18 := n_ra_rc; omega
  clear n_ra_rc
  have d_rb_rc : L 19 ≠ L 20 := by have h1 : H 19 ≤ L 20 ∨ H 20 ≤ L 19 := n_rb_rc; omega
  clear n_rb_rc
  clear hv_ra hu_ra
  generalize L 18 = m_ra at *
  clear hv_rb hu_rb
  generalize L 19 = m_rb at *
  clear hv_rc hu_rc
  generalize L 20 = m_rc at *
  have t_w6 := chain t_W_1 s_w6
  have zl_aa := lt_of aa0
  have zl_ab := lt_of ab0
  have zl_as := lt_of as0
  replace aa0 := keep aa0 s_w6
  replace aa1 := keep aa1 s_w6
  replace aa2 := keep aa2 s_w6
  replace ab0 := keep ab0 s_w6
  replace ab1 := keep ab1 s_w6
  replace ab2 := keep ab2 s_w6
  replace as0 := keep as0 s_w6
  go_wp2_with fail
  clear aa0
  clear aa1
  clear aa2
  clear ab0
  clear ab1
  clear ab2
  have zw : w.heap.size ≤ W_1.heap.size := t_W_1.size
  have as0n : ((w6.setCell ⟨m_ra, 0, none⟩ (.int .i64 f1)).setCell ⟨m_ra, 1, none⟩ (.int .i64 n1)).cell? _ = _ := (cset_ne (c := m_ra) (cset_ne (c := m_ra) as0 (by omega) 0 (.int .i64 f1)) (by omega) 1 (.int .i64 n1)); clear as0; have as0 := as0n; clear as0n
  replace raf : ∀ i, ((w6.setCell ⟨m_ra, 0, none⟩ (.int .i64 f1)).setCell ⟨m_ra, 1, none⟩ (.int .i64 n1)).frozen? ⟨m_ra, i, none⟩ = false := fun i => by simp only [World.frozen?_setCell]; exact raf i
  have rb0n : ((w6.setCell ⟨m_ra, 0, none⟩ (.int .i64 f1)).setCell ⟨m_ra, 1, none⟩ (.int .i64 n1)).cell? _ = _ := (cset_ne (c := m_ra) (cset_ne (c := m_ra) rb0 (by omega) 0 (.int .i64 f1)) (by omega) 1 (.int .i64 n1)); clear rb0; have rb0 := rb0n; clear rb0n
  have rb1n : ((w6.setCell ⟨m_ra, 0, none⟩ (.int .i64 f1)).setCell ⟨m_ra, 1, none⟩ (.int .i64 n1)).cell? _ = _ := (cset_ne (c := m_ra) (cset_ne (c := m_ra) rb1 (by omega) 0 (.int .i64 f1)) (by omega) 1 (.int .i64 n1)); clear rb1; have rb1 := rb1n; clear rb1n
  replace rbf : ∀ i, ((w6.setCell ⟨m_ra, 0, none⟩ (.int .i64 f1)).setCell ⟨m_ra, 1, none⟩ (.int .i64 n1)).frozen? ⟨m_rb, i, none⟩ = false := fun i => by simp only [World.frozen?_setCell]; exact rbf i
  have rc0n : ((w6.setCell ⟨m_ra, 0, none⟩ (.int .i64 f1)).setCell ⟨m_ra, 1, none⟩ (.int .i64 n1)).cell? _ = _ := (cset_ne (c := m_ra) (cset_ne (c := m_ra) rc0 (by omega) 0 (.int .i64 f1)) (by omega) 1 (.int .i64 n1)); clear rc0; have rc0 := rc0n; clear rc0n
  have rc1n : ((w6.setCell ⟨m_ra, 0, none⟩ (.int .i64 f1)).setCell ⟨m_ra, 1, none⟩ (.int .i64 n1)).cell? _ = _ := (cset_ne (c := m_ra) (cset_ne (c := m_ra) rc1 (by omega) 0 (.int .i64 f1)) (by omega) 1 (.int .i64 n1)); clear rc1; have rc1 := rc1n; clear rc1n
  replace rcf : ∀ i, ((w6.setCell ⟨m_ra, 0, none⟩ (.int .i64 f1)).setCell ⟨m_ra, 1, none⟩ (.int .i64 n1)).frozen? ⟨m_rc, i, none⟩ = false := fun i => by simp only [World.frozen?_setCell]; exact rcf i
  have ra0n : ((w6.setCell ⟨m_ra, 0, none⟩ (.int .i64 f1)).setCell ⟨m_ra, 1, none⟩ (.int .i64 n1)).cell? ⟨m_ra, 0, none⟩ = some (.int .i64 f1) := (cset_off (cset_eq ra0 (.int .i64 f1)) (by decide) _)
  have ra1n : ((w6.setCell ⟨m_ra, 0, none⟩ (.int .i64 f1)).setCell ⟨m_ra, 1, none⟩ (.int .i64 n1)).cell? ⟨m_ra, 1, none⟩ = some (.int .i64 n1) := (cset_eq (cset_off ra1 (by decide) _) (.int .i64 n1))
  have t_W_2 : Below w.heap.size w ((w6.setCell ⟨m_ra, 0, none⟩ (.int .i64 f1)).setCell ⟨m_ra, 1, none⟩ (.int .i64 n1)) := by go_grown
  clear ra0 ra1 t_w6
  have ra0 := ra0n; clear ra0n
  have ra1 := ra1n; clear ra1n
  generalize (w6.setCell ⟨m_ra, 0, none⟩ (.int .i64 f1)).setCell ⟨m_ra, 1, none⟩ (.int .i64 n1) = W_2 at *
  have as0n : ((W_2.setCell ⟨m_rb, 0, none⟩ (.int .i64 f2)).setCell ⟨m_rb, 1, none⟩ (.int .i64 n2)).cell? _ = _ := (cset_ne (c := m_rb) (cset_ne (c := m_rb) as0 (by omega) 0 (.int .i64 f2)) (by omega) 1 (.int .i64 n2)); clear as0; have as0 := as0n; clear as0n
  have ra0n : ((W_2.setCell ⟨m_rb, 0, none⟩ (.int .i64 f2)).setCell ⟨m_rb, 1, none⟩ (.int .i64 n2)).cell? _ = _ := (cset_ne (c := m_rb) (cset_ne (c := m_rb) ra0 (by omega) 0 (.int .i64 f2)) (by omega) 1 (.int .i64 n2)); clear ra0; have ra0 := ra0n; clear ra0n
  have ra1n : ((W_2.setCell ⟨m_rb, 0, none⟩ (.int .i64 f2)).setCell ⟨m_rb, 1, none⟩ (.int .i64 n2)).cell? _ = _ := (cset_ne (c := m_rb) (cset_ne (c := m_rb) ra1 (by omega) 0 (.int .i64 f2)) (by omega) 1 (.int .i64 n2)); clear ra1; have ra1 := ra1n; clear ra1n
  replace raf : ∀ i, ((W_2.setCell ⟨m_rb, 0, none⟩ (.int .i64 f2)).setCell ⟨m_rb, 1, none⟩ (.int .i64 n2)).frozen? ⟨m_ra, i, none⟩ = false := fun i => by simp only [World.frozen?_setCell]; exact raf i
  replace rbf : ∀ i, ((W_2.setCell ⟨m_rb, 0, none⟩ (.int .i64 f2)).setCell ⟨m_rb, 1, none⟩ (.int .i64 n2)).frozen? ⟨m_rb, i, none⟩ = false := fun i => by simp only [World.frozen?_setCell]; exact rbf i
  have rc0n : ((W_2.setCell ⟨m_rb, 0, none⟩ (.int .i64 f2)).setCell ⟨m_rb, 1, none⟩ (.int .i64 n2)).cell? _ = _ := (cset_ne (c := m_rb) (cset_ne (c := m_rb) rc0 (by omega) 0 (.int .i64 f2)) (by omega) 1 (.int .i64 n2)); clear rc0; have rc0 := rc0n; clear rc0n
  have rc1n : ((W_2.setCell ⟨m_rb, 0, none⟩ (.int .i64 f2)).setCell ⟨m_rb, 1, none⟩ (.int .i64 n2)).cell? _ = _ := (cset_ne (c := m_rb) (cset_ne (c := m_rb) rc1 (by omega) 0 (.int .i64 f2)) (by omega) 1 (.int .i64 n2)); clear rc1; have rc1 := rc1n; clear rc1n
  replace rcf : ∀ i, ((W_2.setCell ⟨m_rb, 0, none⟩ (.int .i64 f2)).setCell ⟨m_rb, 1, none⟩ (.int .i64 n2)).frozen? ⟨m_rc, i, none⟩ = false := fun i => by simp only [World.frozen?_setCell]; exact rcf i
  have rb0n : ((W_2.setCell ⟨m_rb, 0, none⟩ (.int .i64 f2)).setCell ⟨m_rb, 1, none⟩ (.int .i64 n2)).cell? ⟨m_rb, 0, none⟩ = some (.int .i64 f2) := (cset_off (cset_eq rb0 (.int .i64 f2)) (by decide) _)
  have rb1n : ((W_2.setCell ⟨m_rb, 0, none⟩ (.int .i64 f2)).setCell ⟨m_rb, 1, none⟩ (.int .i64 n2)).cell? ⟨m_rb, 1, none⟩ = some (.int .i64 n2) := (cset_eq (cset_off rb1 (by decide) _) (.int .i64 n2))
  have t_W_3 : Below w.heap.size w ((W_2.setCell ⟨m_rb, 0, none⟩ (.int .i64 f2)).setCell ⟨m_rb, 1, none⟩ (.int .i64 n2)) := by go_grown
  clear rb0 rb1 t_W_2
  have rb0 := rb0n; clear rb0n
  have rb1 := rb1n; clear rb1n
  generalize (W_2.setCell ⟨m_rb, 0, none⟩ (.int .i64 f2)).setCell ⟨m_rb, 1, none⟩ (.int .i64 n2) = W_3 at *
  have as0n : ((W_3.setCell ⟨m_rc, 0, none⟩ (.int .i64 f3)).setCell ⟨m_rc, 1, none⟩ (.int .i64 n3)).cell? _ = _ := (cset_ne (c := m_rc) (cset_ne (c := m_rc) as0 (by omega) 0 (.int .i64 f3)) (by omega) 1 (.int .i64 n3)); clear as0; have as0 := as0n; clear as0n
  have ra0n : ((W_3.setCell ⟨m_rc, 0, none⟩ (.int .i64 f3)).setCell ⟨m_rc, 1, none⟩ (.int .i64 n3)).cell? _ = _ := (cset_ne (c := m_rc) (cset_ne (c := m_rc) ra0 (by omega) 0 (.int .i64 f3)) (by omega) 1 (.int .i64 n3)); clear ra0; have ra0 := ra0n; clear ra0n
  have ra1n : ((W_3.setCell ⟨m_rc, 0, none⟩ (.int .i64 f3)).setCell ⟨m_rc, 1, none⟩ (.int .i64 n3)).cell? _ = _ := (cset_ne (c := m_rc) (cset_ne (c := m_rc) ra1 (by omega) 0 (.int .i64 f3)) (by omega) 1 (.int .i64 n3)); clear ra1; have ra1 := ra1n; clear ra1n
  replace raf : ∀ i, ((W_3.setCell ⟨m_rc, 0, none⟩ (.int .i64 f3)).setCell ⟨m_rc, 1, none⟩ (.int .i64 n3)).frozen? ⟨m_ra, i, none⟩ = false := fun i => by simp only [World.frozen?_setCell]; exact raf i
  have rb0n : ((W_3.setCell ⟨m_rc, 0, none⟩ (.int .i64 f3)).setCell ⟨m_rc, 1, none⟩ (.int .i64 n3)).cell? _ = _ := (cset_ne (c := m_rc) (cset_ne (c := m_rc) rb0 (by omega) 0 (.int .i64 f3)) (by omega) 1 (.int .i64 n3)); clear rb0; have rb0 := rb0n; clear rb0n
  have rb1n : ((W_3.setCell ⟨m_rc, 0, none⟩ (.int .i64 f3)).setCell ⟨m_rc, 1, none⟩ (.int .i64 n3)).cell? _ = _ := (cset_ne (c := m_rc) (cset_ne (c := m_rc) rb1 (by omega) 0 (.int .i64 f3)) (by omega) 1 (.int .i64 n3)); clear rb1; have rb1 := rb1n; clear rb1n
  replace rbf : ∀ i, ((W_3.setCell ⟨m_rc, 0, none⟩ (.int .i64 f3)).setCell ⟨m_rc, 1, none⟩ (.int .i64 n3)).frozen? ⟨m_rb, i, none⟩ = false := fun i => by simp only [World.frozen?_setCell]; exact rbf i
  replace rcf : ∀ i, ((W_3.setCell ⟨m_rc, 0, none⟩ (.int .i64 f3)).setCell ⟨m_rc, 1, none⟩ (.int .i64 n3)).frozen? ⟨m_rc, i, none⟩ = false := fun i => by simp only [World.frozen?_setCell]; exact rcf i
  have rc0n : ((W_3.setCell ⟨m_rc, 0, none⟩ (.int .i64 f3)).setCell ⟨m_rc, 1, none⟩ (.int .i64 n3)).cell? ⟨m_rc, 0, none⟩ = some (.int .i64 f3) := (cset_off (cset_eq rc0 (.int .i64 f3)) (by decide) _)
  have rc1n : ((W_3.setCell ⟨m_rc, 0, none⟩ (.int .i64 f3)).setCell ⟨m_rc, 1, none⟩ (.int .i64 n3)).cell? ⟨m_rc, 1, none⟩ = some (.int .i64 n3) := (cset_eq (cset_off rc1 (by decide) _) (.int .i64 n3))
  have t_W_4 : Below w.heap.size w ((W_3.setCell ⟨m_rc, 0, none⟩ (.int .i64 f3)).setCell ⟨m_rc, 1, none⟩ (.int .i64 n3)) := by go_grown
  clear rc0 rc1 t_W_3
  have rc0 := rc0n; clear rc0n
  have rc1 := rc1n; clear rc1n
  generalize (W_3.setCell ⟨m_rc, 0, none⟩ (.int .i64 f3)).setCell ⟨m_rc, 1, none⟩ (.int .i64 n3) = W_4 at *
  refine (ord1 C12.out.1 C12.out.2.1 _ _ as0).mono ?_
  rintro e x7 ⟨rfl, g_x7⟩
  have s_x7 : Below W_4.heap.size W_4 x7 := chain (by go_grown) g_x7
  have t_x7 := chain t_W_4 s_x7
  replace raf := fkeep2 raf (lt_of ra0) s_x7
  replace rbf := fkeep2 rbf (lt_of rb0) s_x7
  replace rcf := fkeep2 rcf (lt_of rc0) s_x7
  replace as0 := keep as0 s_x7
  have z_as0_x7 := lt_of as0
  replace ra0 := keep ra0 s_x7
  have z_ra0_x7 := lt_of ra0
  replace ra1 := keep ra1 s_x7
  replace rb0 := keep rb0 s_x7
  have z_rb0_x7 := lt_of rb0
  replace rb1 := keep rb1 s_x7
  replace rc0 := keep rc0 s_x7
  have z_rc0_x7 := lt_of rc0
  replace rc1 := keep rc1 s_x7
  clear g_x7 s_x7 z_aa_x1 z_ab_x1 t_W_4
  go_wp2_with fail
  have s_W_5 : Below x7.heap.size x7 (x7.alloc (.cells #[.int .i64 x, .int .i64 y] 23)) := Below.alloc (Below.refl _ _) (Nat.le_refl _) _
  have rd0 : (x7.alloc (.cells #[.int .i64 x, .int .i64 y] 23)).cell? ⟨x7.heap.size, 0, none⟩ = some (.int .i64 x) := by simp [go_sem]
  have rd1 : (x7.alloc (.cells #[.int .i64 x, .int .i64 y] 23)).cell? ⟨x7.heap.size, 1, none⟩ = some (.int .i64 y) := by simp [go_sem]
  replace raf := fkeep2 raf (lt_of ra0) s_W_5
  replace rbf := fkeep2 rbf (lt_of rb0) s_W_5
  replace rcf := fkeep2 rcf (lt_of rc0) s_W_5
  replace as0 := keep as0 s_W_5
  replace ra0 := keep ra0 s_W_5
  replace ra1 := keep ra1 s_W_5
  replace rb0 := keep rb0 s_W_5
  replace rb1 := keep rb1 s_W_5
  replace rc0 := keep rc0 s_W_5
  replace rc1 := keep rc1 s_W_5
  have t_W_5 := chain t_x7 s_W_5
  generalize x7.alloc (.cells #[.int .i64 x, .int .i64 y] 23) = W_5 at *
  have fu_as0 := fut_cell as0
  have fu_ra0 := fut_cell ra0
  have fu_ra1 := fut_cell ra1
  have fu_rb0 := fut_cell rb0
  have fu_rb1 := fut_cell rb1
  have fu_rc0 := fut_cell rc0
  have fu_rc1 := fut_cell rc1
  have fu_rd0 := fut_cell rd0
  have fu_rd1 := fut_cell rd1
  refine wp_region_fut (by kernel_rfl) (by kernel_rfl) ?_
  repeat (go_big_quiet_step (first
    | (go_at_call 23; with_reducible exact fut_call (ord1 C21.out.1 C21.out.2.1 _ _ (fu_as0 _)))
    | (go_at_call 23; with_reducible exact fut_call (ord1 D1.out.1 D1.out.2.1 _ _ (fu_as0 _)))
    | (go_at_call 23; with_reducible exact fut_call (ord1 D2.out.1 D2.out.2.1 _ _ (fu_as0 _)))
    | (go_at_call 23; with_reducible exact fut_call (ord1 D3.out.1 D3.out.2.1 _ _ (fu_as0 _)))
    | (go_at_call 23; with_reducible exact fut_call (ord1 D4.out.1 D4.out.2.1 _ _ (fu_as0 _)))
    | (go_at_call 23; with_reducible exact fut_call (ord1 D5.out.1 D5.out.2.1 _ _ (fu_as0 _)))
    | (go_at_call 23; with_reducible exact fut_call (ord1 D6.out.1 D6.out.2.1 _ _ (fu_as0 _)))))
  refine wpQuiet_nil ?_
  rintro _ ⟨⟨x9, s_x9⟩, rfl⟩
  clear fu_as0 fu_ra0 fu_ra1 fu_rb0 fu_rb1 fu_rc0 fu_rc1 fu_rd0 fu_rd1
  have t_x9 := chain t_W_5 s_x9
  replace raf := fkeep2 raf (lt_of ra0) s_x9
  replace rbf := fkeep2 rbf (lt_of rb0) s_x9
  replace rcf := fkeep2 rcf (lt_of rc0) s_x9
  replace as0 := keep as0 s_x9
  replace ra0 := keep ra0 s_x9
  replace ra1 := keep ra1 s_x9
  replace rb0 := keep rb0 s_x9
  replace rb1 := keep rb1 s_x9
  replace rc0 := keep rc0 s_x9
  replace rc1 := keep rc1 s_x9
  replace rd0 := keep rd0 s_x9
  replace rd1 := keep rd1 s_x9
  go_wp2_with fail
  go_ret
  exact ⟨rfl, by first | exact t_x9 | go_grown⟩
end Go.Proofs.Ytabfmhkmofebnaa
