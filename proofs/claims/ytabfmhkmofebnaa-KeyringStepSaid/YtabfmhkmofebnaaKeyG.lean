/- The law of keyring: Step. -/
import Derived.Test.YtabfmhkmofebnaaKeyF
namespace Go.Proofs.Ytabfmhkmofebnaa
open Go.ChangeShapes Go.WideShapes Go.ChangeAt Go.RowKit
theorem okr_mk {f n : Int} (h0 : 0 ≤ f) (h1 : f ≤ 500000) (h2 : f + 1 ≤ n) (h3 : n ≤ 500002) : okr f n = true := by simp only [okr, decide_eq_true_eq]; omega
theorem knb_mk {f n e : Int} (h0 : 0 ≤ f) (h1 : f ≤ 500000) (h3 : n ≤ 500002) (h4 : f ≤ e) (h5 : e < n) : knb f n e = true := knb_iff.2 ⟨h0, h1, h3, h4, h5⟩
theorem age_to {f n a e : Int} (ha : oka a = true) (he : a / 2000 = e) (h0 : 0 ≤ f) (h1 : f ≤ e) (h2 : e < n) (h3 : n ≤ 500002) (h4 : e ≤ 500000) : agF f n a = e ∧ agN f n a = n := by
  have ho : okr f n = true := okr_mk h0 (by omega) (by omega) h3
  by_cases hf : f < e
  · have hd : agd f n a = true := (agd_iff ha).2 ⟨ho, by omega⟩
    have hn : ¬ n ≤ e := by omega
    simp [agF, agN, hd, he, hn]
  · have hd : agd f n a = false := by rw [← Bool.not_eq_true, agd_iff ha]; omega
    have : f = e := by omega
    subst this
    simp [agF, agN, hd]
theorem learn_to {f a e : Int} (ha : oka a = true) (he : a / 2000 = e) (h0 : 0 ≤ f) (h1 : f ≤ e) (h4 : e ≤ 500000) : lrF f (e + 1) e (e + 2) a = f ∧ lrN f (e + 1) e (e + 2) a = e + 2 := by
  have hl : lrn f (e + 1) e (e + 2) a = true := by
    unfold lrn
    rw [ha, he, knb_mk h0 (by omega) (by omega) h1 (by omega), knb_mk (by omega) h4 (by omega) (Int.le_refl e) (by omega)]
    simp
  have h5 : ¬ e < f := by omega
  have h6 : e + 1 < e + 2 := by omega
  simp [lrF, lrN, hl, h5, h6]
set_option maxRecDepth 100000 in
set_option maxHeartbeats 8000000 in
theorem stepW {u : Int} {a1 : Option Addr} {len1 cap1 : Nat} {z1 : List Int} {a2 : Option Addr} {len2 cap2 : Nat} {z2 : List Int} (u0 : 0 ≤ u) (u1 : u ≤ 4294967295) (w : World)
    (hz1 : IsRow .u16 w a1 len1 cap1 z1) (hz2 : IsRow .u16 w a2 len2 cap2 z2) : Calls Try.prog 9 #[.int .u32 u, .slice a1 len1 cap1, .slice a2 len2 cap2] w fun e w' => e = .returned (.bool true) ∧ Below w.heap.size w w' := by
  obtain ⟨s, hs⟩ : ∃ s, u % 999996000 = s := ⟨_, rfl⟩
  obtain ⟨s0, s1⟩ := slot_b u0 hs
  obtain ⟨t, ht⟩ : ∃ t, s % 999920000 = t := ⟨_, rfl⟩
  obtain ⟨f0, hf0⟩ : ∃ f, t - t % 2000 = f := ⟨_, rfl⟩
  obtain ⟨E0, hE0⟩ : ∃ E, f0 / 2000 = E := ⟨_, rfl⟩
  have t0 : 0 ≤ t := by omega
  have t1 : t < 999920000 := by omega
  have hfE : f0 = 2000 * E0 := by omega
  have e0 : 0 ≤ E0 := by omega
  have e1 : E0 ≤ 499960 := by omega
  have g0 : 0 ≤ f0 := by omega
  have g1 : f0 ≤ 999920000 := by omega
  have hcap1 := row_len hz1
  have hcap2 := row_len hz2
  have HS := Lib.hid hs; have HFE := Lib.hid hfE; have HZ1 := Lib.hid hz1; have HZ2 := Lib.hid hz2
  clear hs hfE hz1 hz2
  have t_w := Below.refl w.heap.size w
  go_enter Try.func9, Try.ntmps9
  go_wp2_with fail
  refine (head _).mono ?_
  rintro e x1 ⟨rfl, g_x1⟩
  have s_x1 : Below w.heap.size w x1 := chain (by go_grown) g_x1
  have t_x1 := chain t_w s_x1
  clear g_x1 s_x1 t_w
  go_wp2_with fail
  refine (lslot u0 u1 HS.out _).mono ?_
  rintro e w_3 ⟨rfl, hw⟩; obtain rfl := hw.symm
  clear hw
  go_wp2_with fail
  refine (lring _).mono ?_
  rintro e z ⟨rfl, g_z⟩
  have s_z : Below x1.heap.size x1 z := chain (by go_grown) g_z
  have t_z := chain t_x1 s_z
  clear g_z s_z t_x1
  go_wp2_with fail
  have zle : w.heap.size ≤ z.heap.size := t_z.size
  have s_W_1 : Below z.heap.size z (z.alloc (.cells #[.int .i64 E0, .int .i64 (E0 + 1)] 23)) := Below.alloc (Below.refl _ _) (Nat.le_refl _) _
  have r0 : (z.alloc (.cells #[.int .i64 E0, .int .i64 (E0 + 1)] 23)).cell? ⟨z.heap.size, 0, none⟩ = some (.int .i64 E0) := by simp [go_sem]
  have r1 : (z.alloc (.cells #[.int .i64 E0, .int .i64 (E0 + 1)] 23)).cell? ⟨z.heap.size, 1, none⟩ = some (.int .i64 (E0 + 1)) := by simp [go_sem]
  have rf : ∀ i, (z.alloc (.cells #[.int .i64 E0, .int .i64 (E0 + 1)] 23)).frozen? ⟨z.heap.size, i, none⟩ = false := fun i => by simp [go_sem]
  have t_W_1 := chain t_z s_W_1
  generalize z.alloc (.cells #[.int .i64 E0, .int .i64 (E0 + 1)] 23) = W_1 at *
  go_loopw [9, 11] (fun c i wr => ∃ (k : Nat) (fi E x : Int), k ≤ len1 ∧ k ≤ 30 ∧ c = .int .i64 fi ∧ i = .int .i64 k ∧ Hid (fi = 2000 * E) ∧ Hid (E = E0 + k) ∧ 0 ≤ x ∧ x ≤ E ∧ wr.cell? ⟨z.heap.size, 0, none⟩ = some (.int .i64 x) ∧ wr.cell? ⟨z.heap.size, 1, none⟩ = some (.int .i64 (E + 1)) ∧ (∀ i, wr.frozen? ⟨z.heap.size, i, none⟩ = false) ∧ Below w.heap.size w wr) (fun _ i _ => 30 - (intOf i).toNat)
  case atStart => exact ⟨0, f0, E0, E0, by omega, by omega, rfl, rfl, HFE, Lib.hid (by omega), e0, by omega, r0, r1, rf, by assumption⟩
  case round =>
    obtain ⟨k, fi, E, x, k0, k1, rfl, rfl, HF, HEk, x0, x1, r0, r1, rf, t_wr⟩ := hrel
    clear hf0 hE0 t0 t1 ht HFE
    by_cases hlt : k < len1 ∧ k < 30
    · obtain ⟨q1, q2⟩ := hlt
      obtain ⟨b, o, rfl, hc, hw⟩ := row_at HZ1.out q1
      have hcr : wr.cell? ⟨b, o + k, none⟩ = some (.int .u16 (z1.getD k 0)) := keep (hc k q1) t_wr
      have n1 := bounds_u16 (hw k q1)
      clear hc hw
      generalize z1.getD k 0 = g at *
      obtain ⟨n1, n2⟩ := n1
      obtain ⟨hd, hhd⟩ : ∃ x, fi + g % 2000 = x := ⟨_, rfl⟩
      have hd0 : fi ≤ hd := by omega
      have hd1 : hd < fi + 2000 := by omega
      by_cases q3 : k < len2
      · obtain ⟨b2, o2, rfl, hc2, hw2⟩ := row_at HZ2.out q3
        have hcr2 : wr.cell? ⟨b2, o2 + k, none⟩ = some (.int .u16 (z2.getD k 0)) := keep (hc2 k q3) t_wr
        have m1 := bounds_u16 (hw2 k q3)
        clear hc2 hw2
        generalize z2.getD k 0 = h at *
        obtain ⟨m1, m2⟩ := m1
        obtain ⟨ag, hag⟩ : ∃ x, fi + h % 2000 = x := ⟨_, rfl⟩
        have ag0 : fi ≤ ag := by omega
        have ag1 : ag < fi + 2000 := by omega
        have hE : fi / 2000 = E := by have := HF.out; omega
        have hfi0 : 0 ≤ fi := by have := HF.out; omega
        have hfi1 : fi ≤ 999980000 := by have := HF.out; have := HEk.out; omega
        have hE0 : 0 ≤ E := by have := HEk.out; omega
        have hE1 : E ≤ 499990 := by have := HEk.out; omega
        have hda : ag / 2000 = E := by have := HF.out; omega
        have hdd : hd / 2000 = E := by have := HF.out; omega
        have oa := oka_mk (a := ag) (by omega) (by omega)
        have oh := oka_mk (a := hd) (by omega) (by omega)
        have of := oka_mk (a := fi) (by omega) (by omega)
        have HKa := Lib.hid (knb_mk (e := E) x0 (by omega) (show E + 1 ≤ 500002 by omega) x1 (by omega))
        have HKb := Lib.hid (knb_mk (f := E) (n := E + 2) (e := E) (by omega) (by omega) (by omega) (by omega) (by omega))
        have HKc := Lib.hid (knb_mk (f := E) (n := E + 2) (e := E + 1) (by omega) (by omega) (by omega) (by omega) (by omega))
        have HHE := Lib.hid hE; have HDA := Lib.hid hda; have HDD := Lib.hid hdd; have OA := Lib.hid oa; have OH := Lib.hid oh; have OF := Lib.hid of
        clear hE hda hdd oa oh of
        by_cases hle : ag ≤ hd
        · have a1 := age_to (n := E + 1) OA.out HDA.out x0 x1 (by omega) (by omega) (by omega)
          have l1 := learn_to OH.out HDD.out hE0 (Int.le_refl E) (by omega)
          have A1 := Lib.hid a1.1; have A2 := Lib.hid a1.2; have L1 := Lib.hid l1.1; have L2 := Lib.hid l1.2
          clear a1 l1
          have d3 : decide (ag ≤ hd) = true := decide_eq_true hle
          have d4 : decide (hd < ag) = false := decide_eq_false (by omega)
          clear hle
          go_wp2_with fail
          refine (epoch1 OF.out HHE.out _).mono ?_
          rintro e y1 ⟨rfl, g_y1⟩
          have s_y1 : Below wr.heap.size wr y1 := chain (by go_grown) g_y1
          have t_y1 := chain t_wr s_y1
          replace rf := fkeep2 rf (lt_of r0) s_y1
          replace r0 := keep r0 s_y1
          have z_r0_y1 := lt_of r0
          replace r1 := keep r1 s_y1
          clear g_y1 s_y1 t_wr
          go_wp2_with fail
          refine (knows HKa.out _).mono ?_
          rintro e y2 ⟨rfl, g_y2⟩
          have s_y2 : Below y1.heap.size y1 y2 := chain (by go_grown) g_y2
          have t_y2 := chain t_y1 s_y2
          replace rf := fkeep2 rf (lt_of r0) s_y2
          replace r0 := keep r0 s_y2
          have z_r0_y2 := lt_of r0
          replace r1 := keep r1 s_y2
          clear g_y2 s_y2 z_r0_y1 t_y1
          go_wp2_with fail
          refine (age A1.out A2.out _).mono ?_
          rintro e y3 ⟨rfl, g_y3⟩
          have s_y3 : Below y2.heap.size y2 y3 := chain (by go_grown) g_y3
          have t_y3 := chain t_y2 s_y3
          replace rf := fkeep2 rf (lt_of r0) s_y3
          replace r0 := keep r0 s_y3
          have z_r0_y3 := lt_of r0
          replace r1 := keep r1 s_y3
          clear g_y3 s_y3 z_r0_y2 t_y2
          go_wp2_with fail
          replace rf : ∀ i, ((y3.setCell ⟨z.heap.size, 0, none⟩ (.int .i64 E)).setCell ⟨z.heap.size, 1, none⟩ (.int .i64 (E + 1))).frozen? ⟨z.heap.size, i, none⟩ = false := fun i => by simp only [World.frozen?_setCell]; exact rf i
          have r0n : ((y3.setCell ⟨z.heap.size, 0, none⟩ (.int .i64 E)).setCell ⟨z.heap.size, 1, none⟩ (.int .i64 (E + 1))).cell? ⟨z.heap.size, 0, none⟩ = some (.int .i64 E) := (cset_off (cset_eq r0 (.int .i64 E)) (by decide) _)
          have r1n : ((y3.setCell ⟨z.heap.size, 0, none⟩ (.int .i64 E)).setCell ⟨z.heap.size, 1, none⟩ (.int .i64 (E + 1))).cell? ⟨z.heap.size, 1, none⟩ = some (.int .i64 (E + 1)) := (cset_eq (cset_off r1 (by decide) _) (.int .i64 (E + 1)))
          have t_W_2 : Below w.heap.size w ((y3.setCell ⟨z.heap.size, 0, none⟩ (.int .i64 E)).setCell ⟨z.heap.size, 1, none⟩ (.int .i64 (E + 1))) := by go_grown
          clear r0 r1 t_y3
          have r0 := r0n; clear r0n
          have r1 := r1n; clear r1n
          generalize (y3.setCell ⟨z.heap.size, 0, none⟩ (.int .i64 E)).setCell ⟨z.heap.size, 1, none⟩ (.int .i64 (E + 1)) = W_2 at *
          go_upto_region 17 with fail
          go_cut [] (fun wx => wx.cell? ⟨z.heap.size, 0, none⟩ = some (.int .i64 E) ∧ wx.cell? ⟨z.heap.size, 1, none⟩ = some (.int .i64 (E + 2)) ∧ (∀ i, wx.frozen? ⟨z.heap.size, i, none⟩ = false) ∧ Below w.heap.size w wx)
          case first =>
            go_region_with (first
              | (go_at_call 15; with_reducible refine (root1 OH.out HDD.out _).mono ?_; rintro e w_a0 ⟨rfl, h_a0⟩; have hb_a0 : Below W_2.heap.size W_2 w_a0 := chain (by go_grown) h_a0; have r0_a0 := keep r0 hb_a0; have r1_a0 := keep r1 hb_a0; have rf_a0 := fkeep2 rf (lt_of r0) hb_a0; have t_a0 := chain t_W_2 hb_a0; clear h_a0)
              | (go_at_call 17; with_reducible refine (learn L1.out L2.out _).mono ?_; rintro e w_a1 ⟨rfl, h_a1⟩; have hb_a1 : Below W_2.heap.size W_2 w_a1 := chain (by go_grown) h_a1; have r0_a1 := keep r0 hb_a1; have r1_a1 := keep r1 hb_a1; have rf_a1 := fkeep2 rf (lt_of r0) hb_a1; have t_a1 := chain t_W_2 hb_a1; clear h_a1))
            all_goals
              go_wp2_with fail
              go_meet
              exact ⟨by simp [go_sem, *], by simp [go_sem, *], fun i => by simp [go_sem, *], by go_grown⟩
          obtain ⟨W_3, e_W_3⟩ : ∃ x, x = wc := ⟨_, rfl⟩
          subst e_W_3
          clear r0 r1 rf t_W_2
          obtain ⟨r0, r1, rf, t_W_3⟩ := hcut
          go_wp2_with fail
          refine (knows HKb.out _).mono ?_
          rintro e y6 ⟨rfl, g_y6⟩
          have s_y6 : Below W_3.heap.size W_3 y6 := chain (by go_grown) g_y6
          have t_y6 := chain t_W_3 s_y6
          replace rf := fkeep2 rf (lt_of r0) s_y6
          replace r0 := keep r0 s_y6
          have z_r0_y6 := lt_of r0
          replace r1 := keep r1 s_y6
          clear g_y6 s_y6 z_r0_y3 t_W_3
          go_wp2_with fail
          refine (knows HKc.out _).mono ?_
          rintro e y7 ⟨rfl, g_y7⟩
          have s_y7 : Below y6.heap.size y6 y7 := chain (by go_grown) g_y7
          have t_y7 := chain t_y6 s_y7
          replace rf := fkeep2 rf (lt_of r0) s_y7
          replace r0 := keep r0 s_y7
          have z_r0_y7 := lt_of r0
          replace r1 := keep r1 s_y7
          clear g_y7 s_y7 z_r0_y6 t_y6
          go_wp2_with fail
          go_roundw
          case rel => exact ⟨k + 1, fi + 2000, E + 1, E, by omega, by omega, rfl, by go_num, Lib.hid (by have := HF.out; omega), Lib.hid (by have := HEk.out; omega), by omega, by omega, r0, (by rw [show E + 1 + 1 = E + 2 by omega]; exact r1), rf, t_y7⟩
          case measure => simp [intOf]; omega
        · have l1 := learn_to OH.out HDD.out x0 x1 (by omega)
          have a1 := age_to (n := E + 2) OA.out HDA.out x0 x1 (by omega) (by omega) (by omega)
          have A1 := Lib.hid a1.1; have A2 := Lib.hid a1.2; have L1 := Lib.hid l1.1; have L2 := Lib.hid l1.2
          clear a1 l1
          have d3 : decide (ag ≤ hd) = false := decide_eq_false hle
          have d4 : decide (hd < ag) = true := decide_eq_true (by omega)
          clear hle
          go_wp2_with fail
          refine (epoch1 OF.out HHE.out _).mono ?_
          rintro e y1 ⟨rfl, g_y1⟩
          have s_y1 : Below wr.heap.size wr y1 := chain (by go_grown) g_y1
          have t_y1 := chain t_wr s_y1
          replace rf := fkeep2 rf (lt_of r0) s_y1
          replace r0 := keep r0 s_y1
          have z_r0_y1 := lt_of r0
          replace r1 := keep r1 s_y1
          clear g_y1 s_y1 t_wr
          go_wp2_with fail
          refine (knows HKa.out _).mono ?_
          rintro e y2 ⟨rfl, g_y2⟩
          have s_y2 : Below y1.heap.size y1 y2 := chain (by go_grown) g_y2
          have t_y2 := chain t_y1 s_y2
          replace rf := fkeep2 rf (lt_of r0) s_y2
          replace r0 := keep r0 s_y2
          have z_r0_y2 := lt_of r0
          replace r1 := keep r1 s_y2
          clear g_y2 s_y2 z_r0_y1 t_y1
          go_wp2_with fail
          go_upto_region 17 with fail
          go_cut [] (fun wx => wx.cell? ⟨z.heap.size, 0, none⟩ = some (.int .i64 x) ∧ wx.cell? ⟨z.heap.size, 1, none⟩ = some (.int .i64 (E + 2)) ∧ (∀ i, wx.frozen? ⟨z.heap.size, i, none⟩ = false) ∧ Below w.heap.size w wx)
          case first =>
            go_region_with (first
              | (go_at_call 15; with_reducible refine (root1 OH.out HDD.out _).mono ?_; rintro e w_a0 ⟨rfl, h_a0⟩; have hb_a0 : Below y2.heap.size y2 w_a0 := chain (by go_grown) h_a0; have r0_a0 := keep r0 hb_a0; have r1_a0 := keep r1 hb_a0; have rf_a0 := fkeep2 rf (lt_of r0) hb_a0; have t_a0 := chain t_y2 hb_a0; clear h_a0)
              | (go_at_call 17; with_reducible refine (learn L1.out L2.out _).mono ?_; rintro e w_a1 ⟨rfl, h_a1⟩; have hb_a1 : Below y2.heap.size y2 w_a1 := chain (by go_grown) h_a1; have r0_a1 := keep r0 hb_a1; have r1_a1 := keep r1 hb_a1; have rf_a1 := fkeep2 rf (lt_of r0) hb_a1; have t_a1 := chain t_y2 hb_a1; clear h_a1))
            all_goals
              go_wp2_with fail
              go_meet
              exact ⟨by simp [go_sem, *], by simp [go_sem, *], fun i => by simp [go_sem, *], by go_grown⟩
          obtain ⟨W_4, e_W_4⟩ : ∃ x, x = wc := ⟨_, rfl⟩
          subst e_W_4
          clear r0 r1 rf t_y2
          obtain ⟨r0, r1, rf, t_W_4⟩ := hcut
          go_wp2_with fail
          refine (age A1.out A2.out _).mono ?_
          rintro e y3 ⟨rfl, g_y3⟩
          have s_y3 : Below W_4.heap.size W_4 y3 := chain (by go_grown) g_y3
          have t_y3 := chain t_W_4 s_y3
          replace rf := fkeep2 rf (lt_of r0) s_y3
          replace r0 := keep r0 s_y3
          have z_r0_y3 := lt_of r0
          replace r1 := keep r1 s_y3
          clear g_y3 s_y3 z_r0_y2 t_W_4
          go_wp2_with fail
          replace rf : ∀ i, ((y3.setCell ⟨z.heap.size, 0, none⟩ (.int .i64 E)).setCell ⟨z.heap.size, 1, none⟩ (.int .i64 (E + 2))).frozen? ⟨z.heap.size, i, none⟩ = false := fun i => by simp only [World.frozen?_setCell]; exact rf i
          have r0n : ((y3.setCell ⟨z.heap.size, 0, none⟩ (.int .i64 E)).setCell ⟨z.heap.size, 1, none⟩ (.int .i64 (E + 2))).cell? ⟨z.heap.size, 0, none⟩ = some (.int .i64 E) := (cset_off (cset_eq r0 (.int .i64 E)) (by decide) _)
          have r1n : ((y3.setCell ⟨z.heap.size, 0, none⟩ (.int .i64 E)).setCell ⟨z.heap.size, 1, none⟩ (.int .i64 (E + 2))).cell? ⟨z.heap.size, 1, none⟩ = some (.int .i64 (E + 2)) := (cset_eq (cset_off r1 (by decide) _) (.int .i64 (E + 2)))
          have t_W_5 : Below w.heap.size w ((y3.setCell ⟨z.heap.size, 0, none⟩ (.int .i64 E)).setCell ⟨z.heap.size, 1, none⟩ (.int .i64 (E + 2))) := by go_grown
          clear r0 r1 t_y3
          have r0 := r0n; clear r0n
          have r1 := r1n; clear r1n
          generalize (y3.setCell ⟨z.heap.size, 0, none⟩ (.int .i64 E)).setCell ⟨z.heap.size, 1, none⟩ (.int .i64 (E + 2)) = W_5 at *
          go_wp2_with fail
          refine (knows HKb.out _).mono ?_
          rintro e y6 ⟨rfl, g_y6⟩
          have s_y6 : Below W_5.heap.size W_5 y6 := chain (by go_grown) g_y6
          have t_y6 := chain t_W_5 s_y6
          replace rf := fkeep2 rf (lt_of r0) s_y6
          replace r0 := keep r0 s_y6
          have z_r0_y6 := lt_of r0
          replace r1 := keep r1 s_y6
          clear g_y6 s_y6 z_r0_y3 t_W_5
          go_wp2_with fail
          refine (knows HKc.out _).mono ?_
          rintro e y7 ⟨rfl, g_y7⟩
          have s_y7 : Below y6.heap.size y6 y7 := chain (by go_grown) g_y7
          have t_y7 := chain t_y6 s_y7
          replace rf := fkeep2 rf (lt_of r0) s_y7
          replace r0 := keep r0 s_y7
          have z_r0_y7 := lt_of r0
          replace r1 := keep r1 s_y7
          clear g_y7 s_y7 z_r0_y6 t_y6
          go_wp2_with fail
          go_roundw
          case rel => exact ⟨k + 1, fi + 2000, E + 1, E, by omega, by omega, rfl, by go_num, Lib.hid (by have := HF.out; omega), Lib.hid (by have := HEk.out; omega), by omega, by omega, r0, (by rw [show E + 1 + 1 = E + 2 by omega]; exact r1), rf, t_y7⟩
          case measure => simp [intOf]; omega
      · have hle : fi ≤ hd := hd0
        have hE : fi / 2000 = E := by have := HF.out; omega
        have hfi0 : 0 ≤ fi := by have := HF.out; omega
        have hfi1 : fi ≤ 999980000 := by have := HF.out; have := HEk.out; omega
        have hE0 : 0 ≤ E := by have := HEk.out; omega
        have hE1 : E ≤ 499990 := by have := HEk.out; omega
        have hda : fi / 2000 = E := by have := HF.out; omega
        have hdd : hd / 2000 = E := by have := HF.out; omega
        have oa := oka_mk (a := fi) (by omega) (by omega)
        have oh := oka_mk (a := hd) (by omega) (by omega)
        have of := oka_mk (a := fi) (by omega) (by omega)
        have HKa := Lib.hid (knb_mk (e := E) x0 (by omega) (show E + 1 ≤ 500002 by omega) x1 (by omega))
        have HKb := Lib.hid (knb_mk (f := E) (n := E + 2) (e := E) (by omega) (by omega) (by omega) (by omega) (by omega))
        have HKc := Lib.hid (knb_mk (f := E) (n := E + 2) (e := E + 1) (by omega) (by omega) (by omega) (by omega) (by omega))
        have HHE := Lib.hid hE; have HDA := Lib.hid hda; have HDD := Lib.hid hdd; have OA := Lib.hid oa; have OH := Lib.hid oh; have OF := Lib.hid of
        clear hE hda hdd oa oh of
        have a1 := age_to (n := E + 1) OA.out HDA.out x0 x1 (by omega) (by omega) (by omega)
        have l1 := learn_to OH.out HDD.out hE0 (Int.le_refl E) (by omega)
        have A1 := Lib.hid a1.1; have A2 := Lib.hid a1.2; have L1 := Lib.hid l1.1; have L2 := Lib.hid l1.2
        clear a1 l1
        have d3 : decide (fi ≤ hd) = true := decide_eq_true hle
        have d4 : decide (hd < fi) = false := decide_eq_false (by omega)
        clear hle
        go_wp2_with fail
        refine (epoch1 OF.out HHE.out _).mono ?_
        rintro e y1 ⟨rfl, g_y1⟩
        have s_y1 : Below wr.heap.size wr y1 := chain (by go_grown) g_y1
        have t_y1 := chain t_wr s_y1
        replace rf := fkeep2 rf (lt_of r0) s_y1
        replace r0 := keep r0 s_y1
        have z_r0_y1 := lt_of r0
        replace r1 := keep r1 s_y1
        clear g_y1 s_y1 t_wr
        go_wp2_with fail
        refine (knows HKa.out _).mono ?_
        rintro e y2 ⟨rfl, g_y2⟩
        have s_y2 : Below y1.heap.size y1 y2 := chain (by go_grown) g_y2
        have t_y2 := chain t_y1 s_y2
        replace rf := fkeep2 rf (lt_of r0) s_y2
        replace r0 := keep r0 s_y2
        have z_r0_y2 := lt_of r0
        replace r1 := keep r1 s_y2
        clear g_y2 s_y2 z_r0_y1 t_y1
        go_wp2_with fail
        refine (age A1.out A2.out _).mono ?_
        rintro e y3 ⟨rfl, g_y3⟩
        have s_y3 : Below y2.heap.size y2 y3 := chain (by go_grown) g_y3
        have t_y3 := chain t_y2 s_y3
        replace rf := fkeep2 rf (lt_of r0) s_y3
        replace r0 := keep r0 s_y3
        have z_r0_y3 := lt_of r0
        replace r1 := keep r1 s_y3
        clear g_y3 s_y3 z_r0_y2 t_y2
        go_wp2_with fail
        replace rf : ∀ i, ((y3.setCell ⟨z.heap.size, 0, none⟩ (.int .i64 E)).setCell ⟨z.heap.size, 1, none⟩ (.int .i64 (E + 1))).frozen? ⟨z.heap.size, i, none⟩ = false := fun i => by simp only [World.frozen?_setCell]; exact rf i
        have r0n : ((y3.setCell ⟨z.heap.size, 0, none⟩ (.int .i64 E)).setCell ⟨z.heap.size, 1, none⟩ (.int .i64 (E + 1))).cell? ⟨z.heap.size, 0, none⟩ = some (.int .i64 E) := (cset_off (cset_eq r0 (.int .i64 E)) (by decide) _)
        have r1n : ((y3.setCell ⟨z.heap.size, 0, none⟩ (.int .i64 E)).setCell ⟨z.heap.size, 1, none⟩ (.int .i64 (E + 1))).cell? ⟨z.heap.size, 1, none⟩ = some (.int .i64 (E + 1)) := (cset_eq (cset_off r1 (by decide) _) (.int .i64 (E + 1)))
        have t_W_6 : Below w.heap.size w ((y3.setCell ⟨z.heap.size, 0, none⟩ (.int .i64 E)).setCell ⟨z.heap.size, 1, none⟩ (.int .i64 (E + 1))) := by go_grown
        clear r0 r1 t_y3
        have r0 := r0n; clear r0n
        have r1 := r1n; clear r1n
        generalize (y3.setCell ⟨z.heap.size, 0, none⟩ (.int .i64 E)).setCell ⟨z.heap.size, 1, none⟩ (.int .i64 (E + 1)) = W_6 at *
        go_upto_region 17 with fail
        go_cut [] (fun wx => wx.cell? ⟨z.heap.size, 0, none⟩ = some (.int .i64 E) ∧ wx.cell? ⟨z.heap.size, 1, none⟩ = some (.int .i64 (E + 2)) ∧ (∀ i, wx.frozen? ⟨z.heap.size, i, none⟩ = false) ∧ Below w.heap.size w wx)
        case first =>
          go_region_with (first
            | (go_at_call 15; with_reducible refine (root1 OH.out HDD.out _).mono ?_; rintro e w_a0 ⟨rfl, h_a0⟩; have hb_a0 : Below W_6.heap.size W_6 w_a0 := chain (by go_grown) h_a0; have r0_a0 := keep r0 hb_a0; have r1_a0 := keep r1 hb_a0; have rf_a0 := fkeep2 rf (lt_of r0) hb_a0; have t_a0 := chain t_W_6 hb_a0; clear h_a0)
            | (go_at_call 17; with_reducible refine (learn L1.out L2.out _).mono ?_; rintro e w_a1 ⟨rfl, h_a1⟩; have hb_a1 : Below W_6.heap.size W_6 w_a1 := chain (by go_grown) h_a1; have r0_a1 := keep r0 hb_a1; have r1_a1 := keep r1 hb_a1; have rf_a1 := fkeep2 rf (lt_of r0) hb_a1; have t_a1 := chain t_W_6 hb_a1; clear h_a1))
          all_goals
            go_wp2_with fail
            go_meet
            exact ⟨by simp [go_sem, *], by simp [go_sem, *], fun i => by simp [go_sem, *], by go_grown⟩
        obtain ⟨W_7, e_W_7⟩ : ∃ x, x = wc := ⟨_, rfl⟩
        subst e_W_7
        clear r0 r1 rf t_W_6
        obtain ⟨r0, r1, rf, t_W_7⟩ := hcut
        go_wp2_with fail
        refine (knows HKb.out _).mono ?_
        rintro e y6 ⟨rfl, g_y6⟩
        have s_y6 : Below W_7.heap.size W_7 y6 := chain (by go_grown) g_y6
        have t_y6 := chain t_W_7 s_y6
        replace rf := fkeep2 rf (lt_of r0) s_y6
        replace r0 := keep r0 s_y6
        have z_r0_y6 := lt_of r0
        replace r1 := keep r1 s_y6
        clear g_y6 s_y6 z_r0_y3 t_W_7
        go_wp2_with fail
        refine (knows HKc.out _).mono ?_
        rintro e y7 ⟨rfl, g_y7⟩
        have s_y7 : Below y6.heap.size y6 y7 := chain (by go_grown) g_y7
        have t_y7 := chain t_y6 s_y7
        replace rf := fkeep2 rf (lt_of r0) s_y7
        replace r0 := keep r0 s_y7
        have z_r0_y7 := lt_of r0
        replace r1 := keep r1 s_y7
        clear g_y7 s_y7 z_r0_y6 t_y6
        go_wp2_with fail
        go_roundw
        case rel => exact ⟨k + 1, fi + 2000, E + 1, E, by omega, by omega, rfl, by go_num, Lib.hid (by have := HF.out; omega), Lib.hid (by have := HEk.out; omega), by omega, by omega, r0, (by rw [show E + 1 + 1 = E + 2 by omega]; exact r1), rf, t_y7⟩
        case measure => simp [intOf]; omega
    · by_cases q1 : k < len1
      · have q2 : ¬ k < 30 := by omega
        have d1 : decide ((k : Int) < len1) = true := by simp; omega
        have d2 : decide ((k : Int) < 30) = false := by simp; omega
        clear hlt
        go_wp2_with fail
        go_ret
        exact ⟨rfl, t_wr⟩
      · have d1 : decide ((k : Int) < len1) = false := by simp; omega
        clear hlt
        go_wp2_with fail
        go_ret
        exact ⟨rfl, t_wr⟩
end Go.Proofs.Ytabfmhkmofebnaa
