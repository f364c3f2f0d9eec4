/- The laws of ledger: their walks. -/
import Derived.Test.YtpjnbkgaanmelaaDoorLedB
namespace Go.Proofs.YtpjnbkgaanmelaaDoor
open Go.ChangeShapes Go.WideShapes Go.ChangeAt Go.RowKit
theorem head' {W : World} (w : World) (ht : Tab W) (h : Below W.heap.size W w) : Calls Tryd.prog 9 #[] w fun e w' => e = .returned (.bool true) ∧ Below W.heap.size W w' :=
  (head w (ht.below h)).mono fun _ _ ⟨a, b⟩ => ⟨a, chain h b⟩
theorem rvalid_v {l s : Int} {b : Bool} (hv : ok l s = b) {W : World} (w : World) (h : Below W.heap.size W w) : Calls Tryd.prog 16 #[.agg #[.int .i64 l, .int .i64 s]] w fun e w' => e = .returned (.bool b) ∧ Below W.heap.size W w' := by
  subst hv
  exact (rvalid l s w).mono fun _ _ ⟨a, b⟩ => ⟨a, by subst b; exact Below.alloc h h.size _⟩
theorem lasts_mono (l s : Int) : lastsI l s 1 ≤ lastsI l s 0 ∧ lastsI l s 2 ≤ lastsI l s 1 := by
  have l0 : lastsI l s 0 = (if ok l s = true then l else 0) := by simp [lastsI, costI]
  have l1 : lastsI l s 1 = (if ok l s = true then l / 40 else 0) := by simp [lastsI, costI]
  have l2 : lastsI l s 2 = (if ok l s = true then l / 60 else 0) := by simp [lastsI, costI]
  rw [l0, l1, l2]
  by_cases h : ok l s = true
  · have := ok_t h; simp only [h, if_true]; omega
  · simp only [if_neg h]; omega
theorem cost_c {n v : Int} (hv : costI n = v) (w : World) (ht : Tab w) : Calls Tryd.prog 12 #[.int .i64 n] w fun e w' => e = .returned (.int .i64 v) ∧ w' = w := by
  subst hv; exact cost n w ht
theorem lasts_r {l s n v : Int} (hv : lastsI l s n = v) (w : World) (ht : Tab w) : Calls Tryd.prog 14 #[.agg #[.int .i64 l, .int .i64 s], .int .i64 n] w fun e w' => e = .returned (.int .i64 v) ∧ Below w.heap.size w w' := by
  subst hv; exact lasts l s n w ht
theorem fut_tab {W : World} (h : Tab W) (x : Fut W) : Tab x.w := h.below x.ok
set_option maxHeartbeats 1000000 in
theorem kindsW (l s n : Int) (w : World) (ht : Tab w) : Calls Tryd.prog 8 #[.agg #[.int .i64 l, .int .i64 s], .int .i64 n] w fun e w' => e = .returned (.bool true) ∧ Below w.heap.size w w' := by
  obtain ⟨h01, h12⟩ := lasts_mono l s
  generalize e0 : lastsI l s 0 = x0 at *; generalize e1 : lastsI l s 1 = x1 at *; generalize e2 : lastsI l s 2 = x2 at *
  have E0 := Lib.hid e0; have E1 := Lib.hid e1; have E2 := Lib.hid e2; have HT := Lib.hid ht
  clear e0 e1 e2 ht
  have hn : (0 ≤ n ∧ n ≤ 2) ∨ costI n = 0 := by
    unfold costI; by_cases h : 0 ≤ n ∧ n ≤ 2
    · exact .inl h
    · right; split; omega; split; omega; split; omega; rfl
  generalize ec : costI n = c at *
  have EC := Lib.hid ec; clear ec
  by_cases r0 : 0 ≤ n
  · by_cases r2 : n ≤ 2
    · have d0 : decide (0 ≤ n) = true := by simp [r0]
      have d2 : decide (n ≤ 2) = true := by simp [r2]
      clear hn
      go_enter Tryd.func8, Tryd.ntmps8
      go_wp2_with fail
      refine (head _ (HT.out.below (by go_grown))).mono ?_
      rintro e w1 ⟨rfl, g1⟩
      have s1 : Below w.heap.size w w1 := chain (by go_grown) g1
      have k0 : w1.cell? ⟨w.heap.size, 0, none⟩ = some (.int .i64 l) := ((bcell g1).1 _ _ (by simp)).trans (by simp [go_sem])
      have k1 : w1.cell? ⟨w.heap.size, 1, none⟩ = some (.int .i64 s) := ((bcell g1).1 _ _ (by simp)).trans (by simp [go_sem])
      have T1 := Lib.hid (HT.out.below s1)
      clear g1
      go_wp2_with fail
      refine (cost_c (v := 1) (by decide) _ T1.out).mono ?_
      rintro e w_1 ⟨rfl, hw⟩; obtain rfl := hw.symm
      go_wp2_with fail
      refine (cost_c (v := 40) (by decide) _ T1.out).mono ?_
      rintro e w_2 ⟨rfl, hw⟩; obtain rfl := hw.symm
      go_wp2_with fail
      refine (cost_c (v := 60) (by decide) _ T1.out).mono ?_
      rintro e w_3 ⟨rfl, hw⟩; obtain rfl := hw.symm
      go_wp2_with fail
      refine (cost_c EC.out _ T1.out).mono ?_
      rintro e w_4 ⟨rfl, hw⟩; obtain rfl := hw.symm
      go_wp2_with fail
      have fut_0_5 := fut_cell (k0)
      have fut_1_5 := fut_cell (k1)
      refine wp_region_fut (by kernel_rfl) (by kernel_rfl) ?_
      repeat (go_big_quiet_step (first
        | (go_at_call 14; with_reducible exact fut_call (lasts_r E0.out _ (fut_tab T1.out _)))
        | (go_at_call 14; with_reducible exact fut_call (lasts_r E1.out _ (fut_tab T1.out _)))
        | (go_at_call 14; with_reducible exact fut_call (lasts_r E2.out _ (fut_tab T1.out _)))))
      refine wpQuiet_nil ?_
      rintro _ ⟨⟨w2, s2⟩, rfl⟩
      clear fut_0_5 fut_1_5
      go_wp2_with fail
      go_ret
      exact ⟨rfl, chain s1 s2⟩
    · have d0 : decide (0 ≤ n) = true := by simp [r0]
      have d2 : decide (n ≤ 2) = false := by simp [r2]
      obtain rfl : c = 0 := by omega
      clear hn
      go_enter Tryd.func8, Tryd.ntmps8
      go_wp2_with fail
      refine (head _ (HT.out.below (by go_grown))).mono ?_
      rintro e w1 ⟨rfl, g1⟩
      have s1 : Below w.heap.size w w1 := chain (by go_grown) g1
      have k0 : w1.cell? ⟨w.heap.size, 0, none⟩ = some (.int .i64 l) := ((bcell g1).1 _ _ (by simp)).trans (by simp [go_sem])
      have k1 : w1.cell? ⟨w.heap.size, 1, none⟩ = some (.int .i64 s) := ((bcell g1).1 _ _ (by simp)).trans (by simp [go_sem])
      have T1 := Lib.hid (HT.out.below s1)
      clear g1
      go_wp2_with fail
      refine (cost_c (v := 1) (by decide) _ T1.out).mono ?_
      rintro e w_6 ⟨rfl, hw⟩; obtain rfl := hw.symm
      go_wp2_with fail
      refine (cost_c (v := 40) (by decide) _ T1.out).mono ?_
      rintro e w_7 ⟨rfl, hw⟩; obtain rfl := hw.symm
      go_wp2_with fail
      refine (cost_c (v := 60) (by decide) _ T1.out).mono ?_
      rintro e w_8 ⟨rfl, hw⟩; obtain rfl := hw.symm
      go_wp2_with fail
      refine (cost_c EC.out _ T1.out).mono ?_
      rintro e w_9 ⟨rfl, hw⟩; obtain rfl := hw.symm
      go_wp2_with fail
      have fut_0_10 := fut_cell (k0)
      have fut_1_10 := fut_cell (k1)
      refine wp_region_fut (by kernel_rfl) (by kernel_rfl) ?_
      repeat (go_big_quiet_step (first
        | (go_at_call 14; with_reducible exact fut_call (lasts_r E0.out _ (fut_tab T1.out _)))
        | (go_at_call 14; with_reducible exact fut_call (lasts_r E1.out _ (fut_tab T1.out _)))
        | (go_at_call 14; with_reducible exact fut_call (lasts_r E2.out _ (fut_tab T1.out _)))))
      refine wpQuiet_nil ?_
      rintro _ ⟨⟨w2, s2⟩, rfl⟩
      clear fut_0_10 fut_1_10
      go_wp2_with fail
      go_ret
      exact ⟨rfl, chain s1 s2⟩
  · have d0 : decide (0 ≤ n) = false := by simp [r0]
    obtain rfl : c = 0 := by omega
    clear hn
    go_enter Tryd.func8, Tryd.ntmps8
    go_wp2_with fail
    refine (head _ (HT.out.below (by go_grown))).mono ?_
    rintro e w1 ⟨rfl, g1⟩
    have s1 : Below w.heap.size w w1 := chain (by go_grown) g1
    have k0 : w1.cell? ⟨w.heap.size, 0, none⟩ = some (.int .i64 l) := ((bcell g1).1 _ _ (by simp)).trans (by simp [go_sem])
    have k1 : w1.cell? ⟨w.heap.size, 1, none⟩ = some (.int .i64 s) := ((bcell g1).1 _ _ (by simp)).trans (by simp [go_sem])
    have T1 := Lib.hid (HT.out.below s1)
    clear g1
    go_wp2_with fail
    refine (cost_c (v := 1) (by decide) _ T1.out).mono ?_
    rintro e w_11 ⟨rfl, hw⟩; obtain rfl := hw.symm
    go_wp2_with fail
    refine (cost_c (v := 40) (by decide) _ T1.out).mono ?_
    rintro e w_12 ⟨rfl, hw⟩; obtain rfl := hw.symm
    go_wp2_with fail
    refine (cost_c (v := 60) (by decide) _ T1.out).mono ?_
    rintro e w_13 ⟨rfl, hw⟩; obtain rfl := hw.symm
    go_wp2_with fail
    refine (cost_c EC.out _ T1.out).mono ?_
    rintro e w_14 ⟨rfl, hw⟩; obtain rfl := hw.symm
    go_wp2_with fail
    have fut_0_15 := fut_cell (k0)
    have fut_1_15 := fut_cell (k1)
    refine wp_region_fut (by kernel_rfl) (by kernel_rfl) ?_
    repeat (go_big_quiet_step (first
      | (go_at_call 14; with_reducible exact fut_call (lasts_r E0.out _ (fut_tab T1.out _)))
      | (go_at_call 14; with_reducible exact fut_call (lasts_r E1.out _ (fut_tab T1.out _)))
      | (go_at_call 14; with_reducible exact fut_call (lasts_r E2.out _ (fut_tab T1.out _)))))
    refine wpQuiet_nil ?_
    rintro _ ⟨⟨w2, s2⟩, rfl⟩
    clear fut_0_15 fut_1_15
    go_wp2_with fail
    go_ret
    exact ⟨rfl, chain s1 s2⟩
theorem spend_r' {l s c x y z : Int} (hx : spL l s c = x) (hy : spS l s c = y) (hz : spE l s c = z) (w : World) :
    Calls Tryd.prog 11 #[.agg #[.int .i64 l, .int .i64 s], .int .i64 c] w fun e w' => e = .returned (.tuple #[.agg #[.int .i64 x, .int .i64 y], .int .i64 z]) ∧ Below w.heap.size w w' := by
  subst hx hy hz
  exact rspend l s c w
theorem rcost_c {n v : Int} (hv : costI n = v) (w : World) : Calls Tryd.prog 13 #[.int .i64 n] w fun e w' => e = .returned (.int .i64 v) ∧ w' = w := by
  subst hv; exact rcost n w
theorem rlasts_r {l s n v : Int} (hv : lastsI l s n = v) (w : World) : Calls Tryd.prog 15 #[.agg #[.int .i64 l, .int .i64 s], .int .i64 n] w fun e w' => e = .returned (.int .i64 v) ∧ Below w.heap.size w w' := by
  subst hv; exact rlasts l s n w
set_option maxHeartbeats 1000000 in
theorem matchesW (l s c n : Int) (w : World) (ht : Tab w) : Calls Tryd.prog 3 #[.agg #[.int .i64 l, .int .i64 s], .int .i64 c, .int .i64 n] w fun e w' => e = .returned (.bool true) ∧ Below w.heap.size w w' := by
  generalize ex : spL l s c = x at *; generalize ey : spS l s c = y at *; generalize ez : spE l s c = z at *
  generalize el : lastsI l s n = t at *; generalize ec : costI n = q at *
  have EX := Lib.hid ex; have EY := Lib.hid ey; have EZ := Lib.hid ez; have EL := Lib.hid el; have EC := Lib.hid ec; have HT := Lib.hid ht
  clear ex ey ez el ec ht
  go_enter Tryd.func3, Tryd.ntmps3
  go_wp2_with fail
  refine (head _ (HT.out.below (by go_grown))).mono ?_
  rintro e w1 ⟨rfl, g1⟩
  have s1 : Below w.heap.size w w1 := chain (by go_grown) g1
  have k0 : w1.cell? ⟨w.heap.size, 0, none⟩ = some (.int .i64 l) := ((bcell g1).1 _ _ (by simp)).trans (by simp [go_sem])
  have k1 : w1.cell? ⟨w.heap.size, 1, none⟩ = some (.int .i64 s) := ((bcell g1).1 _ _ (by simp)).trans (by simp [go_sem])
  have z_k := lt_of k0
  clear g1
  go_wp2_with fail
  refine (spend_r EX.out EY.out EZ.out _).mono ?_
  rintro e w2 ⟨rfl, g2⟩
  replace k0 := keep k0 g2
  have z_k0 := lt_of k0
  replace k1 := keep k1 g2
  have z_k1 := lt_of k1
  have s2 := chain s1 g2
  clear s1 g2 z_k
  go_wp2_with fail
  refine (spend_r' EX.out EY.out EZ.out _).mono ?_
  rintro e w3 ⟨rfl, g3⟩
  have a0 : w3.cell? ⟨w2.heap.size, 0, none⟩ = some (.int .i64 x) := ((bcell g3).1 _ _ (by simp)).trans (by simp [go_sem])
  have a1 : w3.cell? ⟨w2.heap.size, 1, none⟩ = some (.int .i64 y) := ((bcell g3).1 _ _ (by simp)).trans (by simp [go_sem])
  have z_a := lt_of a0
  clear z_k0 z_k1
  replace k0 := keep (keepA k0 _) g3
  have z_k0 := lt_of k0
  replace k1 := keep (keepA k1 _) g3
  have z_k1 := lt_of k1
  have s3 : Below w.heap.size w w3 := chain (Below.alloc s2 s2.size _) g3
  have T3 := Lib.hid (HT.out.below s3)
  clear s2 g3
  go_wp2_with fail
  have s_w4 : Below w3.heap.size w3 (w3.alloc (.cells #[.int .i64 x, .int .i64 y] 23)) := Below.alloc (Below.refl _ _) (Nat.le_refl _) _
  have b0 : (w3.alloc (.cells #[.int .i64 x, .int .i64 y] 23)).cell? ⟨w3.heap.size, 0, none⟩ = some (.int .i64 x) := by simp [go_sem]
  have b1 : (w3.alloc (.cells #[.int .i64 x, .int .i64 y] 23)).cell? ⟨w3.heap.size, 1, none⟩ = some (.int .i64 y) := by simp [go_sem]
  replace k0 := keep k0 s_w4
  replace k1 := keep k1 s_w4
  replace a0 := keep a0 s_w4
  replace a1 := keep a1 s_w4
  generalize w3.alloc (.cells #[.int .i64 x, .int .i64 y] 23) = w4 at *
  have s4 := chain s3 s_w4
  have T4 := Lib.hid (HT.out.below s4)
  have fut_0_16 := fut_cell (k0)
  have fut_1_16 := fut_cell (k1)
  have fut_2_16 := fut_cell (a0)
  have fut_3_16 := fut_cell (a1)
  have fut_4_16 := fut_cell (b0)
  have fut_5_16 := fut_cell (b1)
  refine wp_region_fut (by kernel_rfl) (by kernel_rfl) ?_
  repeat (go_big_quiet_step (first
    | (go_at_call 12; with_reducible exact fut_same (cost_c EC.out _ (fut_tab T4.out _)))
    | (go_at_call 13; with_reducible exact fut_same (rcost_c EC.out _))
    | (go_at_call 14; with_reducible exact fut_call (lasts_r EL.out _ (fut_tab T4.out _)))
    | (go_at_call 15; with_reducible exact fut_call (rlasts_r EL.out _))))
  refine wpQuiet_nil ?_
  rintro _ ⟨⟨w5, s5⟩, rfl⟩
  clear fut_0_16 fut_1_16 fut_2_16 fut_3_16 fut_4_16 fut_5_16
  go_wp2_with fail
  go_ret
  exact ⟨rfl, chain s4 s5⟩
theorem rvalid_e {l s : Int} {b : Bool} (hv : ok l s = b) (w : World) : Calls Tryd.prog 16 #[.agg #[.int .i64 l, .int .i64 s]] w fun e w' => e = .returned (.bool b) ∧ w' = w.alloc (.cells #[.int .i64 l, .int .i64 s] 23) := by
  subst hv
  exact rvalid l s w
theorem rvalid_b {l s : Int} {b : Bool} (hv : ok l s = b) (w : World) : Calls Tryd.prog 16 #[.agg #[.int .i64 l, .int .i64 s]] w fun e w' => e = .returned (.bool b) ∧ Below w.heap.size w w' := by
  subst hv
  exact (rvalid l s w).mono fun _ _ ⟨a, b⟩ => ⟨a, by subst b; exact Below.alloc (Below.refl _ _) (Nat.le_refl _) _⟩
set_option maxHeartbeats 1000000 in
theorem refusesW (l s c : Int) (w : World) (ht : Tab w) : Calls Tryd.prog 7 #[.agg #[.int .i64 l, .int .i64 s], .int .i64 c] w fun e w' => e = .returned (.bool true) ∧ Below w.heap.size w w' := by
  have HT := Lib.hid ht
  clear ht
  rcases hok : ok l s with _ | _
  · have EX : Hid (spL l s c = l) := Lib.hid (by simp [spL, hok])
    have EY : Hid (spS l s c = s) := Lib.hid (by simp [spS, hok])
    have EZ : Hid (spE l s c = 1) := Lib.hid (by simp [spE, hok])
    have H := Lib.hid hok
    clear hok
    go_enter Tryd.func7, Tryd.ntmps7
    go_wp2_with fail
    refine (head _ (HT.out.below (by go_grown))).mono ?_
    rintro e w1 ⟨rfl, g1⟩
    have s1 : Below w.heap.size w w1 := chain (by go_grown) g1
    have k0 : w1.cell? ⟨w.heap.size, 0, none⟩ = some (.int .i64 l) := ((bcell g1).1 _ _ (by simp)).trans (by simp [go_sem])
    have k1 : w1.cell? ⟨w.heap.size, 1, none⟩ = some (.int .i64 s) := ((bcell g1).1 _ _ (by simp)).trans (by simp [go_sem])
    have z_k := lt_of k0
    clear g1
    go_wp2_with fail
    refine (spend_r (x := l) (y := s) (z := 1) EX.out EY.out EZ.out _).mono ?_
    rintro e w2 ⟨rfl, g2⟩
    replace k0 := keep k0 g2
    have z_k0 := lt_of k0
    replace k1 := keep k1 g2
    have z_k1 := lt_of k1
    have s2 := chain s1 g2
    clear s1 g2 z_k
    go_wp2_with fail
    refine (rvalid_b H.out _).mono ?_
    rintro e w5 ⟨rfl, g5⟩
    have s5 : Below w.heap.size w w5 := chain (by go_grown) g5
    replace k0 := keep (keepA k0 _) g5
    have z_k0 := lt_of k0
    replace k1 := keep (keepA k1 _) g5
    have z_k1 := lt_of k1
    clear g5
    go_wp2_with fail
    all_goals
      go_ret
      exact ⟨rfl, by go_grown⟩
  · have H := Lib.hid hok
    by_cases h0 : 0 ≤ c
    · have d0 : decide (c < 0) = false := by simp; omega
      by_cases h1 : c ≤ l
      · have d1 : decide (l < c) = false := by simp; omega
        have EX : Hid (spL l s c = l - c) := Lib.hid (by simp [spL, hok, h0, h1])
        have EY : Hid (spS l s c = s + c) := Lib.hid (by simp [spS, hok, h0, h1])
        have EZ : Hid (spE l s c = 0) := Lib.hid (by simp [spE, hok, h0, h1])
        clear hok
        go_enter Tryd.func7, Tryd.ntmps7
        go_wp2_with fail
        refine (head _ (HT.out.below (by go_grown))).mono ?_
        rintro e w1 ⟨rfl, g1⟩
        have s1 : Below w.heap.size w w1 := chain (by go_grown) g1
        have k0 : w1.cell? ⟨w.heap.size, 0, none⟩ = some (.int .i64 l) := ((bcell g1).1 _ _ (by simp)).trans (by simp [go_sem])
        have k1 : w1.cell? ⟨w.heap.size, 1, none⟩ = some (.int .i64 s) := ((bcell g1).1 _ _ (by simp)).trans (by simp [go_sem])
        have z_k := lt_of k0
        clear g1
        go_wp2_with fail
        refine (spend_r (x := (l - c)) (y := (s + c)) (z := 0) EX.out EY.out EZ.out _).mono ?_
        rintro e w2 ⟨rfl, g2⟩
        replace k0 := keep k0 g2
        have z_k0 := lt_of k0
        replace k1 := keep k1 g2
        have z_k1 := lt_of k1
        have s2 := chain s1 g2
        clear s1 g2 z_k
        go_wp2_with fail
        refine (rvalid_b H.out _).mono ?_
        rintro e w5 ⟨rfl, g5⟩
        have s5 : Below w.heap.size w w5 := chain (by go_grown) g5
        replace k0 := keep (keepA k0 _) g5
        have z_k0 := lt_of k0
        replace k1 := keep (keepA k1 _) g5
        have z_k1 := lt_of k1
        clear g5
        go_wp2_with fail
        refine (rvalid_b H.out _).mono ?_
        rintro e w6 ⟨rfl, g6⟩
        have s6 : Below w.heap.size w w6 := chain (by go_grown) g6
        replace k0 := keep k0 g6
        have z_k0 := lt_of k0
        replace k1 := keep k1 g6
        have z_k1 := lt_of k1
        clear g6
        go_wp2_with fail
        all_goals
          go_ret
          exact ⟨rfl, by go_grown⟩
      · have d1 : decide (l < c) = true := by simp; omega
        have EX : Hid (spL l s c = l) := Lib.hid (by simp [spL, h1])
        have EY : Hid (spS l s c = s) := Lib.hid (by simp [spS, h1])
        have EZ : Hid (spE l s c = 15) := Lib.hid (by simp [spE, hok, h0, h1])
        clear hok
        go_enter Tryd.func7, Tryd.ntmps7
        go_wp2_with fail
        refine (head _ (HT.out.below (by go_grown))).mono ?_
        rintro e w1 ⟨rfl, g1⟩
        have s1 : Below w.heap.size w w1 := chain (by go_grown) g1
        have k0 : w1.cell? ⟨w.heap.size, 0, none⟩ = some (.int .i64 l) := ((bcell g1).1 _ _ (by simp)).trans (by simp [go_sem])
        have k1 : w1.cell? ⟨w.heap.size, 1, none⟩ = some (.int .i64 s) := ((bcell g1).1 _ _ (by simp)).trans (by simp [go_sem])
        have z_k := lt_of k0
        clear g1
        go_wp2_with fail
        refine (spend_r (x := l) (y := s) (z := 15) EX.out EY.out EZ.out _).mono ?_
        rintro e w2 ⟨rfl, g2⟩
        replace k0 := keep k0 g2
        have z_k0 := lt_of k0
        replace k1 := keep k1 g2
        have z_k1 := lt_of k1
        have s2 := chain s1 g2
        clear s1 g2 z_k
        go_wp2_with fail
        refine (rvalid_b H.out _).mono ?_
        rintro e w5 ⟨rfl, g5⟩
        have s5 : Below w.heap.size w w5 := chain (by go_grown) g5
        replace k0 := keep (keepA k0 _) g5
        have z_k0 := lt_of k0
        replace k1 := keep (keepA k1 _) g5
        have z_k1 := lt_of k1
        clear g5
        go_wp2_with fail
        refine (rvalid_b H.out _).mono ?_
        rintro e w6 ⟨rfl, g6⟩
        have s6 : Below w.heap.size w w6 := chain (by go_grown) g6
        replace k0 := keep k0 g6
        have z_k0 := lt_of k0
        replace k1 := keep k1 g6
        have z_k1 := lt_of k1
        clear g6
        go_wp2_with fail
        all_goals
          go_ret
          exact ⟨rfl, by go_grown⟩
    · have d0 : decide (c < 0) = true := by simp; omega
      have EX : Hid (spL l s c = l) := Lib.hid (by simp [spL, h0])
      have EY : Hid (spS l s c = s) := Lib.hid (by simp [spS, h0])
      have EZ : Hid (spE l s c = 1) := Lib.hid (by simp [spE, h0])
      clear hok
      go_enter Tryd.func7, Tryd.ntmps7
      go_wp2_with fail
      refine (head _ (HT.out.below (by go_grown))).mono ?_
      rintro e w1 ⟨rfl, g1⟩
      have s1 : Below w.heap.size w w1 := chain (by go_grown) g1
      have k0 : w1.cell? ⟨w.heap.size, 0, none⟩ = some (.int .i64 l) := ((bcell g1).1 _ _ (by simp)).trans (by simp [go_sem])
      have k1 : w1.cell? ⟨w.heap.size, 1, none⟩ = some (.int .i64 s) := ((bcell g1).1 _ _ (by simp)).trans (by simp [go_sem])
      have z_k := lt_of k0
      clear g1
      go_wp2_with fail
      refine (spend_r (x := l) (y := s) (z := 1) EX.out EY.out EZ.out _).mono ?_
      rintro e w2 ⟨rfl, g2⟩
      replace k0 := keep k0 g2
      have z_k0 := lt_of k0
      replace k1 := keep k1 g2
      have z_k1 := lt_of k1
      have s2 := chain s1 g2
      clear s1 g2 z_k
      go_wp2_with fail
      refine (rvalid_b H.out _).mono ?_
      rintro e w5 ⟨rfl, g5⟩
      have s5 : Below w.heap.size w w5 := chain (by go_grown) g5
      replace k0 := keep (keepA k0 _) g5
      have z_k0 := lt_of k0
      replace k1 := keep (keepA k1 _) g5
      have z_k1 := lt_of k1
      clear g5
      go_wp2_with fail
      refine (rvalid_b H.out _).mono ?_
      rintro e w6 ⟨rfl, g6⟩
      have s6 : Below w.heap.size w w6 := chain (by go_grown) g6
      replace k0 := keep k0 g6
      have z_k0 := lt_of k0
      replace k1 := keep k1 g6
      have z_k1 := lt_of k1
      clear g6
      go_wp2_with fail
      all_goals
        go_ret
        exact ⟨rfl, by go_grown⟩
end Go.Proofs.YtpjnbkgaanmelaaDoor
