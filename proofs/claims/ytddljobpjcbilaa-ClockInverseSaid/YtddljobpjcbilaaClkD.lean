/- The reference's When; the head of the laws of clock. -/
import Derived.Test.YtddljobpjcbilaaClkC
namespace Go.Proofs.Ytddljobpjcbilaa
open Go.ChangeShapes Go.WideShapes Go.ChangeAt Go.RowKit
theorem two_steps {o d t : Int} (h : okc o d = true) : sh o d t + 1 ≤ sh o d (t + 2) := by
  have := sh_step h (show t ≤ t + 2 by omega)
  unfold sh
  omega
theorem when_of_first {o d s a : Int} (h : okc o d = true) (ha : FirstAt (fun t => decide (s ≤ sh o d t)) 0 a) :
    ((10000000000000 < a ∨ sh o d a ≠ s) → WhenIs o d s 0 0 4) ∧
    (a ≤ 10000000000000 → sh o d a = s → (a = 10000000000000 ∨ sh o d (a + 1) ≠ s) → WhenIs o d s a a 0) ∧
    (a < 10000000000000 → sh o d a = s → sh o d (a + 1) = s → WhenIs o d s a (a + 1) 0) := by
  obtain ⟨a1, a2, a3, a4⟩ := ha
  have lo : ∀ t, 0 ≤ t → t < a → sh o d t < s := fun t h0 h1 => by have := a3 t h0 h1; simp at this; exact this
  have hi : ∀ t, a ≤ t → t < 10000000000001 → s ≤ sh o d t := fun t h0 h1 => by have := a4 t h0 h1; simp at this; exact this
  refine ⟨fun hc => .inr ⟨h, .inl ⟨rfl, rfl, rfl, fun t h0 h1 hs => ?_⟩⟩, fun h1 hs hc => .inr ⟨h, .inr ⟨rfl, a1, Int.le_refl _, h1, fun t h0 h2 => ⟨fun ht => ?_, fun ht => ?_⟩⟩⟩,
    fun h1 hs hs2 => .inr ⟨h, .inr ⟨rfl, a1, by omega, by omega, fun t h0 h2 => ⟨fun ht => ?_, fun ht => ?_⟩⟩⟩⟩
  · rcases Int.lt_or_le t a with hl | hl
    · have := lo t h0 hl; omega
    · rcases hc with hc | hc
      · omega
      · have := hi a (Int.le_refl _) (by omega); have := sh_mono h hl; omega
  · rcases Int.lt_or_le t a with hl | hl
    · have := lo t h0 hl; omega
    · refine ⟨hl, ?_⟩
      rcases Int.lt_or_le a t with hg | hg
      · rcases hc with hc | hc
        · omega
        · have m1 := sh_mono h (show a ≤ a + 1 by omega); have m2 := sh_mono h (show a + 1 ≤ t by omega); omega
      · exact hg
  · obtain rfl : t = a := by omega
    exact hs
  · rcases Int.lt_or_le t a with hl | hl
    · have := lo t h0 hl; omega
    · refine ⟨hl, ?_⟩
      rcases Int.lt_or_le (a + 1) t with hg | hg
      · have m1 := two_steps (t := a) h; have m2 := sh_mono h (show a + 2 ≤ t by omega); omega
      · exact hg
  · rcases (show t = a ∨ t = a + 1 by omega) with rfl | rfl
    · exact hs
    · exact hs2
set_option maxHeartbeats 1000000 in
theorem rwhenV {o d s lo hi er : Int} (hv : WhenIs o d s lo hi er) (w : World) : Calls Try.prog 22 #[.agg #[.int .i64 o, .int .i64 d], .int .i64 s] w fun e w' => e = .returned (.tuple #[.agg #[.int .i64 lo, .int .i64 hi], .int .i64 er]) ∧ Below w.heap.size w w' := by
  have HV := Lib.hid hv
  clear hv
  rcases hok : okc o d with _ | _
  · obtain ⟨rfl, rfl, rfl⟩ := when_uniq HV.out (.inl ⟨hok, rfl, rfl, rfl⟩)
    have H := Lib.hid hok
    clear hok
    have t_w := Below.refl w.heap.size w
    go_enter Try.func22, Try.ntmps22
    go_wp2_with fail
    refine (rcvalid _ _ _).mono ?_
    rintro e w1 ⟨rfl, rfl⟩
    rw [H.out]
    go_wp2_with fail
    refine bodyPost_ret (v := .tuple #[.agg #[.int .i64 0, .int .i64 0], .int .i64 1]) (by simp [results, Try.results22, go_sem, *]) rfl ⟨rfl, ?_⟩
    go_grown
  · obtain ⟨a, ha⟩ := first_exists _ (pmono (s := s) hok) 10000000000001 0 (by omega) (by omega)
    have hw := when_of_first hok ha
    have H := Lib.hid hok
    have HA := Lib.hid ha
    have a0 := ha.1
    have a1 := ha.2.1
    clear hok ha
    by_cases hbig : 10000000000000 < a
    · obtain ⟨rfl, rfl, rfl⟩ := when_uniq HV.out (hw.1 (.inl hbig))
      clear hw
      have t_w := Below.refl w.heap.size w
      go_enter Try.func22, Try.ntmps22
      go_wp2_with fail
      refine (rcvalid _ _ _).mono ?_
      rintro e w1 ⟨rfl, rfl⟩
      rw [H.out]
      go_wp2_with fail
      refine (rbefore H.out HA.out _).mono ?_
      rintro e w2 ⟨rfl, h2⟩
      have t2 : Below w.heap.size w w2 := chain (by go_grown) h2
      have m0 : w2.cell? ⟨w.heap.size, 0, none⟩ = some (.int .i64 o) := ((bcell h2).1 _ _ (by simp; try omega)).trans (by simp [go_sem])
      have m1 : w2.cell? ⟨w.heap.size, 1, none⟩ = some (.int .i64 d) := ((bcell h2).1 _ _ (by simp; try omega)).trans (by simp [go_sem])
      have r0 : w2.cell? ⟨w.heap.size + 1, 0, none⟩ = some (.int .i64 0) := ((bcell h2).1 _ _ (by simp; try omega)).trans (by simp [go_sem])
      have r1 : w2.cell? ⟨w.heap.size + 1, 1, none⟩ = some (.int .i64 0) := ((bcell h2).1 _ _ (by simp; try omega)).trans (by simp [go_sem])
      have f0 : w2.frozen? ⟨w.heap.size + 1, 0, none⟩ = false := ((bcell h2).2 _ _ (by simp; try omega)).trans (by simp [go_sem])
      have f1 : w2.frozen? ⟨w.heap.size + 1, 1, none⟩ = false := ((bcell h2).2 _ _ (by simp; try omega)).trans (by simp [go_sem])
      have z2 := lt_of r0
      clear h2
      go_wp2_with fail
      refine bodyPost_ret (v := .tuple #[.agg #[.int .i64 0, .int .i64 0], .int .i64 4]) (by simp [results, Try.results22, go_sem, *]) rfl ⟨rfl, ?_⟩
      go_grown
    · have hsm : a ≤ 10000000000000 := by omega
      generalize hx : sh o d a = x at *
      have HX := Lib.hid hx
      by_cases hxs : x = s
      · subst hxs
        by_cases hlt : a < 10000000000000
        · generalize hy : sh o d (a + 1) = y at *
          have HY := Lib.hid hy
          by_cases hys : y = x
          · subst hys
            obtain ⟨rfl, rfl, rfl⟩ := when_uniq HV.out (hw.2.2 hlt rfl rfl)
            clear hw hx hy hbig
            have t_w := Below.refl w.heap.size w
            go_enter Try.func22, Try.ntmps22
            go_wp2_with fail
            refine (rcvalid _ _ _).mono ?_
            rintro e w1 ⟨rfl, rfl⟩
            rw [H.out]
            go_wp2_with fail
            refine (rbefore H.out HA.out _).mono ?_
            rintro e w2 ⟨rfl, h2⟩
            have t2 : Below w.heap.size w w2 := chain (by go_grown) h2
            have m0 : w2.cell? ⟨w.heap.size, 0, none⟩ = some (.int .i64 o) := ((bcell h2).1 _ _ (by simp; try omega)).trans (by simp [go_sem])
            have m1 : w2.cell? ⟨w.heap.size, 1, none⟩ = some (.int .i64 d) := ((bcell h2).1 _ _ (by simp; try omega)).trans (by simp [go_sem])
            have r0 : w2.cell? ⟨w.heap.size + 1, 0, none⟩ = some (.int .i64 0) := ((bcell h2).1 _ _ (by simp; try omega)).trans (by simp [go_sem])
            have r1 : w2.cell? ⟨w.heap.size + 1, 1, none⟩ = some (.int .i64 0) := ((bcell h2).1 _ _ (by simp; try omega)).trans (by simp [go_sem])
            have f0 : w2.frozen? ⟨w.heap.size + 1, 0, none⟩ = false := ((bcell h2).2 _ _ (by simp; try omega)).trans (by simp [go_sem])
            have f1 : w2.frozen? ⟨w.heap.size + 1, 1, none⟩ = false := ((bcell h2).2 _ _ (by simp; try omega)).trans (by simp [go_sem])
            have z2 := lt_of r0
            clear h2
            go_wp2_with fail
            refine (rat H.out (by omega) (by omega) HX.out _).mono ?_
            rintro e w3 ⟨rfl, h3⟩
            have t3 := chain t2 h3
            replace f0 := fkeep f0 (lt_of r0) h3
            replace f1 := fkeep f1 (lt_of r0) h3
            replace m0 := keep m0 h3
            replace m1 := keep m1 h3
            replace r0 := keep r0 h3
            replace r1 := keep r1 h3
            have z_w3 := lt_of r0
            clear h3
            go_wp2_with fail
            refine (rat H.out (by omega) (by omega) HY.out _).mono ?_
            rintro e w4 ⟨rfl, h3⟩
            have t4 := chain t3 h3
            replace f0 := fkeep f0 (lt_of r0) h3
            replace f1 := fkeep f1 (lt_of r0) h3
            replace m0 := keep m0 h3
            replace m1 := keep m1 h3
            replace r0 := keep r0 h3
            replace r1 := keep r1 h3
            have z_w4 := lt_of r0
            clear h3
            go_wp2_with fail
            refine bodyPost_ret (v := .tuple #[.agg #[.int .i64 lo, .int .i64 (lo + 1)], .int .i64 0]) (by simp [results, Try.results22, go_sem, *]) rfl ⟨rfl, ?_⟩
            go_grown
          · obtain ⟨rfl, rfl, rfl⟩ := when_uniq HV.out (hw.2.1 hsm rfl (.inr hys))
            have hne : (y == x) = false := by simp [hys]
            clear hw hx hy hbig hys
            have t_w := Below.refl w.heap.size w
            go_enter Try.func22, Try.ntmps22
            go_wp2_with fail
            refine (rcvalid _ _ _).mono ?_
            rintro e w1 ⟨rfl, rfl⟩
            rw [H.out]
            go_wp2_with fail
            refine (rbefore H.out HA.out _).mono ?_
            rintro e w2 ⟨rfl, h2⟩
            have t2 : Below w.heap.size w w2 := chain (by go_grown) h2
            have m0 : w2.cell? ⟨w.heap.size, 0, none⟩ = some (.int .i64 o) := ((bcell h2).1 _ _ (by simp; try omega)).trans (by simp [go_sem])
            have m1 : w2.cell? ⟨w.heap.size, 1, none⟩ = some (.int .i64 d) := ((bcell h2).1 _ _ (by simp; try omega)).trans (by simp [go_sem])
            have r0 : w2.cell? ⟨w.heap.size + 1, 0, none⟩ = some (.int .i64 0) := ((bcell h2).1 _ _ (by simp; try omega)).trans (by simp [go_sem])
            have r1 : w2.cell? ⟨w.heap.size + 1, 1, none⟩ = some (.int .i64 0) := ((bcell h2).1 _ _ (by simp; try omega)).trans (by simp [go_sem])
            have f0 : w2.frozen? ⟨w.heap.size + 1, 0, none⟩ = false := ((bcell h2).2 _ _ (by simp; try omega)).trans (by simp [go_sem])
            have f1 : w2.frozen? ⟨w.heap.size + 1, 1, none⟩ = false := ((bcell h2).2 _ _ (by simp; try omega)).trans (by simp [go_sem])
            have z2 := lt_of r0
            clear h2
            go_wp2_with fail
            refine (rat H.out (by omega) (by omega) HX.out _).mono ?_
            rintro e w3 ⟨rfl, h3⟩
            have t3 := chain t2 h3
            replace f0 := fkeep f0 (lt_of r0) h3
            replace f1 := fkeep f1 (lt_of r0) h3
            replace m0 := keep m0 h3
            replace m1 := keep m1 h3
            replace r0 := keep r0 h3
            replace r1 := keep r1 h3
            have z_w3 := lt_of r0
            clear h3
            go_wp2_with fail
            refine (rat H.out (by omega) (by omega) HY.out _).mono ?_
            rintro e w4 ⟨rfl, h3⟩
            have t4 := chain t3 h3
            replace f0 := fkeep f0 (lt_of r0) h3
            replace f1 := fkeep f1 (lt_of r0) h3
            replace m0 := keep m0 h3
            replace m1 := keep m1 h3
            replace r0 := keep r0 h3
            replace r1 := keep r1 h3
            have z_w4 := lt_of r0
            clear h3
            go_wp2_with fail
            refine bodyPost_ret (v := .tuple #[.agg #[.int .i64 hi, .int .i64 hi], .int .i64 0]) (by simp [results, Try.results22, go_sem, *]) rfl ⟨rfl, ?_⟩
            go_grown
        · obtain rfl : a = 10000000000000 := by omega
          obtain ⟨rfl, rfl, rfl⟩ := when_uniq HV.out (hw.2.1 hsm rfl (.inl rfl))
          clear hw hx hbig
          have t_w := Below.refl w.heap.size w
          go_enter Try.func22, Try.ntmps22
          go_wp2_with fail
          refine (rcvalid _ _ _).mono ?_
          rintro e w1 ⟨rfl, rfl⟩
          rw [H.out]
          go_wp2_with fail
          refine (rbefore H.out HA.out _).mono ?_
          rintro e w2 ⟨rfl, h2⟩
          have t2 : Below w.heap.size w w2 := chain (by go_grown) h2
          have m0 : w2.cell? ⟨w.heap.size, 0, none⟩ = some (.int .i64 o) := ((bcell h2).1 _ _ (by simp; try omega)).trans (by simp [go_sem])
          have m1 : w2.cell? ⟨w.heap.size, 1, none⟩ = some (.int .i64 d) := ((bcell h2).1 _ _ (by simp; try omega)).trans (by simp [go_sem])
          have r0 : w2.cell? ⟨w.heap.size + 1, 0, none⟩ = some (.int .i64 0) := ((bcell h2).1 _ _ (by simp; try omega)).trans (by simp [go_sem])
          have r1 : w2.cell? ⟨w.heap.size + 1, 1, none⟩ = some (.int .i64 0) := ((bcell h2).1 _ _ (by simp; try omega)).trans (by simp [go_sem])
          have f0 : w2.frozen? ⟨w.heap.size + 1, 0, none⟩ = false := ((bcell h2).2 _ _ (by simp; try omega)).trans (by simp [go_sem])
          have f1 : w2.frozen? ⟨w.heap.size + 1, 1, none⟩ = false := ((bcell h2).2 _ _ (by simp; try omega)).trans (by simp [go_sem])
          have z2 := lt_of r0
          clear h2
          go_wp2_with fail
          refine (rat H.out (by omega) (by omega) HX.out _).mono ?_
          rintro e w3 ⟨rfl, h3⟩
          have t3 := chain t2 h3
          replace f0 := fkeep f0 (lt_of r0) h3
          replace f1 := fkeep f1 (lt_of r0) h3
          replace m0 := keep m0 h3
          replace m1 := keep m1 h3
          replace r0 := keep r0 h3
          replace r1 := keep r1 h3
          have z_w3 := lt_of r0
          clear h3
          go_wp2_with fail
          refine bodyPost_ret (v := .tuple #[.agg #[.int .i64 10000000000000, .int .i64 10000000000000], .int .i64 0]) (by simp [results, Try.results22, go_sem, *]) rfl ⟨rfl, ?_⟩
          go_grown
      · obtain ⟨rfl, rfl, rfl⟩ := when_uniq HV.out (hw.1 (.inr hxs))
        have hne : (x != s) = true := by simp [hxs]
        clear hw hx hbig hxs
        have t_w := Below.refl w.heap.size w
        go_enter Try.func22, Try.ntmps22
        go_wp2_with fail
        refine (rcvalid _ _ _).mono ?_
        rintro e w1 ⟨rfl, rfl⟩
        rw [H.out]
        go_wp2_with fail
        refine (rbefore H.out HA.out _).mono ?_
        rintro e w2 ⟨rfl, h2⟩
        have t2 : Below w.heap.size w w2 := chain (by go_grown) h2
        have m0 : w2.cell? ⟨w.heap.size, 0, none⟩ = some (.int .i64 o) := ((bcell h2).1 _ _ (by simp; try omega)).trans (by simp [go_sem])
        have m1 : w2.cell? ⟨w.heap.size, 1, none⟩ = some (.int .i64 d) := ((bcell h2).1 _ _ (by simp; try omega)).trans (by simp [go_sem])
        have r0 : w2.cell? ⟨w.heap.size + 1, 0, none⟩ = some (.int .i64 0) := ((bcell h2).1 _ _ (by simp; try omega)).trans (by simp [go_sem])
        have r1 : w2.cell? ⟨w.heap.size + 1, 1, none⟩ = some (.int .i64 0) := ((bcell h2).1 _ _ (by simp; try omega)).trans (by simp [go_sem])
        have f0 : w2.frozen? ⟨w.heap.size + 1, 0, none⟩ = false := ((bcell h2).2 _ _ (by simp; try omega)).trans (by simp [go_sem])
        have f1 : w2.frozen? ⟨w.heap.size + 1, 1, none⟩ = false := ((bcell h2).2 _ _ (by simp; try omega)).trans (by simp [go_sem])
        have z2 := lt_of r0
        clear h2
        go_wp2_with fail
        refine (rat H.out (by omega) (by omega) HX.out _).mono ?_
        rintro e w3 ⟨rfl, h3⟩
        have t3 := chain t2 h3
        replace f0 := fkeep f0 (lt_of r0) h3
        replace f1 := fkeep f1 (lt_of r0) h3
        replace m0 := keep m0 h3
        replace m1 := keep m1 h3
        replace r0 := keep r0 h3
        replace r1 := keep r1 h3
        have z_w3 := lt_of r0
        clear h3
        go_wp2_with fail
        refine bodyPost_ret (v := .tuple #[.agg #[.int .i64 0, .int .i64 0], .int .i64 4]) (by simp [results, Try.results22, go_sem, *]) rfl ⟨rfl, ?_⟩
        go_grown
theorem w1 : WhenIs 0 50 20000 0 0 4 := by
  refine .inr ⟨by decide, .inl ⟨rfl, rfl, rfl, fun t h0 h1 => ?_⟩⟩
  unfold sh; omega
theorem w2 : WhenIs 0 (-50) 0 0 1 0 := by
  refine .inr ⟨by decide, .inr ⟨rfl, by omega, by omega, by omega, fun t h0 h1 => ?_⟩⟩
  unfold sh; omega
theorem w3 : WhenIs 0 (-50) 19999 20000 20001 0 := by
  refine .inr ⟨by decide, .inr ⟨rfl, by omega, by omega, by omega, fun t h0 h1 => ?_⟩⟩
  unfold sh; omega
set_option maxHeartbeats 1000000 in
theorem head (w : World) : Calls Try.prog 18 #[] w fun e w' => e = .returned (.bool true) ∧ Below w.heap.size w w' := by
  have t_w := Below.refl w.heap.size w
  go_enter Try.func18, Try.ntmps18
  go_wp2_with fail
  refine (showsT (o := 7) (d := 0) (t := 100) (v := 107) (by decide) (by decide) _).mono ?_
  rintro e x1 ⟨rfl, g_x1⟩
  have s_x1 : Below w.heap.size w x1 := chain (by go_grown) g_x1
  have t_x1 := chain t_w s_x1
  have f0 : x1.cell? ⟨w.heap.size, 0, none⟩ = some (.int .i64 0) := ((bcell g_x1).1 _ _ (by simp; try omega)).trans (by simp [go_sem])
  have f1 : x1.cell? ⟨w.heap.size, 1, none⟩ = some (.int .i64 50) := ((bcell g_x1).1 _ _ (by simp; try omega)).trans (by simp [go_sem])
  have z_f_x1 := lt_of f0
  have s0 : x1.cell? ⟨w.heap.size + 1, 0, none⟩ = some (.int .i64 0) := ((bcell g_x1).1 _ _ (by simp; try omega)).trans (by simp [go_sem])
  have s1 : x1.cell? ⟨w.heap.size + 1, 1, none⟩ = some (.int .i64 (-50)) := ((bcell g_x1).1 _ _ (by simp; try omega)).trans (by simp [go_sem])
  have z_s_x1 := lt_of s0
  clear g_x1 s_x1
  go_wp2_with fail
  refine (showsT (o := 0) (d := 50) (t := 20000) (v := 20001) (by decide) (by decide) _).mono ?_
  rintro e x2 ⟨rfl, g_x2⟩
  have s_x2 : Below x1.heap.size x1 x2 := chain (by go_grown) g_x2
  have t_x2 := chain t_x1 s_x2
  replace f0 := keep f0 s_x2
  have z_f0_x2 := lt_of f0
  replace f1 := keep f1 s_x2
  have z_f1_x2 := lt_of f1
  replace s0 := keep s0 s_x2
  have z_s0_x2 := lt_of s0
  replace s1 := keep s1 s_x2
  have z_s1_x2 := lt_of s1
  clear g_x2 s_x2
  go_wp2_with fail
  refine (showsT (o := 0) (d := -50) (t := 0) (v := 0) (by decide) (by decide) _).mono ?_
  rintro e x3 ⟨rfl, g_x3⟩
  have s_x3 : Below x2.heap.size x2 x3 := chain (by go_grown) g_x3
  have t_x3 := chain t_x2 s_x3
  replace f0 := keep f0 s_x3
  have z_f0_x3 := lt_of f0
  replace f1 := keep f1 s_x3
  have z_f1_x3 := lt_of f1
  replace s0 := keep s0 s_x3
  have z_s0_x3 := lt_of s0
  replace s1 := keep s1 s_x3
  have z_s1_x3 := lt_of s1
  clear g_x3 s_x3
  go_wp2_with fail
  refine (showsT (o := 0) (d := -50) (t := 1) (v := 0) (by decide) (by decide) _).mono ?_
  rintro e x4 ⟨rfl, g_x4⟩
  have s_x4 : Below x3.heap.size x3 x4 := chain (by go_grown) g_x4
  have t_x4 := chain t_x3 s_x4
  replace f0 := keep f0 s_x4
  have z_f0_x4 := lt_of f0
  replace f1 := keep f1 s_x4
  have z_f1_x4 := lt_of f1
  replace s0 := keep s0 s_x4
  have z_s0_x4 := lt_of s0
  replace s1 := keep s1 s_x4
  have z_s1_x4 := lt_of s1
  clear g_x4 s_x4
  go_wp2_with fail
  refine (showsT (o := 0) (d := -50) (t := 20001) (v := 19999) (by decide) (by decide) _).mono ?_
  rintro e x5 ⟨rfl, g_x5⟩
  have s_x5 : Below x4.heap.size x4 x5 := chain (by go_grown) g_x5
  have t_x5 := chain t_x4 s_x5
  replace f0 := keep f0 s_x5
  have z_f0_x5 := lt_of f0
  replace f1 := keep f1 s_x5
  have z_f1_x5 := lt_of f1
  replace s0 := keep s0 s_x5
  have z_s0_x5 := lt_of s0
  replace s1 := keep s1 s_x5
  have z_s1_x5 := lt_of s1
  clear g_x5 s_x5
  go_wp2_with fail
  refine (whenV w1 _).mono ?_
  rintro e x6 ⟨rfl, g_x6⟩
  have s_x6 : Below x5.heap.size x5 x6 := chain (by go_grown) g_x6
  have t_x6 := chain t_x5 s_x6
  replace f0 := keep f0 s_x6
  have z_f0_x6 := lt_of f0
  replace f1 := keep f1 s_x6
  have z_f1_x6 := lt_of f1
  replace s0 := keep s0 s_x6
  have z_s0_x6 := lt_of s0
  replace s1 := keep s1 s_x6
  have z_s1_x6 := lt_of s1
  clear g_x6 s_x6
  go_wp2_with fail
  refine (whenV w2 _).mono ?_
  rintro e x7 ⟨rfl, g_x7⟩
  have s_x7 : Below x6.heap.size x6 x7 := chain (by go_grown) g_x7
  have t_x7 := chain t_x6 s_x7
  replace f0 := keep f0 s_x7
  have z_f0_x7 := lt_of f0
  replace f1 := keep f1 s_x7
  have z_f1_x7 := lt_of f1
  replace s0 := keep s0 s_x7
  have z_s0_x7 := lt_of s0
  replace s1 := keep s1 s_x7
  have z_s1_x7 := lt_of s1
  have p0 : x7.cell? ⟨x6.heap.size, 0, none⟩ = some (.int .i64 0) := ((bcell g_x7).1 _ _ (by simp; try omega)).trans (by simp [go_sem])
  have p1 : x7.cell? ⟨x6.heap.size, 1, none⟩ = some (.int .i64 0) := ((bcell g_x7).1 _ _ (by simp; try omega)).trans (by simp [go_sem])
  have z_p_x7 := lt_of p0
  clear g_x7 s_x7
  go_wp2_with fail
  refine (whenV w3 _).mono ?_
  rintro e x8 ⟨rfl, g_x8⟩
  have s_x8 : Below x7.heap.size x7 x8 := chain (by go_grown) g_x8
  have t_x8 := chain t_x7 s_x8
  replace f0 := keep f0 s_x8
  have z_f0_x8 := lt_of f0
  replace f1 := keep f1 s_x8
  have z_f1_x8 := lt_of f1
  replace s0 := keep s0 s_x8
  have z_s0_x8 := lt_of s0
  replace s1 := keep s1 s_x8
  have z_s1_x8 := lt_of s1
  replace p0 := keep p0 s_x8
  have z_p0_x8 := lt_of p0
  replace p1 := keep p1 s_x8
  have z_p1_x8 := lt_of p1
  have q0 : x8.cell? ⟨x7.heap.size, 0, none⟩ = some (.int .i64 0) := ((bcell g_x8).1 _ _ (by simp; try omega)).trans (by simp [go_sem])
  have q1 : x8.cell? ⟨x7.heap.size, 1, none⟩ = some (.int .i64 1) := ((bcell g_x8).1 _ _ (by simp; try omega)).trans (by simp [go_sem])
  have z_q_x8 := lt_of q0
  clear g_x8 s_x8
  go_wp2_with fail
  refine (showV (o := 0) (d := 51) (t := 0) (v := 0) (er := 1) (by decide) (by decide) _).mono ?_
  rintro e x9 ⟨rfl, g_x9⟩
  have s_x9 : Below x8.heap.size x8 x9 := chain (by go_grown) g_x9
  have t_x9 := chain t_x8 s_x9
  replace f0 := keep f0 s_x9
  have z_f0_x9 := lt_of f0
  replace f1 := keep f1 s_x9
  have z_f1_x9 := lt_of f1
  replace s0 := keep s0 s_x9
  have z_s0_x9 := lt_of s0
  replace s1 := keep s1 s_x9
  have z_s1_x9 := lt_of s1
  replace p0 := keep p0 s_x9
  have z_p0_x9 := lt_of p0
  replace p1 := keep p1 s_x9
  have z_p1_x9 := lt_of p1
  replace q0 := keep q0 s_x9
  have z_q0_x9 := lt_of q0
  replace q1 := keep q1 s_x9
  have z_q1_x9 := lt_of q1
  have r0 : x9.cell? ⟨x8.heap.size, 0, none⟩ = some (.int .i64 20000) := ((bcell g_x9).1 _ _ (by simp; try omega)).trans (by simp [go_sem])
  have r1 : x9.cell? ⟨x8.heap.size, 1, none⟩ = some (.int .i64 20001) := ((bcell g_x9).1 _ _ (by simp; try omega)).trans (by simp [go_sem])
  have z_r_x9 := lt_of r0
  clear g_x9 s_x9
  go_wp2_with fail
  refine (cvalid (o := 0) (d := 50) (b := true) (by decide) _).mono ?_
  rintro e x10 ⟨rfl, g_x10⟩
  have s_x10 : Below x9.heap.size x9 x10 := chain (by go_grown) g_x10
  have t_x10 := chain t_x9 s_x10
  replace f0 := keep f0 s_x10
  have z_f0_x10 := lt_of f0
  replace f1 := keep f1 s_x10
  have z_f1_x10 := lt_of f1
  replace s0 := keep s0 s_x10
  have z_s0_x10 := lt_of s0
  replace s1 := keep s1 s_x10
  have z_s1_x10 := lt_of s1
  replace p0 := keep p0 s_x10
  have z_p0_x10 := lt_of p0
  replace p1 := keep p1 s_x10
  have z_p1_x10 := lt_of p1
  replace q0 := keep q0 s_x10
  have z_q0_x10 := lt_of q0
  replace q1 := keep q1 s_x10
  have z_q1_x10 := lt_of q1
  replace r0 := keep r0 s_x10
  have z_r0_x10 := lt_of r0
  replace r1 := keep r1 s_x10
  have z_r1_x10 := lt_of r1
  clear g_x10 s_x10
  go_wp2_with fail
  refine (cvalid (o := 1000000001) (d := 0) (b := false) (by decide) _).mono ?_
  rintro e x11 ⟨rfl, g_x11⟩
  have s_x11 : Below x10.heap.size x10 x11 := chain (by go_grown) g_x11
  have t_x11 := chain t_x10 s_x11
  replace f0 := keep f0 s_x11
  have z_f0_x11 := lt_of f0
  replace f1 := keep f1 s_x11
  have z_f1_x11 := lt_of f1
  replace s0 := keep s0 s_x11
  have z_s0_x11 := lt_of s0
  replace s1 := keep s1 s_x11
  have z_s1_x11 := lt_of s1
  replace p0 := keep p0 s_x11
  have z_p0_x11 := lt_of p0
  replace p1 := keep p1 s_x11
  have z_p1_x11 := lt_of p1
  replace q0 := keep q0 s_x11
  have z_q0_x11 := lt_of q0
  replace q1 := keep q1 s_x11
  have z_q1_x11 := lt_of q1
  replace r0 := keep r0 s_x11
  have z_r0_x11 := lt_of r0
  replace r1 := keep r1 s_x11
  have z_r1_x11 := lt_of r1
  clear g_x11 s_x11
  go_wp2_with fail
  go_ret
  exact ⟨rfl, by first | exact t_x11 | go_grown⟩
end Go.Proofs.Ytddljobpjcbilaa
