/- The laws of ledger: steps, lasting, keeping. -/
import Derived.Test.YtpjnbkgaanmelaaDoorLedC
namespace Go.Proofs.YtpjnbkgaanmelaaDoor
open Go.ChangeShapes Go.WideShapes Go.ChangeAt Go.RowKit
theorem sp_all {l s c : Int} (h : ok l s = true) (h0 : 0 ≤ c) : (c ≤ l → spL l s c = l - c ∧ spS l s c = s + c ∧ spE l s c = 0 ∧ ok (l - c) (s + c) = true) ∧ (l < c → spL l s c = l ∧ spS l s c = s ∧ spE l s c = 15) := by
  have hk := ok_t h
  refine ⟨fun h1 => ⟨by simp [spL, h, h0, h1], by simp [spS, h, h0, h1], by simp [spE, h, h0, h1], ?_⟩, fun h1 => ?_⟩
  · simp [ok]; omega
  · have : ¬ c ≤ l := by omega
    exact ⟨by simp [spL, this], by simp [spS, this], by simp [spE, h, h0, this]⟩
set_option maxHeartbeats 2000000 in
theorem stepsW (l s a b : Int) (w : World) (ht : Tab w) : Calls Tryd.prog 6 #[.agg #[.int .i64 l, .int .i64 s], .int .i64 a, .int .i64 b] w fun e w' => e = .returned (.bool true) ∧ Below w.heap.size w w' := by
  have HT := Lib.hid ht
  clear ht
  rcases hok : ok l s with _ | _
  · have H := Lib.hid hok
    clear hok
    go_enter Tryd.func6, Tryd.ntmps6
    go_wp2_with fail
    refine (head _ (HT.out.below (by go_grown))).mono ?_
    rintro e w1 ⟨rfl, g1⟩
    have s1 : Below w.heap.size w w1 := chain (by go_grown) g1
    have k0 : w1.cell? ⟨w.heap.size, 0, none⟩ = some (.int .i64 l) := ((bcell g1).1 _ _ (by simp)).trans (by simp [go_sem])
    have k1 : w1.cell? ⟨w.heap.size, 1, none⟩ = some (.int .i64 s) := ((bcell g1).1 _ _ (by simp)).trans (by simp [go_sem])
    have z_k := lt_of k0
    clear g1
    go_wp2_with fail
    refine (rvalid_b H.out _).mono ?_
    rintro e w2 ⟨rfl, g2⟩
    have s2 : Below w.heap.size w w2 := chain s1 g2
    replace k0 := keep k0 g2
    have z_k0 := lt_of k0
    replace k1 := keep k1 g2
    have z_k1 := lt_of k1
    clear g2 z_k s1
    go_wp2_with fail
    go_ret
    exact ⟨rfl, by go_grown⟩
  · have H := Lib.hid hok
    have hk := ok_t hok
    obtain ⟨q1, q2, q3, q4⟩ := hk
    by_cases h : 0 ≤ a ∧ 0 ≤ b ∧ a ≤ 1000000000 ∧ b ≤ 1000000000
    · obtain ⟨ha, hb, ha2, hb2⟩ := h
      have pa := sp_all hok ha
      have pab := sp_all (c := a + b) hok (by omega)
      by_cases h1 : a ≤ l
      · obtain ⟨e1, e2, e3, e4⟩ := pa.1 h1
        have pb := sp_all (c := b) e4 hb
        by_cases h2 : b ≤ l - a
        · obtain ⟨f1, f2, f3, f4⟩ := pb.1 h2
          obtain ⟨g1, g2, g3, g4⟩ := pab.1 (by omega)
          have EX := Lib.hid e1; have EY := Lib.hid e2; have EZ := Lib.hid e3
          have FX := Lib.hid f1; have FY := Lib.hid f2; have FZ := Lib.hid f3
          have GX : Hid (spL l s (a + b) = l - a - b) := Lib.hid (by rw [g1]; omega)
          have GY : Hid (spS l s (a + b) = s + a + b) := Lib.hid (by rw [g2]; omega)
          have GZ := Lib.hid g3
          clear e1 e2 e3 e4 f1 f2 f3 f4 g1 g2 g3 g4 pa pb pab hok
          go_enter Tryd.func6, Tryd.ntmps6
          go_wp2_with fail
          refine (head _ (HT.out.below (by go_grown))).mono ?_
          rintro e w1 ⟨rfl, g1⟩
          have s1 : Below w.heap.size w w1 := chain (by go_grown) g1
          have k0 : w1.cell? ⟨w.heap.size, 0, none⟩ = some (.int .i64 l) := ((bcell g1).1 _ _ (by simp)).trans (by simp [go_sem])
          have k1 : w1.cell? ⟨w.heap.size, 1, none⟩ = some (.int .i64 s) := ((bcell g1).1 _ _ (by simp)).trans (by simp [go_sem])
          have z_k := lt_of k0
          clear g1
          go_wp2_with fail
          refine (rvalid_b H.out _).mono ?_
          rintro e w2 ⟨rfl, g2⟩
          have s2 : Below w.heap.size w w2 := chain s1 g2
          replace k0 := keep k0 g2
          have z_k0 := lt_of k0
          replace k1 := keep k1 g2
          have z_k1 := lt_of k1
          clear g2 z_k s1
          go_wp2_with fail
          refine (spend_r (x := (l - a)) (y := (s + a)) (z := 0) EX.out EY.out EZ.out _).mono ?_
          rintro e w3 ⟨rfl, g3⟩
          have s3 : Below w.heap.size w w3 := chain s2 g3
          replace k0 := keep k0 g3
          have z_k0 := lt_of k0
          replace k1 := keep k1 g3
          have z_k1 := lt_of k1
          clear g3 s2
          go_wp2_with fail
          refine (spend_r (x := (l - a - b)) (y := (s + a + b)) (z := 0) FX.out FY.out FZ.out _).mono ?_
          rintro e w4 ⟨rfl, g4⟩
          have s4 : Below w.heap.size w w4 := chain (Below.alloc s3 s3.size _) g4
          replace k0 := keep (keepA k0 _) g4
          have z_k0 := lt_of k0
          replace k1 := keep (keepA k1 _) g4
          have z_k1 := lt_of k1
          have z3 : w3.heap.size < w4.heap.size := by have := g4.size; simp at this; omega
          clear g4 s3
          go_wp2_with fail
          refine (spend_r (x := (l - a - b)) (y := (s + a + b)) (z := 0) GX.out GY.out GZ.out _).mono ?_
          rintro e w5 ⟨rfl, g5⟩
          have s5 : Below w.heap.size w w5 := chain (Below.alloc s4 s4.size _) g5
          have b0 : w5.cell? ⟨w4.heap.size, 0, none⟩ = some (.int .i64 (l - a - b)) := ((bcell g5).1 _ _ (by simp)).trans (by simp [go_sem])
          have b1 : w5.cell? ⟨w4.heap.size, 1, none⟩ = some (.int .i64 (s + a + b)) := ((bcell g5).1 _ _ (by simp)).trans (by simp [go_sem])
          have z_b := lt_of b0
          clear g5 s4 k0 k1
          go_wp2_with fail
          go_ret
          exact ⟨rfl, by go_grown⟩
        · obtain ⟨f1, f2, f3⟩ := pb.2 (by omega)
          obtain ⟨g1, g2, g3⟩ := pab.2 (by omega)
          have EX := Lib.hid e1; have EY := Lib.hid e2; have EZ := Lib.hid e3
          have FX := Lib.hid f1; have FY := Lib.hid f2; have FZ := Lib.hid f3
          have GX := Lib.hid g1; have GY := Lib.hid g2; have GZ := Lib.hid g3
          clear e1 e2 e3 e4 f1 f2 f3 g1 g2 g3 pa pb pab hok
          go_enter Tryd.func6, Tryd.ntmps6
          go_wp2_with fail
          refine (head _ (HT.out.below (by go_grown))).mono ?_
          rintro e w1 ⟨rfl, g1⟩
          have s1 : Below w.heap.size w w1 := chain (by go_grown) g1
          have k0 : w1.cell? ⟨w.heap.size, 0, none⟩ = some (.int .i64 l) := ((bcell g1).1 _ _ (by simp)).trans (by simp [go_sem])
          have k1 : w1.cell? ⟨w.heap.size, 1, none⟩ = some (.int .i64 s) := ((bcell g1).1 _ _ (by simp)).trans (by simp [go_sem])
          have z_k := lt_of k0
          clear g1
          go_wp2_with fail
          refine (rvalid_b H.out _).mono ?_
          rintro e w2 ⟨rfl, g2⟩
          have s2 : Below w.heap.size w w2 := chain s1 g2
          replace k0 := keep k0 g2
          have z_k0 := lt_of k0
          replace k1 := keep k1 g2
          have z_k1 := lt_of k1
          clear g2 z_k s1
          go_wp2_with fail
          refine (spend_r (x := (l - a)) (y := (s + a)) (z := 0) EX.out EY.out EZ.out _).mono ?_
          rintro e w3 ⟨rfl, g3⟩
          have s3 : Below w.heap.size w w3 := chain s2 g3
          replace k0 := keep k0 g3
          have z_k0 := lt_of k0
          replace k1 := keep k1 g3
          have z_k1 := lt_of k1
          clear g3 s2
          go_wp2_with fail
          refine (spend_r (x := (l - a)) (y := (s + a)) (z := 15) FX.out FY.out FZ.out _).mono ?_
          rintro e w4 ⟨rfl, g4⟩
          have s4 : Below w.heap.size w w4 := chain (Below.alloc s3 s3.size _) g4
          replace k0 := keep (keepA k0 _) g4
          have z_k0 := lt_of k0
          replace k1 := keep (keepA k1 _) g4
          have z_k1 := lt_of k1
          have z3 : w3.heap.size < w4.heap.size := by have := g4.size; simp at this; omega
          clear g4 s3
          go_wp2_with fail
          refine (spend_r (x := l) (y := s) (z := 15) GX.out GY.out GZ.out _).mono ?_
          rintro e w5 ⟨rfl, g5⟩
          have s5 : Below w.heap.size w w5 := chain (Below.alloc s4 s4.size _) g5
          have b0 : w5.cell? ⟨w4.heap.size, 0, none⟩ = some (.int .i64 (l - a)) := ((bcell g5).1 _ _ (by simp)).trans (by simp [go_sem])
          have b1 : w5.cell? ⟨w4.heap.size, 1, none⟩ = some (.int .i64 (s + a)) := ((bcell g5).1 _ _ (by simp)).trans (by simp [go_sem])
          have z_b := lt_of b0
          clear g5 s4 k0 k1
          go_wp2_with fail
          go_ret
          exact ⟨rfl, by go_grown⟩
      · obtain ⟨e1, e2, e3⟩ := pa.2 (by omega)
        obtain ⟨g1, g2, g3⟩ := pab.2 (by omega)
        have EX := Lib.hid e1; have EY := Lib.hid e2; have EZ := Lib.hid e3
        have GX := Lib.hid g1; have GY := Lib.hid g2; have GZ := Lib.hid g3
        generalize ef1 : spL l s b = u at *; generalize ef2 : spS l s b = v at *; generalize ef3 : spE l s b = t at *
        have FX := Lib.hid ef1; have FY := Lib.hid ef2; have FZ := Lib.hid ef3
        clear e1 e2 e3 g1 g2 g3 pa pab hok ef1 ef2 ef3
        go_enter Tryd.func6, Tryd.ntmps6
        go_wp2_with fail
        refine (head _ (HT.out.below (by go_grown))).mono ?_
        rintro e w1 ⟨rfl, g1⟩
        have s1 : Below w.heap.size w w1 := chain (by go_grown) g1
        have k0 : w1.cell? ⟨w.heap.size, 0, none⟩ = some (.int .i64 l) := ((bcell g1).1 _ _ (by simp)).trans (by simp [go_sem])
        have k1 : w1.cell? ⟨w.heap.size, 1, none⟩ = some (.int .i64 s) := ((bcell g1).1 _ _ (by simp)).trans (by simp [go_sem])
        have z_k := lt_of k0
        clear g1
        go_wp2_with fail
        refine (rvalid_b H.out _).mono ?_
        rintro e w2 ⟨rfl, g2⟩
        have s2 : Below w.heap.size w w2 := chain s1 g2
        replace k0 := keep k0 g2
        have z_k0 := lt_of k0
        replace k1 := keep k1 g2
        have z_k1 := lt_of k1
        clear g2 z_k s1
        go_wp2_with fail
        refine (spend_r (x := l) (y := s) (z := 15) EX.out EY.out EZ.out _).mono ?_
        rintro e w3 ⟨rfl, g3⟩
        have s3 : Below w.heap.size w w3 := chain s2 g3
        replace k0 := keep k0 g3
        have z_k0 := lt_of k0
        replace k1 := keep k1 g3
        have z_k1 := lt_of k1
        clear g3 s2
        go_wp2_with fail
        refine (spend_r (x := u) (y := v) (z := t) FX.out FY.out FZ.out _).mono ?_
        rintro e w4 ⟨rfl, g4⟩
        have s4 : Below w.heap.size w w4 := chain (Below.alloc s3 s3.size _) g4
        replace k0 := keep (keepA k0 _) g4
        have z_k0 := lt_of k0
        replace k1 := keep (keepA k1 _) g4
        have z_k1 := lt_of k1
        have z3 : w3.heap.size < w4.heap.size := by have := g4.size; simp at this; omega
        clear g4 s3
        go_wp2_with fail
        refine (spend_r (x := l) (y := s) (z := 15) GX.out GY.out GZ.out _).mono ?_
        rintro e w5 ⟨rfl, g5⟩
        have s5 : Below w.heap.size w w5 := chain (Below.alloc s4 s4.size _) g5
        have b0 : w5.cell? ⟨w4.heap.size, 0, none⟩ = some (.int .i64 u) := ((bcell g5).1 _ _ (by simp)).trans (by simp [go_sem])
        have b1 : w5.cell? ⟨w4.heap.size, 1, none⟩ = some (.int .i64 v) := ((bcell g5).1 _ _ (by simp)).trans (by simp [go_sem])
        have z_b := lt_of b0
        clear g5 s4 k0 k1
        go_wp2_with fail
        go_ret
        exact ⟨rfl, by go_grown⟩
    · have hcase : a < 0 ∨ (0 ≤ a ∧ b < 0) ∨ (0 ≤ a ∧ 0 ≤ b ∧ 1000000000 < a) ∨ (0 ≤ a ∧ 0 ≤ b ∧ a ≤ 1000000000 ∧ 1000000000 < b) := by omega
      clear h hok
      rcases hcase with h | ⟨h, h2⟩ | ⟨h, h2, h3⟩ | ⟨h, h2, h3, h4⟩
      all_goals
        go_enter Tryd.func6, Tryd.ntmps6
        go_wp2_with fail
        refine (head _ (HT.out.below (by go_grown))).mono ?_
        rintro e w1 ⟨rfl, g1⟩
        have s1 : Below w.heap.size w w1 := chain (by go_grown) g1
        have k0 : w1.cell? ⟨w.heap.size, 0, none⟩ = some (.int .i64 l) := ((bcell g1).1 _ _ (by simp)).trans (by simp [go_sem])
        have k1 : w1.cell? ⟨w.heap.size, 1, none⟩ = some (.int .i64 s) := ((bcell g1).1 _ _ (by simp)).trans (by simp [go_sem])
        have z_k := lt_of k0
        clear g1
        go_wp2_with fail
        refine (rvalid_b H.out _).mono ?_
        rintro e w2 ⟨rfl, g2⟩
        have s2 : Below w.heap.size w w2 := chain s1 g2
        replace k0 := keep k0 g2
        have z_k0 := lt_of k0
        replace k1 := keep k1 g2
        have z_k1 := lt_of k1
        clear g2 z_k s1
        go_wp2_with fail
        go_ret
        exact ⟨rfl, by go_grown⟩
end Go.Proofs.YtpjnbkgaanmelaaDoor
