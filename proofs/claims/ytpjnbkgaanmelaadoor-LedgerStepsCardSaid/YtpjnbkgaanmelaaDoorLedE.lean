/- The law of ledger that loops over costs. -/
import Derived.Test.YtpjnbkgaanmelaaDoorLedD
namespace Go.Proofs.YtpjnbkgaanmelaaDoor
open Go.ChangeShapes Go.WideShapes Go.ChangeAt Go.RowKit
set_option maxHeartbeats 4000000 in
theorem keepsW (l s : Int) (a : Option Addr) (len cap : Nat) (z : List Int) (w : World) (ht : Tab w) (hz : IsRow .i64 w a len cap z) : Calls Tryd.prog 4 #[.agg #[.int .i64 l, .int .i64 s], .slice a len cap] w fun e w' => e = .returned (.bool true) ∧ Below w.heap.size w w' := by
  have HT := Lib.hid ht
  clear ht
  have hcap := row_len hz
  rcases hok : ok l s with _ | _
  · have H := Lib.hid hok
    clear hok hz
    go_enter Tryd.func4, Tryd.ntmps4
    go_wp2_with fail
    refine (head _ (HT.out.below (by go_grown))).mono ?_
    rintro e w1 ⟨rfl, g1⟩
    have s1 : Below w.heap.size w w1 := chain (by go_grown) g1
    have k0 : w1.cell? ⟨w.heap.size, 0, none⟩ = some (.int .i64 l) := ((bcell g1).1 _ _ (by simp)).trans (by simp [go_sem])
    have k1 : w1.cell? ⟨w.heap.size, 1, none⟩ = some (.int .i64 s) := ((bcell g1).1 _ _ (by simp)).trans (by simp [go_sem])
    have z_k := lt_of k0
    clear g1
    go_wp2_with fail
    refine (rvalid_b H.out _).mono ?_
    rintro e w3 ⟨rfl, g3⟩
    have s3 := chain s1 g3
    go_wp2_with fail
    go_ret
    exact ⟨rfl, s3⟩
  · have H := Lib.hid hok
    have hk := ok_t hok
    obtain ⟨q1, q2, q3, q4⟩ := hk
    by_cases hlen : (len : Int) ≤ 1000
    · have HK := Lib.hid hz
      clear hz
      go_enter Tryd.func4, Tryd.ntmps4
      go_wp2_with fail
      refine (head _ (HT.out.below (by go_grown))).mono ?_
      rintro e w1 ⟨rfl, g1⟩
      have s1 : Below w.heap.size w w1 := chain (by go_grown) g1
      have k0 : w1.cell? ⟨w.heap.size, 0, none⟩ = some (.int .i64 l) := ((bcell g1).1 _ _ (by simp)).trans (by simp [go_sem])
      have k1 : w1.cell? ⟨w.heap.size, 1, none⟩ = some (.int .i64 s) := ((bcell g1).1 _ _ (by simp)).trans (by simp [go_sem])
      have z_k := lt_of k0
      clear g1
      go_wp2_with fail
      refine (rvalid_b H.out _).mono ?_
      rintro e w3 ⟨rfl, g3⟩
      have s3 := chain s1 g3
      replace k0 := keep k0 g3
      have z_k0 := lt_of k0
      replace k1 := keep k1 g3
      have z_k1 := lt_of k1
      clear g3 s1 z_k
      go_wp2_with fail
      go_loopw [7, 25] (fun sp f wr => ∃ (k : Nat) (x y t : Int), k ≤ len ∧ f = .int .i64 k ∧ sp = .int .i64 t ∧ ok x y = true ∧ x + y = l + s ∧ y = s + t ∧ wr.cell? ⟨w3.heap.size, 0, none⟩ = some (.int .i64 x) ∧ wr.cell? ⟨w3.heap.size, 1, none⟩ = some (.int .i64 y) ∧ wr.cell? ⟨w.heap.size, 0, none⟩ = some (.int .i64 l) ∧ wr.cell? ⟨w.heap.size, 1, none⟩ = some (.int .i64 s) ∧ wr.frozen? ⟨w3.heap.size, 0, none⟩ = false ∧ wr.frozen? ⟨w3.heap.size, 1, none⟩ = false ∧ Below w.heap.size w wr) (fun _ f _ => len - (intOf f).toNat)
      case atStart => exact ⟨0, l, s, 0, by omega, rfl, rfl, H.out, rfl, by omega, by simp [go_sem], by simp [go_sem], keepA k0 _, keepA k1 _, by simp [go_sem], by simp [go_sem], by go_grown⟩
      case round =>
        obtain ⟨k, x, y, t, hk, rfl, rfl, hxy, e1, e2, c0, c1, m0, m1, f0, f1, hB⟩ := hrel
        have hv := ok_t hxy
        obtain ⟨v1, v2, v3, v4⟩ := hv
        have HXY := Lib.hid hxy; have E1 := Lib.hid e1; have E2 := Lib.hid e2
        have t0 : -1000000000 ≤ t := by omega
        have t1 : t ≤ 1000000000 := by omega
        have z3 := lt_of c0
        have z0 := lt_of m0
        have zne : w.heap.size ≠ w3.heap.size := by have := z_k0; omega
        clear hxy e1 e2 k0 k1 s3
        by_cases hlt : k < len
        · obtain ⟨b, o, rfl, hc, hw⟩ := row_at HK.out hlt
          have hcr : wr.cell? ⟨b, o + k, none⟩ = some (.int .i64 (z.getD k 0)) := keep (hc k hlt) hB
          obtain ⟨n1, n2⟩ := bounds_i64 (hw k hlt)
          clear hc hw
          generalize hg : z.getD k 0 = g at *
          clear hg HK
          by_cases hg0 : 0 ≤ g ∧ g ≤ x
          · obtain ⟨h0, h1⟩ := hg0
            have hs : spL x y g = x - g ∧ spS x y g = y + g ∧ spE x y g = 0 ∧ ok (x - g) (y + g) = true := (sp_all HXY.out h0).1 h1
            have EX := Lib.hid hs.1; have EY := Lib.hid hs.2.1; have EZ := Lib.hid hs.2.2.1; have EO := Lib.hid hs.2.2.2
            have b1 : ((x - g + (y + g) : Int) != l + s) = false := by have := E1.out; simp; omega
            have b2 : ((y + g : Int) != s + (t + g)) = false := by have := E2.out; simp; omega
            clear hs
            go_wp2_with fail
            refine (spend_r EX.out EY.out EZ.out _).mono ?_
            rintro e w5 ⟨rfl, g5⟩
            have s5 := chain hB g5
            replace f0 := fkeep f0 z3 g5
            replace f1 := fkeep f1 z3 g5
            replace c0 := keep c0 g5
            have z_c0 := lt_of c0
            replace c1 := keep c1 g5
            have z_c1 := lt_of c1
            replace m0 := keep m0 g5
            have z_m0 := lt_of m0
            replace m1 := keep m1 g5
            have z_m1 := lt_of m1
            clear g5 hB
            go_wp2_with fail
            go_roundw
            case rel => exact ⟨k + 1, x - g, y + g, t + g, by omega, by go_num, rfl, EO.out, by have := E1.out; omega, by have := E2.out; omega, by simp [go_sem, *], by simp [go_sem, *], by simp [go_sem, *], by simp [go_sem, *], by simp [go_sem, *], by simp [go_sem, *], by go_grown⟩
            case measure => simp [intOf]; omega
          · obtain ⟨u, hu⟩ : ∃ u, spE x y g = u := ⟨_, rfl⟩
            have hx : spL x y g = x := by simp only [spL]; rw [if_neg]; intro h; exact hg0 ⟨h.2.1, h.2.2⟩
            have hy : spS x y g = y := by simp only [spS]; rw [if_neg]; intro h; exact hg0 ⟨h.2.1, h.2.2⟩
            have hune : (u == 0) = false := by
              subst hu; unfold spE; rw [beq_eq_false_iff_ne]; split
              · rename_i h; split
                · exact absurd ⟨h.2, by assumption⟩ hg0
                · omega
              · omega
            have EX := Lib.hid hx; have EY := Lib.hid hy; have EZ := Lib.hid hu
            have b1 : ((x + y : Int) != l + s) = false := by have := E1.out; simp; omega
            have b2 : ((y : Int) != s + t) = false := by have := E2.out; simp; omega
            clear hx hy hu hg0
            go_wp2_with fail
            refine (spend_r EX.out EY.out EZ.out _).mono ?_
            rintro e w5 ⟨rfl, g5⟩
            have s5 := chain hB g5
            replace f0 := fkeep f0 z3 g5
            replace f1 := fkeep f1 z3 g5
            replace c0 := keep c0 g5
            have z_c0 := lt_of c0
            replace c1 := keep c1 g5
            have z_c1 := lt_of c1
            replace m0 := keep m0 g5
            have z_m0 := lt_of m0
            replace m1 := keep m1 g5
            have z_m1 := lt_of m1
            clear g5 hB
            go_wp2_with fail
            go_roundw
            case rel => exact ⟨k + 1, x, y, t, by omega, by go_num, rfl, HXY.out, E1.out, E2.out, by simp [go_sem, *], by simp [go_sem, *], by simp [go_sem, *], by simp [go_sem, *], by simp [go_sem, *], by simp [go_sem, *], by go_grown⟩
            case measure => simp [intOf]; omega
        · go_wp2_with fail
          go_ret
          exact ⟨rfl, hB⟩
    · clear hz hok
      go_enter Tryd.func4, Tryd.ntmps4
      go_wp2_with fail
      refine (head _ (HT.out.below (by go_grown))).mono ?_
      rintro e w1 ⟨rfl, g1⟩
      have s1 : Below w.heap.size w w1 := chain (by go_grown) g1
      have k0 : w1.cell? ⟨w.heap.size, 0, none⟩ = some (.int .i64 l) := ((bcell g1).1 _ _ (by simp)).trans (by simp [go_sem])
      have k1 : w1.cell? ⟨w.heap.size, 1, none⟩ = some (.int .i64 s) := ((bcell g1).1 _ _ (by simp)).trans (by simp [go_sem])
      have z_k := lt_of k0
      clear g1
      go_wp2_with fail
      refine (rvalid_b H.out _).mono ?_
      rintro e w3 ⟨rfl, g3⟩
      have s3 := chain s1 g3
      go_wp2_with fail
      go_ret
      exact ⟨rfl, s3⟩
end Go.Proofs.YtpjnbkgaanmelaaDoor
