/- Contracts of package ledger: Cost, Lasts, head. -/
import Derived.Test.YtpjnbkgaanmelaaDoorLedA
namespace Go.Proofs.YtpjnbkgaanmelaaDoor
open Go.ChangeShapes Go.WideShapes Go.ChangeAt Go.RowKit
/-- the table of costs -/
structure Tab (w : World) : Prop where
  t0 : w.cell? ⟨0, 0, none⟩ = some (.int .i64 1)
  t1 : w.cell? ⟨0, 1, none⟩ = some (.int .i64 40)
  t2 : w.cell? ⟨0, 2, none⟩ = some (.int .i64 60)
  lt : 0 < w.heap.size
theorem Tab.below {w w' : World} (h : Tab w) (b : Below w.heap.size w w') : Tab w' :=
  ⟨(b.cell (p := ⟨0, 0, none⟩) h.lt).trans h.t0, (b.cell (p := ⟨0, 1, none⟩) h.lt).trans h.t1, (b.cell (p := ⟨0, 2, none⟩) h.lt).trans h.t2, Nat.lt_of_lt_of_le h.lt b.size⟩
theorem tab_mk {w : World} (h : ∀ i (_ : i < 3), w.cell? ⟨0, i, none⟩ = some (.int .i64 ([1, 40, 60].getD i 0))) : Tab w :=
  ⟨h 0 (by omega), h 1 (by omega), h 2 (by omega), lt_of (h 0 (by omega))⟩
def costI (n : Int) : Int := if n = 0 then 1 else if n = 1 then 40 else if n = 2 then 60 else 0
theorem cost (n : Int) (w : World) (ht : Tab w) : Calls Tryd.prog 12 #[.int .i64 n] w fun e w' => e = .returned (.int .i64 (costI n)) ∧ w' = w := by
  obtain ⟨t0, t1, t2, _⟩ := ht
  by_cases h : 0 ≤ n ∧ n < 3
  · obtain ⟨h0, h1⟩ := h
    have : n = 0 ∨ n = 1 ∨ n = 2 := by omega
    rcases this with rfl | rfl | rfl
    all_goals
      go_enter Tryd.func12, Tryd.ntmps12
      go_wp2_with fail
      go_ret
      exact ⟨rfl, rfl⟩
  · have hc : costI n = 0 := by unfold costI; split; omega; split; omega; split; omega; rfl
    rw [hc]; clear hc
    by_cases h0 : 0 ≤ n
    · have h1 : 3 ≤ n := by omega
      clear h
      go_enter Tryd.func12, Tryd.ntmps12
      go_wp2_with fail
      go_ret
      exact ⟨rfl, rfl⟩
    · clear h
      go_enter Tryd.func12, Tryd.ntmps12
      go_wp2_with fail
      go_ret
      exact ⟨rfl, rfl⟩
theorem rcost (n : Int) (w : World) : Calls Tryd.prog 13 #[.int .i64 n] w fun e w' => e = .returned (.int .i64 (costI n)) ∧ w' = w := by
  by_cases h : n = 0 ∨ n = 1 ∨ n = 2
  · rcases h with rfl | rfl | rfl
    all_goals
      go_enter Tryd.func13, Tryd.ntmps13
      go_wp2_with fail
      go_ret
      exact ⟨rfl, rfl⟩
  · have hc : costI n = 0 := by unfold costI; split; omega; split; omega; split; omega; rfl
    rw [hc]; clear hc
    have h0 : (n == 0) = false := by simp; omega
    have h1 : (n == 1) = false := by simp; omega
    have h2 : (n == 2) = false := by simp; omega
    clear h
    go_enter Tryd.func13, Tryd.ntmps13
    go_wp2_with fail
    go_ret
    exact ⟨rfl, rfl⟩
def lastsI (l s n : Int) : Int := if ok l s = true ∧ costI n ≠ 0 then l / costI n else 0
theorem lasts (l s n : Int) (w : World) (ht : Tab w) : Calls Tryd.prog 14 #[.agg #[.int .i64 l, .int .i64 s], .int .i64 n] w fun e w' => e = .returned (.int .i64 (lastsI l s n)) ∧ Below w.heap.size w w' := by
  have ht' : Tab (w.alloc (.cells #[.int .i64 l, .int .i64 s] 23)) := ht.below ((Below.refl _ _).alloc (Nat.le_refl _) _)
  by_cases hc : costI n = 0
  · have hv : lastsI l s n = 0 := by simp [lastsI, hc]
    rw [hv]; have HT := Lib.hid ht'; have HC := Lib.hid hc; clear hv ht ht' hc
    go_enter Tryd.func14, Tryd.ntmps14
    go_wp2_with fail
    refine (cost _ _ HT.out).mono ?_
    rintro e w1 ⟨rfl, rfl⟩
    rw [HC.out]
    go_wp2_with fail
    go_ret
    exact ⟨rfl, by go_grown⟩
  · have hb : (costI n == 0) = false := by simp [hc]
    have hp : 1 ≤ costI n := by unfold costI at hc ⊢; split at hc <;> simp_all; split at hc <;> simp_all
    rcases hok : ok l s with _ | _
    · have hv : lastsI l s n = 0 := by simp [lastsI, hok]
      rw [hv]; have HT := Lib.hid ht'; have H := Lib.hid hok; clear hv ht ht' hc hok
      go_enter Tryd.func14, Tryd.ntmps14
      go_wp2_with fail
      refine (cost _ _ HT.out).mono ?_
      rintro e w1 ⟨rfl, rfl⟩
      go_wp2_with fail
      refine (valid _ _ _).mono ?_
      rintro e w1 ⟨rfl, rfl⟩
      rw [H.out]
      go_wp2_with fail
      go_ret
      exact ⟨rfl, by go_grown⟩
    · have hv : lastsI l s n = l / costI n := by simp [lastsI, hok, hc]
      have hk := ok_t hok
      obtain ⟨k1, k2, _, _⟩ := hk
      rw [hv]; have HT := Lib.hid ht'; have H := Lib.hid hok; clear hv ht ht' hc hok
      generalize hcc : costI n = c at *
      have HCC := Lib.hid hcc; clear hcc
      go_enter Tryd.func14, Tryd.ntmps14
      go_wp2_with fail
      refine (cost _ _ HT.out).mono ?_
      rintro e w1 ⟨rfl, rfl⟩
      rw [HCC.out]
      go_wp2_with fail
      refine (valid _ _ _).mono ?_
      rintro e w1 ⟨rfl, rfl⟩
      rw [H.out]
      go_wp2_with fail
      go_ret
      exact ⟨rfl, by go_grown⟩
theorem rlasts (l s n : Int) (w : World) : Calls Tryd.prog 15 #[.agg #[.int .i64 l, .int .i64 s], .int .i64 n] w fun e w' => e = .returned (.int .i64 (lastsI l s n)) ∧ Below w.heap.size w w' := by
  rcases hok : ok l s with _ | _
  · have hv : lastsI l s n = 0 := by simp [lastsI, hok]
    rw [hv]; have H := Lib.hid hok; clear hv hok
    go_enter Tryd.func15, Tryd.ntmps15
    go_wp2_with fail
    refine (rvalid _ _ _).mono ?_
    rintro e w1 ⟨rfl, rfl⟩
    rw [H.out]
    go_wp2_with fail
    go_ret
    exact ⟨rfl, by go_grown⟩
  · by_cases hc : costI n = 0
    · have hv : lastsI l s n = 0 := by simp [lastsI, hc]
      rw [hv]; have H := Lib.hid hok; have HC := Lib.hid hc; clear hv hok hc
      go_enter Tryd.func15, Tryd.ntmps15
      go_wp2_with fail
      refine (rvalid _ _ _).mono ?_
      rintro e w1 ⟨rfl, rfl⟩
      rw [H.out]
      go_wp2_with fail
      refine (rcost _ _).mono ?_
      rintro e w1 ⟨rfl, rfl⟩
      rw [HC.out]
      go_wp2_with fail
      go_ret
      exact ⟨rfl, by go_grown⟩
    · have hb : (costI n == 0) = false := by simp [hc]
      have hp : 1 ≤ costI n := by unfold costI at hc ⊢; split at hc <;> simp_all; split at hc <;> simp_all
      have hv : lastsI l s n = l / costI n := by simp [lastsI, hok, hc]
      have hk := ok_t hok
      obtain ⟨k1, k2, _, _⟩ := hk
      rw [hv]; have H := Lib.hid hok; clear hv hc hok
      have hcv : ∀ w, Calls Tryd.prog 13 #[.int .i64 n] w fun e w' => e = .returned (.int .i64 (costI n)) ∧ w' = w := fun w => rcost n w
      generalize hcc : costI n = c at *
      have HCV := Lib.hid hcv
      clear hcv hcc
      go_enter Tryd.func15, Tryd.ntmps15
      go_wp2_with fail
      refine (rvalid _ _ _).mono ?_
      rintro e w1 ⟨rfl, rfl⟩
      rw [H.out]
      go_wp2_with fail
      refine (HCV.out _).mono ?_
      rintro e w1 ⟨rfl, rfl⟩
      go_wp2_with fail
      go_quiet ((go_at_call 13; exact Calls.quiet_of_same (HCV.out _)))
      go_wp2_with fail
      go_ret
      exact ⟨rfl, bdN (by go_grown) _⟩
theorem Tab.chain {W w : World} (h : Tab W) (b : Below W.heap.size W w) : Tab w := h.below b
theorem spend_v {l s c x y z : Int} (hx : spL l s c = x) (hy : spS l s c = y) (hz : spE l s c = z) {W : World} (w : World) (h : Below W.heap.size W w) :
    Calls Tryd.prog 10 #[.agg #[.int .i64 l, .int .i64 s], .int .i64 c] w fun e w' => e = .returned (.tuple #[.agg #[.int .i64 x, .int .i64 y], .int .i64 z]) ∧ Below W.heap.size W w' := by
  subst hx hy hz
  exact (spend l s c w).mono fun _ _ ⟨a, b⟩ => ⟨a, chain h b⟩
theorem rspend_v {l s c x y z : Int} (hx : spL l s c = x) (hy : spS l s c = y) (hz : spE l s c = z) {W : World} (w : World) (h : Below W.heap.size W w) :
    Calls Tryd.prog 11 #[.agg #[.int .i64 l, .int .i64 s], .int .i64 c] w fun e w' => e = .returned (.tuple #[.agg #[.int .i64 x, .int .i64 y], .int .i64 z]) ∧ Below W.heap.size W w' := by
  subst hx hy hz
  exact (rspend l s c w).mono fun _ _ ⟨a, b⟩ => ⟨a, chain h b⟩
theorem lasts_v {l s n v : Int} (hv : lastsI l s n = v) {W : World} (w : World) (ht : Tab W) (h : Below W.heap.size W w) :
    Calls Tryd.prog 14 #[.agg #[.int .i64 l, .int .i64 s], .int .i64 n] w fun e w' => e = .returned (.int .i64 v) ∧ Below W.heap.size W w' := by
  subst hv
  exact (lasts l s n w (ht.below h)).mono fun _ _ ⟨a, b⟩ => ⟨a, chain h b⟩
theorem rlasts_v {l s n v : Int} (hv : lastsI l s n = v) {W : World} (w : World) (h : Below W.heap.size W w) :
    Calls Tryd.prog 15 #[.agg #[.int .i64 l, .int .i64 s], .int .i64 n] w fun e w' => e = .returned (.int .i64 v) ∧ Below W.heap.size W w' := by
  subst hv
  exact (rlasts l s n w).mono fun _ _ ⟨a, b⟩ => ⟨a, chain h b⟩
theorem cost_v {n v : Int} (hv : costI n = v) {W : World} (w : World) (ht : Tab W) (h : Below W.heap.size W w) :
    Calls Tryd.prog 12 #[.int .i64 n] w fun e w' => e = .returned (.int .i64 v) ∧ Below W.heap.size W w' := by
  subst hv
  exact (cost n w (ht.below h)).mono fun _ _ ⟨a, b⟩ => ⟨a, b ▸ h⟩
theorem spend_r {l s c x y z : Int} (hx : spL l s c = x) (hy : spS l s c = y) (hz : spE l s c = z) (w : World) :
    Calls Tryd.prog 10 #[.agg #[.int .i64 l, .int .i64 s], .int .i64 c] w fun e w' => e = .returned (.tuple #[.agg #[.int .i64 x, .int .i64 y], .int .i64 z]) ∧ Below w.heap.size w w' := by
  subst hx hy hz
  exact spend l s c w
set_option maxHeartbeats 2000000 in
theorem head (w : World) (ht : Tab w) : Calls Tryd.prog 9 #[] w fun e w' => e = .returned (.bool true) ∧ Below w.heap.size w w' := by
  have HT := Lib.hid ht; clear ht
  have hF := Below.refl w.heap.size w
  go_enter Tryd.func9, Tryd.ntmps9
  go_wp2_with fail
  refine (spend_r (l := 100) (s := 5) (c := 60) (x := 40) (y := 65) (z := 0) (by decide) (by decide) (by decide) _).mono ?_
  rintro e w1 ⟨rfl, h1⟩
  have h1' := chain hF h1
  go_wp2_with fail
  refine (spend_r (l := 40) (s := 65) (c := 60) (x := 40) (y := 65) (z := 15) (by decide) (by decide) (by decide) _).mono ?_
  rintro e w2 ⟨rfl, h2⟩
  have z1 := h1.size
  have z2 : w1.heap.size < w2.heap.size := by have := h2.size; simp at this; omega
  have h2' : Below w.heap.size w w2 := chain (Below.alloc h1 (by omega) _) h2
  have k20 : w2.cell? ⟨w1.heap.size, 0, none⟩ = some (.int .i64 40) := by rw [(bcell h2).1 _ _ (by simp)]; simp [go_sem]
  have k21 : w2.cell? ⟨w1.heap.size, 1, none⟩ = some (.int .i64 65) := by rw [(bcell h2).1 _ _ (by simp)]; simp [go_sem]
  go_wp2_with fail
  refine (spend_r (l := 40) (s := 65) (c := -1) (x := 40) (y := 65) (z := 1) (by decide) (by decide) (by decide) _).mono ?_
  rintro e w3 ⟨rfl, h3⟩
  have z3 : w2.heap.size < w3.heap.size := by have := h3.size; simp at this; omega
  have h3' : Below w.heap.size w w3 := chain (Below.alloc h2' (by omega) _) h3
  have k30 : w3.cell? ⟨w1.heap.size, 0, none⟩ = some (.int .i64 40) := by rw [(bcell h3).1 _ _ (by simp; omega)]; simp [go_sem, k20, z2]
  have k31 : w3.cell? ⟨w1.heap.size, 1, none⟩ = some (.int .i64 65) := by rw [(bcell h3).1 _ _ (by simp; omega)]; simp [go_sem, k21, z2]
  have k32 : w3.cell? ⟨w2.heap.size, 0, none⟩ = some (.int .i64 40) := by rw [(bcell h3).1 _ _ (by simp)]; simp [go_sem]
  have k33 : w3.cell? ⟨w2.heap.size, 1, none⟩ = some (.int .i64 65) := by rw [(bcell h3).1 _ _ (by simp)]; simp [go_sem]
  go_wp2_with fail
  refine (spend_r (l := 1000000000) (s := 1) (c := 1) (x := 1000000000) (y := 1) (z := 1) (by decide) (by decide) (by decide) _).mono ?_
  rintro e w4 ⟨rfl, h4⟩
  have z4 : w3.heap.size < w4.heap.size := by have := h4.size; simp at this; omega
  have h4' : Below w.heap.size w w4 := chain (Below.alloc h3' (by omega) _) h4
  have s4 : Below w3.heap.size w3 w4 := chain (Below.alloc (Below.refl _ _) (Nat.le_refl _) _) h4
  have z14 : w1.heap.size < w4.heap.size := by omega
  have z24 : w2.heap.size < w4.heap.size := by omega
  have k40 := keep k30 s4
  have k41 := keep k31 s4
  have k42 := keep k32 s4
  have k43 := keep k33 s4
  have hb4 := Lib.hid h4'
  clear h1 h1' h2 h2' h3 h3' h4 h4' k20 k21 k30 k31 k32 k33
  go_wp2_with fail
  refine (lasts_v (v := 2) (by decide) _ HT.out (by first | exact hb4.out | assumption | exact Below.alloc hb4.out (by omega) _ | exact Below.alloc (Below.alloc hb4.out (by omega) _) (by simp; omega) _ | go_grown)).mono ?_
  rintro e w5 ⟨rfl, h5⟩
  go_wp2_with fail
  refine (cost_v (v := 60) (by decide) _ HT.out (by first | exact hb4.out | assumption | exact Below.alloc hb4.out (by omega) _ | exact Below.alloc (Below.alloc hb4.out (by omega) _) (by simp; omega) _ | go_grown)).mono ?_
  rintro e w6 ⟨rfl, h6⟩
  go_wp2_with fail
  refine (cost_v (v := 0) (by decide) _ HT.out (by first | exact hb4.out | assumption | exact Below.alloc hb4.out (by omega) _ | exact Below.alloc (Below.alloc hb4.out (by omega) _) (by simp; omega) _ | go_grown)).mono ?_
  rintro e w7 ⟨rfl, h7⟩
  go_wp2_with fail
  refine (cost_v (v := 0) (by decide) _ HT.out (by first | exact hb4.out | assumption | exact Below.alloc hb4.out (by omega) _ | exact Below.alloc (Below.alloc hb4.out (by omega) _) (by simp; omega) _ | go_grown)).mono ?_
  rintro e w8 ⟨rfl, h8⟩
  go_wp2_with fail
  go_ret
  exact ⟨rfl, h8⟩
end Go.Proofs.YtpjnbkgaanmelaaDoor
