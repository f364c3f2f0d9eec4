/- Contracts of package bound: Heard; the laws' helpers. -/
import Derived.Test.YtkmkfjaokjcelaaBndC
import Derived.Test.YtkmkfjaokjcelaaClkS
namespace Go.Proofs.Ytkmkfjaokjcelaa
open Go.ChangeShapes Go.WideShapes Go.ChangeAt Go.RowKit
def hOk (asn bd loc : Int) : Bool := decide (0 ≤ asn ∧ asn ≤ 1000000000 ∧ 0 ≤ bd ∧ bd ≤ 2000 ∧ -2000000000 ≤ loc ∧ loc ≤ 20000000000000)
def HeardIs (asn bd loc L H A E : Int) : Prop :=
  (hOk asn bd loc = false ∧ L = 0 ∧ H = 0 ∧ A = 0 ∧ E = 1) ∨
  (hOk asn bd loc = true ∧ L = asn * 10000 - loc - bd ∧ H = asn * 10000 - loc + bd ∧ A = loc ∧ E = 0)
theorem heard_exists (asn bd loc : Int) : ∃ L H A E, HeardIs asn bd loc L H A E := by
  rcases h : hOk asn bd loc with _ | _
  · exact ⟨0, 0, 0, 1, .inl ⟨h, rfl, rfl, rfl, rfl⟩⟩
  · exact ⟨_, _, _, 0, .inr ⟨h, rfl, rfl, rfl, rfl⟩⟩
theorem fld (x y z : Value) (w : World) : Sem.run Try.prog (Instr.field 54 (.agg #[x, y, z]) 0) w = .ok (.agg #[x, y, z]) w := by kernel_rfl
set_option maxHeartbeats 1000000 in
theorem heardV {fr ho bd asn loc L H A E : Int} (hv : HeardIs asn bd loc L H A E) (w : World) : Calls Try.prog 16 #[.agg #[.int .i64 fr, .int .i64 ho, .int .i64 bd, .int .i64 asn, .int .i64 loc]] w fun e w' => e = .returned (.tuple #[.agg #[.int .i64 L, .int .i64 H, .int .i64 A], .int .i64 E]) ∧ Below w.heap.size w w' := by
  rcases h1 : inB 0 1000000000 asn with _ | _
  · have hb : hOk asn bd loc = false := by simp [inB] at h1; simp [hOk]; omega
    rcases hv with ⟨_, rfl, rfl, rfl, rfl⟩ | ⟨h, _⟩
    · have W1 := Lib.hid h1
      clear h1 hb
      have t_w := Below.refl w.heap.size w
      go_enter Try.func16, Try.ntmps16
      go_wp2_with fail
      refine (within1 W1.out (w.heap.size + 2) 0 _ _ (by simp [go_sem])).mono ?_
      rintro e x1 ⟨rfl, hw⟩; obtain rfl := hw.symm
      clear hw
      go_wp2_with fail
      refine bodyPost_ret (v := .tuple #[.agg #[.int .i64 0, .int .i64 0, .int .i64 0], .int .i64 1]) (by simp [results, Try.results16, go_sem, *]) rfl ⟨rfl, by first | exact t_w | go_grown⟩
    · rw [hb] at h; cases h
  · rcases h2 : inB 0 2000 bd with _ | _
    · have hb : hOk asn bd loc = false := by simp [inB] at h2; simp [hOk]; omega
      rcases hv with ⟨_, rfl, rfl, rfl, rfl⟩ | ⟨h, _⟩
      · have W1 := Lib.hid h1
        have W2 := Lib.hid h2
        clear h1 h2 hb
        have t_w := Below.refl w.heap.size w
        go_enter Try.func16, Try.ntmps16
        go_wp2_with fail
        refine (within1 W1.out (w.heap.size + 2) 0 _ _ (by simp [go_sem])).mono ?_
        rintro e x1 ⟨rfl, hw⟩; obtain rfl := hw.symm
        clear hw
        go_wp2_with fail
        refine (within1 W2.out (w.heap.size + 3) 0 _ _ (by simp [go_sem])).mono ?_
        rintro e x1 ⟨rfl, hw⟩; obtain rfl := hw.symm
        clear hw
        go_wp2_with fail
        refine bodyPost_ret (v := .tuple #[.agg #[.int .i64 0, .int .i64 0, .int .i64 0], .int .i64 1]) (by simp [results, Try.results16, go_sem, *]) rfl ⟨rfl, by first | exact t_w | go_grown⟩
      · rw [hb] at h; cases h
    · rcases h3 : inB (-2000000000) 20000000000000 loc with _ | _
      · have hb : hOk asn bd loc = false := by simp [inB] at h3; simp [hOk]; omega
        rcases hv with ⟨_, rfl, rfl, rfl, rfl⟩ | ⟨h, _⟩
        · have W1 := Lib.hid h1
          have W2 := Lib.hid h2
          have W3 := Lib.hid h3
          clear h1 h2 h3 hb
          have t_w := Below.refl w.heap.size w
          go_enter Try.func16, Try.ntmps16
          go_wp2_with fail
          refine (within1 W1.out (w.heap.size + 2) 0 _ _ (by simp [go_sem])).mono ?_
          rintro e x1 ⟨rfl, hw⟩; obtain rfl := hw.symm
          clear hw
          go_wp2_with fail
          refine (within1 W2.out (w.heap.size + 3) 0 _ _ (by simp [go_sem])).mono ?_
          rintro e x1 ⟨rfl, hw⟩; obtain rfl := hw.symm
          clear hw
          go_wp2_with fail
          refine (within1 W3.out (w.heap.size + 4) 0 _ _ (by simp [go_sem])).mono ?_
          rintro e x1 ⟨rfl, hw⟩; obtain rfl := hw.symm
          clear hw
          go_wp2_with fail
          refine bodyPost_ret (v := .tuple #[.agg #[.int .i64 0, .int .i64 0, .int .i64 0], .int .i64 1]) (by simp [results, Try.results16, go_sem, *]) rfl ⟨rfl, by first | exact t_w | go_grown⟩
        · rw [hb] at h; cases h
      · have c1 := inB_t h1; have c2 := inB_t h2; have c3 := inB_t h3
        obtain ⟨c1, c1'⟩ := c1; obtain ⟨c2, c2'⟩ := c2; obtain ⟨c3, c3'⟩ := c3
        have hb : hOk asn bd loc = true := by simp [hOk]; omega
        rcases hv with ⟨h, _⟩ | ⟨_, rfl, rfl, hA, rfl⟩
        · rw [hb] at h; cases h
        · obtain rfl := hA.symm
          have hwd := fun w => widened (asn * 10000 - loc) (asn * 10000 - loc) loc bd ⟨by omega, by omega⟩ ⟨by omega, by omega⟩ ⟨by omega, by omega⟩ w
          have HW := Lib.hid hwd
          have W1 := Lib.hid h1
          have W2 := Lib.hid h2
          have W3 := Lib.hid h3
          clear h1 h2 h3 hb hwd hA
          have t_w := Below.refl w.heap.size w
          go_enter Try.func16, Try.ntmps16
          go_wp2_with fail
          refine (within1 W1.out (w.heap.size + 2) 0 _ _ (by simp [go_sem])).mono ?_
          rintro e x1 ⟨rfl, hw⟩; obtain rfl := hw.symm
          clear hw
          go_wp2_with fail
          refine (within1 W2.out (w.heap.size + 3) 0 _ _ (by simp [go_sem])).mono ?_
          rintro e x1 ⟨rfl, hw⟩; obtain rfl := hw.symm
          clear hw
          go_wp2_with fail
          refine (within1 W3.out (w.heap.size + 4) 0 _ _ (by simp [go_sem])).mono ?_
          rintro e x1 ⟨rfl, hw⟩; obtain rfl := hw.symm
          clear hw
          go_wp2_with fail
          have hfld := fld
          refine (HW.out _).mono ?_
          rintro e w1 ⟨rfl, g1⟩
          have t1 : Below w.heap.size w w1 := chain (by go_grown) g1
          have r0 : w1.cell? ⟨w.heap.size + 1, 0, none⟩ = some (.int .i64 0) := ((bcell g1).1 _ _ (by simp; try omega)).trans (by simp [go_sem])
          have r1 : w1.cell? ⟨w.heap.size + 1, 1, none⟩ = some (.int .i64 0) := ((bcell g1).1 _ _ (by simp; try omega)).trans (by simp [go_sem])
          have r2 : w1.cell? ⟨w.heap.size + 1, 2, none⟩ = some (.int .i64 0) := ((bcell g1).1 _ _ (by simp; try omega)).trans (by simp [go_sem])
          have rf : ∀ i, w1.frozen? ⟨w.heap.size + 1, i, none⟩ = false := fun i => ((bcell g1).2 _ _ (by simp; try omega)).trans (by simp [go_sem])
          have z1 := lt_of r0
          clear g1
          go_wp2_with fail
          refine bodyPost_ret (v := .tuple #[.agg #[.int .i64 (asn * 10000 - loc - bd), .int .i64 (asn * 10000 - loc + bd), .int .i64 loc], .int .i64 0]) (by simp [results, Try.results16, go_sem, *]) rfl ⟨rfl, by go_grown⟩
set_option maxHeartbeats 4000000 in
theorem rhint0 (fr ho bd asn loc : Int) (w : World) : Calls Try.prog 33 #[.agg #[.int .i64 fr, .int .i64 ho, .int .i64 bd, .int .i64 asn, .int .i64 loc]] w fun e w' => e = .returned (.bool (hOk asn bd loc)) ∧ Below w.heap.size w w' := by
  by_cases h1 : 0 ≤ asn
  · by_cases h2 : asn ≤ 1000000000
    · by_cases h3 : 0 ≤ bd
      · by_cases h4 : bd ≤ 2000
        · by_cases h5 : -2000000000 ≤ loc
          · by_cases h6 : loc ≤ 20000000000000
            all_goals
              have t_w := Below.refl w.heap.size w
              go_enter Try.func33, Try.ntmps33
              go_wp2_with fail
              go_ret
              exact ⟨ret_bool (by unfold hOk; first | exact bt (by omega) | exact bf (by omega)), by go_grown⟩
          · have t_w := Below.refl w.heap.size w
            go_enter Try.func33, Try.ntmps33
            go_wp2_with fail
            go_ret
            exact ⟨ret_bool (by unfold hOk; first | exact bt (by omega) | exact bf (by omega)), by go_grown⟩
        · have t_w := Below.refl w.heap.size w
          go_enter Try.func33, Try.ntmps33
          go_wp2_with fail
          go_ret
          exact ⟨ret_bool (by unfold hOk; first | exact bt (by omega) | exact bf (by omega)), by go_grown⟩
      · have t_w := Below.refl w.heap.size w
        go_enter Try.func33, Try.ntmps33
        go_wp2_with fail
        go_ret
        exact ⟨ret_bool (by unfold hOk; first | exact bt (by omega) | exact bf (by omega)), by go_grown⟩
    · have t_w := Below.refl w.heap.size w
      go_enter Try.func33, Try.ntmps33
      go_wp2_with fail
      go_ret
      exact ⟨ret_bool (by unfold hOk; first | exact bt (by omega) | exact bf (by omega)), by go_grown⟩
  · have t_w := Below.refl w.heap.size w
    go_enter Try.func33, Try.ntmps33
    go_wp2_with fail
    go_ret
    exact ⟨ret_bool (by unfold hOk; first | exact bt (by omega) | exact bf (by omega)), by go_grown⟩
theorem rhint {fr ho bd asn loc : Int} {v : Bool} (hv : hOk asn bd loc = v) (w : World) : Calls Try.prog 33 #[.agg #[.int .i64 fr, .int .i64 ho, .int .i64 bd, .int .i64 asn, .int .i64 loc]] w fun e w' => e = .returned (.bool v) ∧ Below w.heap.size w w' := by
  subst hv; exact rhint0 fr ho bd asn loc w
theorem rheardV {fr ho bd asn loc L H A E : Int} (hv : HeardIs asn bd loc L H A E) (w : World) : Calls Try.prog 17 #[.agg #[.int .i64 fr, .int .i64 ho, .int .i64 bd, .int .i64 asn, .int .i64 loc]] w fun e w' => e = .returned (.tuple #[.agg #[.int .i64 L, .int .i64 H, .int .i64 A], .int .i64 E]) ∧ Below w.heap.size w w' := by
  rcases hv with ⟨h, rfl, rfl, rfl, rfl⟩ | ⟨h, rfl, rfl, hA, rfl⟩
  · have H1 := Lib.hid h
    clear h
    have t_w := Below.refl w.heap.size w
    go_enter Try.func17, Try.ntmps17
    go_wp2_with fail
    refine (rhint H1.out _).mono ?_
    rintro e w1 ⟨rfl, g_w1⟩
    have s_w1 : Below w.heap.size w w1 := chain (by go_grown) g_w1
    have t_w1 := chain t_w s_w1
    have k0 : w1.cell? ⟨w.heap.size, 0, none⟩ = some (.int .i64 fr) := ((bcell g_w1).1 _ _ (by simp; try omega)).trans (by simp [go_sem])
    have k1 : w1.cell? ⟨w.heap.size, 1, none⟩ = some (.int .i64 ho) := ((bcell g_w1).1 _ _ (by simp; try omega)).trans (by simp [go_sem])
    have k2 : w1.cell? ⟨w.heap.size, 2, none⟩ = some (.int .i64 bd) := ((bcell g_w1).1 _ _ (by simp; try omega)).trans (by simp [go_sem])
    have k3 : w1.cell? ⟨w.heap.size, 3, none⟩ = some (.int .i64 asn) := ((bcell g_w1).1 _ _ (by simp; try omega)).trans (by simp [go_sem])
    have k4 : w1.cell? ⟨w.heap.size, 4, none⟩ = some (.int .i64 loc) := ((bcell g_w1).1 _ _ (by simp; try omega)).trans (by simp [go_sem])
    have z_k_w1 := lt_of k0
    have r0 : w1.cell? ⟨w.heap.size + 1, 0, none⟩ = some (.int .i64 0) := ((bcell g_w1).1 _ _ (by simp; try omega)).trans (by simp [go_sem])
    have r1 : w1.cell? ⟨w.heap.size + 1, 1, none⟩ = some (.int .i64 0) := ((bcell g_w1).1 _ _ (by simp; try omega)).trans (by simp [go_sem])
    have r2 : w1.cell? ⟨w.heap.size + 1, 2, none⟩ = some (.int .i64 0) := ((bcell g_w1).1 _ _ (by simp; try omega)).trans (by simp [go_sem])
    have z_r_w1 := lt_of r0
    have rf : ∀ i, w1.frozen? ⟨w.heap.size + 1, i, none⟩ = false := fun i => ((bcell g_w1).2 _ _ (by simp; try omega)).trans (by simp [go_sem])
    clear g_w1 s_w1 t_w
    go_wp2_with fail
    refine bodyPost_ret (v := .tuple #[.agg #[.int .i64 0, .int .i64 0, .int .i64 0], .int .i64 1]) (by simp [results, Try.results17, go_sem, *]) rfl ⟨rfl, by first | exact t_w1 | go_grown⟩
  · obtain rfl := hA.symm
    have hk : 0 ≤ asn ∧ asn ≤ 1000000000 ∧ 0 ≤ bd ∧ bd ≤ 2000 ∧ -2000000000 ≤ loc ∧ loc ≤ 20000000000000 := by simpa [hOk] using h
    obtain ⟨c1, c2, c3, c4, c5, c6⟩ := hk
    have H1 := Lib.hid h
    clear h hA
    have t_w := Below.refl w.heap.size w
    go_enter Try.func17, Try.ntmps17
    go_wp2_with fail
    refine (rhint H1.out _).mono ?_
    rintro e w1 ⟨rfl, g_w1⟩
    have s_w1 : Below w.heap.size w w1 := chain (by go_grown) g_w1
    have t_w1 := chain t_w s_w1
    have k0 : w1.cell? ⟨w.heap.size, 0, none⟩ = some (.int .i64 fr) := ((bcell g_w1).1 _ _ (by simp; try omega)).trans (by simp [go_sem])
    have k1 : w1.cell? ⟨w.heap.size, 1, none⟩ = some (.int .i64 ho) := ((bcell g_w1).1 _ _ (by simp; try omega)).trans (by simp [go_sem])
    have k2 : w1.cell? ⟨w.heap.size, 2, none⟩ = some (.int .i64 bd) := ((bcell g_w1).1 _ _ (by simp; try omega)).trans (by simp [go_sem])
    have k3 : w1.cell? ⟨w.heap.size, 3, none⟩ = some (.int .i64 asn) := ((bcell g_w1).1 _ _ (by simp; try omega)).trans (by simp [go_sem])
    have k4 : w1.cell? ⟨w.heap.size, 4, none⟩ = some (.int .i64 loc) := ((bcell g_w1).1 _ _ (by simp; try omega)).trans (by simp [go_sem])
    have z_k_w1 := lt_of k0
    have r0 : w1.cell? ⟨w.heap.size + 1, 0, none⟩ = some (.int .i64 0) := ((bcell g_w1).1 _ _ (by simp; try omega)).trans (by simp [go_sem])
    have r1 : w1.cell? ⟨w.heap.size + 1, 1, none⟩ = some (.int .i64 0) := ((bcell g_w1).1 _ _ (by simp; try omega)).trans (by simp [go_sem])
    have r2 : w1.cell? ⟨w.heap.size + 1, 2, none⟩ = some (.int .i64 0) := ((bcell g_w1).1 _ _ (by simp; try omega)).trans (by simp [go_sem])
    have z_r_w1 := lt_of r0
    have rf : ∀ i, w1.frozen? ⟨w.heap.size + 1, i, none⟩ = false := fun i => ((bcell g_w1).2 _ _ (by simp; try omega)).trans (by simp [go_sem])
    clear g_w1 s_w1 t_w
    go_wp2_with fail
    refine bodyPost_ret (v := .tuple #[.agg #[.int .i64 (asn * 10000 - loc - bd), .int .i64 (asn * 10000 - loc + bd), .int .i64 loc], .int .i64 0]) (by simp [results, Try.results17, go_sem, *]) rfl ⟨rfl, by first | exact t_w1 | go_grown⟩
end Go.Proofs.Ytkmkfjaokjcelaa
