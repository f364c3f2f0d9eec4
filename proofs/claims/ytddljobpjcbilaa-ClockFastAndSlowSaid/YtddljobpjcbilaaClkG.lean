/- The law of clock on inverses. -/
import Derived.Test.YtddljobpjcbilaaClkF
namespace Go.Proofs.Ytddljobpjcbilaa
open Go.ChangeShapes Go.WideShapes Go.ChangeAt Go.RowKit
set_option maxRecDepth 100000 in
set_option maxHeartbeats 8000000 in
theorem invW (o d t s : Int) (w : World) : Calls Try.prog 6 #[.agg #[.int .i64 o, .int .i64 d], .int .i64 t, .int .i64 s] w fun e w' => e = .returned (.bool true) ∧ Below w.heap.size w w' := by
  obtain ⟨lo, hi, er, hw⟩ := when_exists o d s
  have hw0 := hw
  rcases hs : shOk o d t with _ | _
  · have e1 : shV o d t = 0 ∧ shE o d t = 1 := by simp [shV, shE, hs]
    have HA := Lib.hid e1.1; have HE := Lib.hid e1.2
    clear e1 hs
    rcases hw0 with ⟨a, rfl, rfl, rfl⟩ | ⟨ho, ⟨rfl, rfl, rfl, hn⟩ | ⟨rfl, p1, p2, p3, p4⟩⟩
    · have HW := Lib.hid hw
      clear hw a
      have t_w := Below.refl w.heap.size w
      go_enter Try.func6, Try.ntmps6
      go_wp2_with fail
      refine (head _).mono ?_
      rintro e x1 ⟨rfl, g_x1⟩
      have s_x1 : Below w.heap.size w x1 := chain (by go_grown) g_x1
      have t_x1 := chain t_w s_x1
      have k0 : x1.cell? ⟨w.heap.size, 0, none⟩ = some (.int .i64 o) := ((bcell g_x1).1 _ _ (by simp; try omega)).trans (by simp [go_sem])
      have k1 : x1.cell? ⟨w.heap.size, 1, none⟩ = some (.int .i64 d) := ((bcell g_x1).1 _ _ (by simp; try omega)).trans (by simp [go_sem])
      have z_k_x1 := lt_of k0
      clear g_x1 s_x1
      go_wp2_with fail
      refine (showV HA.out HE.out _).mono ?_
      rintro e x2 ⟨rfl, g_x2⟩
      have s_x2 : Below x1.heap.size x1 x2 := chain (by go_grown) g_x2
      have t_x2 := chain t_x1 s_x2
      replace k0 := keep k0 s_x2
      have z_k0_x2 := lt_of k0
      replace k1 := keep k1 s_x2
      have z_k1_x2 := lt_of k1
      clear g_x2 s_x2
      go_wp2_with fail
      refine (whenV HW.out _).mono ?_
      rintro e x3 ⟨rfl, g_x3⟩
      have s_x3 : Below x2.heap.size x2 x3 := chain (by go_grown) g_x3
      have t_x3 := chain t_x2 s_x3
      replace k0 := keep k0 s_x3
      have z_k0_x3 := lt_of k0
      replace k1 := keep k1 s_x3
      have z_k1_x3 := lt_of k1
      clear g_x3 s_x3
      go_wp2_with fail
      go_ret
      exact ⟨rfl, by first | exact t_x3 | go_grown⟩
    · have HW := Lib.hid hw
      clear hw ho hn
      have t_w := Below.refl w.heap.size w
      go_enter Try.func6, Try.ntmps6
      go_wp2_with fail
      refine (head _).mono ?_
      rintro e x1 ⟨rfl, g_x1⟩
      have s_x1 : Below w.heap.size w x1 := chain (by go_grown) g_x1
      have t_x1 := chain t_w s_x1
      have k0 : x1.cell? ⟨w.heap.size, 0, none⟩ = some (.int .i64 o) := ((bcell g_x1).1 _ _ (by simp; try omega)).trans (by simp [go_sem])
      have k1 : x1.cell? ⟨w.heap.size, 1, none⟩ = some (.int .i64 d) := ((bcell g_x1).1 _ _ (by simp; try omega)).trans (by simp [go_sem])
      have z_k_x1 := lt_of k0
      clear g_x1 s_x1
      go_wp2_with fail
      refine (showV HA.out HE.out _).mono ?_
      rintro e x2 ⟨rfl, g_x2⟩
      have s_x2 : Below x1.heap.size x1 x2 := chain (by go_grown) g_x2
      have t_x2 := chain t_x1 s_x2
      replace k0 := keep k0 s_x2
      have z_k0_x2 := lt_of k0
      replace k1 := keep k1 s_x2
      have z_k1_x2 := lt_of k1
      clear g_x2 s_x2
      go_wp2_with fail
      refine (whenV HW.out _).mono ?_
      rintro e x3 ⟨rfl, g_x3⟩
      have s_x3 : Below x2.heap.size x2 x3 := chain (by go_grown) g_x3
      have t_x3 := chain t_x2 s_x3
      replace k0 := keep k0 s_x3
      have z_k0_x3 := lt_of k0
      replace k1 := keep k1 s_x3
      have z_k1_x3 := lt_of k1
      clear g_x3 s_x3
      go_wp2_with fail
      go_ret
      exact ⟨rfl, by first | exact t_x3 | go_grown⟩
    · have HW := Lib.hid hw; have HR := Lib.hid p4; have HO := Lib.hid ho
      have p5 : hi ≤ lo + 1 := by
        have a1 := (p4 lo p1 (by omega)).2 ⟨by omega, by omega⟩
        have a2 := (p4 hi (by omega) p3).2 ⟨by omega, by omega⟩
        have a3 := two_steps (t := lo) ho
        rcases Int.lt_or_le (lo + 1) hi with h | h
        · have := sh_mono ho (show lo + 2 ≤ hi by omega); omega
        · exact h
      clear hw ho p4
      have t_w := Below.refl w.heap.size w
      go_enter Try.func6, Try.ntmps6
      go_wp2_with fail
      refine (head _).mono ?_
      rintro e x1 ⟨rfl, g_x1⟩
      have s_x1 : Below w.heap.size w x1 := chain (by go_grown) g_x1
      have t_x1 := chain t_w s_x1
      have k0 : x1.cell? ⟨w.heap.size, 0, none⟩ = some (.int .i64 o) := ((bcell g_x1).1 _ _ (by simp; try omega)).trans (by simp [go_sem])
      have k1 : x1.cell? ⟨w.heap.size, 1, none⟩ = some (.int .i64 d) := ((bcell g_x1).1 _ _ (by simp; try omega)).trans (by simp [go_sem])
      have z_k_x1 := lt_of k0
      clear g_x1 s_x1
      go_wp2_with fail
      refine (showV HA.out HE.out _).mono ?_
      rintro e x2 ⟨rfl, g_x2⟩
      have s_x2 : Below x1.heap.size x1 x2 := chain (by go_grown) g_x2
      have t_x2 := chain t_x1 s_x2
      replace k0 := keep k0 s_x2
      have z_k0_x2 := lt_of k0
      replace k1 := keep k1 s_x2
      have z_k1_x2 := lt_of k1
      clear g_x2 s_x2
      go_wp2_with fail
      refine (whenV HW.out _).mono ?_
      rintro e x3 ⟨rfl, g_x3⟩
      have s_x3 : Below x2.heap.size x2 x3 := chain (by go_grown) g_x3
      have t_x3 := chain t_x2 s_x3
      replace k0 := keep k0 s_x3
      have z_k0_x3 := lt_of k0
      replace k1 := keep k1 s_x3
      have z_k1_x3 := lt_of k1
      clear g_x3 s_x3
      go_wp2_with fail
      go_loopw [7, 14] (fun v f wr => ∃ i : Int, v = .bool true ∧ f = .int .i64 i ∧ lo - 1 ≤ i ∧ i ≤ hi + 2 ∧ wr.cell? ⟨w.heap.size, 0, none⟩ = some (.int .i64 o) ∧ wr.cell? ⟨w.heap.size, 1, none⟩ = some (.int .i64 d) ∧ wr.cell? ⟨x3.heap.size, 0, none⟩ = some (.int .i64 lo) ∧ wr.cell? ⟨x3.heap.size, 1, none⟩ = some (.int .i64 hi) ∧ Below w.heap.size w wr) (fun _ f _ => (hi + 2 - intOf f).toNat)
      case atStart => exact ⟨lo - 1, rfl, rfl, by omega, by omega, keepA k0 _, keepA k1 _, by simp [go_sem], by simp [go_sem], by go_grown⟩
      case round =>
        obtain ⟨i, rfl, rfl, i1, i2, c0, c1, d0, d1, hB⟩ := hrel
        clear k0 k1 t_x3
        have z0 := lt_of c0
        have z1 := lt_of d0
        by_cases hi1 : i ≤ hi + 1
        · by_cases hneg : i < 0
          · have hn : shV o d i = 0 ∧ shE o d i = 1 := by
              have hf : shOk o d i = false := by unfold shOk; rw [Bool.and_eq_false_iff]; right; rw [decide_eq_false_iff_not]; omega
              simp [shV, shE, hf]
            have HN := Lib.hid hn.1; have HM := Lib.hid hn.2
            clear hn
            have hlo : i < lo := by omega
            go_wp2_with fail
            refine (showV HN.out HM.out _).mono ?_
            rintro e w5 ⟨rfl, h5⟩
            have hB5 := chain hB h5
            replace c0 := keep c0 h5
            replace c1 := keep c1 h5
            replace d0 := keep d0 h5
            replace d1 := keep d1 h5
            clear h5 hB
            go_wp2_with fail
            go_roundw
            case rel => exact ⟨i + 1, rfl, by go_num, by omega, by omega, c0, c1, d0, d1, hB5⟩
            case measure => simp [intOf]; omega
          · by_cases hbig : 10000000000000 < i
            · have hn : shV o d i = 0 ∧ shE o d i = 1 := by
                have hf : shOk o d i = false := by unfold shOk; rw [Bool.and_eq_false_iff]; right; rw [decide_eq_false_iff_not]; omega
                simp [shV, shE, hf]
              have HN := Lib.hid hn.1; have HM := Lib.hid hn.2
              clear hn
              have hlo : lo ≤ i := by omega
              have hhi : hi < i := by omega
              go_wp2_with fail
              refine (showV HN.out HM.out _).mono ?_
              rintro e w5 ⟨rfl, h5⟩
              have hB5 := chain hB h5
              replace c0 := keep c0 h5
              replace c1 := keep c1 h5
              replace d0 := keep d0 h5
              replace d1 := keep d1 h5
              clear h5 hB
              go_wp2_with fail
              go_roundw
              case rel => exact ⟨i + 1, rfl, by go_num, by omega, by omega, c0, c1, d0, d1, hB5⟩
              case measure => simp [intOf]; omega
            · have hn := sh_ok (t := i) HO.out (by omega) (by omega)
              have hiff := HR.out i (by omega) (by omega)
              generalize sh o d i = x at *
              have HN := Lib.hid hn.1; have HM := Lib.hid hn.2
              by_cases hin : lo ≤ i ∧ i ≤ hi
              · obtain rfl := hiff.2 hin
                obtain ⟨n1, n2⟩ := hin
                have dl : decide (lo ≤ i) = true := by simp [n1]
                have dh : decide (i ≤ hi) = true := by simp [n2]
                clear hn hiff
                go_wp2_with fail
                refine (showV HN.out HM.out _).mono ?_
                rintro e w5 ⟨rfl, h5⟩
                have hB5 := chain hB h5
                replace c0 := keep c0 h5
                replace c1 := keep c1 h5
                replace d0 := keep d0 h5
                replace d1 := keep d1 h5
                clear h5 hB
                go_wp2_with fail
                go_roundw
                case rel => exact ⟨i + 1, rfl, by go_num, by omega, by omega, c0, c1, d0, d1, hB5⟩
                case measure => simp [intOf]; omega
              · have hx : (x == s) = false := by rw [beq_eq_false_iff_ne]; exact fun h => hin (hiff.1 h)
                clear hn hiff
                by_cases n1 : lo ≤ i
                · have n2 : hi < i := by omega
                  have dl : decide (lo ≤ i) = true := by simp [n1]
                  have dh : decide (i ≤ hi) = false := by simp; omega
                  clear hin
                  go_wp2_with fail
                  refine (showV HN.out HM.out _).mono ?_
                  rintro e w5 ⟨rfl, h5⟩
                  have hB5 := chain hB h5
                  replace c0 := keep c0 h5
                  replace c1 := keep c1 h5
                  replace d0 := keep d0 h5
                  replace d1 := keep d1 h5
                  clear h5 hB
                  go_wp2_with fail
                  go_roundw
                  case rel => exact ⟨i + 1, rfl, by go_num, by omega, by omega, c0, c1, d0, d1, hB5⟩
                  case measure => simp [intOf]; omega
                · have dl : decide (lo ≤ i) = false := by simp [n1]
                  clear hin
                  go_wp2_with fail
                  refine (showV HN.out HM.out _).mono ?_
                  rintro e w5 ⟨rfl, h5⟩
                  have hB5 := chain hB h5
                  replace c0 := keep c0 h5
                  replace c1 := keep c1 h5
                  replace d0 := keep d0 h5
                  replace d1 := keep d1 h5
                  clear h5 hB
                  go_wp2_with fail
                  go_roundw
                  case rel => exact ⟨i + 1, rfl, by go_num, by omega, by omega, c0, c1, d0, d1, hB5⟩
                  case measure => simp [intOf]; omega
        · go_wp2_with fail
          go_ret
          exact ⟨rfl, hB⟩
  · have hok := (shOk_t hs).1
    have t0 := (shOk_t hs).2.1
    have t1 := (shOk_t hs).2.2
    have e1 : shV o d t = sh o d t ∧ shE o d t = 0 := by simp [shV, shE, hs]
    obtain ⟨l1, h1, er1, hp⟩ := when_exists o d (sh o d t)
    have hpp : er1 = 0 ∧ l1 ≤ t ∧ t ≤ h1 := by
      rcases hp with ⟨a, _⟩ | ⟨_, ⟨_, _, _, hn⟩ | ⟨e, q1, q2, q3, q4⟩⟩
      · rw [hok] at a; cases a
      · exact absurd rfl (hn t t0 t1)
      · exact ⟨e, ((q4 t t0 t1).1 rfl).1, ((q4 t t0 t1).1 rfl).2⟩
    obtain ⟨rfl, l1t, th1⟩ := hpp
    have HO := Lib.hid hok
    rcases hw0 with ⟨a, _⟩ | ⟨_, ⟨rfl, rfl, rfl, hn⟩ | ⟨rfl, p1, p2, p3, p4⟩⟩
    · rw [hok] at a; cases a
    · have hne := hn t t0 t1
      generalize sh o d t = a at *
      have hneb : (a != s) = true := by simp [hne]
      have HA := Lib.hid e1.1; have HE := Lib.hid e1.2; have HP := Lib.hid hp; have HW := Lib.hid hw
      clear e1 hp hw hn hne hok hs
      have t_w := Below.refl w.heap.size w
      go_enter Try.func6, Try.ntmps6
      go_wp2_with fail
      refine (head _).mono ?_
      rintro e x1 ⟨rfl, g_x1⟩
      have s_x1 : Below w.heap.size w x1 := chain (by go_grown) g_x1
      have t_x1 := chain t_w s_x1
      have k0 : x1.cell? ⟨w.heap.size, 0, none⟩ = some (.int .i64 o) := ((bcell g_x1).1 _ _ (by simp; try omega)).trans (by simp [go_sem])
      have k1 : x1.cell? ⟨w.heap.size, 1, none⟩ = some (.int .i64 d) := ((bcell g_x1).1 _ _ (by simp; try omega)).trans (by simp [go_sem])
      have z_k_x1 := lt_of k0
      clear g_x1 s_x1
      go_wp2_with fail
      refine (showV HA.out HE.out _).mono ?_
      rintro e x2 ⟨rfl, g_x2⟩
      have s_x2 : Below x1.heap.size x1 x2 := chain (by go_grown) g_x2
      have t_x2 := chain t_x1 s_x2
      replace k0 := keep k0 s_x2
      have z_k0_x2 := lt_of k0
      replace k1 := keep k1 s_x2
      have z_k1_x2 := lt_of k1
      clear g_x2 s_x2
      go_wp2_with fail
      refine (whenV HP.out _).mono ?_
      rintro e x3 ⟨rfl, g_x3⟩
      have s_x3 : Below x2.heap.size x2 x3 := chain (by go_grown) g_x3
      have t_x3 := chain t_x2 s_x3
      replace k0 := keep k0 s_x3
      have z_k0_x3 := lt_of k0
      replace k1 := keep k1 s_x3
      have z_k1_x3 := lt_of k1
      clear g_x3 s_x3
      go_wp2_with fail
      refine (whenV HW.out _).mono ?_
      rintro e x4 ⟨rfl, g_x4⟩
      have s_x4 : Below x3.heap.size x3 x4 := chain (by go_grown) g_x4
      have t_x4 := chain t_x3 s_x4
      replace k0 := keep k0 s_x4
      have z_k0_x4 := lt_of k0
      replace k1 := keep k1 s_x4
      have z_k1_x4 := lt_of k1
      have p0 : x4.cell? ⟨x3.heap.size, 0, none⟩ = some (.int .i64 l1) := ((bcell g_x4).1 _ _ (by simp; try omega)).trans (by simp [go_sem])
      have p1 : x4.cell? ⟨x3.heap.size, 1, none⟩ = some (.int .i64 h1) := ((bcell g_x4).1 _ _ (by simp; try omega)).trans (by simp [go_sem])
      have z_p_x4 := lt_of p0
      clear g_x4 s_x4
      go_wp2_with fail
      go_ret
      exact ⟨rfl, by first | exact t_x4 | go_grown⟩
    · have HW := Lib.hid hw; have HR := Lib.hid p4
      have p5 : hi ≤ lo + 1 := by
        have a1 := (p4 lo p1 (by omega)).2 ⟨by omega, by omega⟩
        have a2 := (p4 hi (by omega) p3).2 ⟨by omega, by omega⟩
        have a3 := two_steps (t := lo) hok
        rcases Int.lt_or_le (lo + 1) hi with h | h
        · have := sh_mono hok (show lo + 2 ≤ hi by omega); omega
        · exact h
      generalize sh o d t = a at *
      have HA := Lib.hid e1.1; have HE := Lib.hid e1.2; have HP := Lib.hid hp
      clear e1 hp hw hok hs p4
      have t_w := Below.refl w.heap.size w
      go_enter Try.func6, Try.ntmps6
      go_wp2_with fail
      refine (head _).mono ?_
      rintro e x1 ⟨rfl, g_x1⟩
      have s_x1 : Below w.heap.size w x1 := chain (by go_grown) g_x1
      have t_x1 := chain t_w s_x1
      have k0 : x1.cell? ⟨w.heap.size, 0, none⟩ = some (.int .i64 o) := ((bcell g_x1).1 _ _ (by simp; try omega)).trans (by simp [go_sem])
      have k1 : x1.cell? ⟨w.heap.size, 1, none⟩ = some (.int .i64 d) := ((bcell g_x1).1 _ _ (by simp; try omega)).trans (by simp [go_sem])
      have z_k_x1 := lt_of k0
      clear g_x1 s_x1
      go_wp2_with fail
      refine (showV HA.out HE.out _).mono ?_
      rintro e x2 ⟨rfl, g_x2⟩
      have s_x2 : Below x1.heap.size x1 x2 := chain (by go_grown) g_x2
      have t_x2 := chain t_x1 s_x2
      replace k0 := keep k0 s_x2
      have z_k0_x2 := lt_of k0
      replace k1 := keep k1 s_x2
      have z_k1_x2 := lt_of k1
      clear g_x2 s_x2
      go_wp2_with fail
      refine (whenV HP.out _).mono ?_
      rintro e x3 ⟨rfl, g_x3⟩
      have s_x3 : Below x2.heap.size x2 x3 := chain (by go_grown) g_x3
      have t_x3 := chain t_x2 s_x3
      replace k0 := keep k0 s_x3
      have z_k0_x3 := lt_of k0
      replace k1 := keep k1 s_x3
      have z_k1_x3 := lt_of k1
      clear g_x3 s_x3
      go_wp2_with fail
      refine (whenV HW.out _).mono ?_
      rintro e x4 ⟨rfl, g_x4⟩
      have s_x4 : Below x3.heap.size x3 x4 := chain (by go_grown) g_x4
      have t_x4 := chain t_x3 s_x4
      replace k0 := keep k0 s_x4
      have z_k0_x4 := lt_of k0
      replace k1 := keep k1 s_x4
      have z_k1_x4 := lt_of k1
      have p0 : x4.cell? ⟨x3.heap.size, 0, none⟩ = some (.int .i64 l1) := ((bcell g_x4).1 _ _ (by simp; try omega)).trans (by simp [go_sem])
      have p1 : x4.cell? ⟨x3.heap.size, 1, none⟩ = some (.int .i64 h1) := ((bcell g_x4).1 _ _ (by simp; try omega)).trans (by simp [go_sem])
      have z_p_x4 := lt_of p0
      clear g_x4 s_x4
      go_wp2_with fail
      clear p0
      clear p1
      go_loopw [7, 14] (fun v f wr => ∃ i : Int, v = .bool true ∧ f = .int .i64 i ∧ lo - 1 ≤ i ∧ i ≤ hi + 2 ∧ wr.cell? ⟨w.heap.size, 0, none⟩ = some (.int .i64 o) ∧ wr.cell? ⟨w.heap.size, 1, none⟩ = some (.int .i64 d) ∧ wr.cell? ⟨x4.heap.size, 0, none⟩ = some (.int .i64 lo) ∧ wr.cell? ⟨x4.heap.size, 1, none⟩ = some (.int .i64 hi) ∧ Below w.heap.size w wr) (fun _ f _ => (hi + 2 - intOf f).toNat)
      case atStart => exact ⟨lo - 1, rfl, rfl, by omega, by omega, keepA k0 _, keepA k1 _, by simp [go_sem], by simp [go_sem], by go_grown⟩
      case round =>
        obtain ⟨i, rfl, rfl, i1, i2, c0, c1, d0, d1, hB⟩ := hrel
        clear k0 k1 t_x4
        have z0 := lt_of c0
        have z1 := lt_of d0
        by_cases hi1 : i ≤ hi + 1
        · by_cases hneg : i < 0
          · have hn : shV o d i = 0 ∧ shE o d i = 1 := by
              have hf : shOk o d i = false := by unfold shOk; rw [Bool.and_eq_false_iff]; right; rw [decide_eq_false_iff_not]; omega
              simp [shV, shE, hf]
            have HN := Lib.hid hn.1; have HM := Lib.hid hn.2
            clear hn
            have hlo : i < lo := by omega
            go_wp2_with fail
            refine (showV HN.out HM.out _).mono ?_
            rintro e w5 ⟨rfl, h5⟩
            have hB5 := chain hB h5
            replace c0 := keep c0 h5
            replace c1 := keep c1 h5
            replace d0 := keep d0 h5
            replace d1 := keep d1 h5
            clear h5 hB
            go_wp2_with fail
            go_roundw
            case rel => exact ⟨i + 1, rfl, by go_num, by omega, by omega, c0, c1, d0, d1, hB5⟩
            case measure => simp [intOf]; omega
          · by_cases hbig : 10000000000000 < i
            · have hn : shV o d i = 0 ∧ shE o d i = 1 := by
                have hf : shOk o d i = false := by unfold shOk; rw [Bool.and_eq_false_iff]; right; rw [decide_eq_false_iff_not]; omega
                simp [shV, shE, hf]
              have HN := Lib.hid hn.1; have HM := Lib.hid hn.2
              clear hn
              have hlo : lo ≤ i := by omega
              have hhi : hi < i := by omega
              go_wp2_with fail
              refine (showV HN.out HM.out _).mono ?_
              rintro e w5 ⟨rfl, h5⟩
              have hB5 := chain hB h5
              replace c0 := keep c0 h5
              replace c1 := keep c1 h5
              replace d0 := keep d0 h5
              replace d1 := keep d1 h5
              clear h5 hB
              go_wp2_with fail
              go_roundw
              case rel => exact ⟨i + 1, rfl, by go_num, by omega, by omega, c0, c1, d0, d1, hB5⟩
              case measure => simp [intOf]; omega
            · have hn := sh_ok (t := i) HO.out (by omega) (by omega)
              have hiff := HR.out i (by omega) (by omega)
              generalize sh o d i = x at *
              have HN := Lib.hid hn.1; have HM := Lib.hid hn.2
              by_cases hin : lo ≤ i ∧ i ≤ hi
              · obtain rfl := hiff.2 hin
                obtain ⟨n1, n2⟩ := hin
                have dl : decide (lo ≤ i) = true := by simp [n1]
                have dh : decide (i ≤ hi) = true := by simp [n2]
                clear hn hiff
                go_wp2_with fail
                refine (showV HN.out HM.out _).mono ?_
                rintro e w5 ⟨rfl, h5⟩
                have hB5 := chain hB h5
                replace c0 := keep c0 h5
                replace c1 := keep c1 h5
                replace d0 := keep d0 h5
                replace d1 := keep d1 h5
                clear h5 hB
                go_wp2_with fail
                go_roundw
                case rel => exact ⟨i + 1, rfl, by go_num, by omega, by omega, c0, c1, d0, d1, hB5⟩
                case measure => simp [intOf]; omega
              · have hx : (x == s) = false := by rw [beq_eq_false_iff_ne]; exact fun h => hin (hiff.1 h)
                clear hn hiff
                by_cases n1 : lo ≤ i
                · have n2 : hi < i := by omega
                  have dl : decide (lo ≤ i) = true := by simp [n1]
                  have dh : decide (i ≤ hi) = false := by simp; omega
                  clear hin
                  go_wp2_with fail
                  refine (showV HN.out HM.out _).mono ?_
                  rintro e w5 ⟨rfl, h5⟩
                  have hB5 := chain hB h5
                  replace c0 := keep c0 h5
                  replace c1 := keep c1 h5
                  replace d0 := keep d0 h5
                  replace d1 := keep d1 h5
                  clear h5 hB
                  go_wp2_with fail
                  go_roundw
                  case rel => exact ⟨i + 1, rfl, by go_num, by omega, by omega, c0, c1, d0, d1, hB5⟩
                  case measure => simp [intOf]; omega
                · have dl : decide (lo ≤ i) = false := by simp [n1]
                  clear hin
                  go_wp2_with fail
                  refine (showV HN.out HM.out _).mono ?_
                  rintro e w5 ⟨rfl, h5⟩
                  have hB5 := chain hB h5
                  replace c0 := keep c0 h5
                  replace c1 := keep c1 h5
                  replace d0 := keep d0 h5
                  replace d1 := keep d1 h5
                  clear h5 hB
                  go_wp2_with fail
                  go_roundw
                  case rel => exact ⟨i + 1, rfl, by go_num, by omega, by omega, c0, c1, d0, d1, hB5⟩
                  case measure => simp [intOf]; omega
        · go_wp2_with fail
          go_ret
          exact ⟨rfl, hB⟩
end Go.Proofs.Ytddljobpjcbilaa
