/- The laws of package timesync: Truth. -/
import Derived.Test.YtbeaipngljphkaaTsV
import Derived.Test.YtbeaipngljphkaaTsS
namespace Go.Proofs.Ytbeaipngljphkaa
open Go Go.ChangeShapes Go.WideShapes Go.ChangeAt Go.RowKit
set_option linter.all false
theorem imax_ge {a b c : Int} (h1 : a ≤ c) (h2 : b ≤ c) : imax a b ≤ c := by unfold imax; split <;> omega
theorem imin_ge {a b c : Int} (h1 : c ≤ a) (h2 : c ≤ b) : c ≤ imin a b := by unfold imin; split <;> omega
theorem mono_lin {x P1 D : Int} (hx : 0 ≤ x) (a : D ≤ 50 * x) (b : -50 * x ≤ D) : 0 ≤ x + (P1 + D) / 1000000 - P1 / 1000000 := by
  by_cases h : x = 0 <;> omega
/-- two spans that are true at one moment meet in one that is -/
theorem meet_true {lo hi s1 lo2 hi2 s2 x y : Int} (v1 : spP lo hi s1 = true) (v2 : spP lo2 hi2 s2 = true) (hs : s1 ≤ s2) (h1 : lo ≤ x ∧ x ≤ hi) (h2 : lo2 ≤ y ∧ y ≤ hi2) (hd : y - x ≤ more (s2 - s1) ∧ x - y ≤ more (s2 - s1)) :
    mtE lo hi s1 lo2 hi2 s2 ≠ 16 ∧ mtE lo hi s1 lo2 hi2 s2 ≠ 1 ∧ (mtE lo hi s1 lo2 hi2 s2 = 0 → mtA lo hi s1 lo2 hi2 s2 = s2 ∧ mtL lo hi s1 lo2 hi2 s2 ≤ y ∧ y ≤ mtH lo hi s1 lo2 hi2 s2) := by
  have b1 := sp_iff.1 v1
  have b2 := sp_iff.1 v2
  have key : fE lo hi s1 s2 = 0 → fE lo2 hi2 s2 s1 = 0 → (fL lo hi s1 s2 ≤ y ∧ y ≤ fH lo hi s1 s2) ∧ (fL lo2 hi2 s2 s1 ≤ y ∧ y ≤ fH lo2 hi2 s2 s1) := by
    intro e1 e2
    have q1 : gE lo hi s1 s2 = 0 := by simpa [fE, hs] using e1
    obtain ⟨r1, r2, _⟩ := gE_ok q1
    have m1 := more_le (e := s2 - s1) (by omega) (by omega)
    refine ⟨?_, ?_⟩
    · simp only [fL, fH, if_pos hs, r1, r2]; omega
    · by_cases c : s2 ≤ s1
      · have e : s1 = s2 := by omega
        have q2 : gE lo2 hi2 s2 s1 = 0 := by simpa [fE, c] using e2
        obtain ⟨r3, r4, _⟩ := gE_ok q2
        have m2 := more_le (e := s1 - s2) (by omega) (by omega)
        simp only [fL, fH, if_pos c, r3, r4]
        omega
      · simp only [fL, fH, if_neg c]; exact h2
  by_cases c1 : (fE lo hi s1 s2 == 0 && fE lo2 hi2 s2 s1 == 0) = true
  · have c2 := c1
    simp only [Bool.and_eq_true, beq_iff_eq] at c2
    obtain ⟨k1, k2⟩ := key c2.1 c2.2
    have a1 := imax_ge k1.1 k2.1
    have a2 := imin_ge k1.2 k2.2
    have e0 : mtE lo hi s1 lo2 hi2 s2 = 0 := by
      unfold mtE
      rw [v1, v2, if_pos (by rfl), if_pos c1, if_neg (by omega)]
    obtain ⟨_, _, m3, m4, m5⟩ := mt_spec e0
    refine ⟨by rw [e0]; decide, by rw [e0]; decide, fun _ => ?_⟩
    rw [m3, m4, m5]
    refine ⟨?_, a1, a2⟩
    unfold imax; split <;> omega
  · have e3 : mtE lo hi s1 lo2 hi2 s2 = 3 := by
      unfold mtE
      rw [v1, v2, if_pos (by rfl), if_neg c1]
    exact ⟨by rw [e3]; decide, by rw [e3]; decide, fun h => by rw [e3] at h; cases h⟩
set_option maxHeartbeats 1000000 in
theorem ltruth_c (sy : Bool) (lo hi at0 ho so he : Int) (off dr hf hh hb ha hl t k d : Int) (w : World) : Calls Try.prog 4 #[(.agg #[.bool sy, .int .i64 lo, .int .i64 hi, .int .i64 at0, .int .i64 ho, .int .i64 so, .int .i64 he]), .agg #[.int .i64 off, .int .i64 dr], (.agg #[.int .i64 hf, .int .i64 hh, .int .i64 hb, .int .i64 ha, .int .i64 hl]), .int .i64 t, .int .i64 k, .int .i64 d] w fun e w' => e = .returned (.bool true) ∧ Below w.heap.size w w' := by
  refine Ev.contract1 G8_ok 60 (Ev.ExtOk.nil w) (ltruth_L sy lo hi at0 ho so he off dr hf hh hb ha hl t k d) (ltruth_T sy lo hi at0 ho so he off dr hf hh hb ha hl t k d) ?_
  refine Ev.ite_good (fun _ => rfl) (fun c1 => Ev.ite_good (fun _ => rfl) (fun c2 => Ev.ite_good (fun _ => rfl) (fun c3 => Ev.ite_good (fun _ => rfl) (fun c4 => Ev.ite_good (fun _ => rfl) (fun c5 => Ev.ite_good (fun _ => rfl) (fun c6 => Ev.ite_good (fun _ => rfl) (fun c7 => Ev.ite_good (fun _ => rfl) (fun c8 => Ev.ite_good (fun _ => rfl) (fun c9 => Ev.ite_good (fun _ => rfl) (fun c10 => ?_))))))))))
  simp only [decide_eq_false_iff_not] at c1 c2 c3 c4 c5 c6 c7 c8 c9 c10
  rw [w64 (x := 0 - hb) (by omega) (by omega)] at c3
  rw [w64 (x := 10000000000000 - k) (by omega) (by omega), w64 (x := 10000000000000 - k - 20000) (by omega) (by omega)] at c6
  rw [w64 (x := t + k) (by omega) (by omega), Int.tdiv_eq_ediv_of_nonneg (by omega)]
  obtain ⟨A, eA⟩ : ∃ A, A = (t + k) / 10000 := ⟨_, rfl⟩
  rw [← eA, w64 (x := A) (by omega) (by omega), w64 (x := A * 10000) (by omega) (by omega), w64 (x := A * 10000 + d) (by omega) (by omega)]
  obtain ⟨T, eT⟩ : ∃ T, T = A * 10000 + d := ⟨_, rfl⟩
  rw [← eT]
  refine Ev.ite_good (fun _ => rfl) (fun c11 => Ev.ite_good (fun _ => rfl) (fun c12 => Ev.ite_good (fun _ => rfl) (fun c13 => Ev.ite_good (fun _ => rfl) (fun c14 => ?_))))
  simp only [decide_eq_false_iff_not] at c12
  have htv : tvP sy lo hi at0 ho so he = true := by simpa using c13
  have hth : thP hf hh hb A (shN off dr T) = true := by simpa using c14
  have hs2 : shP off dr T = true := by
    cases h : shP off dr T with
    | true => rfl
    | false => simp [shE, h, sel] at c11
  have e2 : shE off dr T = 0 := by simp [shE, hs2, sel]
  have n2 : shN off dr T = shV off dr T := by simp [shN, hs2, sel]
  obtain ⟨⟨s1, s2⟩, ⟨s3, s4⟩, s5, s6⟩ := sh_iff.1 hs2
  have d2 := dr_in s3 s4 s5 s6
  have v2 : shV off dr T = T + off + dr * T / 1000000 := rfl
  have hp := (th_iff.1 hth).1
  rw [n2] at hp hth
  rw [e2, n2]
  have hq := hint_iff.1 hp
  have gL2 : hL hb A (shV off dr T) = A * 10000 - shV off dr T - hb := by simp [hL, hp, sel]
  have gH2 : hH hb A (shV off dr T) = A * 10000 - shV off dr T + hb := by simp [hH, hp, sel]
  have gA2 : hA hb A (shV off dr T) = shV off dr T := by simp [hA, hp, sel]
  have sp2 : spP (hL hb A (shV off dr T)) (hH hb A (shV off dr T)) (hA hb A (shV off dr T)) = true := by
    rw [gL2, gH2, gA2]; exact sp_iff.2 (by omega)
  have in2 : hL hb A (shV off dr T) ≤ T - shV off dr T ∧ T - shV off dr T ≤ hH hb A (shV off dr T) := by
    rw [gL2, gH2]; omega
  rw [w64 (x := T - shV off dr T) (by omega) (by omega)]
  cases sy with
  | false =>
    have htk : takes false ho so hf hh = true := rfl
    have hE : rE false lo hi at0 ho so he hf hh hb A (shV off dr T) = 0 := by simp [rE, htv, hth]
    have hK : rK false lo hi at0 ho so he hf hh hb A (shV off dr T) = true := by simp [rK, htv, hth, htk, hE]
    have k1 : rA false lo hi at0 ho so he hf hh hb A (shV off dr T) = shV off dr T := by simp [rA, hK, sel, gA2]
    have k2 : rL false lo hi at0 ho so he hf hh hb A (shV off dr T) = hL hb A (shV off dr T) := by simp [rL, hK, sel]
    have k3 : rH false lo hi at0 ho so he hf hh hb A (shV off dr T) = hH hb A (shV off dr T) := by simp [rH, hK, sel]
    rw [hE, k1, k2, k3]
    simp [Ev.Tree.good, in2.1, in2.2, htk]
  | true =>
    by_cases h0 : ho = 0
    · simp [Ev.Tree.good, h0]
    cases hs : shP off dr t with
    | false => simp [Ev.Tree.good, h0, shE, hs, sel]
    | true =>
      have e1 : shE off dr t = 0 := by simp [shE, hs, sel]
      have n1 : shN off dr t = shV off dr t := by simp [shN, hs, sel]
      rw [e1, n1]
      obtain ⟨_, _, s7, s8⟩ := sh_iff.1 hs
      have d1 := dr_in s3 s4 s7 s8
      have v1 : shV off dr t = t + off + dr * t / 1000000 := rfl
      have mono : shV off dr t ≤ shV off dr T ∧ (T - shV off dr T) - (t - shV off dr t) ≤ more (shV off dr T - shV off dr t) ∧ (t - shV off dr t) - (T - shV off dr T) ≤ more (shV off dr T - shV off dr t) := by
        have eT2 : T = t + (T - t) := by omega
        have a : dr * (T - t) ≤ 50 * (T - t) := Int.mul_le_mul_of_nonneg_right s4 (by omega)
        have b : -50 * (T - t) ≤ dr * (T - t) := Int.mul_le_mul_of_nonneg_right s3 (by omega)
        have hm : dr * T = dr * t + dr * (T - t) := by rw [← Int.mul_add]; congr 1
        have hdr := drift_in (dr := dr) (t := t) (k := T - t) s3 s4 (by omega) rfl rfl
        rw [← eT2] at hdr
        generalize dr * T = P2 at *
        generalize dr * t = P1 at *
        generalize dr * (T - t) = D at *
        have hge : 0 ≤ T - t + P2 / 1000000 - P1 / 1000000 := by rw [hm]; exact mono_lin (by omega) a b
        have := hdr hge
        have es : T - t + P2 / 1000000 - P1 / 1000000 = shV off dr T - shV off dr t := by omega
        rw [es] at this
        omega
      rw [w64 (x := t - shV off dr t) (by omega) (by omega)]
      by_cases ca : at0 = shV off dr t
      · by_cases cb : lo ≤ t - shV off dr t
        · by_cases cc : t - shV off dr t ≤ hi
          · have sp1 : spP lo hi at0 = true := by
              rcases (tv_iff.1 htv).2 with ⟨h, _⟩ | ⟨_, h | h⟩
              · cases h
              · exact absurd h h0
              · exact h.2.2
            obtain ⟨m1, m2, m3⟩ := meet_true (lo := lo) (hi := hi) (s1 := at0) (s2 := hA hb A (shV off dr T)) (x := t - shV off dr t) (y := T - shV off dr T) sp1 sp2 (by rw [ca, gA2]; exact mono.1) ⟨cb, cc⟩ in2 (by rw [ca, gA2]; exact mono.2)
            cases htk : takes true ho so hf hh with
            | false =>
              have hE : rE true lo hi at0 ho so he hf hh hb A (shV off dr T) = 0 := by simp [rE, htv, hth, htk]
              have hK : rK true lo hi at0 ho so he hf hh hb A (shV off dr T) = false := by simp [rK, htk]
              obtain ⟨q1, q2, q3, q4, q5, q6, q7⟩ := rK_f hK
              rw [hE, q1, q2, q3, q4, q5, q6, q7]
              simp [Ev.Tree.good]
            | true =>
              have hE : rE true lo hi at0 ho so he hf hh hb A (shV off dr T) = mtE lo hi at0 (hL hb A (shV off dr T)) (hH hb A (shV off dr T)) (hA hb A (shV off dr T)) := by simp [rE, htv, hth, htk]
              by_cases hz : mtE lo hi at0 (hL hb A (shV off dr T)) (hH hb A (shV off dr T)) (hA hb A (shV off dr T)) = 0
              · have hK : rK true lo hi at0 ho so he hf hh hb A (shV off dr T) = true := by simp [rK, htv, hth, htk, hE, hz]
                obtain ⟨z1, z2, z3⟩ := m3 hz
                have z1' := z1
                rw [gA2] at z1'
                have k1 : rA true lo hi at0 ho so he hf hh hb A (shV off dr T) = shV off dr T := by simp [rA, hK, sel, z1', gA2]
                have k2 : rL true lo hi at0 ho so he hf hh hb A (shV off dr T) = mtL lo hi at0 (hL hb A (shV off dr T)) (hH hb A (shV off dr T)) (hA hb A (shV off dr T)) := by simp [rL, hK, sel]
                have k3 : rH true lo hi at0 ho so he hf hh hb A (shV off dr T) = mtH lo hi at0 (hL hb A (shV off dr T)) (hH hb A (shV off dr T)) (hA hb A (shV off dr T)) := by simp [rH, hK, sel]
                rw [hE, hz, k1, k2, k3]
                simp [Ev.Tree.good, h0, z2, z3]
              · rw [hE]
                simp [Ev.Tree.good, h0, hz, m1, m2]
          · simp [Ev.Tree.good, h0, ca, cb, cc]
        · simp [Ev.Tree.good, h0, ca, cb]
      · simp [Ev.Tree.good, h0, ca]
end Go.Proofs.Ytbeaipngljphkaa
