/- The laws of package timesync: Estimate. -/
import Derived.Test.YtbeaipngljphkaaTsT
namespace Go.Proofs.Ytbeaipngljphkaa
open Go Go.ChangeShapes Go.WideShapes Go.ChangeAt Go.RowKit
set_option linter.all false
theorem bE_t {lo hi at0 ho so he l : Int} (htv : tvP true lo hi at0 ho so he = true) (h0 : ho ≠ 0) : bE true lo hi at0 ho so he l = if gE lo hi at0 l = 0 then (if half lo hi at0 l > 2000 then 16 else 0) else gE lo hi at0 l := by
  simp only [bE, htv]; simp [h0]
theorem lestimate_c (sy : Bool) (lo hi at0 ho so he : Int) (off dr t k : Int) (w : World) : Calls Try.prog 5 #[(.agg #[.bool sy, .int .i64 lo, .int .i64 hi, .int .i64 at0, .int .i64 ho, .int .i64 so, .int .i64 he]), .agg #[.int .i64 off, .int .i64 dr], .int .i64 t, .int .i64 k] w fun e w' => e = .returned (.bool true) ∧ Below w.heap.size w w' := by
  refine Ev.contract1 G8_ok 60 (Ev.ExtOk.nil w) (lestimate_L sy lo hi at0 ho so he off dr t k) (lestimate_T sy lo hi at0 ho so he off dr t k) ?_
  refine Ev.ite_good (fun _ => rfl) (fun c1 => Ev.ite_good (fun _ => rfl) (fun c2 => Ev.ite_good (fun _ => rfl) (fun c3 => ?_)))
  simp only [decide_eq_false_iff_not] at c1 c2 c3
  rw [w64 (x := 10000000000000 - t) (by omega) (by omega)]
  refine Ev.ite_good (fun _ => rfl) (fun c4 => Ev.ite_good (fun _ => rfl) (fun c5 => ?_))
  simp only [decide_eq_false_iff_not] at c4
  rw [w64 (x := t + k) (by omega) (by omega)]
  have htv : tvP sy lo hi at0 ho so he = true := by simpa using c5
  cases sy with
  | false => simp [Ev.Tree.good]
  | true =>
    by_cases h0 : ho = 0
    · simp [Ev.Tree.good, h0]
    cases hs : shP off dr t with
    | false => simp [Ev.Tree.good, h0, shE, hs, sel]
    | true =>
      obtain ⟨⟨s1, s2⟩, ⟨s3, s4⟩, _⟩ := sh_iff.1 hs
      have hs2 : shP off dr (t + k) = true := sh_iff.2 (by omega)
      have d1 := dr_in s3 s4 (show 0 ≤ t by omega) (by omega)
      have d2 := dr_in s3 s4 (show 0 ≤ t + k by omega) (by omega)
      have e1 : shE off dr t = 0 := by simp [shE, hs, sel]
      have e2 : shE off dr (t + k) = 0 := by simp [shE, hs2, sel]
      have n1 : shN off dr t = shV off dr t := by simp [shN, hs, sel]
      have n2 : shN off dr (t + k) = shV off dr (t + k) := by simp [shN, hs2, sel]
      rw [e1, e2, n1, n2]
      have v1 : shV off dr t = t + off + dr * t / 1000000 := rfl
      have v2 : shV off dr (t + k) = t + k + off + dr * (t + k) / 1000000 := rfl
      have b1 : -600000000 ≤ dr * t / 1000000 ∧ dr * t / 1000000 ≤ 600000000 := by omega
      have b2 : -600000000 ≤ dr * (t + k) / 1000000 ∧ dr * (t + k) / 1000000 ≤ 600000000 := by omega
      have hdr := fun h => drift_in (dr := dr) (t := t) (k := k) s3 s4 (by omega) rfl rfl h
      generalize shV off dr t = x at *
      generalize shV off dr (t + k) = s at *
      generalize dr * t / 1000000 = q1 at *
      generalize dr * (t + k) / 1000000 = q2 at *
      rw [w64 (x := t - x) (by omega) (by omega)]
      by_cases ca : at0 = x
      · by_cases cb : lo ≤ t - x
        · by_cases cc : t - x ≤ hi
          · by_cases hg : gE lo hi at0 s = 0
            · by_cases hh : half lo hi at0 s > 2000
              · have hb : bE true lo hi at0 ho so he s = 16 := by rw [bE_t htv h0, if_pos hg, if_pos hh]
                simp [Ev.Tree.good, h0, ca, cb, cc, hb, hg]
                simp [ca ▸ hb]
              · have hb : bE true lo hi at0 ho so he s = 0 := by rw [bE_t htv h0, if_pos hg, if_neg hh]
                have hn : bN true lo hi at0 ho so he s = half lo hi at0 s := by simp [bN, hb, sel, show (ho != 0) = true by simpa using h0]
                obtain ⟨g1, g2, g3, g4⟩ := gE_spec hg
                obtain ⟨r1, r2, _⟩ := gE_ok hg
                have hG := sp_iff.1 g4
                obtain ⟨m1, m2⟩ := hdr (by omega)
                have es : k + q2 - q1 = s - at0 := by omega
                rw [es] at m1 m2
                have h4 : gL lo hi at0 s ≤ t + k - s := by omega
                have h5 : t + k - s ≤ gH lo hi at0 s := by omega
                rw [hn, hb, hg]
                have hhalf : half lo hi at0 s = (gH lo hi at0 s - gL lo hi at0 s + 1) / 2 := rfl
                generalize half lo hi at0 s = n at *
                generalize gL lo hi at0 s = a at *
                generalize gH lo hi at0 s = b at *
                rw [w64 (x := a + b) (by omega) (by omega)]
                have mw := mid_w (a := a) (b := b) (by omega) (by omega) (by omega) ((a + b) / 2) s (t + k) n (by omega) (by omega) h4 h5 hhalf rfl
                by_cases hneg : a + b < 0
                · have em : IntKind.wrap .i64 (Int.tdiv (IntKind.wrap .i64 (a + b - 1)) 2) = (a + b) / 2 := by
                    rw [w64 (x := a + b - 1) (by omega) (by omega), Int.tdiv_eq_ediv]
                    split
                    · rename_i hd; rw [w64 (by omega) (by omega)]; omega
                    · rw [show Int.sign 2 = 1 from rfl, w64 (by omega) (by omega)]; omega
                  rw [em]
                  rw [w64 (x := s + (a + b) / 2) (by omega) (by omega)] at mw ⊢
                  rw [w64 (x := s + (a + b) / 2 - t) (by omega) (by omega), w64 (x := s + (a + b) / 2 - t - k) (by omega) (by omega)]
                  rw [w64 (x := t + k - (s + (a + b) / 2)) (by omega) (by omega)] at mw ⊢
                  have u2 : s + (a + b) / 2 - t - k ≤ n := by omega
                  simp [Ev.Tree.good, h0, ca, cb, cc, hneg, mw.1, u2]
                · have em : IntKind.wrap .i64 (Int.tdiv (a + b) 2) = (a + b) / 2 := by
                    rw [Int.tdiv_eq_ediv_of_nonneg (by omega), w64 (by omega) (by omega)]
                  rw [em]
                  rw [w64 (x := s + (a + b) / 2) (by omega) (by omega)] at mw ⊢
                  rw [w64 (x := s + (a + b) / 2 - t) (by omega) (by omega), w64 (x := s + (a + b) / 2 - t - k) (by omega) (by omega)]
                  rw [w64 (x := t + k - (s + (a + b) / 2)) (by omega) (by omega)] at mw ⊢
                  have u2 : s + (a + b) / 2 - t - k ≤ n := by omega
                  simp [Ev.Tree.good, h0, ca, cb, cc, hneg, mw.1, u2]
            · have hb : bE true lo hi at0 ho so he s = gE lo hi at0 s := by rw [bE_t htv h0, if_neg hg]
              rw [hb]
              simp [Ev.Tree.good, hg]
          · simp [Ev.Tree.good, h0, ca, cb, cc]
        · simp [Ev.Tree.good, h0, ca, cb]
      · simp [Ev.Tree.good, h0, ca]
end Go.Proofs.Ytbeaipngljphkaa
