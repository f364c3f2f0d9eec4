/- The laws of package timesync: Fades. -/
import Derived.Test.YtbeaipngljphkaaTsP
namespace Go.Proofs.Ytbeaipngljphkaa
open Go Go.ChangeShapes Go.WideShapes Go.ChangeAt Go.RowKit
set_option linter.all false
theorem more_mono {a b : Int} (h : a ≤ b) : more a ≤ more b := by
  unfold more
  omega
theorem grow_mono {lo hi at0 l k : Int} (h : gE lo hi at0 k = 0) (h1 : at0 ≤ l) (h2 : l ≤ k) : gE lo hi at0 l = 0 ∧ half lo hi at0 l ≤ half lo hi at0 k := by
  obtain ⟨s1, s2, s3, s4⟩ := gE_spec h
  obtain ⟨q1, q2, _⟩ := gE_ok h
  rw [q1, q2] at s4
  have m1 := more_mono (show l - at0 ≤ k - at0 by omega)
  have hs := sp_iff.1 s1
  have hs4 := sp_iff.1 s4
  have m0 := more_le (e := l - at0) (by omega) (by omega)
  have hl : spP (lo - more (l - at0)) (hi + more (l - at0)) l = true := sp_iff.2 (by omega)
  have hg := gE_sp s1 h1 (show l ≤ 20000000000000 by omega)
  rw [hl, beq_iff_eq] at hg
  obtain ⟨r1, r2, _⟩ := gE_ok hg
  refine ⟨hg, ?_⟩
  unfold half
  rw [q1, q2, r1, r2]
  omega
theorem bnd_mono {lo hi at0 ho so he l k : Int} (h0 : ho ≠ 0) (h : bE true lo hi at0 ho so he k = 0) (h1 : at0 ≤ l) (h2 : l ≤ k) : bE true lo hi at0 ho so he l = 0 ∧ bN true lo hi at0 ho so he l ≤ bN true lo hi at0 ho so he k := by
  have hk := h
  have h0' : (ho != 0) = true := by simpa using h0
  unfold bE at h
  cases htv : tvP true lo hi at0 ho so he with
  | false => simp [htv] at h
  | true =>
    by_cases hg : gE lo hi at0 k = 0
    · simp [htv, h0, hg] at h
      obtain ⟨g1, g2⟩ := grow_mono hg h1 h2
      have hb : bE true lo hi at0 ho so he l = 0 := by
        simp [bE, htv, h0, g1]
        omega
      refine ⟨hb, ?_⟩
      simp only [bN, hb, hk, h0', sel]
      exact g2
    · simp [htv, h0, hg] at h
theorem lfades_c (sy : Bool) (lo hi at0 ho so he : Int) (l k : Int) (w : World) : Calls Try.prog 9 #[(.agg #[.bool sy, .int .i64 lo, .int .i64 hi, .int .i64 at0, .int .i64 ho, .int .i64 so, .int .i64 he]), .int .i64 l, .int .i64 k] w fun e w' => e = .returned (.bool true) ∧ Below w.heap.size w w' := by
  refine Ev.contract1 G8_ok 60 (Ev.ExtOk.nil w) (lfades_L sy lo hi at0 ho so he l k) (lfades_T sy lo hi at0 ho so he l k) ?_
  cases htv : tvP sy lo hi at0 ho so he with
  | false => simp [Ev.Tree.good]
  | true =>
    cases sy with
    | false => simp [Ev.Tree.good]
    | true =>
      by_cases h0 : ho = 0
      · simp [Ev.Tree.good, h0]
      by_cases h1 : l < at0
      · simp [Ev.Tree.good, h0, h1]
      by_cases h2 : k < l
      · simp [Ev.Tree.good, h0, h1, h2]
      have tk : ∀ x, tkB true lo hi at0 ho so he x = (bE true lo hi at0 ho so he x != 0) := fun x => by simp [tkB, htv]
      by_cases b2 : bE true lo hi at0 ho so he k = 0
      · obtain ⟨b1, hn⟩ := bnd_mono h0 b2 (show at0 ≤ l by omega) (show l ≤ k by omega)
        simp [Ev.Tree.good, h0, h1, h2, b1, b2, tk, sel, selB, show ¬ bN true lo hi at0 ho so he k < bN true lo hi at0 ho so he l by omega]
      · have e2 : (bE true lo hi at0 ho so he k != 0) = true := by simpa using b2
        by_cases b1 : bE true lo hi at0 ho so he l = 0
        · simp [Ev.Tree.good, h0, h1, h2, b1, b2, tk, sel, selB, e2]
        · have e1 : (bE true lo hi at0 ho so he l != 0) = true := by simpa using b1
          simp [Ev.Tree.good, h0, h1, h2, b1, b2, tk, sel, selB, e1, e2]
end Go.Proofs.Ytbeaipngljphkaa
