/- Contracts of package bound and its reference: Meet. -/
import Derived.Test.YtbeaipngljphkaaTsE
namespace Go.Proofs.Ytbeaipngljphkaa
open Go Go.ChangeShapes Go.WideShapes Go.ChangeAt Go.RowKit
set_option linter.all false
def imax (a b : Int) : Int := if b > a then b else a
def imin (a b : Int) : Int := if b < a then b else a
/-- the first span of two, at the later time -/
def fE (lo hi at0 at2 : Int) : Int := if at0 ≤ at2 then gE lo hi at0 at2 else 0
def fL (lo hi at0 at2 : Int) : Int := if at0 ≤ at2 then gL lo hi at0 at2 else lo
def fH (lo hi at0 at2 : Int) : Int := if at0 ≤ at2 then gH lo hi at0 at2 else hi
def mtE (lo hi at0 lo2 hi2 at2 : Int) : Int := if (spP lo hi at0 && spP lo2 hi2 at2) = true then (if (fE lo hi at0 at2 == 0 && fE lo2 hi2 at2 at0 == 0) = true then (if imax (fL lo hi at0 at2) (fL lo2 hi2 at2 at0) > imin (fH lo hi at0 at2) (fH lo2 hi2 at2 at0) then 16 else 0) else 3) else 1
def mtL (lo hi at0 lo2 hi2 at2 : Int) : Int := sel (mtE lo hi at0 lo2 hi2 at2 == 0) (imax (fL lo hi at0 at2) (fL lo2 hi2 at2 at0)) 0
def mtH (lo hi at0 lo2 hi2 at2 : Int) : Int := sel (mtE lo hi at0 lo2 hi2 at2 == 0) (imin (fH lo hi at0 at2) (fH lo2 hi2 at2 at0)) 0
def mtA (lo hi at0 lo2 hi2 at2 : Int) : Int := sel (mtE lo hi at0 lo2 hi2 at2 == 0) (imax at0 at2) 0
def meetV (lo hi at0 lo2 hi2 at2 : Int) : Value := .tuple #[.agg #[.int .i64 (mtL lo hi at0 lo2 hi2 at2), .int .i64 (mtH lo hi at0 lo2 hi2 at2), .int .i64 (mtA lo hi at0 lo2 hi2 at2)], .int .i64 (mtE lo hi at0 lo2 hi2 at2)]
def badV (e : Int) : Value := .tuple #[.agg #[.int .i64 0, .int .i64 0, .int .i64 0], .int .i64 e]
theorem mt_1 {lo hi at0 lo2 hi2 at2 : Int} (h : (spP lo hi at0 && spP lo2 hi2 at2) = false) : meetV lo hi at0 lo2 hi2 at2 = badV 1 := by
  have : mtE lo hi at0 lo2 hi2 at2 = 1 := by simp only [mtE, h]; rfl
  simp [meetV, badV, mtL, mtH, mtA, this, sel]
theorem mt_3 {lo hi at0 lo2 hi2 at2 : Int} (h1 : spP lo hi at0 = true) (h2 : spP lo2 hi2 at2 = true) (h : (fE lo hi at0 at2 == 0 && fE lo2 hi2 at2 at0 == 0) = false) : meetV lo hi at0 lo2 hi2 at2 = badV 3 := by
  have : mtE lo hi at0 lo2 hi2 at2 = 3 := by simp only [mtE, h1, h2, h]; rfl
  simp [meetV, badV, mtL, mtH, mtA, this, sel]
theorem mt_16 {lo hi at0 lo2 hi2 at2 : Int} (h1 : spP lo hi at0 = true) (h2 : spP lo2 hi2 at2 = true) (h3 : fE lo hi at0 at2 = 0) (h4 : fE lo2 hi2 at2 at0 = 0) (h : imax (fL lo hi at0 at2) (fL lo2 hi2 at2 at0) > imin (fH lo hi at0 at2) (fH lo2 hi2 at2 at0)) : meetV lo hi at0 lo2 hi2 at2 = badV 16 := by
  have : mtE lo hi at0 lo2 hi2 at2 = 16 := by simp only [mtE, h1, h2, h3, h4, if_pos h]; rfl
  simp [meetV, badV, mtL, mtH, mtA, this, sel]
theorem mt_0 {lo hi at0 lo2 hi2 at2 : Int} (h1 : spP lo hi at0 = true) (h2 : spP lo2 hi2 at2 = true) (h3 : fE lo hi at0 at2 = 0) (h4 : fE lo2 hi2 at2 at0 = 0) (h : ¬ imax (fL lo hi at0 at2) (fL lo2 hi2 at2 at0) > imin (fH lo hi at0 at2) (fH lo2 hi2 at2 at0)) : meetV lo hi at0 lo2 hi2 at2 = .tuple #[.agg #[.int .i64 (imax (fL lo hi at0 at2) (fL lo2 hi2 at2 at0)), .int .i64 (imin (fH lo hi at0 at2) (fH lo2 hi2 at2 at0)), .int .i64 (imax at0 at2)], .int .i64 0] := by
  have : mtE lo hi at0 lo2 hi2 at2 = 0 := by simp only [mtE, h1, h2, h3, h4, if_neg h]; rfl
  simp [meetV, mtL, mtH, mtA, this, sel]
theorem gE_ok {lo hi at0 now : Int} (h : gE lo hi at0 now = 0) : gL lo hi at0 now = lo - more (now - at0) ∧ gH lo hi at0 now = hi + more (now - at0) ∧ gA lo hi at0 now = now := by
  simp [gL, gH, gA, h, sel]
theorem gE_sp {lo hi at0 now : Int} (h1 : spP lo hi at0 = true) (h2 : at0 ≤ now) (h3 : now ≤ 20000000000000) : (gE lo hi at0 now == 0) = spP (lo - more (now - at0)) (hi + more (now - at0)) now := by
  have hc : (spP lo hi at0 && decide (at0 ≤ now) && decide (now ≤ 20000000000000)) = true := by
    rw [h1, decide_eq_true h2, decide_eq_true h3]; rfl
  simp only [gE, hc]
  cases spP (lo - more (now - at0)) (hi + more (now - at0)) now <;> rfl
theorem gr_more {lo hi at0 now : Int} (h1 : spP lo hi at0 = true) (h2 : at0 ≤ now) (h3 : now ≤ 20000000000000) : grL lo at0 now = lo - more (now - at0) ∧ grH hi at0 now = hi + more (now - at0) := by
  have hs := sp_iff.1 h1
  obtain ⟨m1, m2, m3⟩ := more_le (e := now - at0) (by omega) (by omega)
  have := mW (e := now - at0) (by omega) (by omega)
  simp only [grL, grH, mw, this]
  exact ⟨w64 (by omega) (by omega), w64 (by omega) (by omega)⟩
theorem rmeet_c (lo hi at0 lo2 hi2 at2 : Int) (w : World) : Calls Try.prog 35 #[(.agg #[.int .i64 lo, .int .i64 hi, .int .i64 at0]), (.agg #[.int .i64 lo2, .int .i64 hi2, .int .i64 at2])] w fun e w' => e = .returned (meetV lo hi at0 lo2 hi2 at2) ∧ Below w.heap.size w w' := by
  refine Ev.contract1 G3_ok 60 (Ev.ExtOk.nil w) (rmeet_L lo hi at0 lo2 hi2 at2) (rmeet_T lo hi at0 lo2 hi2 at2) ?_
  refine ⟨fun h => ?_, fun h => ⟨fun h' => ?_, fun h' => ?_⟩⟩
  · exact (mt_1 (by simpa using fun e => absurd e (by simpa using h))).symm
  · exact (mt_1 (by simpa using fun _ => (by simpa using h' : spP lo2 hi2 at2 = false))).symm
  · simp only [Bool.not_eq_false'] at h h'
    rcases Int.lt_trichotomy at0 at2 with hlt | heq | hgt
    · have e1 : fE lo hi at0 at2 = gE lo hi at0 at2 := if_pos (by omega)
      have e2 : fE lo2 hi2 at2 at0 = 0 := if_neg (by omega)
      have e3 : fL lo hi at0 at2 = gL lo hi at0 at2 := if_pos (by omega)
      have e4 : fL lo2 hi2 at2 at0 = lo2 := if_neg (by omega)
      have e5 : fH lo hi at0 at2 = gH lo hi at0 at2 := if_pos (by omega)
      have e6 : fH lo2 hi2 at2 at0 = hi2 := if_neg (by omega)
      have a1 : (at0 == at2) = false := by simp; omega
      simp only [if_pos (show at2 > at0 from hlt), a1, Ev.Tree.good]
      simp [hlt, show ¬ at2 < at2 by omega]
      refine ⟨fun k => (mt_3 h h' (by simp [e1, k])).symm, fun k => ⟨fun k2 => (mt_16 h h' (by rw [e1, k]) e2 (by rw [e3, e4, e5, e6]; exact k2)).symm, fun k2 => ?_⟩⟩
      rw [mt_0 h h' (by rw [e1, k]) e2 (by rw [e3, e4, e5, e6]; exact Int.not_lt.2 k2), e3, e4, e5, e6]
      simp [imax, imin, hlt]
    · subst heq
      have e1 : fE lo hi at0 at0 = gE lo hi at0 at0 := if_pos (by omega)
      have e2 : fE lo2 hi2 at0 at0 = gE lo2 hi2 at0 at0 := if_pos (by omega)
      have e3 : fL lo hi at0 at0 = gL lo hi at0 at0 := if_pos (by omega)
      have e4 : fL lo2 hi2 at0 at0 = gL lo2 hi2 at0 at0 := if_pos (by omega)
      have e5 : fH lo hi at0 at0 = gH lo hi at0 at0 := if_pos (by omega)
      have e6 : fH lo2 hi2 at0 at0 = gH lo2 hi2 at0 at0 := if_pos (by omega)
      simp only [if_neg (show ¬ at0 > at0 by omega), beq_self_eq_true, Ev.Tree.good]
      simp
      refine ⟨fun k => (mt_3 h h' (by simp [e1, k])).symm, fun k => ⟨fun k1 => (mt_3 h h' (by simp [e1, e2, k, k1])).symm, fun k1 => ⟨fun k2 => (mt_16 h h' (by rw [e1, k]) (by rw [e2, k1]) (by rw [e3, e4, e5, e6]; exact k2)).symm, fun k2 => ?_⟩⟩⟩
      rw [mt_0 h h' (by rw [e1, k]) (by rw [e2, k1]) (by rw [e3, e4, e5, e6]; exact Int.not_lt.2 k2), e3, e4, e5, e6]
      simp [imax, imin]
    · have e1 : fE lo2 hi2 at2 at0 = gE lo2 hi2 at2 at0 := if_pos (by omega)
      have e2 : fE lo hi at0 at2 = 0 := if_neg (by omega)
      have e3 : fL lo2 hi2 at2 at0 = gL lo2 hi2 at2 at0 := if_pos (by omega)
      have e4 : fL lo hi at0 at2 = lo := if_neg (by omega)
      have e5 : fH lo2 hi2 at2 at0 = gH lo2 hi2 at2 at0 := if_pos (by omega)
      have e6 : fH lo hi at0 at2 = hi := if_neg (by omega)
      have a1 : (at0 == at2) = false := by simp; omega
      simp only [if_neg (show ¬ at2 > at0 by omega), a1, Ev.Tree.good]
      simp [hgt, show ¬ at0 < at0 by omega]
      refine ⟨fun k => (mt_3 h h' (by simp [e1, k])).symm, fun k => ⟨fun k2 => (mt_16 h h' e2 (by rw [e1, k]) (by rw [e3, e4, e5, e6]; exact k2)).symm, fun k2 => ?_⟩⟩
      rw [mt_0 h h' e2 (by rw [e1, k]) (by rw [e3, e4, e5, e6]; exact Int.not_lt.2 k2), e3, e4, e5, e6]
      simp [imax, imin, show ¬ at2 > at0 by omega]
theorem meet_c (lo hi at0 lo2 hi2 at2 : Int) (w : World) : Calls Try.prog 33 #[(.agg #[.int .i64 lo, .int .i64 hi, .int .i64 at0]), (.agg #[.int .i64 lo2, .int .i64 hi2, .int .i64 at2])] w fun e w' => e = .returned (meetV lo hi at0 lo2 hi2 at2) ∧ Below w.heap.size w w' := by
  refine Ev.contract1 G3_ok 60 (Ev.ExtOk.nil w) (meet_L lo hi at0 lo2 hi2 at2) (meet_T lo hi at0 lo2 hi2 at2) ?_
  refine ⟨fun h => ?_, fun h => ⟨fun h' => ?_, fun h' => ?_⟩⟩
  · exact (mt_1 (by simpa using fun e => absurd e (by simpa using h))).symm
  · exact (mt_1 (by simpa using fun _ => (by simpa using h' : spP lo2 hi2 at2 = false))).symm
  · simp only [Bool.not_eq_false'] at h h'
    have hs := sp_iff.1 h
    have hs' := sp_iff.1 h'
    rcases Int.lt_trichotomy at0 at2 with hlt | heq | hgt
    · obtain ⟨g1, g2⟩ := gr_more (now := at2) h (by omega) (by omega)
      have g3 := gE_sp (now := at2) h (by omega) (by omega)
      have e1 : fE lo hi at0 at2 = gE lo hi at0 at2 := if_pos (by omega)
      have e2 : fE lo2 hi2 at2 at0 = 0 := if_neg (by omega)
      have e3 : fL lo hi at0 at2 = gL lo hi at0 at2 := if_pos (by omega)
      have e4 : fL lo2 hi2 at2 at0 = lo2 := if_neg (by omega)
      have e5 : fH lo hi at0 at2 = gH lo hi at0 at2 := if_pos (by omega)
      have e6 : fH lo2 hi2 at2 at0 = hi2 := if_neg (by omega)
      have a1 : (at0 == at2) = false := by simp; omega
      simp only [if_pos (show at2 > at0 from hlt), a1, Ev.Tree.good]
      simp [hlt, show ¬ at2 < at2 by omega, g1, g2, ← g3, h']
      refine ⟨fun k => (mt_3 h h' (by simp [e1, k])).symm, fun k => ?_⟩
      obtain ⟨q1, q2, _⟩ := gE_ok k
      rw [← q1, ← q2]
      refine ⟨fun k2 => (mt_16 h h' (by rw [e1, k]) e2 (by rw [e3, e4, e5, e6]; exact k2)).symm, fun k2 => ?_⟩
      rw [mt_0 h h' (by rw [e1, k]) e2 (by rw [e3, e4, e5, e6]; exact Int.not_lt.2 k2), e3, e4, e5, e6]
      simp [imax, imin, hlt]
    · subst heq
      obtain ⟨g1, g2⟩ := gr_more (now := at0) h (by omega) (by omega)
      have g3 := gE_sp (now := at0) h (by omega) (by omega)
      obtain ⟨g1', g2'⟩ := gr_more (now := at0) h' (by omega) (by omega)
      have g3' := gE_sp (now := at0) h' (by omega) (by omega)
      have e1 : fE lo hi at0 at0 = gE lo hi at0 at0 := if_pos (by omega)
      have e2 : fE lo2 hi2 at0 at0 = gE lo2 hi2 at0 at0 := if_pos (by omega)
      have e3 : fL lo hi at0 at0 = gL lo hi at0 at0 := if_pos (by omega)
      have e4 : fL lo2 hi2 at0 at0 = gL lo2 hi2 at0 at0 := if_pos (by omega)
      have e5 : fH lo hi at0 at0 = gH lo hi at0 at0 := if_pos (by omega)
      have e6 : fH lo2 hi2 at0 at0 = gH lo2 hi2 at0 at0 := if_pos (by omega)
      have Q := @gE_ok lo hi at0 at0
      have Q' := @gE_ok lo2 hi2 at0 at0
      generalize lo - more (at0 - at0) = A1 at *
      generalize hi + more (at0 - at0) = A2 at *
      generalize lo2 - more (at0 - at0) = A3 at *
      generalize hi2 + more (at0 - at0) = A4 at *
      simp only [if_neg (show ¬ at0 > at0 by omega), beq_self_eq_true, Ev.Tree.good, g1, g2, g1', g2', ← g3, ← g3']
      simp
      refine ⟨fun k => (mt_3 h h' (by simp [e1, k])).symm, fun k => ⟨fun k1 => (mt_3 h h' (by simp [e1, e2, k, k1])).symm, fun k1 => ?_⟩⟩
      obtain ⟨q1, q2, _⟩ := Q k
      obtain ⟨q3, q4, _⟩ := Q' k1
      rw [← q1, ← q2, ← q3, ← q4]
      refine ⟨fun k2 => (mt_16 h h' (by rw [e1, k]) (by rw [e2, k1]) (by rw [e3, e4, e5, e6]; exact k2)).symm, fun k2 => ?_⟩
      rw [mt_0 h h' (by rw [e1, k]) (by rw [e2, k1]) (by rw [e3, e4, e5, e6]; exact Int.not_lt.2 k2), e3, e4, e5, e6]
      simp [imax, imin]
    · obtain ⟨g1, g2⟩ := gr_more (now := at0) h' (by omega) (by omega)
      have g3 := gE_sp (now := at0) h' (by omega) (by omega)
      have e1 : fE lo2 hi2 at2 at0 = gE lo2 hi2 at2 at0 := if_pos (by omega)
      have e2 : fE lo hi at0 at2 = 0 := if_neg (by omega)
      have e3 : fL lo2 hi2 at2 at0 = gL lo2 hi2 at2 at0 := if_pos (by omega)
      have e4 : fL lo hi at0 at2 = lo := if_neg (by omega)
      have e5 : fH lo2 hi2 at2 at0 = gH lo2 hi2 at2 at0 := if_pos (by omega)
      have e6 : fH lo hi at0 at2 = hi := if_neg (by omega)
      have a1 : (at0 == at2) = false := by simp; omega
      simp only [if_neg (show ¬ at2 > at0 by omega), a1, Ev.Tree.good]
      simp [hgt, show ¬ at0 < at0 by omega, g1, g2, ← g3, h]
      refine ⟨fun k => (mt_3 h h' (by simp [e1, k])).symm, fun k => ?_⟩
      obtain ⟨q1, q2, _⟩ := gE_ok k
      rw [← q1, ← q2]
      refine ⟨fun k2 => (mt_16 h h' e2 (by rw [e1, k]) (by rw [e3, e4, e5, e6]; exact k2)).symm, fun k2 => ?_⟩
      rw [mt_0 h h' e2 (by rw [e1, k]) (by rw [e3, e4, e5, e6]; exact Int.not_lt.2 k2), e3, e4, e5, e6]
      simp [imax, imin, show ¬ at2 > at0 by omega]
def sMeet : List Value → Option Value
  | [x0, x1] => match Ev.aggLf x0, Ev.aggLf x1 with
    | some [.i .i64 lo, .i .i64 hi, .i .i64 at0], some [.i .i64 lo2, .i .i64 hi2, .i .i64 at2] => some (meetV lo hi at0 lo2 hi2 at2)
    | _, _ => none
  | _ => none
theorem sMeet_ok : ∀ a v, sMeet a = some v → ∀ w, Calls Try.prog 33 a.toArray w fun e w' => e = .returned v ∧ Below w.heap.size w w' := by
  intro a v h w
  unfold sMeet at h
  split at h
  · rename_i x0 x1
    split at h
    · rename_i lo hi at0 lo2 hi2 at2 h0 h1
      have e0 := Ev.aggLf_eq h0
      have e1 := Ev.aggLf_eq h1
      subst e0; subst e1
      cases h
      exact meet_c lo hi at0 lo2 hi2 at2 w
    · cases h
  · cases h
def sRMeet : List Value → Option Value
  | [x0, x1] => match Ev.aggLf x0, Ev.aggLf x1 with
    | some [.i .i64 lo, .i .i64 hi, .i .i64 at0], some [.i .i64 lo2, .i .i64 hi2, .i .i64 at2] => some (meetV lo hi at0 lo2 hi2 at2)
    | _, _ => none
  | _ => none
theorem sRMeet_ok : ∀ a v, sRMeet a = some v → ∀ w, Calls Try.prog 35 a.toArray w fun e w' => e = .returned v ∧ Below w.heap.size w w' := by
  intro a v h w
  unfold sRMeet at h
  split at h
  · rename_i x0 x1
    split at h
    · rename_i lo hi at0 lo2 hi2 at2 h0 h1
      have e0 := Ev.aggLf_eq h0
      have e1 := Ev.aggLf_eq h1
      subst e0; subst e1
      cases h
      exact rmeet_c lo hi at0 lo2 hi2 at2 w
    · cases h
  · cases h
noncomputable def G4 : Ev.Sum := Ev.addS 33 (Ev.pureS sMeet) (Ev.addS 35 (Ev.pureS sRMeet) G3)
theorem G4_ok : ∀ N w0, Ev.SumOk Try.prog N w0 G4 := Ev.addS_ok (Ev.pureS_ok sMeet_ok) (Ev.addS_ok (Ev.pureS_ok sRMeet_ok) G3_ok)
end Go.Proofs.Ytbeaipngljphkaa
