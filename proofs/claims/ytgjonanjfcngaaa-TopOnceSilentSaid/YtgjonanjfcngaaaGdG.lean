/- Contracts of package timesync and its reference: Bound. -/
import Derived.Test.YtgjonanjfcngaaaGdF
namespace Go.Proofs.Ytgjonanjfcngaaa
open Go Go.ChangeShapes Go.WideShapes Go.ChangeAt Go.RowKit
set_option linter.all false
def half (lo hi at0 l : Int) : Int := (gH lo hi at0 l - gL lo hi at0 l + 1) / 2
def bE (sy : Bool) (lo hi at0 ho so he l : Int) : Int := if tvP sy lo hi at0 ho so he = true then (if sy = true then (if ho = 0 then 0 else if gE lo hi at0 l = 0 then (if half lo hi at0 l > 2000 then 16 else 0) else gE lo hi at0 l) else 16) else 1
def bN (sy : Bool) (lo hi at0 ho so he l : Int) : Int := sel (bE sy lo hi at0 ho so he l == 0 && ho != 0) (half lo hi at0 l) 0
def boundV (sy : Bool) (lo hi at0 ho so he l : Int) : Value := .tuple #[.int .i64 (bN sy lo hi at0 ho so he l), .int .i64 (bE sy lo hi at0 ho so he l)]
theorem gE_spec {lo hi at0 now : Int} (h : gE lo hi at0 now = 0) : spP lo hi at0 = true ∧ at0 ≤ now ∧ now ≤ 20000000000000 ∧ spP (gL lo hi at0 now) (gH lo hi at0 now) now = true := by
  obtain ⟨q1, q2, _⟩ := gE_ok h
  rw [q1, q2]
  unfold gE at h
  split at h
  · rename_i h1
    simp only [Bool.and_eq_true, decide_eq_true_eq] at h1
    split at h
    · rename_i h2
      exact ⟨h1.1.1, h1.1.2, h1.2, h2⟩
    · cases h
  · cases h
theorem half_w {lo hi at0 l : Int} (h : gE lo hi at0 l = 0) : IntKind.wrap .i64 (Int.tdiv (IntKind.wrap .i64 (wdP (gL lo hi at0 l) (gH lo hi at0 l) (gA lo hi at0 l) + 1)) 2) = half lo hi at0 l ∧ IntKind.wrap .i64 (Int.tdiv (IntKind.wrap .i64 (IntKind.wrap .i64 (gH lo hi at0 l - gL lo hi at0 l) + 1)) 2) = half lo hi at0 l := by
  obtain ⟨_, _, _, h4⟩ := gE_spec h
  have ha := (gE_ok h).2.2
  have hs := sp_iff.1 h4
  have e : wdP (gL lo hi at0 l) (gH lo hi at0 l) (gA lo hi at0 l) = gH lo hi at0 l - gL lo hi at0 l := by
    rw [ha]; simp only [wdP, h4]; rfl
  rw [e, w64 (x := gH lo hi at0 l - gL lo hi at0 l) (by omega) (by omega), w64 (x := gH lo hi at0 l - gL lo hi at0 l + 1) (by omega) (by omega), Int.tdiv_eq_ediv_of_nonneg (by omega)]
  exact ⟨w64 (by omega) (by omega), w64 (by omega) (by omega)⟩
theorem tbnd_c (sy : Bool) (lo hi at0 ho so he : Int) (l : Int) (w : World) : Calls Try.prog 39 #[(.agg #[.bool sy, .int .i64 lo, .int .i64 hi, .int .i64 at0, .int .i64 ho, .int .i64 so, .int .i64 he]), .int .i64 l] w fun e w' => e = .returned (boundV sy lo hi at0 ho so he l) ∧ Below w.heap.size w w' := by
  refine Ev.contract1 G5_ok 60 (Ev.ExtOk.nil w) (tbnd_L sy lo hi at0 ho so he l) (tbnd_T sy lo hi at0 ho so he l) ?_
  simp only [boundV, bN, bE]
  cases htv : tvP sy lo hi at0 ho so he with
  | false => simp [Ev.Tree.good, sel]
  | true =>
    have ht := tv_iff.1 htv
    cases sy with
    | false =>
      have : ho = 60 := by simpa using ht.2
      simp [Ev.Tree.good, sel, this]
    | true =>
      by_cases h0 : ho = 0
      · simp [Ev.Tree.good, sel, h0]
      · have h0' : (ho != 0) = true := by simpa using h0
        by_cases hg : gE lo hi at0 l = 0
        · rw [(half_w hg).1]
          by_cases hh : half lo hi at0 l > 2000
          · simp [Ev.Tree.good, sel, h0, hg, hh, h0']
          · have hh' : ¬ 2000 < half lo hi at0 l := hh
            simp [Ev.Tree.good, sel, h0, hg, hh', h0']
        · simp [Ev.Tree.good, sel, h0, hg, h0', show (gE lo hi at0 l == 0) = false by simpa using hg]
def sTBnd : List Value → Option Value
  | [x0, x1] => match Ev.aggLf x0, Ev.toLf x1 with
    | some [.b sy, .i .i64 lo, .i .i64 hi, .i .i64 at0, .i .i64 ho, .i .i64 so, .i .i64 he], some (.i .i64 l) => some (boundV sy lo hi at0 ho so he l)
    | _, _ => none
  | _ => none
theorem sTBnd_ok : ∀ a v, sTBnd a = some v → ∀ w, Calls Try.prog 39 a.toArray w fun e w' => e = .returned v ∧ Below w.heap.size w w' := by
  intro a v h w
  unfold sTBnd at h
  split at h
  · rename_i x0 x1
    split at h
    · rename_i sy lo hi at0 ho so he l h0 h1
      have e0 := Ev.aggLf_eq h0
      have e1 := Ev.toLf_eq h1
      subst e0; subst e1
      cases h
      exact tbnd_c sy lo hi at0 ho so he l w
    · cases h
  · cases h
noncomputable def G6 : Ev.Sum := Ev.addS 39 (Ev.pureS sTBnd) (G5)
theorem G6_ok : ∀ N w0, Ev.SumOk Try.prog N w0 G6 := Ev.addS_ok (Ev.pureS_ok sTBnd_ok) (G5_ok)
end Go.Proofs.Ytgjonanjfcngaaa
