/- Contracts of package bound and its reference. -/
import Derived.Test.YtgjonanjfcngaaaGdB
namespace Go.Proofs.Ytgjonanjfcngaaa
open Go Go.ChangeShapes Go.WideShapes Go.ChangeAt Go.RowKit
set_option linter.all false
theorem w64 {x : Int} (h1 : -9223372036854775808 ≤ x) (h2 : x ≤ 9223372036854775807) : IntKind.wrap .i64 x = x := by
  simp only [IntKind.wrap, IntKind.bits, IntKind.signed]
  simp
  omega
def sel (b : Bool) (x y : Int) : Int := match b with
  | true => x
  | false => y
def more (e : Int) : Int := (e * 51 + 999999) / 1000000 + 1
def gE (lo hi at0 now : Int) : Int := if (spP lo hi at0 && decide (at0 ≤ now) && decide (now ≤ 20000000000000)) = true then (if spP (lo - more (now - at0)) (hi + more (now - at0)) now = true then 0 else 3) else 1
def gL (lo hi at0 now : Int) : Int := sel (gE lo hi at0 now == 0) (lo - more (now - at0)) 0
def gH (lo hi at0 now : Int) : Int := sel (gE lo hi at0 now == 0) (hi + more (now - at0)) 0
def gA (lo hi at0 now : Int) : Int := sel (gE lo hi at0 now == 0) now 0
def growV (lo hi at0 now : Int) : Value := .tuple #[.agg #[.int .i64 (gL lo hi at0 now), .int .i64 (gH lo hi at0 now), .int .i64 (gA lo hi at0 now)], .int .i64 (gE lo hi at0 now)]
def wdP (lo hi at0 : Int) : Int := sel (spP lo hi at0) (hi - lo) (-1)
def hE (hb ha hl : Int) : Int := sel (hintP hb ha hl) 0 1
def hL (hb ha hl : Int) : Int := sel (hintP hb ha hl) (ha * 10000 - hl - hb) 0
def hH (hb ha hl : Int) : Int := sel (hintP hb ha hl) (ha * 10000 - hl + hb) 0
def hA (hb ha hl : Int) : Int := sel (hintP hb ha hl) hl 0
theorem bvalid_c (lo hi at0 : Int) (w : World) : Calls Try.prog 37 #[(.agg #[.int .i64 lo, .int .i64 hi, .int .i64 at0])] w fun e w' => e = .returned (.bool (spP lo hi at0)) ∧ Below w.heap.size w w' :=
  Ev.contract1 G1_ok 60 (Ev.ExtOk.nil w) (bvalid_L lo hi at0) (bvalid_T lo hi at0) rfl
theorem width_c (lo hi at0 : Int) (w : World) : Calls Try.prog 45 #[(.agg #[.int .i64 lo, .int .i64 hi, .int .i64 at0])] w fun e w' => e = .returned (.int .i64 (wdP lo hi at0)) ∧ Below w.heap.size w w' := by
  refine Ev.contract1 G1_ok 60 (Ev.ExtOk.nil w) (width_L lo hi at0) (width_T lo hi at0) ?_
  refine ⟨fun h => ?_, fun h => ?_⟩
  · simp only [Bool.not_eq_true'] at h
    simp [Ev.Tree.good, wdP, h, sel]
  · simp only [Bool.not_eq_false'] at h
    have := sp_iff.1 h
    rw [w64 (by omega) (by omega)]
    simp [Ev.Tree.good, wdP, h, sel]
theorem more_le {e : Int} (h1 : 0 ≤ e) (h2 : e ≤ 20002000000000) : 1 ≤ more e ∧ more e ≤ 1020103000 ∧ more e * 1000000 ≥ e * 51 ∧ more e * 1000000 < e * 51 + 2000000 := by
  unfold more
  omega
theorem mW {e : Int} (h1 : 0 ≤ e) (h2 : e ≤ 20002000000000) : IntKind.wrap .i64 (IntKind.wrap .i64 (Int.tdiv (IntKind.wrap .i64 (IntKind.wrap .i64 (IntKind.wrap .i64 (IntKind.wrap .i64 e * 51) + 1000000) - 1)) 1000000) + 1) = more e := by
  rw [w64 (x := e) (by omega) (by omega), w64 (x := e * 51) (by omega) (by omega), w64 (x := e * 51 + 1000000) (by omega) (by omega), w64 (x := e * 51 + 1000000 - 1) (by omega) (by omega), Int.tdiv_eq_ediv_of_nonneg (by omega), w64 (x := (e * 51 + 1000000 - 1) / 1000000) (by omega) (by omega), w64 (by omega) (by omega)]
  unfold more
  omega
theorem mR {e : Int} (h1 : 0 ≤ e) (h2 : e ≤ 20002000000000) : IntKind.wrap .i64 (IntKind.wrap .i64 (Int.tdiv (IntKind.wrap .i64 (IntKind.wrap .i64 (IntKind.wrap .i64 e * 51) + 999999)) 1000000) + 1) = more e := by
  rw [w64 (x := e) (by omega) (by omega), w64 (x := e * 51) (by omega) (by omega), w64 (x := e * 51 + 999999) (by omega) (by omega), Int.tdiv_eq_ediv_of_nonneg (by omega), w64 (x := (e * 51 + 999999) / 1000000) (by omega) (by omega), w64 (by omega) (by omega)]
  rfl
theorem gV_bad {lo hi at0 now : Int} (h : (spP lo hi at0 && decide (at0 ≤ now) && decide (now ≤ 20000000000000)) = false) : growV lo hi at0 now = .tuple #[.agg #[.int .i64 0, .int .i64 0, .int .i64 0], .int .i64 1] := by
  have : gE lo hi at0 now = 1 := by simp only [gE, h]; rfl
  simp [growV, gL, gH, gA, this, sel]
theorem gV_out {lo hi at0 now : Int} (h : (spP lo hi at0 && decide (at0 ≤ now) && decide (now ≤ 20000000000000)) = true) (h2 : spP (lo - more (now - at0)) (hi + more (now - at0)) now = false) : growV lo hi at0 now = .tuple #[.agg #[.int .i64 0, .int .i64 0, .int .i64 0], .int .i64 3] := by
  have : gE lo hi at0 now = 3 := by simp only [gE, h, h2]; rfl
  simp [growV, gL, gH, gA, this, sel]
theorem gV_ok {lo hi at0 now : Int} (h : (spP lo hi at0 && decide (at0 ≤ now) && decide (now ≤ 20000000000000)) = true) (h2 : spP (lo - more (now - at0)) (hi + more (now - at0)) now = true) : growV lo hi at0 now = .tuple #[.agg #[.int .i64 (lo - more (now - at0)), .int .i64 (hi + more (now - at0)), .int .i64 now], .int .i64 0] := by
  have : gE lo hi at0 now = 0 := by simp only [gE, h, h2]; rfl
  simp [growV, gL, gH, gA, this, sel]
theorem grow_c (lo hi at0 now : Int) (w : World) : Calls Try.prog 44 #[(.agg #[.int .i64 lo, .int .i64 hi, .int .i64 at0]), .int .i64 now] w fun e w' => e = .returned (growV lo hi at0 now) ∧ Below w.heap.size w w' := by
  refine Ev.contract1 G1_ok 60 (Ev.ExtOk.nil w) (grow_L lo hi at0 now) (grow_T lo hi at0 now) ?_
  refine ⟨fun h => ?_, fun h => ⟨fun h1 => ?_, fun h1 => ⟨fun h2 => ?_, fun h2 => ?_⟩⟩⟩
  · simp only [Bool.not_eq_true'] at h
    refine Eq.symm ?_; exact (gV_bad (by simp [h]))
  · simp only [decide_eq_true_eq] at h1
    refine Eq.symm ?_; exact (gV_bad (by simp [show ¬ at0 ≤ now by omega]))
  · simp only [decide_eq_true_eq] at h2
    refine Eq.symm ?_; exact (gV_bad (by simp [show ¬ now ≤ 20000000000000 by omega]))
  · simp only [Bool.not_eq_false', decide_eq_false_iff_not] at h h1 h2
    have hs := sp_iff.1 h
    obtain ⟨m1, m2, m3⟩ := more_le (e := now - at0) (by omega) (by omega)
    rw [mW (by omega) (by omega), w64 (x := lo - _) (by omega) (by omega), w64 (x := hi + _) (by omega) (by omega)]
    have hc : (spP lo hi at0 && decide (at0 ≤ now) && decide (now ≤ 20000000000000)) = true := by
      rw [h, decide_eq_true (by omega), decide_eq_true (by omega)]; rfl
    refine ⟨fun h3 => ?_, fun h3 => ?_⟩
    · simp only [Bool.not_eq_true'] at h3
      refine Eq.symm ?_; exact (gV_out hc h3)
    · simp only [Bool.not_eq_false'] at h3
      refine Eq.symm ?_; exact (gV_ok hc h3)
def sBValid : List Value → Option Value
  | [x0] => match Ev.aggLf x0 with
    | some [.i .i64 lo, .i .i64 hi, .i .i64 at0] => some (.bool (spP lo hi at0))
    | _ => none
  | _ => none
theorem sBValid_ok : ∀ a v, sBValid a = some v → ∀ w, Calls Try.prog 37 a.toArray w fun e w' => e = .returned v ∧ Below w.heap.size w w' := by
  intro a v h w
  unfold sBValid at h
  split at h
  · rename_i x0
    split at h
    · rename_i lo hi at0 h0
      have e0 := Ev.aggLf_eq h0
      subst e0
      cases h
      exact bvalid_c lo hi at0 w
    · cases h
  · cases h
def sWidth : List Value → Option Value
  | [x0] => match Ev.aggLf x0 with
    | some [.i .i64 lo, .i .i64 hi, .i .i64 at0] => some (.int .i64 (wdP lo hi at0))
    | _ => none
  | _ => none
theorem sWidth_ok : ∀ a v, sWidth a = some v → ∀ w, Calls Try.prog 45 a.toArray w fun e w' => e = .returned v ∧ Below w.heap.size w w' := by
  intro a v h w
  unfold sWidth at h
  split at h
  · rename_i x0
    split at h
    · rename_i lo hi at0 h0
      have e0 := Ev.aggLf_eq h0
      subst e0
      cases h
      exact width_c lo hi at0 w
    · cases h
  · cases h
def sGrow : List Value → Option Value
  | [x0, x1] => match Ev.aggLf x0, Ev.toLf x1 with
    | some [.i .i64 lo, .i .i64 hi, .i .i64 at0], some (.i .i64 now) => some (growV lo hi at0 now)
    | _, _ => none
  | _ => none
theorem sGrow_ok : ∀ a v, sGrow a = some v → ∀ w, Calls Try.prog 44 a.toArray w fun e w' => e = .returned v ∧ Below w.heap.size w w' := by
  intro a v h w
  unfold sGrow at h
  split at h
  · rename_i x0 x1
    split at h
    · rename_i lo hi at0 now h0 h1
      have e0 := Ev.aggLf_eq h0
      have e1 := Ev.toLf_eq h1
      subst e0; subst e1
      cases h
      exact grow_c lo hi at0 now w
    · cases h
  · cases h
noncomputable def G2 : Ev.Sum := Ev.addS 37 (Ev.pureS sBValid) (Ev.addS 45 (Ev.pureS sWidth) (Ev.addS 44 (Ev.pureS sGrow) (G1)))
theorem G2_ok : ∀ N w0, Ev.SumOk Try.prog N w0 G2 := Ev.addS_ok (Ev.pureS_ok sBValid_ok) (Ev.addS_ok (Ev.pureS_ok sWidth_ok) (Ev.addS_ok (Ev.pureS_ok sGrow_ok) (G1_ok)))
theorem gE_ok {lo hi at0 now : Int} (h : gE lo hi at0 now = 0) : gL lo hi at0 now = lo - more (now - at0) ∧ gH lo hi at0 now = hi + more (now - at0) ∧ gA lo hi at0 now = now := by
  simp [gL, gH, gA, h, sel]
end Go.Proofs.Ytgjonanjfcngaaa
