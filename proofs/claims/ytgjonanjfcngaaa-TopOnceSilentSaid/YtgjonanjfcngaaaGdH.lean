/- Contracts of package clock in closed form, of the reference clock, and what is said of them. -/
import Derived.Test.YtgjonanjfcngaaaGdG
import Derived.Test.YtgjonanjfcngaaaClkB
namespace Go.Proofs.Ytgjonanjfcngaaa
open Go Go.ChangeShapes Go.WideShapes Go.ChangeAt Go.RowKit
set_option linter.all false
/-- the first true time at which a clock shows at least a time -/
def fst (o d s : Int) : Int := min (max 0 (-(1000000 * (o - s) / (1000000 + d)))) 10000000000001
theorem fst_b (o d s : Int) : 0 ≤ fst o d s ∧ fst o d s ≤ 10000000000001 := by unfold fst; omega
theorem ceil_le {o d s t : Int} (h : okc o d = true) : -(1000000 * (o - s) / (1000000 + d)) ≤ t ↔ s ≤ sh o d t := by
  have hk := okc_t h
  have hm : 0 < 1000000 + d := by omega
  have e1 : -(1000000 * (o - s) / (1000000 + d)) ≤ t ↔ -t ≤ 1000000 * (o - s) / (1000000 + d) := by omega
  rw [e1, Int.le_ediv_iff_mul_le hm]
  unfold sh
  have e2 : -t * (1000000 + d) = -(1000000 * t) - d * t := by
    rw [Int.neg_mul, Int.mul_add, Int.mul_comm t 1000000, Int.mul_comm t d]; omega
  rw [e2]
  generalize d * t = p
  omega
theorem fst_at {o d s : Int} (h : okc o d = true) : FirstAt (fun t => decide (s ≤ sh o d t)) 0 (fst o d s) := by
  have hc := fun t => ceil_le (t := t) (s := s) h
  unfold fst
  generalize -(1000000 * (o - s) / (1000000 + d)) = k at hc
  refine ⟨by omega, by omega, fun t h0 h1 => ?_, fun t h0 h1 => ?_⟩
  · have : ¬ s ≤ sh o d t := fun hs => by have := (hc t).2 hs; omega
    simpa using this
  · have : s ≤ sh o d t := (hc t).1 (by omega)
    simpa using this
theorem fst_mono {o d s s' : Int} (h : okc o d = true) (hs : s ≤ s') : fst o d s ≤ fst o d s' := by
  obtain ⟨a1, a2, a3, a4⟩ := fst_at (s := s) h
  obtain ⟨b1, b2, b3, b4⟩ := fst_at (s := s') h
  rcases Int.lt_or_le (fst o d s') (fst o d s) with hl | hl
  · have c1 := a3 _ b1 hl
    have c2 := b4 _ (Int.le_refl _) (by omega)
    simp at c1 c2
    omega
  · exact hl
theorem fst_pass {o d s : Int} (h : okc o d = true) : FirstAt (fun t => decide (s < sh o d t)) (fst o d s) (fst o d (s + 1)) := by
  obtain ⟨b1, b2, b3, b4⟩ := fst_at (s := s + 1) h
  refine ⟨fst_mono h (by omega), b2, fun t h0 h1 => ?_, fun t h0 h1 => ?_⟩
  · have := b3 t (by have := (fst_b o d s).1; omega) h1; simp at this ⊢; omega
  · have := b4 t h0 h1; simp at this ⊢; omega
def wE (o d s : Int) : Int := sel (okc o d) (sel (fst o d s == fst o d (s + 1)) 4 0) 1
def wL (o d s : Int) : Int := sel (wE o d s == 0) (fst o d s) 0
def wH (o d s : Int) : Int := sel (wE o d s == 0) (fst o d (s + 1) - 1) 0
def whenV' (o d s : Int) : Value := .tuple #[.agg #[.int .i64 (wL o d s), .int .i64 (wH o d s)], .int .i64 (wE o d s)]
theorem when_is (o d s : Int) : WhenIs o d s (wL o d s) (wH o d s) (wE o d s) := by
  cases h : okc o d with
  | false =>
    have : wE o d s = 1 := by simp [wE, h, sel]
    exact .inl ⟨h, by simp [wL, this, sel], by simp [wH, this, sel], this⟩
  | true =>
    obtain ⟨k1, k2⟩ := when_of h (fst_at h) (fst_pass (s := s) h)
    by_cases e : fst o d s = fst o d (s + 1)
    · have : wE o d s = 4 := by simp [wE, h, sel, e]
      have := k1 e
      simpa [wL, wH, sel, *] using this
    · have e' : (fst o d s == fst o d (s + 1)) = false := by simpa using e
      have : wE o d s = 0 := by simp only [wE, h, sel, e']
      have := k2 e
      simpa [wL, wH, sel, *] using this
theorem when_c (o d s : Int) (w : World) : Calls Try.prog 35 #[.agg #[.int .i64 o, .int .i64 d], .int .i64 s] w fun e w' => e = .returned (whenV' o d s) ∧ Below w.heap.size w w' := whenV (when_is o d s) w
theorem show_c (o d t : Int) (w : World) : Calls Try.prog 40 #[.agg #[.int .i64 o, .int .i64 d], .int .i64 t] w fun e w' => e = .returned (.tuple #[.int .i64 (shV o d t), .int .i64 (shE o d t)]) ∧ Below w.heap.size w w' := showV rfl rfl w
theorem cvalid_c (o d : Int) (w : World) : Calls Try.prog 31 #[.agg #[.int .i64 o, .int .i64 d]] w fun e w' => e = .returned (.bool (okc o d)) ∧ Below w.heap.size w w' := cvalid rfl w
def rdnP (n : Int) : Int := sel (decide (n ≥ 0)) (IntKind.wrap .i64 (Int.tdiv n 1000000)) (IntKind.wrap .i64 (0 - IntKind.wrap .i64 (Int.tdiv (IntKind.wrap .i64 (IntKind.wrap .i64 (0 - n) + 999999)) 1000000)))
def sWhen : List Value → Option Value
  | [x0, x1] => match Ev.aggLf x0, Ev.toLf x1 with
    | some [.i .i64 o, .i .i64 d], some (.i .i64 s) => some (whenV' o d s)
    | _, _ => none
  | _ => none
theorem sWhen_ok : ∀ a v, sWhen a = some v → ∀ w, Calls Try.prog 35 a.toArray w fun e w' => e = .returned v ∧ Below w.heap.size w w' := by
  intro a v h w
  unfold sWhen at h
  split at h
  · rename_i x0 x1
    split at h
    · rename_i o d s h0 h1
      have e0 := Ev.aggLf_eq h0
      have e1 := Ev.toLf_eq h1
      subst e0; subst e1
      cases h
      exact when_c o d s w
    · cases h
  · cases h
def sCShow : List Value → Option Value
  | [x0, x1] => match Ev.aggLf x0, Ev.toLf x1 with
    | some [.i .i64 o, .i .i64 d], some (.i .i64 t) => some (.tuple #[.int .i64 (shV o d t), .int .i64 (shE o d t)])
    | _, _ => none
  | _ => none
theorem sCShow_ok : ∀ a v, sCShow a = some v → ∀ w, Calls Try.prog 40 a.toArray w fun e w' => e = .returned v ∧ Below w.heap.size w w' := by
  intro a v h w
  unfold sCShow at h
  split at h
  · rename_i x0 x1
    split at h
    · rename_i o d t h0 h1
      have e0 := Ev.aggLf_eq h0
      have e1 := Ev.toLf_eq h1
      subst e0; subst e1
      cases h
      exact show_c o d t w
    · cases h
  · cases h
def sCValid : List Value → Option Value
  | [x0] => match Ev.aggLf x0 with
    | some [.i .i64 o, .i .i64 d] => some (.bool (okc o d))
    | _ => none
  | _ => none
theorem sCValid_ok : ∀ a v, sCValid a = some v → ∀ w, Calls Try.prog 31 a.toArray w fun e w' => e = .returned v ∧ Below w.heap.size w w' := by
  intro a v h w
  unfold sCValid at h
  split at h
  · rename_i x0
    split at h
    · rename_i o d h0
      have e0 := Ev.aggLf_eq h0
      subst e0
      cases h
      exact cvalid_c o d w
    · cases h
  · cases h
noncomputable def G7 : Ev.Sum := Ev.addS 35 (Ev.pureS sWhen) (Ev.addS 40 (Ev.pureS sCShow) (Ev.addS 31 (Ev.pureS sCValid) ((G6))))
theorem G7_ok : ∀ N w0, Ev.SumOk Try.prog N w0 G7 := Ev.addS_ok (Ev.pureS_ok sWhen_ok) (Ev.addS_ok (Ev.pureS_ok sCShow_ok) (Ev.addS_ok (Ev.pureS_ok sCValid_ok) ((G6_ok))))
end Go.Proofs.Ytgjonanjfcngaaa
