/- Contracts of package timesync and its reference: Tick and the rest. -/
import Derived.Test.YtbeaipngljphkaaTsK
namespace Go.Proofs.Ytbeaipngljphkaa
open Go Go.ChangeShapes Go.WideShapes Go.ChangeAt Go.RowKit
set_option linter.all false
def tkB (sy : Bool) (lo hi at0 ho so he l : Int) : Bool := tvP sy lo hi at0 ho so he && sy && bE sy lo hi at0 ho so he l != 0
def tickV (sy : Bool) (lo hi at0 ho so he l : Int) : Value := .agg #[.bool (selB (tkB sy lo hi at0 ho so he l) false sy), .int .i64 (sel (tkB sy lo hi at0 ho so he l) 0 lo), .int .i64 (sel (tkB sy lo hi at0 ho so he l) 0 hi), .int .i64 (sel (tkB sy lo hi at0 ho so he l) 0 at0), .int .i64 (sel (tkB sy lo hi at0 ho so he l) 60 ho), .int .i64 (sel (tkB sy lo hi at0 ho so he l) (-1) so), .int .i64 (sel (tkB sy lo hi at0 ho so he l) 0 he)]
theorem ttick_c (sy : Bool) (lo hi at0 ho so he : Int) (l : Int) (w : World) : Calls Try.prog 16 #[(.agg #[.bool sy, .int .i64 lo, .int .i64 hi, .int .i64 at0, .int .i64 ho, .int .i64 so, .int .i64 he]), .int .i64 l] w fun e w' => e = .returned (tickV sy lo hi at0 ho so he l) ∧ Below w.heap.size w w' := by
  refine Ev.contract1 G6_ok 60 (Ev.ExtOk.nil w) (ttick_L sy lo hi at0 ho so he l) (ttick_T sy lo hi at0 ho so he l) ?_
  simp only [tickV, tkB]
  cases htv : tvP sy lo hi at0 ho so he with
  | false => simp [Ev.Tree.good, sel, selB]
  | true =>
    have ht := tv_iff.1 htv
    cases sy with
    | false => simp [Ev.Tree.good, sel, selB]
    | true =>
      by_cases h0 : ho = 0
      · have hb : bE true lo hi at0 ho so he l = 0 := by simp only [bE, htv]; simp [h0]
        subst h0
        simp [Ev.Tree.good, sel, selB, hb]
      · have hs : 1 ≤ ho ∧ ho ≤ 60 ∧ spP lo hi at0 = true := by simpa [h0] using ht.2
        by_cases hb : bE true lo hi at0 ho so he l = 0
        · simp [Ev.Tree.good, sel, selB, hb, hs.2.1, hs.2.2, show 0 < ho by omega]
        · simp [Ev.Tree.good, sel, selB, hb, hs.2.1, hs.2.2, show 0 < ho by omega, show (bE true lo hi at0 ho so he l != 0) = true by simpa using hb]
theorem rttick_c (sy : Bool) (lo hi at0 ho so he : Int) (l : Int) (w : World) : Calls Try.prog 17 #[(.agg #[.bool sy, .int .i64 lo, .int .i64 hi, .int .i64 at0, .int .i64 ho, .int .i64 so, .int .i64 he]), .int .i64 l] w fun e w' => e = .returned (tickV sy lo hi at0 ho so he l) ∧ Below w.heap.size w w' := by
  refine Ev.contract1 G6_ok 60 (Ev.ExtOk.nil w) (rttick_L sy lo hi at0 ho so he l) (rttick_T sy lo hi at0 ho so he l) ?_
  simp only [tickV, tkB]
  cases htv : tvP sy lo hi at0 ho so he with
  | false => simp [Ev.Tree.good, sel, selB]
  | true =>
    cases sy with
    | false => simp [Ev.Tree.good, sel, selB]
    | true =>
      by_cases hb : bE true lo hi at0 ho so he l = 0
      · simp [Ev.Tree.good, sel, selB, hb]
      · simp [Ev.Tree.good, sel, selB, hb, show (bE true lo hi at0 ho so he l != 0) = true by simpa using hb]
theorem rttakes_c (sy : Bool) (lo hi at0 ho so he : Int) (hf hh hb ha hl : Int) (w : World) : Calls Try.prog 25 #[(.agg #[.bool sy, .int .i64 lo, .int .i64 hi, .int .i64 at0, .int .i64 ho, .int .i64 so, .int .i64 he]), (.agg #[.int .i64 hf, .int .i64 hh, .int .i64 hb, .int .i64 ha, .int .i64 hl])] w fun e w' => e = .returned (.bool (takes sy ho so hf hh)) ∧ Below w.heap.size w w' := by
  refine Ev.contract1 G6_ok 60 (Ev.ExtOk.nil w) (rttakes_L sy lo hi at0 ho so he hf hh hb ha hl) (rttakes_T sy lo hi at0 ho so he hf hh hb ha hl) ?_
  cases sy with
  | false => simp [Ev.Tree.good, takes]
  | true =>
    by_cases h0 : ho = 0
    · simp [Ev.Tree.good, takes, h0]
    · have h0' : (ho != 0) = true := by simpa using h0
      by_cases h1 : hh < ho
      · simp [Ev.Tree.good, takes, h0, h0', h1]
      · simp [Ev.Tree.good, takes, h0, h0', h1]
def startV (b : Bool) : Value := .agg #[.bool b, .int .i64 0, .int .i64 0, .int .i64 0, .int .i64 (sel b 0 60), .int .i64 (-1), .int .i64 0]
theorem tstart_c (b : Bool) (w : World) : Calls Try.prog 18 #[.bool b] w fun e w' => e = .returned (startV b) ∧ Below w.heap.size w w' := by
  refine Ev.contract1 G6_ok 60 (Ev.ExtOk.nil w) (tstart_L b) (tstart_T b) ?_
  cases b <;> simp [Ev.Tree.good, startV, sel]
theorem rtstart_c (b : Bool) (w : World) : Calls Try.prog 19 #[.bool b] w fun e w' => e = .returned (startV b) ∧ Below w.heap.size w w' := by
  refine Ev.contract1 G6_ok 60 (Ev.ExtOk.nil w) (rtstart_L b) (rtstart_T b) ?_
  cases b <;> simp [Ev.Tree.good, startV, sel]
def shP (off dr t : Int) : Bool := decide (-1000000000 ≤ off) && decide (off ≤ 1000000000) && decide (-50 ≤ dr) && decide (dr ≤ 50) && decide (0 ≤ t) && decide (t ≤ 10000000000000)
def shE (off dr t : Int) : Int := sel (shP off dr t) 0 1
def shV (off dr t : Int) : Int := t + off + dr * t / 1000000
def shN (off dr t : Int) : Int := sel (shP off dr t) (shV off dr t) 0
theorem sh_iff {off dr t : Int} : shP off dr t = true ↔ (-1000000000 ≤ off ∧ off ≤ 1000000000) ∧ (-50 ≤ dr ∧ dr ≤ 50) ∧ 0 ≤ t ∧ t ≤ 10000000000000 := by simp [shP, and_assoc]
theorem fl_neg {x : Int} (h : Int.tmod x 1000000 < 0) : Int.tdiv x 1000000 - 1 = x / 1000000 := by
  rw [Int.tmod_eq_emod] at h
  rw [Int.tdiv_eq_ediv]
  split at h
  · omega
  · rename_i hn
    rw [if_neg hn, show Int.sign 1000000 = 1 from rfl]
    omega
theorem fl_pos {x : Int} (h : ¬ Int.tmod x 1000000 < 0) : Int.tdiv x 1000000 = x / 1000000 := by
  rw [Int.tmod_eq_emod] at h
  rw [Int.tdiv_eq_ediv]
  split at h
  · rename_i hn
    rw [if_pos hn]
    simp
  · have := Int.emod_nonneg x (show (1000000 : Int) ≠ 0 by decide)
    have := Int.emod_lt_of_pos x (show (0 : Int) < 1000000 by decide)
    exfalso; apply h; show x % 1000000 - 1000000 < 0; omega
theorem dr_in {dr t : Int} (h1 : -50 ≤ dr) (h2 : dr ≤ 50) (h3 : 0 ≤ t) (h4 : t ≤ 10000000000000) : -500000000000000 ≤ dr * t ∧ dr * t ≤ 500000000000000 := by
  have a : dr * t ≤ 50 * t := Int.mul_le_mul_of_nonneg_right h2 h3
  have b : -50 * t ≤ dr * t := Int.mul_le_mul_of_nonneg_right h1 h3
  omega
theorem show_c (off dr t : Int) (w : World) : Calls Try.prog 20 #[.agg #[.int .i64 off, .int .i64 dr], .int .i64 t] w fun e w' => e = .returned (.tuple #[.int .i64 (shN off dr t), .int .i64 (shE off dr t)]) ∧ Below w.heap.size w w' := by
  refine Ev.contract1 G6_ok 60 (Ev.ExtOk.nil w) (show_L off dr t) (show_T off dr t) ?_
  cases hs : shP off dr t with
  | false =>
    have hn : ¬ shP off dr t = true := by rw [hs]; simp
    rw [sh_iff] at hn
    simp only [shN, shE, hs, sel]
    by_cases c1 : -1000000000 ≤ off
    · by_cases c2 : off ≤ 1000000000
      · by_cases c3 : -50 ≤ dr
        · by_cases c4 : dr ≤ 50
          · by_cases c5 : t < 0
            · simp [Ev.Tree.good, c1, c2, c3, c4, c5]
            · by_cases c6 : t ≤ 10000000000000
              · omega
              · simp [Ev.Tree.good, c1, c2, c3, c4, c5, show 10000000000000 < t by omega]
          · simp [Ev.Tree.good, c1, c2, c3, c4]
        · simp [Ev.Tree.good, c1, c2, c3]
      · simp [Ev.Tree.good, c1, c2]
    · simp [Ev.Tree.good, c1]
  | true =>
    obtain ⟨⟨c1, c2⟩, ⟨c3, c4⟩, c5, c6⟩ := sh_iff.1 hs
    have hd := dr_in c3 c4 c5 c6
    simp only [shN, shE, hs, sel, shV]
    rw [w64 (x := dr * t) (by omega) (by omega), w64 (x := t + off) (by omega) (by omega)]
    generalize dr * t = x at *
    by_cases hm : Int.tmod x 1000000 < 0
    · have e := fl_neg hm
      have e2 : IntKind.wrap .i64 (Int.tdiv x 1000000) = Int.tdiv x 1000000 := w64 (by omega) (by omega)
      rw [e2, e, w64 (x := x / 1000000) (by omega) (by omega), w64 (x := t + off + x / 1000000) (by omega) (by omega)]
      simp [Ev.Tree.good, c1, c2, c3, c4, show ¬ t < 0 by omega, show ¬ 10000000000000 < t by omega, hm]
    · have e := fl_pos hm
      have e2 : IntKind.wrap .i64 (x / 1000000) = x / 1000000 := w64 (by omega) (by omega)
      rw [e, e2, w64 (x := t + off + x / 1000000) (by omega) (by omega)]
      simp [Ev.Tree.good, c1, c2, c3, c4, show ¬ t < 0 by omega, show ¬ 10000000000000 < t by omega, hm]
theorem tbound_c (sy : Bool) (lo hi at0 ho so he : Int) (l : Int) (w : World) : Calls Try.prog 36 #[(.agg #[.bool sy, .int .i64 lo, .int .i64 hi, .int .i64 at0, .int .i64 ho, .int .i64 so, .int .i64 he]), .int .i64 l] w fun e w' => e = .returned (boundV sy lo hi at0 ho so he l) ∧ Below w.heap.size w w' := tbnd_c sy lo hi at0 ho so he l w
def sTTick : List Value → Option Value
  | [x0, x1] => match Ev.aggLf x0, Ev.toLf x1 with
    | some [.b sy, .i .i64 lo, .i .i64 hi, .i .i64 at0, .i .i64 ho, .i .i64 so, .i .i64 he], some (.i .i64 l) => some (tickV sy lo hi at0 ho so he l)
    | _, _ => none
  | _ => none
theorem sTTick_ok : ∀ a v, sTTick a = some v → ∀ w, Calls Try.prog 16 a.toArray w fun e w' => e = .returned v ∧ Below w.heap.size w w' := by
  intro a v h w
  unfold sTTick at h
  split at h
  · rename_i x0 x1
    split at h
    · rename_i sy lo hi at0 ho so he l h0 h1
      have e0 := Ev.aggLf_eq h0
      have e1 := Ev.toLf_eq h1
      subst e0; subst e1
      cases h
      exact ttick_c sy lo hi at0 ho so he l w
    · cases h
  · cases h
def sRTTick : List Value → Option Value
  | [x0, x1] => match Ev.aggLf x0, Ev.toLf x1 with
    | some [.b sy, .i .i64 lo, .i .i64 hi, .i .i64 at0, .i .i64 ho, .i .i64 so, .i .i64 he], some (.i .i64 l) => some (tickV sy lo hi at0 ho so he l)
    | _, _ => none
  | _ => none
theorem sRTTick_ok : ∀ a v, sRTTick a = some v → ∀ w, Calls Try.prog 17 a.toArray w fun e w' => e = .returned v ∧ Below w.heap.size w w' := by
  intro a v h w
  unfold sRTTick at h
  split at h
  · rename_i x0 x1
    split at h
    · rename_i sy lo hi at0 ho so he l h0 h1
      have e0 := Ev.aggLf_eq h0
      have e1 := Ev.toLf_eq h1
      subst e0; subst e1
      cases h
      exact rttick_c sy lo hi at0 ho so he l w
    · cases h
  · cases h
def sRTakes : List Value → Option Value
  | [x0, x1] => match Ev.aggLf x0, Ev.aggLf x1 with
    | some [.b sy, .i .i64 lo, .i .i64 hi, .i .i64 at0, .i .i64 ho, .i .i64 so, .i .i64 he], some [.i .i64 hf, .i .i64 hh, .i .i64 hb, .i .i64 ha, .i .i64 hl] => some (.bool (takes sy ho so hf hh))
    | _, _ => none
  | _ => none
theorem sRTakes_ok : ∀ a v, sRTakes a = some v → ∀ w, Calls Try.prog 25 a.toArray w fun e w' => e = .returned v ∧ Below w.heap.size w w' := by
  intro a v h w
  unfold sRTakes at h
  split at h
  · rename_i x0 x1
    split at h
    · rename_i sy lo hi at0 ho so he hf hh hb ha hl h0 h1
      have e0 := Ev.aggLf_eq h0
      have e1 := Ev.aggLf_eq h1
      subst e0; subst e1
      cases h
      exact rttakes_c sy lo hi at0 ho so he hf hh hb ha hl w
    · cases h
  · cases h
def sTStart : List Value → Option Value
  | [x0] => match Ev.toLf x0 with
    | some (.b b) => some (startV b)
    | _ => none
  | _ => none
theorem sTStart_ok : ∀ a v, sTStart a = some v → ∀ w, Calls Try.prog 18 a.toArray w fun e w' => e = .returned v ∧ Below w.heap.size w w' := by
  intro a v h w
  unfold sTStart at h
  split at h
  · rename_i x0
    split at h
    · rename_i b h0
      have e0 := Ev.toLf_eq h0
      subst e0
      cases h
      exact tstart_c b w
    · cases h
  · cases h
def sRTStart : List Value → Option Value
  | [x0] => match Ev.toLf x0 with
    | some (.b b) => some (startV b)
    | _ => none
  | _ => none
theorem sRTStart_ok : ∀ a v, sRTStart a = some v → ∀ w, Calls Try.prog 19 a.toArray w fun e w' => e = .returned v ∧ Below w.heap.size w w' := by
  intro a v h w
  unfold sRTStart at h
  split at h
  · rename_i x0
    split at h
    · rename_i b h0
      have e0 := Ev.toLf_eq h0
      subst e0
      cases h
      exact rtstart_c b w
    · cases h
  · cases h
def sShow : List Value → Option Value
  | [x0, x1] => match Ev.aggLf x0, Ev.toLf x1 with
    | some [.i .i64 off, .i .i64 dr], some (.i .i64 t) => some (.tuple #[.int .i64 (shN off dr t), .int .i64 (shE off dr t)])
    | _, _ => none
  | _ => none
theorem sShow_ok : ∀ a v, sShow a = some v → ∀ w, Calls Try.prog 20 a.toArray w fun e w' => e = .returned v ∧ Below w.heap.size w w' := by
  intro a v h w
  unfold sShow at h
  split at h
  · rename_i x0 x1
    split at h
    · rename_i off dr t h0 h1
      have e0 := Ev.aggLf_eq h0
      have e1 := Ev.toLf_eq h1
      subst e0; subst e1
      cases h
      exact show_c off dr t w
    · cases h
  · cases h
noncomputable def G7 : Ev.Sum := Ev.addS 16 (Ev.pureS sTTick) (Ev.addS 17 (Ev.pureS sRTTick) (Ev.addS 25 (Ev.pureS sRTakes) (Ev.addS 20 (Ev.pureS sShow) G6)))
theorem G7_ok : ∀ N w0, Ev.SumOk Try.prog N w0 G7 := Ev.addS_ok (Ev.pureS_ok sTTick_ok) (Ev.addS_ok (Ev.pureS_ok sRTTick_ok) (Ev.addS_ok (Ev.pureS_ok sRTakes_ok) (Ev.addS_ok (Ev.pureS_ok sShow_ok) G6_ok)))
end Go.Proofs.Ytbeaipngljphkaa
