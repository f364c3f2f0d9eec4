/- The laws of package trickle without loops: what they say. -/
import Derived.Test.YtfigmjkogkfkiaaDoorTriF
namespace Go.Proofs.YtfigmjkogkfkiaaDoor
open Go Go.ChangeShapes Go.WideShapes Go.ChangeAt Go.RowKit
set_option linter.all false
theorem lmatch_c (i b f c s sd m : Int) (w : World) (ht : Tab w) : Calls Tryd.prog 3 #[(.agg #[.int .i64 i, .int .i64 b, .int .i64 f, .int .i64 c, .int .i64 s]), .int .i64 sd, .int .i64 m] w fun e w' => e = .returned (.bool true) ∧ Below w.heap.size w w' := by
  refine Ev.contract1 G4_ok 60 (tab_ext ht) (lmatch_L i b f c s sd m) (lmatch_T i b f c s sd m) ?_
  simp [Ev.Tree.good]
theorem dbl_le {i : Int} (h : i = 1 ∨ i = 2 ∨ i = 4 ∨ i = 8) : dbl i ≤ 8 ∧ 1 ≤ dbl i := by
  rcases dbl_len h with h | h | h | h <;> omega
theorem fire_in {s m l : Int} (h : l = 1 ∨ l = 2 ∨ l = 4 ∨ l = 8) : m + l / 2 ≤ fireP s m l ∧ fireP s m l ≤ m + l - 1 := by
  have := bel_r (s := 1000003 * s + m) (n := l - l / 2) (by omega) (by omega)
  unfold fireP
  omega
/-- a timer that begins is valid -/
theorem vl_begin {s m l : Int} (hl : l = 1 ∨ l = 2 ∨ l = 4 ∨ l = 8) (hm : 0 ≤ m ∧ m ≤ 999999984) (hs : 0 ≤ s ∧ s ≤ 1000000000) : vlP l m (fireP s m l) 0 s = true :=
  vl_iff.2 ⟨hl, hm, by omega, hs, (fire_in hl).1, (fire_in hl).2⟩
theorem tOk_iff {i b f c s m : Int} : tOk i b f c s m = true ↔ vlP i b f c s = true ∧ (0 ≤ m ∧ m ≤ 999999984) ∧ b ≤ m := by
  simp only [tOk, Bool.and_eq_true, rg_iff, decide_eq_true_eq, and_assoc]
theorem tNew_iff {i b f c s m : Int} : tNew i b f c s m = true ↔ vlP i b f c s = true ∧ (0 ≤ m ∧ m ≤ 999999984) ∧ b ≤ m ∧ b + i ≤ m := by
  simp only [tNew, Bool.and_eq_true, tOk_iff, decide_eq_true_eq, and_assoc]
theorem vl_tick {i b f c s m : Int} (hv : vlP i b f c s = true) : vlP (Go.Proofs.YtfigmjkogkfkiaaDoor.sel (tNew i b f c s m) (dbl i) i) (Go.Proofs.YtfigmjkogkfkiaaDoor.sel (tNew i b f c s m) m b) (tF i b f c s m) (tC i b f c s m) s = true := by
  obtain ⟨hi, hb, hc, hs, hf⟩ := vl_iff.1 hv
  cases h : tNew i b f c s m with
  | false => simpa [tF, tC, h, sel] using hv
  | true =>
    obtain ⟨_, hm, _⟩ := tNew_iff.1 h
    simpa [tF, tC, h, sel] using vl_begin (dbl_len hi) hm hs
theorem vl_reset {i b f c s m : Int} (hv : vlP i b f c s = true) : vlP (Go.Proofs.YtfigmjkogkfkiaaDoor.sel (rOk i b f c s m) 1 i) (Go.Proofs.YtfigmjkogkfkiaaDoor.sel (rOk i b f c s m) m b) (Go.Proofs.YtfigmjkogkfkiaaDoor.sel (rOk i b f c s m) (fireP s m 1) f) (Go.Proofs.YtfigmjkogkfkiaaDoor.sel (rOk i b f c s m) 0 c) s = true := by
  obtain ⟨hi, hb, hc, hs, hf⟩ := vl_iff.1 hv
  cases h : rOk i b f c s m with
  | false => simpa [sel] using hv
  | true =>
    simp only [rOk, Bool.and_eq_true, rg_iff] at h
    simpa [sel] using vl_begin (l := 1) (.inl rfl) h.1.2 hs
theorem hC_in {i b f c s : Int} (hv : vlP i b f c s = true) : hC i b f c s = (if c < 100 then c + 1 else 100) := by
  simp [hC, hv, sel]
theorem vl_hear {i b f c s : Int} (hv : vlP i b f c s = true) : vlP i b f (hC i b f c s) s = true := by
  obtain ⟨hi, hb, hc, hs, hf⟩ := vl_iff.1 hv
  refine vl_iff.2 ⟨hi, hb, ?_, hs, hf⟩
  rw [hC_in hv]
  split <;> omega
theorem lvalid_c (i b f c s m : Int) (w : World) (ht : Tab w) : Calls Tryd.prog 4 #[(.agg #[.int .i64 i, .int .i64 b, .int .i64 f, .int .i64 c, .int .i64 s]), .int .i64 m] w fun e w' => e = .returned (.bool true) ∧ Below w.heap.size w w' := by
  refine Ev.contract1 G4_ok 60 (tab_ext ht) (lvalid_L i b f c s m) (lvalid_T i b f c s m) ?_
  cases hv : vlP i b f c s with
  | false => simp [Ev.Tree.good]
  | true => simp [Ev.Tree.good, vl_tick hv, vl_reset hv, vl_hear hv]
theorem lsupp_c (i b f c s m : Int) (w : World) (ht : Tab w) : Calls Tryd.prog 7 #[(.agg #[.int .i64 i, .int .i64 b, .int .i64 f, .int .i64 c, .int .i64 s]), .int .i64 m] w fun e w' => e = .returned (.bool true) ∧ Below w.heap.size w w' := by
  refine Ev.contract1 G4_ok 60 (tab_ext ht) (lsupp_L i b f c s m) (lsupp_T i b f c s m) ?_
  cases hv : vlP i b f c s with
  | false => simp [Ev.Tree.good]
  | true =>
    obtain ⟨hi, hb, hc, hs, hf⟩ := vl_iff.1 hv
    have h1 := vl_hear hv
    have h2 := vl_hear h1
    have e1 := hC_in hv
    have e2 := hC_in h1
    have hge : 2 ≤ hC i b f (hC i b f c s) s := by rw [e2, e1]; split <;> split <;> omega
    generalize hC i b f (hC i b f c s) s = d at *
    rw [w64 (x := b + i) (by omega) (by omega)]
    have ht2 : tOk i b f d s m = tOk i b f c s m := by
      rw [Bool.eq_iff_iff, tOk_iff, tOk_iff]; simp [hv, h2]
    have hn2 : tNew i b f d s m = tNew i b f c s m := by
      rw [Bool.eq_iff_iff, tNew_iff, tNew_iff]; simp [hv, h2]
    by_cases hlt : m < b + i
    · have hn : tNew i b f d s m = false := by
        cases h : tNew i b f d s m with
        | false => rfl
        | true => have := tNew_iff.1 h; omega
      simp [Ev.Tree.good, hlt, tC, hn, sel]
      omega
    · cases hm : rgP m 0 999999984 with
      | false =>
        have ho : tOk i b f c s m = false := by
          cases h : tOk i b f c s m with
          | false => rfl
          | true => have := (tOk_iff.1 h).2.1; rw [rg_iff.2 this] at hm; cases hm
        simp [Ev.Tree.good, hlt, ht2, ho]
      | true =>
        have hm' := rg_iff.1 hm
        have hn : tNew i b f c s m = true := tNew_iff.2 ⟨hv, hm', by omega, by omega⟩
        simp [Ev.Tree.good, hlt, ht2, tF, tC, hn2, hn, sel]
end Go.Proofs.YtfigmjkogkfkiaaDoor
