/- Contracts of package trickle and its reference. -/
import Derived.Test.YtfigmjkogkfkiaaDoorTriC
namespace Go.Proofs.YtfigmjkogkfkiaaDoor
open Go Go.ChangeShapes Go.WideShapes Go.ChangeAt Go.RowKit
set_option linter.all false
def sel (b : Bool) (x y : Int) : Int := match b with
  | true => x
  | false => y
/-- the frame in which an interval speaks -/
def fireP (s m len : Int) : Int := m + len / 2 + bel (1000003 * s + m) (len - len / 2)
def nOk (s m : Int) : Bool := rgP s 0 1000000000 && rgP m 0 999999984
def rOk (i b f c s m : Int) : Bool := vlP i b f c s && rgP m 0 999999984 && i != 1
def tOk (i b f c s m : Int) : Bool := vlP i b f c s && rgP m 0 999999984 && decide (b ≤ m)
def tNew (i b f c s m : Int) : Bool := tOk i b f c s m && decide (b + i ≤ m)
def dbl (i : Int) : Int := if 8 < 2 * i then 8 else 2 * i
def tF (i b f c s m : Int) : Int := sel (tNew i b f c s m) (fireP s m (dbl i)) f
def tC (i b f c s m : Int) : Int := sel (tNew i b f c s m) 0 c
def hC (i b f c s : Int) : Int := sel (vlP i b f c s) (if c < 100 then c + 1 else 100) c
def newV (s m : Int) : Value := .tuple #[.agg #[.int .i64 (sel (nOk s m) 1 0), .int .i64 (sel (nOk s m) m 0), .int .i64 (sel (nOk s m) (fireP s m 1) 0), .int .i64 0, .int .i64 (sel (nOk s m) s 0)], .int .i64 (sel (nOk s m) 0 1)]
def resetV (i b f c s m : Int) : Value := .agg #[.int .i64 (sel (rOk i b f c s m) 1 i), .int .i64 (sel (rOk i b f c s m) m b), .int .i64 (sel (rOk i b f c s m) (fireP s m 1) f), .int .i64 (sel (rOk i b f c s m) 0 c), .int .i64 s]
def hearV (i b f c s : Int) : Value := .agg #[.int .i64 i, .int .i64 b, .int .i64 f, .int .i64 (hC i b f c s), .int .i64 s]
def tickV (i b f c s m : Int) : Value := .tuple #[.agg #[.int .i64 (sel (tNew i b f c s m) (dbl i) i), .int .i64 (sel (tNew i b f c s m) m b), .int .i64 (tF i b f c s m), .int .i64 (tC i b f c s m), .int .i64 s], .bool (tOk i b f c s m && decide (m = tF i b f c s m) && decide (tC i b f c s m < 2))]
theorem seedI {s m : Int} (h1 : 0 ≤ s ∧ s ≤ 1000000000) (h2 : 0 ≤ m ∧ m ≤ 999999984) : IntKind.wrap .u64 (IntKind.wrap .u64 (1000003 * IntKind.wrap .u64 s) + IntKind.wrap .u64 m) = 1000003 * s + m := by
  rw [wu64 (x := s) (by omega) (by omega), wu64 (x := m) (by omega) (by omega), wu64 (x := 1000003 * s) (by omega) (by omega), wu64 (by omega) (by omega)]
theorem seedR {s m : Int} (h1 : 0 ≤ s ∧ s ≤ 1000000000) (h2 : 0 ≤ m ∧ m ≤ 999999984) : IntKind.wrap .u64 (IntKind.wrap .i64 (IntKind.wrap .i64 (1000003 * s) + m)) = 1000003 * s + m := by
  rw [w64 (x := 1000003 * s) (by omega) (by omega), w64 (by omega) (by omega), wu64 (by omega) (by omega)]
theorem bel_r {s n : Int} (h0 : 1 ≤ n) (h1 : n ≤ 8) : 0 ≤ bel s n ∧ bel s n < n := bel_b h0 (by omega)
theorem fire1 {s m x : Int} (h2 : 0 ≤ m ∧ m ≤ 999999984) (hx : x = 1000003 * s + m) : IntKind.wrap .i64 (IntKind.wrap .i64 (m + 0) + bel x 1) = fireP s m 1 := by
  subst hx
  have := bel_r (s := 1000003 * s + m) (n := 1) (by omega) (by omega)
  rw [w64 (x := m + 0) (by omega) (by omega), w64 (by omega) (by omega)]
  rfl
theorem fireL {s m x l : Int} (hl : l = 1 ∨ l = 2 ∨ l = 4 ∨ l = 8) (h2 : 0 ≤ m ∧ m ≤ 999999984) (hx : x = 1000003 * s + m) :
    IntKind.wrap .i64 (IntKind.wrap .i64 (m + IntKind.wrap .i64 (Int.tdiv l 2)) + bel x (IntKind.wrap .i64 (l - IntKind.wrap .i64 (Int.tdiv l 2)))) = fireP s m l := by
  subst hx
  have e1 : IntKind.wrap .i64 (Int.tdiv l 2) = l / 2 := by rw [Int.tdiv_eq_ediv_of_nonneg (by omega)]; exact w64 (by omega) (by omega)
  rw [e1, w64 (x := l - l / 2) (by omega) (by omega), w64 (x := m + l / 2) (by omega) (by omega)]
  have := bel_r (s := 1000003 * s + m) (n := l - l / 2) (by omega) (by omega)
  rw [w64 (by omega) (by omega)]
  rfl
theorem lenP_of {i : Int} (h : i = 1 ∨ i = 2 ∨ i = 4 ∨ i = 8) : lenP i = true := by rcases h with rfl | rfl | rfl | rfl <;> rfl
/-- the words of the chain of tests -/
theorem chain_f {i b f c s : Int} (h1 : lenP i = true) (h2 : rgP b 0 999999984 = true) (h3 : rgP c 0 100 = true) (h4 : rgP s 0 1000000000 = true) :
    rgP f (IntKind.wrap .i64 (b + IntKind.wrap .i64 (Int.tdiv i 2))) (IntKind.wrap .i64 (IntKind.wrap .i64 (b + i) - 1)) = vlP i b f c s := by
  have hi := len_cases h1
  have hb := rg_iff.1 h2
  have e1 : IntKind.wrap .i64 (Int.tdiv i 2) = i / 2 := by rw [Int.tdiv_eq_ediv_of_nonneg (by omega)]; exact w64 (by omega) (by omega)
  rw [e1, w64 (x := b + i / 2) (by omega) (by omega), w64 (x := b + i) (by omega) (by omega), w64 (x := b + i - 1) (by omega) (by omega)]
  simp [vlP, h1, h2, h3, h4]
theorem vl_no {i b f c s : Int} (h : lenP i = false ∨ rgP b 0 999999984 = false ∨ rgP c 0 100 = false ∨ rgP s 0 1000000000 = false) : vlP i b f c s = false := by
  unfold vlP
  rcases h with h | h | h | h <;> simp [h]
theorem chain_p {Q : Value → Prop} {D X : Ev.Tree Value} {i b f c s : Int} (hX : vlP i b f c s = true → X.good Q) (hD : vlP i b f c s = false → D.good Q) :
    (Ev.Tree.ite (!lenP i) D (.ite (!rgP b 0 999999984) D (.ite (!rgP c 0 100) D (.ite (!rgP s 0 1000000000) D (.ite (rgP f (IntKind.wrap .i64 (b + IntKind.wrap .i64 (Int.tdiv i 2))) (IntKind.wrap .i64 (IntKind.wrap .i64 (b + i) - 1))) X D))))).good Q := by
  refine ⟨fun h => hD (vl_no (.inl (by simpa using h))), fun h1 => ⟨fun h => hD (vl_no (.inr (.inl (by simpa using h)))), fun h2 => ⟨fun h => hD (vl_no (.inr (.inr (.inl (by simpa using h))))), fun h3 => ⟨fun h => hD (vl_no (.inr (.inr (.inr (by simpa using h))))), fun h4 => ?_⟩⟩⟩⟩
  rw [chain_f (c := c) (s := s) (by simpa using h1) (by simpa using h2) (by simpa using h3) (by simpa using h4)]
  exact ⟨hX, hD⟩
theorem chain_n {Q : Value → Prop} {D X : Ev.Tree Value} {i b f c s : Int} (hX : vlP i b f c s = true → X.good Q) (hD : vlP i b f c s = false → D.good Q) :
    (Ev.Tree.ite (!lenP i) D (.ite (!rgP b 0 999999984) D (.ite (!rgP c 0 100) D (.ite (!rgP s 0 1000000000) D (.ite (!rgP f (IntKind.wrap .i64 (b + IntKind.wrap .i64 (Int.tdiv i 2))) (IntKind.wrap .i64 (IntKind.wrap .i64 (b + i) - 1))) D X))))).good Q := by
  refine ⟨fun h => hD (vl_no (.inl (by simpa using h))), fun h1 => ⟨fun h => hD (vl_no (.inr (.inl (by simpa using h)))), fun h2 => ⟨fun h => hD (vl_no (.inr (.inr (.inl (by simpa using h))))), fun h3 => ⟨fun h => hD (vl_no (.inr (.inr (.inr (by simpa using h))))), fun h4 => ?_⟩⟩⟩⟩
  rw [chain_f (c := c) (s := s) (by simpa using h1) (by simpa using h2) (by simpa using h3) (by simpa using h4)]
  exact ⟨fun h => hD (by simpa using h), fun h => hX (by simpa using h)⟩
theorem ref_n {Q : Value → Prop} {D X : Ev.Tree Value} {i b f c s : Int} (hX : vlP i b f c s = true → X.good Q) (hD : vlP i b f c s = false → D.good Q) : (Ev.Tree.ite (!vlP i b f c s) D X).good Q :=
  ⟨fun h => hD (by simpa using h), fun h => hX (by simpa using h)⟩
theorem new_c (s m : Int) (w : World) (ht : Tab w) : Calls Tryd.prog 11 #[.int .i64 s, .int .i64 m] w fun e w' => e = .returned (newV s m) ∧ Below w.heap.size w w' := by
  refine Ev.contract1 G2_ok 60 (tab_ext ht) (new_L s m) (new_T s m) ?_
  refine ⟨fun h1 => ?_, fun h1 => ⟨fun h2 => ?_, fun h2 => ?_⟩⟩
  · have h : nOk s m = false := by simp only [nOk, Bool.not_eq_true'] at h1 ⊢; simp [h1]
    simp [newV, h, sel, Ev.Tree.good]
  · have h : nOk s m = false := by simp only [nOk, Bool.not_eq_true'] at h2 ⊢; simp [h2]
    simp [newV, h, sel, Ev.Tree.good]
  · simp only [Bool.not_eq_false'] at h1 h2
    have h : nOk s m = true := by simp [nOk, h1, h2]
    have h1 := rg_iff.1 h1
    have h2 := rg_iff.1 h2
    rw [fire1 h2 (seedI h1 h2)]
    simp [newV, h, sel, Ev.Tree.good]
theorem rnew_c (s m : Int) (w : World) : Calls Tryd.prog 12 #[.int .i64 s, .int .i64 m] w fun e w' => e = .returned (newV s m) ∧ Below w.heap.size w w' := by
  refine Ev.contract1 G2_ok 60 (Ev.ExtOk.nil w) (rnew_L s m) (rnew_T s m) ?_
  refine ⟨fun h1 => ?_, fun h1 => ⟨fun h2 => ?_, fun h2 => ⟨fun h3 => ?_, fun h3 => ?_⟩⟩⟩
  · have h : nOk s m = false := by simp only [nOk, Bool.not_eq_true'] at h1 ⊢; simp [h1]
    simp [newV, h, sel, Ev.Tree.good]
  · have h : nOk s m = false := by simp only [decide_eq_true_eq] at h2; simp only [nOk, rgP]; simp; omega
    simp [newV, h, sel, Ev.Tree.good]
  · have h : nOk s m = false := by simp only [decide_eq_true_eq] at h3; simp only [nOk, rgP]; simp; omega
    simp [newV, h, sel, Ev.Tree.good]
  · simp only [Bool.not_eq_false', decide_eq_false_iff_not] at h1 h2 h3
    have h : nOk s m = true := by simp only [nOk, h1, Bool.and_true]; exact rg_iff.2 ⟨by omega, by omega⟩
    have h1 := rg_iff.1 h1
    rw [fire1 h1 (seedR (by omega) h1)]
    simp [newV, h, sel, Ev.Tree.good]
theorem reset_c (i b f c s m : Int) (w : World) (ht : Tab w) : Calls Tryd.prog 15 #[(.agg #[.int .i64 i, .int .i64 b, .int .i64 f, .int .i64 c, .int .i64 s]), .int .i64 m] w fun e w' => e = .returned (resetV i b f c s m) ∧ Below w.heap.size w w' := by
  refine Ev.contract1 G2_ok 60 (tab_ext ht) (reset_L i b f c s m) (reset_T i b f c s m) ?_
  refine chain_p (fun hv => ⟨fun h1 => ⟨fun h2 => ?_, fun h2 => ?_⟩, fun h1 => ?_⟩) (fun hv => ?_)
  · have h : rOk i b f c s m = true := by simp only [rOk, hv, h1, h2]; rfl
    obtain ⟨_, _, _, hs, _⟩ := vl_iff.1 hv
    have h1 := rg_iff.1 h1
    rw [fire1 h1 (seedI hs h1)]
    simp [resetV, h, sel, Ev.Tree.good]
  · have h : rOk i b f c s m = false := by simp only [rOk, hv, h1, h2]; rfl
    simp [resetV, h, sel, Ev.Tree.good]
  · have h : rOk i b f c s m = false := by simp only [rOk, hv, h1]; rfl
    simp [resetV, h, sel, Ev.Tree.good]
  · have h : rOk i b f c s m = false := by simp only [rOk, hv]; rfl
    simp [resetV, h, sel, Ev.Tree.good]
theorem rreset_c (i b f c s m : Int) (w : World) : Calls Tryd.prog 16 #[(.agg #[.int .i64 i, .int .i64 b, .int .i64 f, .int .i64 c, .int .i64 s]), .int .i64 m] w fun e w' => e = .returned (resetV i b f c s m) ∧ Below w.heap.size w w' := by
  refine Ev.contract1 G2_ok 60 (Ev.ExtOk.nil w) (rreset_L i b f c s m) (rreset_T i b f c s m) ?_
  refine ref_n (fun hv => ⟨fun h1 => ?_, fun h1 => ⟨fun h2 => ?_, fun h2 => ?_⟩⟩) (fun hv => ?_)
  · have h : rOk i b f c s m = false := by simp only [Bool.not_eq_true'] at h1; simp only [rOk, hv, h1]; rfl
    simp [resetV, h, sel, Ev.Tree.good]
  · have h : rOk i b f c s m = false := by
      simp only [beq_iff_eq] at h2
      simp [rOk, h2]
    simp [resetV, h, sel, Ev.Tree.good]
  · simp only [Bool.not_eq_false'] at h1
    have h : rOk i b f c s m = true := by
      have : (i != 1) = true := by rw [bne, h2]; rfl
      simp only [rOk, hv, h1, this]; rfl
    obtain ⟨_, _, _, hs, _⟩ := vl_iff.1 hv
    have h1 := rg_iff.1 h1
    rw [fire1 h1 (seedR hs h1)]
    simp [resetV, h, sel, Ev.Tree.good]
  · have h : rOk i b f c s m = false := by simp only [rOk, hv]; rfl
    simp [resetV, h, sel, Ev.Tree.good]
theorem hear_c (i b f c s : Int) (w : World) : Calls Tryd.prog 17 #[(.agg #[.int .i64 i, .int .i64 b, .int .i64 f, .int .i64 c, .int .i64 s])] w fun e w' => e = .returned (hearV i b f c s) ∧ Below w.heap.size w w' := by
  refine Ev.contract1 G2_ok 60 (Ev.ExtOk.nil w) (hear_L i b f c s) (hear_T i b f c s) ?_
  refine chain_p (fun hv => ?_) (fun hv => ?_)
  · obtain ⟨_, _, hc, _⟩ := vl_iff.1 hv
    rw [w64 (x := c + 1) (by omega) (by omega)]
    have e : (if 100 < c + 1 then (100 : Int) else c + 1) = if c < 100 then c + 1 else 100 := by split <;> split <;> omega
    rw [e]
    simp [hearV, hC, hv, sel, Ev.Tree.good]
  · simp [hearV, hC, hv, sel, Ev.Tree.good]
theorem rhear_c (i b f c s : Int) (w : World) : Calls Tryd.prog 18 #[(.agg #[.int .i64 i, .int .i64 b, .int .i64 f, .int .i64 c, .int .i64 s])] w fun e w' => e = .returned (hearV i b f c s) ∧ Below w.heap.size w w' := by
  refine Ev.contract1 G2_ok 60 (Ev.ExtOk.nil w) (rhear_L i b f c s) (rhear_T i b f c s) ?_
  refine ⟨fun hv => ⟨fun h1 => ?_, fun h1 => ?_⟩, fun hv => ?_⟩
  · obtain ⟨_, _, hc, _⟩ := vl_iff.1 hv
    rw [w64 (x := c + 1) (by omega) (by omega)]
    simp only [decide_eq_true_eq] at h1
    simp [hearV, hC, hv, sel, Ev.Tree.good, h1]
  · obtain ⟨_, _, hc, _⟩ := vl_iff.1 hv
    simp only [decide_eq_false_iff_not] at h1
    simp [hearV, hC, hv, sel, Ev.Tree.good, h1]
    omega
  · simp [hearV, hC, hv, sel, Ev.Tree.good]
theorem dbl_len {i : Int} (h : i = 1 ∨ i = 2 ∨ i = 4 ∨ i = 8) : dbl i = 1 ∨ dbl i = 2 ∨ dbl i = 4 ∨ dbl i = 8 := by
  rcases h with rfl | rfl | rfl | rfl <;> simp [dbl]
theorem tick_end {i b f c s m : Int} (hv : vlP i b f c s = true) (h1 : rgP m 0 999999984 = true) (h2 : b ≤ m) (h3 : b + i ≤ m) : tickV i b f c s m = .tuple #[.agg #[.int .i64 (dbl i), .int .i64 m, .int .i64 (fireP s m (dbl i)), .int .i64 0, .int .i64 s], .bool (decide (m = fireP s m (dbl i)))] := by
  have h : tOk i b f c s m = true := by simp [tOk, hv, h1, h2]
  have hn : tNew i b f c s m = true := by simp [tNew, h, h3]
  simp [tickV, tF, tC, h, hn, sel]
theorem tick_old {i b f c s m : Int} (hv : vlP i b f c s = true) (h1 : rgP m 0 999999984 = true) (h2 : b ≤ m) (h3 : m < b + i) : tickV i b f c s m = .tuple #[.agg #[.int .i64 i, .int .i64 b, .int .i64 f, .int .i64 c, .int .i64 s], .bool (decide (m = f) && decide (c < 2))] := by
  have h : tOk i b f c s m = true := by simp [tOk, hv, h1, h2]
  have hn : tNew i b f c s m = false := by simp [tNew, h]; omega
  simp [tickV, tF, tC, h, hn, sel]
theorem tick_no {i b f c s m : Int} (h : tOk i b f c s m = false) : tickV i b f c s m = .tuple #[.agg #[.int .i64 i, .int .i64 b, .int .i64 f, .int .i64 c, .int .i64 s], .bool false] := by
  have hn : tNew i b f c s m = false := by simp [tNew, h]
  simp [tickV, tF, tC, h, hn, sel]
theorem tick_c (i b f c s m : Int) (w : World) (ht : Tab w) : Calls Tryd.prog 13 #[(.agg #[.int .i64 i, .int .i64 b, .int .i64 f, .int .i64 c, .int .i64 s]), .int .i64 m] w fun e w' => e = .returned (tickV i b f c s m) ∧ Below w.heap.size w w' := by
  refine Ev.contract1 G2_ok 60 (tab_ext ht) (tick_L i b f c s m) (tick_T i b f c s m) ?_
  refine chain_n (fun hv => ⟨fun h1 => ?_, fun h1 => ⟨fun h2 => ?_, fun h2 => ?_⟩⟩) (fun hv => ?_)
  · simp only [Ev.Tree.good]
    rw [tick_no (by simp only [Bool.not_eq_true'] at h1; simp [tOk, h1])]
  · simp only [Ev.Tree.good]
    simp only [decide_eq_true_eq] at h2
    rw [tick_no (by simp [tOk]; omega)]
  · simp only [Bool.not_eq_false'] at h1
    simp only [decide_eq_false_iff_not] at h2
    obtain ⟨hi, hb, _, hs, _⟩ := vl_iff.1 hv
    have h1' := rg_iff.1 h1
    rw [w64 (x := b + i) (by omega) (by omega), w64 (x := 2 * i) (by omega) (by omega), show (if 8 < 2 * i then (8 : Int) else 2 * i) = dbl i from rfl, fireL (dbl_len hi) h1' (seedI hs h1')]
    by_cases h3 : b + i ≤ m
    · have := tick_end hv h1 (by omega) h3
      rw [this]
      have e : decide (m ≥ b + i) = true := by simpa using h3
      by_cases hf : m = fireP s m (dbl i)
      · simp [Ev.Tree.good, e, ← hf]
      · simp [Ev.Tree.good, e, hf]
    · have := tick_old hv h1 (by omega) (by omega)
      rw [this]
      have e : decide (m ≥ b + i) = false := by simpa using h3
      by_cases hf : m = f
      · simp [Ev.Tree.good, hf]
        intro hh; exact absurd hh (by omega)
      · simp [Ev.Tree.good, e, hf]
  · simp only [Ev.Tree.good]
    rw [tick_no (by simp [tOk, hv])]
theorem rtick_c (i b f c s m : Int) (w : World) : Calls Tryd.prog 14 #[(.agg #[.int .i64 i, .int .i64 b, .int .i64 f, .int .i64 c, .int .i64 s]), .int .i64 m] w fun e w' => e = .returned (tickV i b f c s m) ∧ Below w.heap.size w w' := by
  refine Ev.contract1 G2_ok 60 (Ev.ExtOk.nil w) (rtick_L i b f c s m) (rtick_T i b f c s m) ?_
  refine ref_n (fun hv => ⟨fun h1 => ?_, fun h1 => ⟨fun h2 => ?_, fun h2 => ?_⟩⟩) (fun hv => ?_)
  · simp only [Ev.Tree.good]
    rw [tick_no (by simp only [Bool.not_eq_true'] at h1; simp [tOk, h1])]
  · simp only [Ev.Tree.good]
    simp only [decide_eq_true_eq] at h2
    rw [tick_no (by simp [tOk]; omega)]
  · simp only [Bool.not_eq_false'] at h1
    simp only [decide_eq_false_iff_not] at h2
    obtain ⟨hi, hb, _, hs, _⟩ := vl_iff.1 hv
    have h1' := rg_iff.1 h1
    have e0 : (if 2 * i < 8 then 2 * i else (8 : Int)) = dbl i := by unfold dbl; split <;> split <;> omega
    rw [w64 (x := b + i) (by omega) (by omega), w64 (x := b + i - 1) (by omega) (by omega), w64 (x := 2 * i) (by omega) (by omega), e0, fireL (dbl_len hi) h1' (seedR hs h1')]
    by_cases h3 : b + i ≤ m
    · have := tick_end hv h1 (by omega) h3
      rw [this]
      have e : decide (m > b + i - 1) = true := by simp; omega
      by_cases hf : m = fireP s m (dbl i)
      · simp [Ev.Tree.good, e, ← hf]
      · have hf' : ¬ fireP s m (dbl i) = m := fun h => hf h.symm
        simp [Ev.Tree.good, e, hf, hf']
    · have := tick_old hv h1 (by omega) (by omega)
      rw [this]
      have e : decide (m > b + i - 1) = false := by simp; omega
      have e2 : decide (c ≤ 1) = decide (c < 2) := by rw [decide_eq_decide]; omega
      by_cases hf : m = f
      · simp [Ev.Tree.good, hf, e2]
        intro hh; exact absurd hh (by omega)
      · have hf' : ¬ f = m := fun h => hf h.symm
        simp [Ev.Tree.good, e, hf, hf']
  · simp only [Ev.Tree.good]
    rw [tick_no (by simp [tOk, hv])]
def sNew : List Value → Option Value
  | [x0, x1] => match Ev.toLf x0, Ev.toLf x1 with
    | some (.i .i64 s), some (.i .i64 m) => some (newV s m)
    | _, _ => none
  | _ => none
theorem sNew_ok : ∀ a v, sNew a = some v → ∀ w, Tab w → Calls Tryd.prog 11 a.toArray w fun e w' => e = .returned v ∧ Below w.heap.size w w' := by
  intro a v h w hside
  unfold sNew at h
  split at h
  · rename_i x0 x1
    split at h
    · rename_i s m h0 h1
      have e0 := Ev.toLf_eq h0
      have e1 := Ev.toLf_eq h1
      subst e0; subst e1
      cases h
      exact new_c s m w hside
    · cases h
  · cases h
def sRNew : List Value → Option Value
  | [x0, x1] => match Ev.toLf x0, Ev.toLf x1 with
    | some (.i .i64 s), some (.i .i64 m) => some (newV s m)
    | _, _ => none
  | _ => none
theorem sRNew_ok : ∀ a v, sRNew a = some v → ∀ w, Calls Tryd.prog 12 a.toArray w fun e w' => e = .returned v ∧ Below w.heap.size w w' := by
  intro a v h w
  unfold sRNew at h
  split at h
  · rename_i x0 x1
    split at h
    · rename_i s m h0 h1
      have e0 := Ev.toLf_eq h0
      have e1 := Ev.toLf_eq h1
      subst e0; subst e1
      cases h
      exact rnew_c s m w
    · cases h
  · cases h
def sReset : List Value → Option Value
  | [x0, x1] => match Ev.aggLf x0, Ev.toLf x1 with
    | some [.i .i64 i, .i .i64 b, .i .i64 f, .i .i64 c, .i .i64 s], some (.i .i64 m) => some (resetV i b f c s m)
    | _, _ => none
  | _ => none
theorem sReset_ok : ∀ a v, sReset a = some v → ∀ w, Tab w → Calls Tryd.prog 15 a.toArray w fun e w' => e = .returned v ∧ Below w.heap.size w w' := by
  intro a v h w hside
  unfold sReset at h
  split at h
  · rename_i x0 x1
    split at h
    · rename_i i b f c s m h0 h1
      have e0 := Ev.aggLf_eq h0
      have e1 := Ev.toLf_eq h1
      subst e0; subst e1
      cases h
      exact reset_c i b f c s m w hside
    · cases h
  · cases h
def sRReset : List Value → Option Value
  | [x0, x1] => match Ev.aggLf x0, Ev.toLf x1 with
    | some [.i .i64 i, .i .i64 b, .i .i64 f, .i .i64 c, .i .i64 s], some (.i .i64 m) => some (resetV i b f c s m)
    | _, _ => none
  | _ => none
theorem sRReset_ok : ∀ a v, sRReset a = some v → ∀ w, Calls Tryd.prog 16 a.toArray w fun e w' => e = .returned v ∧ Below w.heap.size w w' := by
  intro a v h w
  unfold sRReset at h
  split at h
  · rename_i x0 x1
    split at h
    · rename_i i b f c s m h0 h1
      have e0 := Ev.aggLf_eq h0
      have e1 := Ev.toLf_eq h1
      subst e0; subst e1
      cases h
      exact rreset_c i b f c s m w
    · cases h
  · cases h
def sHear : List Value → Option Value
  | [x0] => match Ev.aggLf x0 with
    | some [.i .i64 i, .i .i64 b, .i .i64 f, .i .i64 c, .i .i64 s] => some (hearV i b f c s)
    | _ => none
  | _ => none
theorem sHear_ok : ∀ a v, sHear a = some v → ∀ w, Calls Tryd.prog 17 a.toArray w fun e w' => e = .returned v ∧ Below w.heap.size w w' := by
  intro a v h w
  unfold sHear at h
  split at h
  · rename_i x0
    split at h
    · rename_i i b f c s h0
      have e0 := Ev.aggLf_eq h0
      subst e0
      cases h
      exact hear_c i b f c s w
    · cases h
  · cases h
def sRHear : List Value → Option Value
  | [x0] => match Ev.aggLf x0 with
    | some [.i .i64 i, .i .i64 b, .i .i64 f, .i .i64 c, .i .i64 s] => some (hearV i b f c s)
    | _ => none
  | _ => none
theorem sRHear_ok : ∀ a v, sRHear a = some v → ∀ w, Calls Tryd.prog 18 a.toArray w fun e w' => e = .returned v ∧ Below w.heap.size w w' := by
  intro a v h w
  unfold sRHear at h
  split at h
  · rename_i x0
    split at h
    · rename_i i b f c s h0
      have e0 := Ev.aggLf_eq h0
      subst e0
      cases h
      exact rhear_c i b f c s w
    · cases h
  · cases h
def sTick : List Value → Option Value
  | [x0, x1] => match Ev.aggLf x0, Ev.toLf x1 with
    | some [.i .i64 i, .i .i64 b, .i .i64 f, .i .i64 c, .i .i64 s], some (.i .i64 m) => some (tickV i b f c s m)
    | _, _ => none
  | _ => none
theorem sTick_ok : ∀ a v, sTick a = some v → ∀ w, Tab w → Calls Tryd.prog 13 a.toArray w fun e w' => e = .returned v ∧ Below w.heap.size w w' := by
  intro a v h w hside
  unfold sTick at h
  split at h
  · rename_i x0 x1
    split at h
    · rename_i i b f c s m h0 h1
      have e0 := Ev.aggLf_eq h0
      have e1 := Ev.toLf_eq h1
      subst e0; subst e1
      cases h
      exact tick_c i b f c s m w hside
    · cases h
  · cases h
def sRTick : List Value → Option Value
  | [x0, x1] => match Ev.aggLf x0, Ev.toLf x1 with
    | some [.i .i64 i, .i .i64 b, .i .i64 f, .i .i64 c, .i .i64 s], some (.i .i64 m) => some (tickV i b f c s m)
    | _, _ => none
  | _ => none
theorem sRTick_ok : ∀ a v, sRTick a = some v → ∀ w, Calls Tryd.prog 14 a.toArray w fun e w' => e = .returned v ∧ Below w.heap.size w w' := by
  intro a v h w
  unfold sRTick at h
  split at h
  · rename_i x0 x1
    split at h
    · rename_i i b f c s m h0 h1
      have e0 := Ev.aggLf_eq h0
      have e1 := Ev.toLf_eq h1
      subst e0; subst e1
      cases h
      exact rtick_c i b f c s m w
    · cases h
  · cases h
noncomputable def G3 : Ev.Sum := Ev.addS 11 (tabS sNew) (Ev.addS 12 (Ev.pureS sRNew) (Ev.addS 15 (tabS sReset) (Ev.addS 16 (Ev.pureS sRReset) (Ev.addS 17 (Ev.pureS sHear) (Ev.addS 18 (Ev.pureS sRHear) (Ev.addS 13 (tabS sTick) (Ev.addS 14 (Ev.pureS sRTick) G2)))))))
theorem G3_ok : ∀ N w0, Ev.SumOk Tryd.prog N w0 G3 :=
  Ev.addS_ok (tabS_ok sNew_ok) (Ev.addS_ok (Ev.pureS_ok sRNew_ok) (Ev.addS_ok (tabS_ok sReset_ok) (Ev.addS_ok (Ev.pureS_ok sRReset_ok) (Ev.addS_ok (Ev.pureS_ok sHear_ok) (Ev.addS_ok (Ev.pureS_ok sRHear_ok) (Ev.addS_ok (tabS_ok sTick_ok) (Ev.addS_ok (Ev.pureS_ok sRTick_ok) G2_ok)))))))
end Go.Proofs.YtfigmjkogkfkiaaDoor
