/- The evaluator: a loop as a piece of code of which is said what it does. No condition. -/
import Derived.Test.YtbpnmjjmllgehaaEvM
namespace Go.Proofs.Ytbpnmjjmllgehaa
open Go Go.RowKit
namespace Ev
def setC (M : List Ent) (d : Nat × Nat) (l : List Value) : List Ent := setE M d.1 (.cells (l.map fun _ => undef).toArray d.2) (.cells l.toArray d.2)
def setCs : List Ent → List (Nat × Nat) → List (List Value) → List Ent
  | M, d :: ds, l :: ls => setCs (setC M d l) ds ls
  | M, _, _ => M
def zipU : List Nat → List Value → List (Nat × Value × Value)
  | t :: ts, v :: vs => (t, undef, v) :: zipU ts vs
  | _, _ => []
def claims {R : Type} : List (Nat × Nat) → Tree R → Tree R
  | [], t => t
  | (x, y) :: l, t => .claim x y (claims l t)
theorem claims_good {R : Type} {Q : R → Prop} {K : PK} {t : Tree R} : ∀ {l : List (Nat × Nat)}, (claims l t).good Q K → (∀ x ∈ l, x.1 = x.2) ∧ t.good Q K
  | [], h => ⟨fun x hx => (by cases hx), h⟩
  | (x, y) :: l, h => by
    obtain ⟨h1, h2⟩ := claims_good h.2
    refine ⟨fun z hz => ?_, h2⟩
    rcases List.mem_cons.1 hz with rfl | hz
    · exact h.1
    · exact h1 z hz
/-- a loop by what is said of it: slots with known values afterwards, slots that are lost -/
def loopD (t : Tree CR) : List (Deferred × Deferred) → Tree CR
  | [] => t
  | _ => .fail 96
section
variable {P : Program} {N : Nat → Prop} {w0 w : World} {G : Sum}
structure RelX (N : Nat → Prop) (M : List Ent) (w : World) (X : List Nat) : Prop where
  ent : ∀ e ∈ M, (e.rw = true → ¬ N e.b ∧ e.own = true) ∧ (e.rw = false → N e.b ∨ e.Void) ∧ ((e.rw = true ∨ N e.b) → e.b ∉ X → e.Holds w)
  dist : M.Pairwise fun e f => e.rw = true → f.rw = true → e.b ≠ f.b
theorem RelX.step {M : List Ent} {X : List Nat} {d : Nat × Nat} {l : List Value} {e : Ent} (h : RelX N M w (e.b :: X)) (hf : find M d.1 = some e) (hrw : e.rw = true) (hc : e.cap = none) (hh : w.heap[e.b]? = some (.cells l.toArray d.2)) : RelX N (setC M d l) w X := by
  obtain ⟨pre, post, rfl, hs⟩ := find_split hf
  unfold setC
  rw [hs]
  obtain ⟨⟨hN, hown⟩, _, _⟩ := (fun x => ⟨x.1 hrw, x.2.1, x.2.2⟩ : _ → _ ∧ _ ∧ _) (h.ent e (by simp))
  have hd := h.dist
  simp only [List.pairwise_append, List.pairwise_cons, List.mem_cons] at hd
  obtain ⟨d1, ⟨d2, d3⟩, d4⟩ := hd
  have other : ∀ f, f ∈ pre ∨ f ∈ post → (f.rw = true ∨ N f.b) → f.b ≠ e.b := by
    intro f hf hh hb
    rcases hh with hr | hn
    · rcases hf with hf | hf
      · exact d4 f hf e (.inl rfl) hr hrw hb
      · exact d2 f hf hrw hr hb.symm
    · exact hN (hb ▸ hn)
  refine ⟨fun f hf => ?_, ?_⟩
  · simp only [List.mem_append, List.mem_cons] at hf
    have key : ∀ f, f ∈ pre ∨ f ∈ post → (f.rw = true → ¬ N f.b ∧ f.own = true) ∧ (f.rw = false → N f.b ∨ f.Void) ∧ ((f.rw = true ∨ N f.b) → f.b ∉ X → f.Holds w) := fun f hf => by
      obtain ⟨f1, f2, f3⟩ := h.ent f (by rcases hf with hf | hf <;> simp [hf])
      exact ⟨f1, f2, fun hs hX => f3 hs fun hm => by
        rcases List.mem_cons.1 hm with hm | hm
        · exact other f hf hs hm
        · exact hX hm⟩
    rcases hf with hf | rfl | hf
    · exact key f (.inl hf)
    · exact ⟨fun _ => ⟨hN, hown⟩, fun hr => (by simp only at hr; rw [hrw] at hr; cases hr), fun _ _ => own_holds hown ⟨hh, fun R hR => (by cases hR), fun cp k hk => (by simp only at hk; rw [hc] at hk; cases hk), fun R _ hR => (by cases hR)⟩⟩
    · exact key f (.inr hf)
  · simp only [List.pairwise_append, List.pairwise_cons, List.mem_cons]
    refine ⟨d1, ⟨fun f hf => d2 f hf, d3⟩, fun a ha b hb => ?_⟩
    rcases hb with rfl | hb
    · exact d4 a ha e (.inl rfl)
    · exact d4 a ha b (.inr hb)
theorem find_setE {l c : Obj} {t t' : Nat} (h : t ≠ t') : ∀ M : List Ent, find (setE M t l c) t' = find M t'
  | [] => rfl
  | e :: M => by
    simp only [setE]
    cases hb : Nat.beq e.tag t with
    | true =>
      have : Nat.beq e.tag t' = false := by
        have := Nat.eq_of_beq_eq_true hb
        cases hb' : Nat.beq e.tag t' with
        | false => rfl
        | true => exact absurd (this.symm.trans (Nat.eq_of_beq_eq_true hb')) h
      simp only [find, this]
    | false =>
      simp only [find]
      cases Nat.beq e.tag t' with
      | true => rfl
      | false => exact find_setE h M
/-- the blocks that a loop changes are there -/
def Found (M : List Ent) : List (Nat × Nat) → List CD → List (List Value) → Prop
  | [], [], [] => True
  | td :: tds, d :: ds, l :: ls => (∃ e, find M td.1 = some e ∧ e.rw = true ∧ e.b = d.2.1 ∧ e.cur = .cells l.toArray td.2 ∧ e.cap = none ∧ d.2.2 = td.2) ∧ (∀ x ∈ tds, x.1 ≠ td.1) ∧ Found M tds ds ls
  | _, _, _ => False
theorem found_set {l c : Obj} {t : Nat} : ∀ {tds : List (Nat × Nat)} {ds : List CD} {ls : List (List Value)} {M : List Ent}, (∀ x ∈ tds, x.1 ≠ t) → Found M tds ds ls → Found (setE M t l c) tds ds ls
  | [], [], [], _, _, _ => trivial
  | td :: tds, d :: ds, l :: ls, M, hn, h => by
    obtain ⟨⟨e, h1, h2⟩, h3, h4⟩ := h
    exact ⟨⟨e, by rw [find_setE (fun e => hn td (List.mem_cons_self ..) e.symm)]; exact h1, h2⟩, h3, found_set (fun x hx => hn x (List.mem_cons_of_mem _ hx)) h4⟩
  | [], [], _ :: _, _, _, h => h.elim
  | [], _ :: _, _, _, _, h => h.elim
  | _ :: _, [], _, _, _, h => h.elim
  | _ :: _, _ :: _, [], _, _, h => h.elim
theorem setCs_rel : ∀ {tds : List (Nat × Nat)} {ds : List CD} {ls : List (List Value)} {cs : List (List Value)} {M : List Ent}, Found M tds ds ls → RelX N M w (ds.map fun d => d.2.1) → CsOk w ds cs → RelX N (setCs M tds cs) w []
  | [], [], [], [], M, _, h, _ => h
  | td :: tds, d :: ds, l :: ls, c :: cs, M, hf, h, hc => by
    obtain ⟨⟨e, h1, h2, h3, h4, h5, h6⟩, h7, h8⟩ := hf
    have h' : RelX N M w (e.b :: ds.map fun d => d.2.1) := by rw [h3]; exact h
    have hs := h'.step (d := td) (l := c) h1 h2 h5 (by rw [h3, ← h6]; exact hc.1)
    show RelX N (setCs (setC M td c) tds cs) w []
    exact setCs_rel (M := setC M td c) (found_set (M := M) h7 h8) hs hc.2
  | [], [], [], _ :: _, _, _, _, hc => hc.elim
  | [], [], _ :: _, _, _, h, _, _ => h.elim
  | [], _ :: _, _, _, _, h, _, _ => h.elim
  | _ :: _, [], _, _, _, h, _, _ => h.elim
  | _ :: _, _ :: _, [], _, _, h, _, _ => h.elim
  | _ :: _, _ :: _, _ :: _, [], _, _, _, hc => hc.elim
theorem found_cs {nt : Nat} {M : List Ent} (hr : RelB N w0 ⟨M, nt⟩ w) : ∀ {tds : List (Nat × Nat)} {ds : List CD} {ls : List (List Value)}, Found M tds ds ls → CsOk w ds ls ∧ (∀ d ∈ ds, ¬ N d.2.1 ∧ ∃ td ∈ tds, ∃ e, find M td.1 = some e ∧ e.rw = true ∧ e.b = d.2.1) ∧ ds.Pairwise fun d e => d.2.1 ≠ e.2.1
  | [], [], [], _ => ⟨trivial, fun d hd => (by cases hd), List.Pairwise.nil⟩
  | td :: tds, d :: ds, l :: ls, h => by
    obtain ⟨⟨e, h1, h2, h3, h4, h5, h6⟩, h7, h8⟩ := h
    obtain ⟨i1, i2, i3⟩ := found_cs hr h8
    have hE := hr.ent e (find_mem h1)
    obtain ⟨hN, hown⟩ := hE.rw h2
    have := (hE.own hown).1
    rw [h3, h4] at this
    refine ⟨⟨by rw [h6]; exact this, i1⟩, fun d' hd' => ?_, List.pairwise_cons.2 ⟨fun d' hd' hb => ?_, i3⟩⟩
    · rcases List.mem_cons.1 hd' with rfl | hd'
      · exact ⟨h3 ▸ hN, td, List.mem_cons_self .., e, h1, h2, h3⟩
      · obtain ⟨j1, td', j2, j3⟩ := i2 d' hd'
        exact ⟨j1, td', List.mem_cons_of_mem _ j2, j3⟩
    · obtain ⟨j1, td', j2, e', j3, j4, j5⟩ := i2 d' hd'
      have hne : e ≠ e' := fun he => by
        have a1 := find_tag h1
        have a2 := find_tag j3
        rw [he] at a1
        exact h7 td' j2 (a2.symm.trans a1)
      have sym : ∀ a b : Ent, (a.rw = true → b.rw = true → a.b ≠ b.b) → (b.rw = true → a.rw = true → b.b ≠ a.b) := fun a b h h1 h2 e => h h2 h1 e.symm
      exact pairwise_two sym hr.dist e (find_mem h1) e' (find_mem j3) hne h2 j4 (by rw [h3, j5, hb])
  | [], [], _ :: _, h => h.elim
  | [], _ :: _, _, h => h.elim
  | _ :: _, [], _, h => h.elim
  | _ :: _, _ :: _, [], h => h.elim
theorem look_K2 {f : Nat → Value} {r : List (Nat × Value × Value)} {t : Nat} : ∀ K : List (Nat × Value × Value), (∀ x ∈ K, f x.1 = x.2.2) → ((∃ x ∈ K, x.1 = t) ∨ (lookL r t).2 = f t) → (lookL (K ++ r) t).2 = f t
  | [], _, h => by
    rcases h with ⟨x, hx, _⟩ | h
    · cases hx
    · exact h
  | x :: K, h, hr => by
    obtain ⟨d, v⟩ := x
    show (lookL ((d, v) :: (K ++ r)) t).2 = _
    rw [look_cons]
    by_cases hd : d = t
    · subst hd; rw [if_pos rfl]; exact (h _ (List.mem_cons_self ..)).symm
    · rw [if_neg hd]
      refine look_K2 K (fun x hx => h x (List.mem_cons_of_mem _ hx)) ?_
      rcases hr with ⟨x, hx, hxt⟩ | hr
      · rcases List.mem_cons.1 hx with rfl | hx
        · exact absurd hxt hd
        · exact .inl ⟨x, hx, hxt⟩
      · exact .inr hr
theorem zipU_map {f : Nat → Value} : ∀ ts : List Nat, zipU ts (ts.map f) = ts.map fun t => (t, undef, f t)
  | [] => rfl
  | t :: ts => by
    show (t, undef, f t) :: zipU ts (ts.map f) = _
    rw [zipU_map ts]; rfl
end
end Ev
end Go.Proofs.Ytbpnmjjmllgehaa
