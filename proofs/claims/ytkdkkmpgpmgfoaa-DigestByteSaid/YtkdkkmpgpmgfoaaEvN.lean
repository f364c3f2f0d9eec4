/- The evaluator: a loop as a piece of code of which is said what it does. No condition. -/
import Derived.Test.YtkdkkmpgpmgfoaaEvM
namespace Go.Proofs.Ytkdkkmpgpmgfoaa
open Go Go.RowKit
namespace Ev
def setC (M : List Ent) (d : Nat × Nat) (l : List Value) : List Ent := setE M d.1 (.cells (l.map fun _ => undef).toArray d.2) (.cells l.toArray d.2)
def setCs : List Ent → List (Nat × Nat) → List (List Value) → List Ent
  | M, d :: ds, l :: ls => setCs (setC M d l) ds ls
  | M, _, _ => M
def zipU : List Nat → List Value → List (Nat × Value × Value)
  | t :: ts, v :: vs => (t, undef, v) :: zipU ts vs
  | _, _ => []
def finL (fr : Fr) (st : St) (ts js : List Nat) (tds : List (Nat × Nat)) (r : Sup) (o : Outc) : Tree CR :=
  .leaf (o.x, ⟨fr.n, zipU ts o.vs ++ (junkS js r ++ fr.l), fr.df⟩, ⟨setCs st.M tds o.cs, st.nt⟩, fun i => r (i + js.length))
def claims {R : Type} : List (Nat × Nat) → Tree R → Tree R
  | [], t => t
  | (x, y) :: l, t => .claim x y (claims l t)
theorem claims_good {R : Type} {Q : R → Prop} {K : PK} {t : Tree R} : ∀ {l : List (Nat × Nat)}, (claims l t).good Q K → (∀ x ∈ l, x.1 = x.2) ∧ t.good Q K
  | [], h => ⟨fun x hx => (by cases hx), h⟩
  | (x, y) :: l, h => by
    obtain ⟨h1, h2⟩ := claims_good h.2
    refine ⟨fun z hz => ?_, h2⟩
    rcases List.mem_cons.1 hz with rfl | hz
    · exact h.1
    · exact h1 z hz
/-- numbers that must be the same, what a loop comes to, the blocks that it changes -/
abbrev Parsed := List (Nat × Nat) × Tree Outc × List (Nat × Nat)
noncomputable def loopK (ts js : List Nat) (fr : Fr) (st : St) (r : Sup) : Option Parsed → Tree CR
  | some (cl, O, tds) => claims cl (O.calm.bind (finL fr st ts js tds r))
  | none => .fail 91
abbrev Parse := Fr → St → Option Parsed
/-- a loop by what is said of it: slots with known values afterwards, slots that are lost -/
def loopD (t : Tree CR) : List (Deferred × Deferred) → Tree CR
  | [] => t
  | _ => .fail 96
noncomputable def loopS (ts js : List Nat) (parse : Parse) : EC := fun fr st r => loopD (loopK ts js fr st r (parse fr st)) fr.df
section
variable {P : Program} {N : Nat → Prop} {w0 w : World} {G : Sum}
structure RelX (N : Nat → Prop) (M : List Ent) (w : World) (X : List Nat) : Prop where
  ent : ∀ e ∈ M, (e.rw = true → ¬ N e.b ∧ e.own = true) ∧ (e.rw = false → N e.b ∨ e.Void) ∧ ((e.rw = true ∨ N e.b) → e.b ∉ X → e.Holds w)
  dist : M.Pairwise fun e f => e.rw = true → f.rw = true → e.b ≠ f.b
theorem RelX.step {M : List Ent} {X : List Nat} {d : Nat × Nat} {l : List Value} {e : Ent} (h : RelX N M w (e.b :: X)) (hf : find M d.1 = some e) (hrw : e.rw = true) (hc : e.cap = none) (hh : w.heap[e.b]? = some (.cells l.toArray d.2)) : RelX N (setC M d l) w X := by
  obtain ⟨pre, post, rfl, hs⟩ := find_split hf
  unfold setC
  rw [hs]
  obtain ⟨⟨hN, hown⟩, _, _⟩ := (fun x => ⟨x.1 hrw, x.2.1, x.2.2⟩ : _ → _ ∧ _ ∧ _) (h.ent e (by simp))
  have hd := h.dist
  simp only [List.pairwise_append, List.pairwise_cons, List.mem_cons] at hd
  obtain ⟨d1, ⟨d2, d3⟩, d4⟩ := hd
  have other : ∀ f, f ∈ pre ∨ f ∈ post → (f.rw = true ∨ N f.b) → f.b ≠ e.b := by
    intro f hf hh hb
    rcases hh with hr | hn
    · rcases hf with hf | hf
      · exact d4 f hf e (.inl rfl) hr hrw hb
      · exact d2 f hf hrw hr hb.symm
    · exact hN (hb ▸ hn)
  refine ⟨fun f hf => ?_, ?_⟩
  · simp only [List.mem_append, List.mem_cons] at hf
    have key : ∀ f, f ∈ pre ∨ f ∈ post → (f.rw = true → ¬ N f.b ∧ f.own = true) ∧ (f.rw = false → N f.b ∨ f.Void) ∧ ((f.rw = true ∨ N f.b) → f.b ∉ X → f.Holds w) := fun f hf => by
      obtain ⟨f1, f2, f3⟩ := h.ent f (by rcases hf with hf | hf <;> simp [hf])
      exact ⟨f1, f2, fun hs hX => f3 hs fun hm => by
        rcases List.mem_cons.1 hm with hm | hm
        · exact other f hf hs hm
        · exact hX hm⟩
    rcases hf with hf | rfl | hf
    · exact key f (.inl hf)
    · exact ⟨fun _ => ⟨hN, hown⟩, fun hr => (by simp only at hr; rw [hrw] at hr; cases hr), fun _ _ => own_holds hown ⟨hh, fun R hR => (by cases hR), fun cp k hk => (by simp only at hk; rw [hc] at hk; cases hk), fun R _ hR => (by cases hR)⟩⟩
    · exact key f (.inr hf)
  · simp only [List.pairwise_append, List.pairwise_cons, List.mem_cons]
    refine ⟨d1, ⟨fun f hf => d2 f hf, d3⟩, fun a ha b hb => ?_⟩
    rcases hb with rfl | hb
    · exact d4 a ha e (.inl rfl)
    · exact d4 a ha b (.inr hb)
theorem find_setE {l c : Obj} {t t' : Nat} (h : t ≠ t') : ∀ M : List Ent, find (setE M t l c) t' = find M t'
  | [] => rfl
  | e :: M => by
    simp only [setE]
    cases hb : Nat.beq e.tag t with
    | true =>
      have : Nat.beq e.tag t' = false := by
        have := Nat.eq_of_beq_eq_true hb
        cases hb' : Nat.beq e.tag t' with
        | false => rfl
        | true => exact absurd (this.symm.trans (Nat.eq_of_beq_eq_true hb')) h
      simp only [find, this]
    | false =>
      simp only [find]
      cases Nat.beq e.tag t' with
      | true => rfl
      | false => exact find_setE h M
/-- the blocks that a loop changes are there -/
def Found (M : List Ent) : List (Nat × Nat) → List CD → List (List Value) → Prop
  | [], [], [] => True
  | td :: tds, d :: ds, l :: ls => (∃ e, find M td.1 = some e ∧ e.rw = true ∧ e.b = d.2.1 ∧ e.cur = .cells l.toArray td.2 ∧ e.cap = none ∧ d.2.2 = td.2) ∧ (∀ x ∈ tds, x.1 ≠ td.1) ∧ Found M tds ds ls
  | _, _, _ => False
theorem found_set {l c : Obj} {t : Nat} : ∀ {tds : List (Nat × Nat)} {ds : List CD} {ls : List (List Value)} {M : List Ent}, (∀ x ∈ tds, x.1 ≠ t) → Found M tds ds ls → Found (setE M t l c) tds ds ls
  | [], [], [], _, _, _ => trivial
  | td :: tds, d :: ds, l :: ls, M, hn, h => by
    obtain ⟨⟨e, h1, h2⟩, h3, h4⟩ := h
    exact ⟨⟨e, by rw [find_setE (fun e => hn td (List.mem_cons_self ..) e.symm)]; exact h1, h2⟩, h3, found_set (fun x hx => hn x (List.mem_cons_of_mem _ hx)) h4⟩
  | [], [], _ :: _, _, _, h => h.elim
  | [], _ :: _, _, _, _, h => h.elim
  | _ :: _, [], _, _, _, h => h.elim
  | _ :: _, _ :: _, [], _, _, h => h.elim
theorem setCs_rel : ∀ {tds : List (Nat × Nat)} {ds : List CD} {ls : List (List Value)} {cs : List (List Value)} {M : List Ent}, Found M tds ds ls → RelX N M w (ds.map fun d => d.2.1) → CsOk w ds cs → RelX N (setCs M tds cs) w []
  | [], [], [], [], M, _, h, _ => h
  | td :: tds, d :: ds, l :: ls, c :: cs, M, hf, h, hc => by
    obtain ⟨⟨e, h1, h2, h3, h4, h5, h6⟩, h7, h8⟩ := hf
    have h' : RelX N M w (e.b :: ds.map fun d => d.2.1) := by rw [h3]; exact h
    have hs := h'.step (d := td) (l := c) h1 h2 h5 (by rw [h3, ← h6]; exact hc.1)
    show RelX N (setCs (setC M td c) tds cs) w []
    exact setCs_rel (M := setC M td c) (found_set (M := M) h7 h8) hs hc.2
  | [], [], [], _ :: _, _, _, _, hc => hc.elim
  | [], [], _ :: _, _, _, h, _, _ => h.elim
  | [], _ :: _, _, _, _, h, _, _ => h.elim
  | _ :: _, [], _, _, _, h, _, _ => h.elim
  | _ :: _, _ :: _, [], _, _, h, _, _ => h.elim
  | _ :: _, _ :: _, _ :: _, [], _, _, _, hc => hc.elim
theorem found_cs {nt : Nat} {M : List Ent} (hr : Rel N w0 ⟨M, nt⟩ w) : ∀ {tds : List (Nat × Nat)} {ds : List CD} {ls : List (List Value)}, Found M tds ds ls → CsOk w ds ls ∧ (∀ d ∈ ds, ¬ N d.2.1 ∧ ∃ td ∈ tds, ∃ e, find M td.1 = some e ∧ e.rw = true ∧ e.b = d.2.1) ∧ ds.Pairwise fun d e => d.2.1 ≠ e.2.1
  | [], [], [], _ => ⟨trivial, fun d hd => (by cases hd), List.Pairwise.nil⟩
  | td :: tds, d :: ds, l :: ls, h => by
    obtain ⟨⟨e, h1, h2, h3, h4, h5, h6⟩, h7, h8⟩ := h
    obtain ⟨i1, i2, i3⟩ := found_cs hr h8
    have hE := hr.ent e (find_mem h1)
    obtain ⟨hN, hown⟩ := hE.rw h2
    have := (hE.own hown).1
    rw [h3, h4] at this
    refine ⟨⟨by rw [h6]; exact this, i1⟩, fun d' hd' => ?_, List.pairwise_cons.2 ⟨fun d' hd' hb => ?_, i3⟩⟩
    · rcases List.mem_cons.1 hd' with rfl | hd'
      · exact ⟨h3 ▸ hN, td, List.mem_cons_self .., e, h1, h2, h3⟩
      · obtain ⟨j1, td', j2, j3⟩ := i2 d' hd'
        exact ⟨j1, td', List.mem_cons_of_mem _ j2, j3⟩
    · obtain ⟨j1, td', j2, e', j3, j4, j5⟩ := i2 d' hd'
      have hne : e ≠ e' := fun he => by
        have a1 := find_tag h1
        have a2 := find_tag j3
        rw [he] at a1
        exact h7 td' j2 (a2.symm.trans a1)
      have sym : ∀ a b : Ent, (a.rw = true → b.rw = true → a.b ≠ b.b) → (b.rw = true → a.rw = true → b.b ≠ a.b) := fun a b h h1 h2 e => h h2 h1 e.symm
      exact pairwise_two sym hr.dist e (find_mem h1) e' (find_mem j3) hne h2 j4 (by rw [h3, j5, hb])
  | [], [], _ :: _, h => h.elim
  | [], _ :: _, _, h => h.elim
  | _ :: _, [], _, h => h.elim
  | _ :: _, _ :: _, [], h => h.elim
theorem look_K2 {f : Nat → Value} {r : List (Nat × Value × Value)} {t : Nat} : ∀ K : List (Nat × Value × Value), (∀ x ∈ K, f x.1 = x.2.2) → ((∃ x ∈ K, x.1 = t) ∨ (lookL r t).2 = f t) → (lookL (K ++ r) t).2 = f t
  | [], _, h => by
    rcases h with ⟨x, hx, _⟩ | h
    · cases hx
    · exact h
  | x :: K, h, hr => by
    obtain ⟨d, v⟩ := x
    show (lookL ((d, v) :: (K ++ r)) t).2 = _
    rw [look_cons]
    by_cases hd : d = t
    · subst hd; rw [if_pos rfl]; exact (h _ (List.mem_cons_self ..)).symm
    · rw [if_neg hd]
      refine look_K2 K (fun x hx => h x (List.mem_cons_of_mem _ hx)) ?_
      rcases hr with ⟨x, hx, hxt⟩ | hr
      · rcases List.mem_cons.1 hx with rfl | hx
        · exact absurd hxt hd
        · exact .inl ⟨x, hx, hxt⟩
      · exact .inr hr
theorem zipU_map {f : Nat → Value} : ∀ ts : List Nat, zipU ts (ts.map f) = ts.map fun t => (t, undef, f t)
  | [] => rfl
  | t :: ts => by
    show (t, undef, f t) :: zipU ts (ts.map f) = _
    rw [zipU_map ts]; rfl
/-- what there is to show of a loop: from those slots and blocks on -/
structure LoopData (P : Program) (N : Nat → Prop) (w0 : World) (G : Sum) (id n m : Nat) (body : Code) (ts nj : List Nat) (fr : Fr) (st : St) (Ot : Tree Outc) (tds : List (Nat × Nat)) where
  σ : Type
  ds : List CD
  kh : List Value
  pk : List (Nat × Value × Value)
  V : List Ent
  Inv : σ → Prop
  μ : σ → Nat
  kv : σ → List Value
  cv : σ → List (List Value)
  O : σ → Tree Outc
  T : σ → Tree Outc
  s0 : σ
  hO : O s0 = Ot
  h0 : Inv s0
  hn : fr.n = n
  hv : (ts.map fun t => (lookL fr.l t).2) = kv s0
  hpk : ∀ x ∈ pk, x.1 ∈ nj ∧ (lookL fr.l x.1).2 = x.2.2
  hF : Found st.M tds ds (cv s0)
  hV : ∀ w, Rel N w0 st w → ∀ e ∈ V, e.rw = false ∧ (N e.b ∧ e.Holds w ∨ e.Void)
  hT1 : ∀ s jv r, Inv s → (bodyL P G m body n (zipH ts kh (kv s) ++ pk) ds (cv s) V ts nj jv r).lhs = (bodyL P G m body n (zipH ts kh (kv s) ++ pk) ds (cv s) V ts nj jv r).rhs
  hT2 : ∀ s jv r, Inv s → (bodyL P G m body n (zipH ts kh (kv s) ++ pk) ds (cv s) V ts nj jv r).noC = (T s).mapT fun o => (o, nj.map fun t => (lookL (zipH ts kh (kv s) ++ pk ++ junk jv n) t).2)
  hstep : ∀ s Qo, Inv s → (O s).good Qo → (T s).good (StepOk Inv μ kv cv O id s Qo)
/-- **a loop by what is said of it** -/
theorem loopS_ok (hG : ∀ N w0, SumOk P N w0 G) {id n m : Nat} {body : Code} {ts js nj : List Nat} {parse : Parse} (N : Nat → Prop) (w0 : World) (hpart : ∀ t, t < n → t ∈ ts ∨ t ∈ js ∨ t ∈ nj)
    (H : ∀ fr st cl Ot tds, parse fr st = some (cl, Ot, tds) → (∀ x ∈ cl, x.1 = x.2) → Nonempty (LoopData P N w0 G id n m body ts nj fr st Ot tds)) : CodeOk none P N w0 (.block id (.loop body)) (loopS ts js parse) := by
  intro fr st a w Q K Qx h hf hr hk
  obtain ⟨hdf, h'⟩ : fr.df = [] ∧ ∀ r, (loopK ts js fr st r (parse fr st)).good Q K := by
    have h' : ∀ r, (loopD (loopK ts js fr st r (parse fr st)) fr.df).good Q K := h
    cases hd : fr.df with
    | nil => rw [hd] at h'; exact ⟨rfl, h'⟩
    | cons _ _ => rw [hd] at h'; exact (h' r0).elim
  have hfd : a.defers = [] := by rw [hf.defers, hdf]; rfl
  cases hp : parse fr st with
  | none => rw [hp] at h'; exact (h' r0).elim
  | some p =>
    obtain ⟨cl, Ot, tds⟩ := p
    rw [hp] at h'
    have h2 : ∀ r, (∀ x ∈ cl, x.1 = x.2) ∧ (Ot.calm.bind (finL fr st ts js tds r)).good Q K := fun r => claims_good (h' r)
    obtain ⟨D⟩ := H fr st cl Ot tds hp (h2 r0).1
    obtain ⟨c1, c2, c3⟩ := found_cs hr D.hF
    have hgood : Ot.good (fun o => ∀ r, (finL fr st ts js tds r o).good Q K) := calm_good (K := K) _ (good_all fun r => (good_bind _ _).1 (h2 r).2)
    have hV : VOk w D.ds D.V := fun e he => by
      obtain ⟨q1, q2⟩ := D.hV w hr e he
      rcases q2 with ⟨q2, q3⟩ | q2
      · exact ⟨q1, .inl ⟨⟨hr.size _ q2, fun d hd hb => (c2 d hd).1 (hb ▸ q2)⟩, q3⟩⟩
      · exact ⟨q1, .inr q2⟩
    have hA : At a w ts nj D.ds (D.kv D.s0) (D.cv D.s0) a w :=
      ⟨rfl, hfd, by rw [← D.hv]; exact List.map_congr_left fun t _ => hf.get t, fun _ _ => rfl, Keep.refl _ _, c1⟩
    refine loop_core hG D.hT1 D.hT2 (fun s hI => D.hstep s _ hI) (hf.size.trans D.hn) (fun x hx => ⟨(D.hpk x hx).1, by rw [hf.get]; exact (D.hpk x hx).2⟩) c3 hV D.s0 D.h0 hA (by rw [D.hO]; exact hgood) ?_
    intro o a' w' hq hAt
    refine hk o.x ⟨fr.n, zipU ts o.vs ++ ((js.map fun t => (t, undef, a'.tmps.getD t undef)) ++ fr.l), fr.df⟩ ⟨setCs st.M tds o.cs, st.nt⟩ a' w' (fun r => ?_) ?_ ?_
    · have := hq (supOf js (fun t => a'.tmps.getD t undef) r)
      unfold finL at this
      rw [junkS_sup, supOf_tl] at this
      exact this
    · refine ⟨hAt.size.trans hf.size, fun t => ?_, by show a'.defers = fr.df.map Prod.snd; rw [hdf, hAt.defers]; rfl⟩
      rw [← hAt.vals, zipU_map, ← List.append_assoc]
      refine (look_K2 (f := fun t => a'.tmps.getD t undef) _ (fun x hx => ?_) ?_).symm
      · rcases List.mem_append.1 hx with hx | hx <;> obtain ⟨t', _, rfl⟩ := List.mem_map.1 hx <;> rfl
      · by_cases ht : t < n
        · rcases hpart t ht with h | h | h
          · exact .inl ⟨(t, undef, a'.tmps.getD t undef), List.mem_append_left _ (List.mem_map.2 ⟨t, h, rfl⟩), rfl⟩
          · exact .inl ⟨(t, undef, a'.tmps.getD t undef), List.mem_append_right _ (List.mem_map.2 ⟨t, h, rfl⟩), rfl⟩
          · right; rw [← hf.get t]; exact (hAt.rest t h).symm
        · right
          have e1 : a.tmps.getD t undef = undef := by rw [Array.getD_eq_getD_getElem?, Array.getElem?_eq_none (by rw [hf.size, D.hn]; omega)]; rfl
          have e2 : a'.tmps.getD t undef = undef := by rw [Array.getD_eq_getD_getElem?, Array.getElem?_eq_none (by rw [hAt.size, hf.size, D.hn]; omega)]; rfl
          rw [← hf.get t, e1, e2]
    · have hX : RelX N st.M w' (D.ds.map fun d => d.2.1) := by
        refine ⟨fun e he => ?_, hr.dist⟩
        have hE := hr.ent e he
        refine ⟨hE.rw, hE.ro, fun hs hX => ?_⟩
        have hlt : e.b < w.heap.size := by
          rcases hs with hrw | hn
          · exact heap_lt (hE.own (hE.rw hrw).2).1
          · exact hr.size _ hn
        have hb := hAt.keep.block e.b ⟨hlt, fun d hd hdb => hX (List.mem_map.2 ⟨d, hd, hdb⟩)⟩
        exact hE.toHolds.same hb
      have hR := setCs_rel D.hF hX hAt.cs
      refine ⟨fun e he => ?_, hR.dist, ⟨hAt.keep.os.trans hr.low.os, hAt.keep.tape.trans hr.low.tape, hAt.keep.output.trans hr.low.output, Nat.le_trans hr.low.size hAt.keep.size, fun k hk => ?_⟩, fun k hk => Nat.lt_of_lt_of_le (hr.size k hk) hAt.keep.size⟩
      · obtain ⟨e1, e2, e3⟩ := hR.ent e he
        cases hrw : e.rw with
        | true => exact ⟨e3 (.inl hrw) (by simp), e1, e2⟩
        | false =>
          rcases e2 hrw with hn | hv
          · exact ⟨e3 (.inr hn) (by simp), e1, e2⟩
          · exact ⟨hv.holds w', e1, e2⟩
      · rw [hAt.keep.block k ⟨hr.size k hk, fun d hd hdb => (c2 d hd).1 (hdb ▸ hk)⟩]
        exact hr.low.block k hk
end
end Ev
end Go.Proofs.Ytkdkkmpgpmgfoaa
