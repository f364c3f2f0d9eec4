/- The evaluator: loops with rows, by what is said of them. No condition. -/
import Derived.Test.YtbpnmjjmllgehaaEvY
namespace Go.Proofs.Ytbpnmjjmllgehaa
open Go Go.RowKit
namespace Ev
def retag (nt : Nat) : List RD → List RD
  | [] => []
  | d :: ds => { d with tag := nt } :: retag (nt + 1) ds
def supB : List RD → Sup → List RB
  | [], _ => []
  | _ :: ds, r => ⟨obV (r 0).2, (r 0).1, arV (r 1).2⟩ :: supB ds r.tl.tl
def supR : List RD → Sup → Sup
  | [], r => r
  | _ :: ds, r => supR ds r.tl.tl
def mkSup : List RB → Sup → Sup
  | [], r => r
  | b :: bs, r => fun i => match i with
    | 0 => (b.c, match b.o with | some x => .slice (some ⟨x, 0, none⟩) 0 0 | none => undef)
    | 1 => (0, .agg b.A)
    | i + 2 => mkSup bs r i
theorem supB_mk : ∀ {rds : List RD} {bs : List RB} {r : Sup}, bs.length = rds.length → supB rds (mkSup bs r) = bs ∧ supR rds (mkSup bs r) = r
  | [], [], _, _ => ⟨rfl, rfl⟩
  | _ :: ds, ⟨o, c, A⟩ :: bs, r, h => by
    obtain ⟨h1, h2⟩ := supB_mk (rds := ds) (bs := bs) (r := r) (by simpa using h)
    have e : (mkSup (⟨o, c, A⟩ :: bs) r).tl.tl = mkSup bs r := rfl
    simp only [supB, supR, e]
    rw [h1, h2]
    refine ⟨?_, rfl⟩
    congr 1
    cases o <;> rfl
  | [], _ :: _, _, h => by simp at h
  | _ :: _, [], _, h => by simp at h
def dropL (M : List Ent) (rms : List Nat) : List Ent := M.filter fun e => !hasT rms e.tag
def finX (rds : List RD) (fr : Fr) (st : St) (ts js : List Nat) (tds : List (Nat × Nat)) (rms : List Nat) (r : Sup) (o : Out2) : Tree CR :=
  .leaf (o.x, ⟨fr.n, zipU ts o.vs ++ (rSlots (retag st.nt rds) o.rs (supB rds r) ++ (junkS js (supR rds r) ++ fr.l)), fr.df⟩, ⟨rEnts (retag st.nt rds) o.rs (supB rds r) ++ setCs (dropL st.M rms) tds o.cs, st.nt + rds.length⟩, fun i => supR rds r (i + js.length))
/-- numbers that must be the same, what a loop comes to, the blocks that it changes, the rows that it changes -/
structure Parsed2 where
  cl : List (Nat × Nat)
  pre : List Bool
  O : Tree Out2
  tds : List (Nat × Nat)
  rms : List Nat
def ites {R : Type} : List Bool → Tree R → Tree R
  | [], t => t
  | b :: l, t => .ite b (ites l t) (.fail 92)
theorem ites_good {R : Type} {Q : R → Prop} {K : PK} {t : Tree R} : ∀ {l : List Bool}, (ites l t).good Q K → (∀ b ∈ l, b = true) ∧ t.good Q K
  | [], h => ⟨fun b hb => (by cases hb), h⟩
  | b :: l, h => by
    cases b with
    | false => exact (h.2 rfl).elim
    | true =>
      obtain ⟨h1, h2⟩ := ites_good (h.1 rfl)
      refine ⟨fun c hc => ?_, h2⟩
      rcases List.mem_cons.1 hc with rfl | hc
      · rfl
      · exact h1 c hc
noncomputable def loopK2 (rds : List RD) (ts js : List Nat) (fr : Fr) (st : St) (r : Sup) : Option Parsed2 → Tree CR
  | some p => clm p.cl (ites p.pre (p.O.calm.bind (finX rds fr st ts js p.tds p.rms r)))
  | none => .fail 91
abbrev Parse2 := Fr → St → Option Parsed2
/-- a loop by what is said of it: slots with known values afterwards, rows, slots that are lost -/
noncomputable def loopX (rds : List RD) (ts js : List Nat) (parse : Parse2) : EC := fun fr st r => loopD (loopK2 rds ts js fr st r (parse fr st)) fr.df
/-- the blocks that a loop changes are there -/
def Found2 (M : List Ent) : List (Nat × Nat) → List CD → List (List Value) → Prop := Found M
def FoundO (M : List Ent) : List Nat → List OD → Prop
  | [], [] => True
  | t :: ts, d :: ds => (∃ e, find M t = some e ∧ e.rw = true ∧ e.b = d.b ∧ e.cur = d.o) ∧ FoundO M ts ds
  | _, _ => False
/-- the rows that a loop changes are there -/
def FoundR (fr : Fr) (st : St) : List RD → List RV → List (Option Nat) → Prop
  | [], [], [] => True
  | d :: ds, v :: vs, rm :: rms => (∃ a, apS st.M d.k d.e (lookL fr.l d.t) = some a ∧ (∀ y ∈ a.ok, y.1 = y.2) ∧ a.n = v.n ∧ (∀ j c, j < v.n → c < d.k → v.g j c = apF d.k a.c j c) ∧ a.rm = rm) ∧ FoundR fr st ds vs rms
  | _, _, _ => False
def rmL (rms : List (Option Nat)) : List Nat := rms.filterMap id
/-- what there is to show of a loop: from those slots and blocks on -/
structure LoopX (P : Program) (G : Sum) (LF : LTF) (L : LT) (id n m : Nat) (body : Code) (rds : List RD) (ts nj : List Nat) (fr : Fr) (st : St) (Ot : Tree Out2) (tds : List (Nat × Nat)) (rms : List Nat) where
  σ : Type
  ds : List CD
  os : List OD
  otags : List Nat
  ro : List (Option Nat)
  kh : List Value
  pk : List (Nat × Value × Value)
  V : List Ent
  Inv : σ → Prop
  μ : σ → Nat
  kv : σ → List Value
  cv : σ → List (List Value)
  rv : σ → List RV
  O : σ → Tree Out2
  T : σ → Tree Out2
  s0 : σ
  hO : O s0 = Ot
  h0 : Inv s0
  hn : fr.n = n
  hv : (ts.map fun t => (lookL fr.l t).2) = kv s0
  hpk : ∀ x ∈ pk, x.1 ∈ nj ∧ (lookL fr.l x.1).2 = x.2.2
  hF : Found st.M tds ds (cv s0)
  hFo : FoundO st.M otags os
  hR : FoundR fr st rds (rv s0) ro
  hrm : rms = rmL ro
  hnd : nodupT (tds.map Prod.fst ++ (otags ++ rmL ro)) = true
  hV : ∀ (N : Nat → Prop) (w0 w : World), RelB N w0 st w → ∀ e ∈ V, e.rw = false ∧ ((e.Holds w ∧ ∃ e' ∈ st.M, e'.b = e.b ∧ (e'.rw = true ∧ e'.tag ∉ tds.map Prod.fst ++ (otags ++ rmL ro) ∨ N e'.b)) ∨ e.Void)
  hT1 : ∀ s bs jv r, Inv s → bs.length = rds.length → (bodyX P G LF L m body n (zipH ts kh (kv s) ++ pk) ds (cv s) os rds (rv s) bs V ts nj jv r).lhs = (bodyX P G LF L m body n (zipH ts kh (kv s) ++ pk) ds (cv s) os rds (rv s) bs V ts nj jv r).rhs
  hT2 : ∀ s bs jv r, Inv s → bs.length = rds.length → (bodyX P G LF L m body n (zipH ts kh (kv s) ++ pk) ds (cv s) os rds (rv s) bs V ts nj jv r).noC = (T s).mapT fun o => (o, nj.map fun t => (lookL (zipH ts kh (kv s) ++ pk ++ (rSlots rds (rv s) bs ++ junk jv n)) t).2, os.map fun d => d.o)
  hstep : ∀ s Qo, Inv s → (O s).good Qo → (T s).good (StepX rds Inv μ kv cv rv O id s Qo)
section
variable {P : Program} {N : Nat → Prop} {w0 w : World} {G : Sum} {LF : LTF}
theorem foundR_ok {fr : Fr} {st : St} (hr : RelB N w0 st w) : ∀ {rds : List RD} {vs : List RV} {rms : List (Option Nat)}, (∀ d ∈ rds, 0 < d.k) → FoundR fr st rds vs rms →
    ∃ (bs : List RB) (al : List (Nat × Nat)), (al.map Prod.fst).Sublist (rmL rms) ∧ al.map Prod.snd = rBl bs ∧ (∀ p ∈ al, Anch st.M p) ∧ RsOk w rds vs bs ∧ (rds.map fun d => (lookL fr.l d.t).2) = List.zipWith rVal vs bs
  | [], [], [], _, _ => ⟨[], [], .slnil, rfl, fun p hp => (by cases hp), trivial, rfl⟩
  | d :: ds, ⟨vn, vg⟩ :: vs, rm :: rms, hk, h => by
    obtain ⟨⟨a, ha, h1, h2, h3, h4⟩, h5⟩ := h
    simp only at h2 h3
    subst h2 h4
    obtain ⟨bs, al, q1, q2, q3, q4, q5⟩ := foundR_ok hr (fun d hd => hk d (List.mem_cons_of_mem _ hd)) h5
    obtain ⟨b, p1, p2, p3⟩ := row_one hr (hk d (List.mem_cons_self ..)) ha h1
    have p1' : RowOk1 w d ⟨a.n, vg⟩ b := by
      have := (RvEq.ok (rds := [d]) (vs := [⟨a.n, vg⟩]) (us := [⟨a.n, apF d.k a.c⟩]) (bs := [b]) ⟨⟨rfl, h3⟩, trivial⟩ ⟨p1, trivial⟩).1
      exact this.1
    rcases p3 with p3 | ⟨tag, b0, p4, p5, p6⟩
    · refine ⟨b :: bs, al, q1.trans ?_, ?_, q3, ⟨p1', q4⟩, ?_⟩
      · unfold rmL
        cases hrm : a.rm with
        | none => simp
        | some t => simp
      · rw [q2]; unfold rBl; rw [List.filterMap_cons, p3]
      · simp only [List.map_cons, List.zipWith_cons_cons, p2, q5]
        rfl
    · refine ⟨b :: bs, (tag, b0) :: al, ?_, ?_, fun p hp => ?_, ⟨p1', q4⟩, ?_⟩
      · unfold rmL
        rw [p4]
        simp only [List.map_cons, List.filterMap_cons, id]
        exact q1.cons_cons _
      · simp only [List.map_cons, q2]; unfold rBl; rw [List.filterMap_cons, p5]
      · rcases List.mem_cons.1 hp with rfl | hp
        · exact p6
        · exact q3 p hp
      · simp only [List.map_cons, List.zipWith_cons_cons, p2, q5]
        rfl
  | [], [], _ :: _, _, h => h.elim
  | [], _ :: _, _, _, h => h.elim
  | _ :: _, [], _, _, h => h.elim
  | _ :: _, _ :: _, [], _, h => h.elim
theorem foundO_ok {st : St} (hr : RelB N w0 st w) : ∀ {ts : List Nat} {os : List OD}, FoundO st.M ts os → OsOk w os ∧ (∀ p ∈ List.zip ts (os.map fun d => d.b), Anch st.M p) ∧ ts.length = os.length
  | [], [], _ => ⟨fun d hd => (by cases hd), fun p hp => (by cases hp), rfl⟩
  | t :: ts, d :: os, h => by
    obtain ⟨⟨e, h1, h2, h3, h4⟩, h5⟩ := h
    obtain ⟨i1, i2, i3⟩ := foundO_ok hr h5
    refine ⟨fun d' hd' => ?_, fun p hp => ?_, by simp [i3]⟩
    · rcases List.mem_cons.1 hd' with rfl | hd'
      · have hE := hr.ent e (find_mem h1)
        have := (hE.own (hE.rw h2).2).1
        rw [h3, h4] at this
        exact this
      · exact i1 d' hd'
    · simp only [List.map_cons, List.zip_cons_cons] at hp
      rcases List.mem_cons.1 hp with rfl | hp
      · exact ⟨e, h1, h2, h3⟩
      · exact i2 p hp
  | [], _ :: _, h => h.elim
  | _ :: _, [], h => h.elim
theorem found_anch {M : List Ent} : ∀ {tds : List (Nat × Nat)} {ds : List CD} {ls : List (List Value)}, Found M tds ds ls → (∀ p ∈ List.zip (tds.map Prod.fst) (ds.map fun d => d.2.1), Anch M p) ∧ tds.length = ds.length
  | [], [], [], _ => ⟨fun p hp => (by cases hp), rfl⟩
  | td :: tds, d :: ds, l :: ls, h => by
    obtain ⟨⟨e, h1, h2, h3, _⟩, _, h8⟩ := h
    obtain ⟨i1, i2⟩ := found_anch h8
    refine ⟨fun p hp => ?_, by simp [i2]⟩
    simp only [List.map_cons, List.zip_cons_cons] at hp
    rcases List.mem_cons.1 hp with rfl | hp
    · exact ⟨e, h1, h2, h3⟩
    · exact i1 p hp
  | [], [], _ :: _, h => h.elim
  | [], _ :: _, _, h => h.elim
  | _ :: _, [], _, h => h.elim
  | _ :: _, _ :: _, [], h => h.elim
theorem find_dropL {rms : List Nat} {t : Nat} (h : t ∉ rms) : ∀ M : List Ent, find (dropL M rms) t = find M t
  | [] => rfl
  | e :: M => by
    have ih := find_dropL h M
    unfold dropL at ih ⊢
    simp only [List.filter_cons]
    cases hb : Nat.beq e.tag t with
    | true =>
      have het := Nat.eq_of_beq_eq_true hb
      have : hasT rms e.tag = false := by
        cases hh : hasT rms e.tag with
        | false => rfl
        | true => rw [het] at hh; exact absurd (hasT_mem.1 hh) h
      simp only [this, Bool.not_false, if_true, find, hb]
    | false =>
      cases hh : hasT rms e.tag with
      | false => simp only [Bool.not_false, if_true, find, hb, ih]
      | true => simp only [Bool.not_true, Bool.false_eq_true, if_false, find, hb, ih]
theorem found_dropL {rms : List Nat} {M : List Ent} : ∀ {tds : List (Nat × Nat)} {ds : List CD} {ls : List (List Value)}, (∀ x ∈ tds, x.1 ∉ rms) → Found M tds ds ls → Found (dropL M rms) tds ds ls
  | [], [], [], _, _ => trivial
  | td :: tds, d :: ds, l :: ls, hn, h => by
    obtain ⟨⟨e, h1, h2⟩, h7, h8⟩ := h
    exact ⟨⟨e, by rw [find_dropL (hn td (List.mem_cons_self ..))]; exact h1, h2⟩, h7, found_dropL (fun x hx => hn x (List.mem_cons_of_mem _ hx)) h8⟩
  | [], [], _ :: _, _, h => h.elim
  | [], _ :: _, _, _, h => h.elim
  | _ :: _, [], _, _, h => h.elim
  | _ :: _, _ :: _, [], _, h => h.elim
theorem zip_fst {A B : Type} : ∀ {l : List A} {m : List B}, l.length = m.length → (List.zip l m).map Prod.fst = l ∧ (List.zip l m).map Prod.snd = m
  | [], [], _ => ⟨rfl, rfl⟩
  | _ :: l, _ :: m, h => by
    obtain ⟨h1, h2⟩ := zip_fst (l := l) (m := m) (by simpa using h)
    simp only [List.zip_cons_cons, List.map_cons, h1, h2, and_self]
  | [], _ :: _, h => by simp at h
  | _ :: _, [], h => by simp at h
theorem setCs_mem {e : Ent} : ∀ {tds : List (Nat × Nat)} {cs : List (List Value)} {M : List Ent}, e ∈ setCs M tds cs → ∃ f ∈ M, f.b = e.b ∧ f.tag = e.tag ∧ f.rw = e.rw
  | [], _, M, h => ⟨e, h, rfl, rfl, rfl⟩
  | _ :: _, [], M, h => ⟨e, h, rfl, rfl, rfl⟩
  | d :: tds, l :: cs, M, h => by
    obtain ⟨f, h1, h2, h3, h4⟩ := setCs_mem (M := setC M d l) h
    have : ∀ {M : List Ent} {l c : Obj} {t : Nat} {f : Ent}, f ∈ setE M t l c → ∃ g ∈ M, g.b = f.b ∧ g.tag = f.tag ∧ g.rw = f.rw := by
      intro M
      induction M with
      | nil => intro l c t f hf; cases hf
      | cons g M ih =>
        intro l c t f hf
        simp only [setE] at hf
        cases hb : Nat.beq g.tag t with
        | true =>
          rw [hb] at hf
          rcases List.mem_cons.1 hf with rfl | hf
          · exact ⟨g, List.mem_cons_self .., rfl, rfl, rfl⟩
          · exact ⟨f, List.mem_cons_of_mem _ hf, rfl, rfl, rfl⟩
        | false =>
          rw [hb] at hf
          rcases List.mem_cons.1 hf with rfl | hf
          · exact ⟨f, List.mem_cons_self .., rfl, rfl, rfl⟩
          · obtain ⟨x, x1, x2⟩ := ih hf
            exact ⟨x, List.mem_cons_of_mem _ x1, x2⟩
    obtain ⟨g, g1, g2, g3, g4⟩ := this h1
    exact ⟨g, g1, g2.trans h2, g3.trans h3, g4.trans h4⟩
theorem retag_ok {w : World} : ∀ {rds : List RD} {rs : List RV} {bs : List RB} (nt : Nat), RsOk w rds rs bs → RsOk w (retag nt rds) rs bs
  | [], [], [], _, _ => trivial
  | d :: ds, v :: vs, b :: bs, nt, h => by
    refine ⟨⟨h.1.1, fun b0 hb => ?_⟩, retag_ok (nt + 1) h.2⟩
    obtain ⟨q1, q2⟩ := h.1.2 b0 hb
    exact ⟨q1, q2⟩
  | [], [], _ :: _, _, h => h.elim
  | [], _ :: _, _, _, h => h.elim
  | _ :: _, [], _, _, h => h.elim
  | _ :: _, _ :: _, [], _, h => h.elim
theorem retag_t : ∀ (rds : List RD) (nt : Nat), (retag nt rds).map (fun d => d.t) = rds.map fun d => d.t
  | [], _ => rfl
  | d :: ds, nt => by
    have := retag_t ds (nt + 1)
    simp only [retag, List.map_cons, this]
theorem rSlots_fst : ∀ {rds : List RD} {rs : List RV} {bs : List RB}, rs.length = rds.length → bs.length = rds.length → (rSlots rds rs bs).map Prod.fst = rds.map fun d => d.t
  | [], [], [], _, _ => rfl
  | d :: ds, v :: vs, b :: bs, h1, h2 => by
    simp only [rSlots, List.map_cons, rSlots_fst (rds := ds) (rs := vs) (bs := bs) (by simpa using h1) (by simpa using h2)]
  | [], _ :: _, _, h, _ => by simp at h
  | [], [], _ :: _, _, h => by simp at h
  | _ :: _, [], _, h, _ => by simp at h
  | _ :: _, _ :: _, [], _, h => by simp at h
theorem rsOk_len {w : World} : ∀ {rds : List RD} {rs : List RV} {bs : List RB}, RsOk w rds rs bs → rs.length = rds.length ∧ bs.length = rds.length
  | [], [], [], _ => ⟨rfl, rfl⟩
  | _ :: _, _ :: _, _ :: _, h => by
    obtain ⟨h1, h2⟩ := rsOk_len h.2
    simp only [List.length_cons, h1, h2, and_self]
  | [], [], _ :: _, h => h.elim
  | [], _ :: _, _, h => h.elim
  | _ :: _, [], _, h => h.elim
  | _ :: _, _ :: _, [], h => h.elim
/-- **a loop by what is said of it** -/
theorem loopX_ok (hG : ∀ N w0, SumOk P N w0 G) (hLF : LFOk P LF) {L : LT} {c0 : Code} (hL : ∀ N w0, LOk P N w0 L c0) {id n m : Nat} {body : Code} (hb0 : ∀ x ∈ blocks body, x ∈ blocks c0) {rds : List RD} (hkk : ∀ d ∈ rds, 0 < d.k) {ts js nj : List Nat} {parse : Parse2} (N : Nat → Prop) (w0 : World) (hpart : ∀ t, t < n → t ∈ ts ∨ t ∈ js ∨ t ∈ nj ∨ t ∈ rds.map fun d => d.t)
    (H : ∀ fr st p, parse fr st = some p → (∀ x ∈ p.cl, x.1 = x.2) → (∀ b ∈ p.pre, b = true) → Nonempty (LoopX P G LF L id n m body rds ts nj fr st p.O p.tds p.rms)) : CodeOk none P N w0 (.block id (.loop body)) (loopX rds ts js parse) := by
  intro fr st a w Q K Qx h hf ⟨F, hsF, hr, hkF⟩ hk
  obtain ⟨hdf, h'⟩ : fr.df = [] ∧ ∀ r, (loopK2 rds ts js fr st r (parse fr st)).good Q K := by
    have h' : ∀ r, (loopD (loopK2 rds ts js fr st r (parse fr st)) fr.df).good Q K := h
    cases hd : fr.df with
    | nil => rw [hd] at h'; exact ⟨rfl, h'⟩
    | cons _ _ => rw [hd] at h'; exact (h' r0).elim
  have hfd : a.defers = [] := by rw [hf.defers, hdf]; rfl
  cases hp : parse fr st with
  | none => rw [hp] at h'; exact (h' r0).elim
  | some p =>
    rw [hp] at h'
    have h2 : ∀ r, (∀ x ∈ p.cl, x.1 = x.2) ∧ (∀ b ∈ p.pre, b = true) ∧ (p.O.calm.bind (finX rds fr st ts js p.tds p.rms r)).good Q K := fun r => let ⟨x, y⟩ := clm_good (h' r); ⟨x, ites_good y⟩
    obtain ⟨D⟩ := H fr st p hp (h2 r0).1 (h2 r0).2.1
    have hnd := nodupT_nodup D.hnd
    obtain ⟨a1, l1⟩ := found_anch D.hF
    obtain ⟨o1, a2, l2⟩ := foundO_ok hr D.hFo
    obtain ⟨bs0, al, r1, r2, a3, r3, r4⟩ := foundR_ok hr hkk D.hR
    obtain ⟨c1, _, _⟩ := found_cs hr D.hF
    -- the blocks that the loop changes
    generalize hAL : List.zip (p.tds.map Prod.fst) (D.ds.map fun d => d.2.1) ++ (List.zip D.otags (D.os.map fun d => d.b) ++ al) = AL
    have hall : ∀ q ∈ AL, Anch st.M q := by
      intro q hq
      rw [← hAL] at hq
      rcases List.mem_append.1 hq with hq | hq
      · exact a1 q hq
      rcases List.mem_append.1 hq with hq | hq
      · exact a2 q hq
      · exact a3 q hq
    have zd := zip_fst (l := p.tds.map Prod.fst) (m := D.ds.map fun d => d.2.1) (by simpa using l1)
    have zo := zip_fst (l := D.otags) (m := D.os.map fun d => d.b) (by simpa using l2)
    have hfst : (AL.map Prod.fst).Sublist (p.tds.map Prod.fst ++ (D.otags ++ rmL D.ro)) := by
      rw [← hAL]
      simp only [List.map_append, zd.1, zo.1]
      exact (List.Sublist.refl _).append ((List.Sublist.refl _).append r1)
    have hsnd : AL.map Prod.snd = allB D.ds D.os bs0 := by
      rw [← hAL]
      simp only [List.map_append, zd.2, zo.2, allB, r2]
    have hB0 : (allB D.ds D.os bs0).Nodup := by rw [← hsnd]; exact anch_nodup hr hall (hnd.sublist hfst)
    have hBN : ∀ b ∈ allB D.ds D.os bs0, ¬ F b ∧ b < w.heap.size := by
      intro b hb
      rw [← hsnd] at hb
      obtain ⟨q, hq, rfl⟩ := List.mem_map.1 hb
      exact anch_N hr (hall q hq)
    -- a block that may be written, and is none of those
    have hoff : ∀ e ∈ st.M, (e.rw = true → e.tag ∉ p.tds.map Prod.fst ++ (D.otags ++ rmL D.ro)) → (e.rw = true ∨ F e.b) → e.b ∉ allB D.ds D.os bs0 := by
      intro e he htag hs hb
      rcases hs with hs | hs
      · rw [← hsnd] at hb
        obtain ⟨q, hq, hqb⟩ := List.mem_map.1 hb
        obtain ⟨f, f1, f2, f3⟩ := hall q hq
        have hne : e ≠ f := fun h => htag hs (by
          rw [h, find_tag f1]
          exact hfst.subset (List.mem_map.2 ⟨q, hq, rfl⟩))
        have sym : ∀ a b : Ent, (a.rw = true → b.rw = true → a.b ≠ b.b) → (b.rw = true → a.rw = true → b.b ≠ a.b) := fun a b h h1 h2 e => h h2 h1 e.symm
        exact pairwise_two sym hr.dist e he f (find_mem f1) hne hs f2 (by rw [f3, hqb])
      · exact (hBN _ hb).1 hs
    have hgood : p.O.good (fun o => ∀ r, (finX rds fr st ts js p.tds p.rms r o).good Q K) := calm_good (K := K) _ (good_all fun r => (good_bind _ _).1 (h2 r).2.2)
    have hlt : ∀ e ∈ st.M, (e.rw = true ∨ F e.b) → e.b < w.heap.size := by
      intro e he hs
      have hE := hr.ent e he
      cases hrw : e.rw with
      | true => exact heap_lt (hE.own (hE.rw hrw).2).1
      | false => exact hr.size _ (hs.resolve_left (by rw [hrw]; simp))
    have hV : VOk2 w (allB D.ds D.os bs0) D.V := fun e he => by
      obtain ⟨q1, q2⟩ := D.hV F w w hr e he
      refine ⟨q1, ?_⟩
      rcases q2 with ⟨q2, e', he', hb, hs⟩ | q2
      · have hs' : e'.rw = true ∨ F e'.b := hs.imp (fun h => h.1) (fun h => h)
        have := hlt e' he' hs'
        have hno := hoff e' he' (fun hrw => by
          rcases hs with hs | hs
          · exact hs.2
          · exact absurd hs ((hr.ent e' he').rw hrw).1) hs'
        rw [hb] at this hno
        exact .inl ⟨⟨this, hno⟩, q2⟩
      · exact .inr q2
    have hA : AtX a w ts nj D.ds D.os rds (allB D.ds D.os bs0) (D.kv D.s0) (D.cv D.s0) (D.rv D.s0) bs0 a w :=
      ⟨rfl, hfd, by rw [← D.hv]; exact List.map_congr_left fun t _ => hf.get t, fun _ _ => rfl, by rw [← r4]; exact List.map_congr_left fun d _ => hf.get d.t, Keep.refl _ _, c1, o1, r3, hB0, fun b hb => .inl hb⟩
    refine loop_coreX hG hLF hL hb0 hkk (fun s bs jv r hI hl => D.hT1 s bs jv r hI (hl.elim (fun h => (rsOk_len h).2) fun h => h)) (fun s bs jv r hI hl => D.hT2 s bs jv r hI (hl.elim (fun h => (rsOk_len h).2) fun h => h)) (fun s hI => D.hstep s _ hI) (hf.size.trans D.hn) (fun x hx => ⟨(D.hpk x hx).1, by rw [hf.get]; exact (D.hpk x hx).2⟩) hV D.s0 bs0 D.h0 hA (by rw [D.hO]; exact hgood) ?_
    intro o bs a' w' hq hAt
    obtain ⟨len1, len2⟩ := rsOk_len hAt.hrs
    refine hk o.x ⟨fr.n, zipU ts o.vs ++ (rSlots (retag st.nt rds) o.rs bs ++ ((js.map fun t => (t, undef, a'.tmps.getD t undef)) ++ fr.l)), fr.df⟩ ⟨rEnts (retag st.nt rds) o.rs bs ++ setCs (dropL st.M p.rms) p.tds o.cs, st.nt + rds.length⟩ a' w' (fun r => ?_) ?_ ?_
    · have := hq (mkSup bs (supOf js (fun t => a'.tmps.getD t undef) r))
      unfold finX at this
      rw [(supB_mk len2).1, (supB_mk len2).2, junkS_sup, supOf_tl] at this
      exact this
    · refine ⟨hAt.size.trans hf.size, fun t => ?_, by show a'.defers = fr.df.map Prod.snd; rw [hdf, hAt.defers]; rfl⟩
      have hrows : ∀ x ∈ rSlots (retag st.nt rds) o.rs bs, a'.tmps.getD x.1 undef = x.2.2 := by
        refine rslots_eq (f := fun t => a'.tmps.getD t undef) ?_
        rw [← hAt.rows]
        have := retag_t rds st.nt
        have e2 : ∀ l : List RD, (l.map fun d => a'.tmps.getD d.t undef) = (l.map fun d => d.t).map fun t => a'.tmps.getD t undef := fun l => by rw [List.map_map]; rfl
        rw [e2, e2, this]
      have hfst' : (rSlots (retag st.nt rds) o.rs bs).map Prod.fst = rds.map fun d => d.t := by
        rw [rSlots_fst (by rw [len1]; have := congrArg List.length (retag_t rds st.nt); simpa using this.symm) (by rw [len2]; have := congrArg List.length (retag_t rds st.nt); simpa using this.symm), retag_t]
      rw [← hAt.vals, zipU_map, ← List.append_assoc, ← List.append_assoc]
      refine (look_K2 (f := fun t => a'.tmps.getD t undef) _ (fun x hx => ?_) ?_).symm
      · rcases List.mem_append.1 hx with hx | hx
        · rcases List.mem_append.1 hx with hx | hx
          · obtain ⟨t', _, rfl⟩ := List.mem_map.1 hx; rfl
          · exact hrows x hx
        · obtain ⟨t', _, rfl⟩ := List.mem_map.1 hx; rfl
      · by_cases ht : t < n
        · rcases hpart t ht with h | h | h | h
          · exact .inl ⟨(t, undef, a'.tmps.getD t undef), List.mem_append_left _ (List.mem_append_left _ (List.mem_map.2 ⟨t, h, rfl⟩)), rfl⟩
          · exact .inl ⟨(t, undef, a'.tmps.getD t undef), List.mem_append_right _ (List.mem_map.2 ⟨t, h, rfl⟩), rfl⟩
          · right; rw [← hf.get t]; exact (hAt.rest t h).symm
          · rw [← hfst'] at h
            obtain ⟨x, hx, hxt⟩ := List.mem_map.1 h
            exact .inl ⟨x, List.mem_append_left _ (List.mem_append_right _ hx), hxt⟩
        · right
          have e1 : a.tmps.getD t undef = undef := by rw [Array.getD_eq_getD_getElem?, Array.getElem?_eq_none (by rw [hf.size, D.hn]; omega)]; rfl
          have e2 : a'.tmps.getD t undef = undef := by rw [Array.getD_eq_getD_getElem?, Array.getElem?_eq_none (by rw [hAt.size, hf.size, D.hn]; omega)]; rfl
          rw [← hf.get t, e1, e2]
    · refine .close (F := F) hsF hkF ?_
      have hrms : p.rms = rmL D.ro := D.hrm
      have hdisj : ∀ x ∈ p.tds, x.1 ∉ p.rms := fun x hx hm => by
        rw [hrms] at hm
        have := (List.nodup_append.1 hnd).2.2 x.1 (List.mem_map.2 ⟨x, hx, rfl⟩) x.1 (List.mem_append_right _ hm)
        exact this rfl
      have odisj : ∀ t ∈ D.otags, t ∉ p.rms := fun t ht hm => by
        rw [hrms] at hm
        exact (List.nodup_append.1 (List.nodup_append.1 hnd).2.1).2.2 t ht t hm rfl
      have hsub : (dropL st.M p.rms).Sublist st.M := List.filter_sublist
      -- what is left of the memory
      have hsame : ∀ e ∈ dropL st.M p.rms, (e.rw = true ∨ F e.b) → e.b ∉ D.ds.map (fun d => d.2.1) → w'.heap[e.b]? = w.heap[e.b]? := by
        intro e he hs hX
        have hem := hsub.subset he
        have htag : e.tag ∉ p.rms := fun h => by
          have := (List.mem_filter.1 he).2
          rw [hasT_mem.2 h] at this
          cases this
        by_cases hb : e.b ∈ allB D.ds D.os bs0
        · rcases List.mem_append.1 hb with hb | hb
          · exact absurd hb hX
          rcases List.mem_append.1 hb with hb | hb
          · obtain ⟨d, hd, hdb⟩ := List.mem_map.1 hb
            rw [← hdb, hAt.hos d hd, o1 d hd]
          · rw [← r2] at hb
            obtain ⟨q, hq, hqb⟩ := List.mem_map.1 hb
            rcases hs with hs | hs
            · obtain ⟨f, f1, f2, f3⟩ := a3 q hq
              have hne : e ≠ f := fun h => htag (by
                rw [h, find_tag f1, hrms]
                exact r1.subset (List.mem_map.2 ⟨q, hq, rfl⟩))
              have sym : ∀ a b : Ent, (a.rw = true → b.rw = true → a.b ≠ b.b) → (b.rw = true → a.rw = true → b.b ≠ a.b) := fun a b h h1 h2 e => h h2 h1 e.symm
              exact absurd (by rw [f3, hqb]) (pairwise_two sym hr.dist e hem f (find_mem f1) hne hs f2)
            · exact absurd hs (hqb ▸ (anch_N hr (a3 q hq)).1)
        · exact hAt.keep.block e.b ⟨hlt e hem hs, hb⟩
      have hX : RelX F (dropL st.M p.rms) w' (D.ds.map fun d => d.2.1) := by
        refine ⟨fun e he => ?_, hr.dist.sublist hsub⟩
        have hE := hr.ent e (hsub.subset he)
        exact ⟨hE.rw, hE.ro, fun hs hXb => hE.toHolds.same (hsame e he hs hXb)⟩
      have hR := setCs_rel (found_dropL hdisj D.hF) hX hAt.hcs
      have hrow := retag_ok st.nt hAt.hrs
      have hbN : ∀ x ∈ rBl bs, ¬ F x := fun x hx hN => by
        rcases hAt.fresh x (List.mem_append_right _ (List.mem_append_right _ hx)) with h | h
        · exact (hBN x h).1 hN
        · have := hr.size x hN; omega
      have hndl := hAt.nodup
      unfold allB at hndl
      rw [List.nodup_append, List.nodup_append] at hndl
      obtain ⟨_, ⟨_, n3, n4⟩, n5⟩ := hndl
      refine ⟨fun e he => ?_, ?_, ⟨hAt.keep.os.trans hr.low.os, hAt.keep.tape.trans hr.low.tape, hAt.keep.output.trans hr.low.output, Nat.le_trans hr.low.size hAt.keep.size, fun k hk => ?_⟩, fun k hk => Nat.lt_of_lt_of_le (hr.size k hk) hAt.keep.size⟩
      · rcases List.mem_append.1 he with he | he
        · obtain ⟨d, v, b, rfl, q1, q2⟩ := mem_rEnts hrow he
          exact rEnt_ok q1 q2 hbN
        · obtain ⟨e1, e2, e3⟩ := hR.ent e he
          cases hrw : e.rw with
          | true => exact ⟨e3 (.inl hrw) (by simp), e1, e2⟩
          | false =>
            rcases e2 hrw with hn | hv
            · exact ⟨e3 (.inr hn) (by simp), e1, e2⟩
            · exact ⟨hv.holds w', e1, e2⟩
      · rw [List.pairwise_append]
        refine ⟨pair_rEnts n3, hR.dist, fun e he f hf hre hrf hef => ?_⟩
        have hb := mem_rEnts_b he hre
        obtain ⟨g, g1, g2, g3, g4⟩ := setCs_mem hf
        have hgm := hsub.subset g1
        have hgrw : g.rw = true := by rw [g4]; exact hrf
        have hgt : g.tag ∉ p.rms := fun h => by
          have := (List.mem_filter.1 g1).2
          rw [hasT_mem.2 h] at this
          cases this
        rw [hef, ← g2] at hb
        by_cases hgb : g.b ∈ allB D.ds D.os bs0
        · rcases List.mem_append.1 hgb with hgb | hgb
          · exact n5 _ hgb _ (List.mem_append_right _ hb) rfl
          rcases List.mem_append.1 hgb with hgb | hgb
          · exact n4 _ hgb _ hb rfl
          · rw [← r2] at hgb
            obtain ⟨q, hq, hqb⟩ := List.mem_map.1 hgb
            obtain ⟨f', f1, f2, f3⟩ := a3 q hq
            have hne : g ≠ f' := fun h => hgt (by
              rw [h, find_tag f1, hrms]
              exact r1.subset (List.mem_map.2 ⟨q, hq, rfl⟩))
            have sym : ∀ a b : Ent, (a.rw = true → b.rw = true → a.b ≠ b.b) → (b.rw = true → a.rw = true → b.b ≠ a.b) := fun a b h h1 h2 e => h h2 h1 e.symm
            exact pairwise_two sym hr.dist g hgm f' (find_mem f1) hne hgrw f2 (by rw [f3, hqb])
        · rcases hAt.fresh g.b (List.mem_append_right _ (List.mem_append_right _ hb)) with h | h
          · exact hgb h
          · have := hlt g hgm (.inl hgrw); omega
      · rw [hAt.keep.block k ⟨hr.size k hk, fun hm => (hBN k hm).1 hk⟩]
end
theorem blocks_trans {i : Nat} {b : Code} : ∀ {c : Code}, (i, b) ∈ blocks c → ∀ x ∈ blocks b, x ∈ blocks c
  | .seq a d, h, x, hx => (List.mem_append.1 h).elim (fun h => List.mem_append_left _ (blocks_trans h x hx)) fun h => List.mem_append_right _ (blocks_trans h x hx)
  | .cond _ a d, h, x, hx => (List.mem_append.1 h).elim (fun h => List.mem_append_left _ (blocks_trans h x hx)) fun h => List.mem_append_right _ (blocks_trans h x hx)
  | .block j a, h, x, hx => by
    rcases List.mem_cons.1 h with h | h
    · simp only [Prod.mk.injEq] at h
      rw [h.2] at hx
      exact List.mem_cons_of_mem _ hx
    · exact List.mem_cons_of_mem _ (blocks_trans (c := a) h x hx)
  | .loop a, h, x, hx => blocks_trans (c := a) h x hx
  | .skip, h, _, _ => by cases h
  | .region _ _ _, h, _, _ => by cases h
  | .rangeFunc _ _ _ _, h, _, _ => by cases h
  | .exit _, h, _, _ => by cases h
  | .scope _, h, _, _ => by cases h
  | .label _, h, _, _ => by cases h
  | .goto _, h, _, _ => by cases h
  | .ret, h, _, _ => by cases h
  | .refuse _, h, _, _ => by cases h
theorem loop_sub {c0 : Code} {i : Nat} {b : Code} (h : (blocks c0).filter (fun x => Nat.beq x.1 i) = [(i, .loop b)]) : ∀ x ∈ blocks b, x ∈ blocks c0 := by
  have h1 : (i, Code.loop b) ∈ (blocks c0).filter (fun x => Nat.beq x.1 i) := by rw [h]; exact List.mem_cons_self ..
  exact blocks_trans (b := .loop b) (List.mem_filter.1 h1).1
/-- one loop more of a function -/
theorem addL1_ok {P : Program} {f : FuncId} {fn0 : Func} {L : LT} {LF : LTF} (hf : P.funcs[f]? = some fn0) (hb : fn0.body = some (bodyOf fn0)) (h : ∀ N w0, LOk P N w0 L (bodyOf fn0)) (hL : LFOk P LF) : LFOk P (addLF f L LF) := by
  refine addLF_ok (fun fn c h1 h2 N w0 => ?_) hL
  have e1 : fn = fn0 := Option.some.inj (h1.symm.trans hf)
  subst e1
  have e2 : c = bodyOf fn := Option.some.inj (h2.symm.trans hb)
  subst e2
  exact h N w0
/-- a slice whose elements are known -/
structure RS where
  tag : Nat
  a : Option Addr
  len : Nat
  cap : Nat
  b : Nat
  rw : Bool
  R : Row
def rsO (tag : Nat) (a : Option Addr) (len cap b : Nat) (rw : Bool) : Option Row → Option RS
  | some R => some ⟨tag, a, len, cap, b, rw, R⟩
  | none => none
def rsE (tag : Nat) (a : Option Addr) (len cap : Nat) : Option Ent → Option RS
  | some e => rsO tag a len cap e.b e.rw e.row
  | none => none
def rsV2 (M : List Ent) (tag : Nat) : Value → Option RS
  | .slice a len cap => rsE tag a len cap (find M tag)
  | _ => none
def rsV (M : List Ent) (v : Value) : Value → Option RS
  | .slice (some ⟨tag, _, some _⟩) _ _ => rsV2 M tag v
  | _ => none
noncomputable def rowAt (t : Nat) (fr : Fr) (st : St) : Option RS := rsV st.M (lookL fr.l t).2 (lookL fr.l t).1
theorem rowAt_eq {t : Nat} {fr : Fr} {st : St} {p : RS} (h : rowAt t fr st = some p) : (lookL fr.l t).2 = .slice p.a p.len p.cap ∧ ∃ e ∈ st.M, e.tag = p.tag ∧ e.rw = p.rw ∧ e.b = p.b ∧ e.row = some p.R := by
  unfold rowAt at h
  generalize lookL fr.l t = x at h ⊢
  unfold rsV at h
  split at h
  · rename_i tag o1 s1 l1 c1 _
    unfold rsV2 at h
    split at h
    · rename_i a len cap hv
      cases hf : find st.M tag with
      | none => rw [hf] at h; cases h
      | some e =>
        rw [hf] at h
        simp only [rsE] at h
        cases hR : e.row with
        | none => rw [hR] at h; cases h
        | some R =>
          rw [hR] at h
          simp only [rsO, Option.some.injEq] at h
          subst h
          exact ⟨hv, e, find_mem hf, find_tag hf, rfl, rfl, hR⟩
    · cases h
  · cases h
/-- the elements of a row, as a block of which no more is known: for the rounds of a loop -/
theorem rowX_in {N : Nat → Prop} {w0 w : World} {st : St} {tag k n : Nat} {a : Option Addr} {g : Nat → Nat → Value} {p : RS} {C : List Nat} {e : Ent} (hr : RelB N w0 st w) (he : e ∈ st.M) (h0 : e.tag = p.tag) (h1 : e.rw = p.rw) (h2 : e.b = p.b) (hR : e.row = some p.R) (ha : p.R.a = a) (hk : p.R.k = k) (hn : p.R.n = n) (hg : ∀ j c, j < n → c < k → p.R.g j c = g j c) (hC : p.rw = true → p.tag ∉ C) :
    (rowE tag p.b ⟨a, k, n, g⟩).rw = false ∧ (((rowE tag p.b ⟨a, k, n, g⟩).Holds w ∧ ∃ e' ∈ st.M, e'.b = (rowE tag p.b ⟨a, k, n, g⟩).b ∧ (e'.rw = true ∧ e'.tag ∉ C ∨ N e'.b)) ∨ (rowE tag p.b ⟨a, k, n, g⟩).Void) := by
  have hE := hr.ent e he
  have holds : (rowE tag p.b ⟨a, k, n, g⟩).Holds w := by
    refine ⟨fun ho => (by cases ho), fun off v hv => (by simp [cellAt, rowE, nthL] at hv), fun _ R' hR' j c hj hc => ?_⟩
    simp only [rowE, Option.some.injEq] at hR'
    subst hR'
    simp only at hj hc ⊢
    obtain ⟨q1, q2⟩ := row_cell hE hR (j := j) (c := c) (by omega) (by omega)
    rw [hg j c hj hc, ha, h2, hk] at *
    exact ⟨q1, q2, fun _ _ hx => (by cases hx)⟩
  refine ⟨rfl, ?_⟩
  cases hrw : e.rw with
  | true => exact .inl ⟨holds, e, he, h2, .inl ⟨hrw, by rw [h0]; exact hC (by rw [← h1]; exact hrw)⟩⟩
  | false =>
    rcases hE.ro hrw with hN | hv
    · exact .inl ⟨holds, e, he, h2, .inr hN⟩
    · refine .inr ⟨rfl, fun off v hv => (by simp [cellAt, rowE, nthL] at hv), fun R' hR' j c hj hc => ?_⟩
      simp only [rowE, Option.some.injEq] at hR'
      subst hR'
      simp only at hj hc
      exact hv.2.2 _ hR j c (by omega) (by omega)
theorem kindR_g {kk : IntKind} {g : Nat → Nat → Value} {n : Nat} (h : kindR kk g n = true) : ∀ j c, j < n → c < 1 → g j c = .int kk (payI (g j 0)) := by
  intro j c hj hc
  obtain rfl : c = 0 := by omega
  simp only [kindR, decide_eq_true_eq] at h
  exact isI_eq (h j hj)
end Ev
end Go.Proofs.Ytbpnmjjmllgehaa
