/- The evaluator answers what the program does: regions that draw their order. No condition. -/
import Derived.Test.YtbpnmjjmllgehaaEvD
namespace Go.Proofs.Ytbpnmjjmllgehaa
open Go Go.RowKit
namespace Ev
def Tree.sel {R : Type} : Tree R → Option R
  | .leaf r => some r
  | .ite b t e => match b with
    | true => t.sel
    | false => e.sel
  | .claim x y t => if x = y then t.sel else none
  | .fail _ => none
  | .stop _ _ _ _ => none
/-- the panic that a tree comes to -/
def Tree.selS {R : Type} : Tree R → Option (Value × Value)
  | .leaf _ => none
  | .ite b t e => match b with
    | true => t.selS
    | false => e.selS
  | .claim x y t => if x = y then t.selS else none
  | .fail _ => none
  | .stop v1 v2 _ _ => some (v1, v2)
theorem good_selK {R : Type} {Q : R → Prop} {K : Value → Value → Prop} : ∀ t : Tree R, ((∃ x, t.sel = some x ∧ Q x) ∨ ∃ v1 v2, t.selS = some (v1, v2) ∧ K v1 v2) → t.good Q fun v1 v2 _ _ => K v1 v2
  | .leaf r, h => by
    rcases h with ⟨x, hx, hq⟩ | ⟨v1, v2, hx, _⟩
    · cases hx; exact hq
    · cases hx
  | .ite b t e, h => by
    cases b with
    | true => exact ⟨fun _ => good_selK t h, fun hb => (by cases hb)⟩
    | false => exact ⟨fun hb => (by cases hb), fun _ => good_selK e h⟩
  | .claim x y t, h => by
    by_cases hxy : x = y
    · simp only [Tree.sel, Tree.selS, hxy, if_true] at h
      exact ⟨hxy, good_selK t h⟩
    · simp [Tree.sel, Tree.selS, hxy] at h
  | .fail _, h => by simp [Tree.sel, Tree.selS] at h
  | .stop v1 v2 _ _, h => by
    rcases h with ⟨x, hx, _⟩ | ⟨u1, u2, hx, hk⟩
    · cases hx
    · simp only [Tree.selS, Option.some.injEq, Prod.mk.injEq] at hx
      obtain ⟨rfl, rfl⟩ := hx
      exact hk
theorem good_sel {R : Type} {Q : R → Prop} : ∀ t : Tree R, t.good Q ↔ ∃ x, t.sel = some x ∧ Q x
  | .leaf r => by simp [Tree.good, Tree.sel]
  | .ite b t e => by
    cases b with
    | true => simp only [Tree.good, Tree.sel, true_implies, Bool.true_eq_false, false_implies, and_true]; exact good_sel t
    | false => simp only [Tree.good, Tree.sel, true_implies, Bool.false_eq_true, false_implies, true_and]; exact good_sel e
  | .claim x y t => by
    by_cases h : x = y
    · simp only [Tree.good, Tree.sel, h, true_and, if_true]; exact good_sel t
    · simp [Tree.good, Tree.sel, h]
  | .fail _ => by simp [Tree.good, Tree.sel]
  | .stop _ _ _ _ => by simp [Tree.good, Tree.sel, noK]
theorem sel_bind {R S : Type} (f : R → Tree S) : ∀ t : Tree R, (t.bind f).sel = t.sel.bind fun x => (f x).sel
  | .leaf _ => rfl
  | .ite b t e => by
    cases b with
    | true => exact sel_bind f t
    | false => exact sel_bind f e
  | .claim x y t => by
    show (if x = y then (t.bind f).sel else none) = (if x = y then t.sel else none).bind _
    split
    · exact sel_bind f t
    · rfl
  | .fail _ => rfl
  | .stop _ _ _ _ => rfl
def supOf : List Nat → (Nat → Value) → Sup → Sup
  | [], _, r => r
  | t :: js, f, r => fun i => match i with
    | 0 => (0, f t)
    | i + 1 => supOf js f r i
theorem junkS_sup {f : Nat → Value} {r : Sup} : ∀ js : List Nat, junkS js (supOf js f r) = js.map fun t => (t, undef, f t)
  | [] => rfl
  | t :: js => by
    show (t, undef, f t) :: junkS js (supOf js f r) = _
    rw [junkS_sup js]; rfl
theorem supOf_tl {f : Nat → Value} {r : Sup} : ∀ js : List Nat, (fun i => supOf js f r (i + js.length)) = r
  | [] => rfl
  | t :: js => by
    have := supOf_tl (f := f) (r := r) js
    funext i
    have h := congrFun this i
    exact h
theorem sel_catch {R S : Type} {f : R → Tree S} {g : Value → Value → St → Sup → Tree S} {z : S} : ∀ t : Tree R, (t.catch f g).sel = some z → (∃ x, t.sel = some x ∧ (f x).sel = some z) ∨ ∃ v1 v2 st r, t.selS = some (v1, v2) ∧ t.sel = none ∧ (g v1 v2 st r).sel = some z
  | .leaf x, h => .inl ⟨x, rfl, h⟩
  | .ite b t e, h => by
    cases b with
    | true => exact sel_catch t h
    | false => exact sel_catch e h
  | .claim x y t, h => by
    by_cases hxy : x = y
    · have h' : (t.catch f g).sel = some z := by
        have : (Tree.claim x y (t.catch f g)).sel = some z := h
        simpa [Tree.sel, hxy] using this
      have := sel_catch t h'
      simpa [Tree.sel, Tree.selS, hxy] using this
    · have : (Tree.claim x y (t.catch f g)).sel = some z := h
      simp [Tree.sel, hxy] at this
  | .fail _, h => by cases h
  | .stop v1 v2 st r, h => .inr ⟨v1, v2, st, r, rfl, rfl, h⟩
theorem wpAnyIn_of_seq {F : Fence} {n : Nat} {P : Program} {md : Region.Mode} {ops : Array Oper} {Q' : Exit → Act → World → Prop} : ∀ (l : List Oper) (k : Nat) (listed : Array Bool) (a : Act) (w : World), (∀ j, l[j]? = ops[k + j]?) →
    Region.seqB md ops l.length k listed = true → wpListIn F n P ops Q' l a w → wpAnyIn F n P md ops Q' l.length listed a w
  | [], _, _, _, _, _, hB, h => ⟨by simpa [Region.seqB] using hB, h⟩
  | o :: l, k, listed, a, w, hl, hB, h => by
    have h0 : ops[k]? = some o := by simpa using (hl 0).symm
    simp only [List.length_cons, Region.seqB, Bool.and_eq_true, decide_eq_true_eq] at hB
    refine ⟨fun h1 => (by rw [hB.1] at h1; cases h1), fun i hi => ?_⟩
    rw [hB.1] at hi
    have hik : i = k := by simpa using hi
    subst hik
    have hw : wpOpIn F n P ops Q' i (wpListIn F n P ops Q' l) a w := by unfold wpOpIn; simp only [h0]; exact h
    exact wpOpIn_mono (fun a' w' h' => wpAnyIn_of_seq l (i + 1) _ a' w' (fun j => by have := hl (j + 1); simpa [Nat.add_assoc, Nat.add_comm 1 j] using this) hB.2 h') hw
section
variable {P : Program} {call : CallE} {ops : Array Oper} {st : St} {frx : PX} {fr0 : Fr} {X CL : List Nat} {n : Nat}
/-- where the lexical walk of the head stands before operation i -/
noncomputable def tr (P : Program) (call : CallE) (ops : Array Oper) (st : St) (frx : PX) (fr0 : Fr) (X CL : List Nat) (rs : Nat → Sup) : Nat → Option HS
  | 0 => some ⟨fr0, [], [], [], [], none⟩
  | i + 1 => (tr P call ops st frx fr0 X CL rs i).bind fun h => match ops[i]? with
    | none => none
    | some o => (headOp P call ops st frx fr0 X CL i o h (rs i)).sel
theorem tr_prefix {rs rs' : Nat → Sup} : ∀ i, (∀ j, j < i → rs j = rs' j) → tr P call ops st frx fr0 X CL rs i = tr P call ops st frx fr0 X CL rs' i
  | 0, _ => rfl
  | i + 1, h => by
    simp only [tr]
    rw [tr_prefix i fun j hj => h j (by omega), h i (by omega)]
theorem head_tr {Q : HS → Prop} {r : Sup} {rs : Nat → Sup} (hrs : ∀ i, i < n → subSup n i r = rs i) : ∀ (l : List Oper) (i : Nat) (h : HS), (∀ j, l[j]? = if i + j < n then ops[i + j]? else none) → i + l.length = n → tr P call ops st frx fr0 X CL rs i = some h →
    (headE P call ops n st frx fr0 X CL r l i h).good Q → ∃ h', tr P call ops st frx fr0 X CL rs n = some h' ∧ Q h'
  | [], i, h, _, hlen, ht, hg => by
    have : i = n := by simpa using hlen
    subst this
    exact ⟨h, ht, hg⟩
  | o :: l, i, h, hl, hlen, ht, hg => by
    have hg' : ((headOp P call ops st frx fr0 X CL i o h (subSup n i r)).bind fun h => headE P call ops n st frx fr0 X CL r l (i + 1) h).good Q := hg
    rw [good_bind, good_sel] at hg'
    obtain ⟨x, hx, hg2⟩ := hg'
    have hin : i < n := by simp at hlen; omega
    have hio : ops[i]? = some o := by
      have := hl 0
      simp only [List.getElem?_cons_zero, Nat.add_zero, if_pos hin] at this
      exact this.symm
    refine head_tr hrs l (i + 1) x (fun j => by have := hl (j + 1); simp only [List.getElem?_cons_succ] at this; rw [this, show i + (j + 1) = i + 1 + j by omega]) (by simp at hlen; omega) ?_ hg2
    simp only [tr, ht, Option.bind_some, hio]
    rw [← hrs i hin]
    exact hx
/-- what one operation of the head has done (nothing, if it panics or waits for one that does) -/
structure Did (P : Program) (call : CallE) (ops : Array Oper) (st : St) (frx : PX) (fr0 : Fr) (X CL : List Nat) (i : Nat) (o : Oper) (h : HS) (r : Sup) (h' : HS) (x : Dec) (v1 v2 : Value) (M : List Ent) : Prop where
  sel : (anyT h.D (depL o) = false ∧ h'.D = h.D ∧ h'.pan = h.pan ∧ ∃ nt r', (guarded P call ops o h.fr (hsSt ops frx st X i o (xTag ops frx o) h) r).sel = some (x, v1, v2, ⟨M, nt⟩, r')) ∨
    (o.guard = none ∧ x = none ∧ h'.D = i :: h.D ∧ ((anyT h.D (depL o) = true ∧ h'.pan = h.pan) ∨ (anyT h.D (depL o) = false ∧ h.pan = none ∧ ∃ p, h'.pan = some p ∧ (guarded P call ops o h.fr (hsSt ops frx st X i o (xTag ops frx o) h) r).selS = some p ∧ (guarded P call ops o h.fr (hsSt ops frx st X i o (xTag ops frx o) h) r).sel = none)))
  C : h'.C = h.C ++ [hideIf ((M.filter rwB).map roE) (hasT CL i) ++ depE h.C (depL o)]
  W : h'.W = h.W ++ [hideIf (M.filter rwB) (hasT CL i)]
  Y : h'.Y = h.Y ++ [hideIf (M.filter rwB) (!hasT CL i)]
  fr : (o.dst = none ∧ h'.fr = setD h.fr x) ∨ ∃ d, o.dst = some d ∧ d < h.fr.n ∧ h'.fr = ⟨h.fr.n, (d, v1, v2) :: (setD h.fr x).l, h.fr.df⟩
/-- how something is put behind a walk -/
theorem put_sel {o : Oper} {cl : Bool} {h h' : HS} {x : Dec} {v1 v2 : Value} {M : List Ent} (hk : (hsPut o cl h (setD h.fr x) v1 v2 M o.dst).sel = some h') :
    (h'.C = h.C ++ [hideIf ((M.filter rwB).map roE) cl ++ depE h.C (depL o)] ∧ h'.W = h.W ++ [hideIf (M.filter rwB) cl] ∧ h'.Y = h.Y ++ [hideIf (M.filter rwB) (!cl)] ∧ h'.D = h.D ∧ h'.pan = h.pan) ∧
      ((o.dst = none ∧ h'.fr = setD h.fr x) ∨ ∃ d, o.dst = some d ∧ d < h.fr.n ∧ h'.fr = ⟨h.fr.n, (d, v1, v2) :: (setD h.fr x).l, h.fr.df⟩) := by
  cases hd : o.dst with
  | none =>
    rw [hd] at hk
    simp only [hsPut, Tree.sel, Option.some.injEq] at hk
    subst hk
    exact ⟨⟨rfl, rfl, rfl, rfl, rfl⟩, .inl ⟨rfl, rfl⟩⟩
  | some d =>
    rw [hd] at hk
    simp only [hsPut] at hk
    cases hb : Nat.ble (d + 1) (setD h.fr x).n with
    | false => rw [hb] at hk; cases hk
    | true =>
      rw [hb] at hk
      simp only [hsPutB, Tree.sel, Option.some.injEq] at hk
      subst hk
      exact ⟨⟨rfl, rfl, rfl, rfl, rfl⟩, .inr ⟨d, rfl, by have := Nat.le_of_ble_eq_true hb; rw [setD_n] at this; exact this, by simp only [hsPut2, setD_n, setD_df]⟩⟩
theorem dead_sel {o : Oper} {cl : Bool} {h h' : HS} {i : Nat} {p : Option (Value × Value)} (hk : (hsDead o cl h i p o.guard).sel = some h') :
    o.guard = none ∧ h'.D = i :: h.D ∧ h'.pan = p ∧ h'.C = h.C ++ [hideIf ((([] : List Ent).filter rwB).map roE) cl ++ depE h.C (depL o)] ∧ h'.W = h.W ++ [hideIf (([] : List Ent).filter rwB) cl] ∧ h'.Y = h.Y ++ [hideIf (([] : List Ent).filter rwB) (!cl)] ∧
      ((o.dst = none ∧ h'.fr = setD h.fr none) ∨ ∃ d, o.dst = some d ∧ d < h.fr.n ∧ h'.fr = ⟨h.fr.n, (d, undef, undef) :: (setD h.fr none).l, h.fr.df⟩) := by
  unfold hsDead at hk
  split at hk
  · rename_i hg
    rw [sel_bind] at hk
    obtain ⟨y, hy, hm⟩ := Option.bind_eq_some_iff.1 hk
    simp only [markD, Tree.sel, Option.some.injEq] at hm
    subst hm
    obtain ⟨⟨p1, p2, p3, p4, p5⟩, p6⟩ := put_sel (x := none) hy
    exact ⟨hg, by rw [← p4], rfl, p1, p2, p3, p6⟩
  · cases hk
theorem did_of {i : Nat} {o : Oper} {h h' : HS} {r : Sup} (hs : (headOp P call ops st frx fr0 X CL i o h r).sel = some h') : ∃ x v1 v2 M, Did P call ops st frx fr0 X CL i o h r h' x v1 v2 M := by
  unfold headOp at hs
  cases hb : anyT h.D (depL o) with
  | true =>
    rw [hb] at hs
    obtain ⟨q1, q2, q3, q4, q5, q6, q7⟩ := dead_sel hs
    exact ⟨none, undef, undef, [], .inr ⟨q1, rfl, q2, .inl ⟨hb, q3⟩⟩, q4, q5, q6, q7⟩
  | false =>
    rw [hb] at hs
    simp only [headB] at hs
    rcases sel_catch _ hs with ⟨⟨x, v1, v2, ⟨M, nt⟩, r'⟩, hx, hk⟩ | ⟨v1, v2, s', r', hx, hn, hk⟩
    · simp only [hsK] at hk
      obtain ⟨⟨p1, p2, p3, p4, p5⟩, p6⟩ := put_sel hk
      exact ⟨x, v1, v2, M, .inl ⟨hb, p4, p5, nt, r', hx⟩, p1, p2, p3, p6⟩
    · simp only [hsPan] at hk
      cases hp : h.pan with
      | some q => rw [hp] at hk; cases hk
      | none =>
        rw [hp] at hk
        obtain ⟨q1, q2, q3, q4, q5, q6, q7⟩ := dead_sel hk
        exact ⟨none, undef, undef, [], .inr ⟨q1, rfl, q2, .inr ⟨hb, hp, (v1, v2), q3, hx, hn⟩⟩, q4, q5, q6, q7⟩
theorem Did.num {i : Nat} {o : Oper} {h h' : HS} {r : Sup} {x : Dec} {v1 v2 : Value} {M : List Ent} (D : Did P call ops st frx fr0 X CL i o h r h' x v1 v2 M) : h'.fr.n = h.fr.n := by
  rcases D.fr with ⟨_, e⟩ | ⟨d, _, _, e⟩
  · rw [e, setD_n]
  · rw [e]
theorem Did.df {i : Nat} {o : Oper} {h h' : HS} {r : Sup} {x : Dec} {v1 v2 : Value} {M : List Ent} (D : Did P call ops st frx fr0 X CL i o h r h' x v1 v2 M) : h'.fr.df = h.fr.df := by
  rcases D.fr with ⟨_, e⟩ | ⟨d, _, _, e⟩
  · rw [e, setD_df]
  · rw [e]
theorem Did.look {i : Nat} {o : Oper} {h h' : HS} {r : Sup} {x : Dec} {v1 v2 : Value} {M : List Ent} (D : Did P call ops st frx fr0 X CL i o h r h' x v1 v2 M) (t : Nat) : lookL h'.fr.l t = if o.dst = some t then (v1, v2) else lookL (setD h.fr x).l t := by
  rcases D.fr with ⟨e1, e⟩ | ⟨d, e1, _, e⟩
  · rw [e, e1, if_neg (by simp)]
  · rw [e, e1]
    show lookL ((d, v1, v2) :: (setD h.fr x).l) t = _
    rw [look_cons]
    by_cases hdt : d = t
    · rw [if_pos hdt, if_pos (by rw [hdt])]
    · rw [if_neg hdt, if_neg (fun e => hdt (Option.some.inj e))]
/-- the slot that a guard asks -/
def gSlot (ops : Array Oper) (o : Oper) : Option Nat := o.guard.bind fun g => (ops[g.1]?).bind (·.dst)
theorem gsplit_sel {o : Oper} {fr : Fr} {x : Dec} {b : Bool} (h : (gsplit ops o fr).sel = some (x, b)) : ∀ d v, x = some (d, v) → gSlot ops o = some d ∧ (lookL fr.l d).2 = .bool v := by
  intro d v hx
  subst hx
  unfold gsplit at h
  cases hg : o.guard with
  | none => rw [hg] at h; simp [gsO, Tree.sel] at h
  | some jw =>
    obtain ⟨j, want⟩ := jw
    rw [hg] at h
    simp only [gsO] at h
    cases hj : (ops[j]?).bind (·.dst) with
    | none => rw [hj] at h; simp [gsJ, Tree.sel] at h
    | some e =>
      rw [hj] at h
      simp only [gsJ] at h
      have hs : gSlot ops o = some e := by unfold gSlot; rw [hg]; exact hj
      generalize hl : lookL fr.l e = p at h
      unfold gsD at h
      split at h
      · simp [Tree.sel] at h
      · rename_i x' b' n
        cases b' with
        | true =>
          simp only [Tree.sel, Option.some.injEq, Prod.mk.injEq] at h
          obtain ⟨⟨rfl, rfl⟩, _⟩ := h
          exact ⟨hs, by rw [hl]⟩
        | false =>
          simp only [Tree.sel, Option.some.injEq, Prod.mk.injEq] at h
          obtain ⟨⟨rfl, rfl⟩, _⟩ := h
          exact ⟨hs, by rw [hl]⟩
      · simp [Tree.sel] at h
theorem guarded_gs {o : Oper} {fr : Fr} {s : St} {r : Sup} {y : GR} (h : (guarded P call ops o fr s r).sel = some y) : ∃ b, (gsplit ops o fr).sel = some (y.1, b) := by
  unfold guarded at h
  rw [sel_bind] at h
  obtain ⟨⟨x, b⟩, hx, hk⟩ := Option.bind_eq_some_iff.1 h
  have : y.1 = x := by
    cases b with
    | true =>
      simp only [gRun, gRunB] at hk
      rw [sel_bind] at hk
      obtain ⟨z, _, hz⟩ := Option.bind_eq_some_iff.1 hk
      simp only [gPair, Tree.sel, Option.some.injEq] at hz
      rw [← hz]
    | false =>
      simp only [gRun, gRunB, Tree.sel, Option.some.injEq] at hk
      rw [← hk]
  exact ⟨b, by rw [hx, this]⟩
theorem Did.dec {i : Nat} {o : Oper} {h h' : HS} {r : Sup} {x : Dec} {v1 v2 : Value} {M : List Ent} (D : Did P call ops st frx fr0 X CL i o h r h' x v1 v2 M) : (∃ b, (gsplit ops o h.fr).sel = some (x, b)) ∧ ∀ d v, x = some (d, v) → gSlot ops o = some d ∧ (lookL h.fr.l d).2 = .bool v := by
  rcases D.sel with ⟨_, _, _, nt, r', e⟩ | ⟨hg, hx, _⟩
  · obtain ⟨b, hb⟩ := guarded_gs e
    exact ⟨⟨b, hb⟩, gsplit_sel hb⟩
  · refine ⟨⟨true, ?_⟩, fun d v e => by rw [hx] at e; cases e⟩
    unfold gsplit
    rw [hg, hx]
    rfl
theorem Did.look2 {i : Nat} {o : Oper} {h h' : HS} {r : Sup} {x : Dec} {v1 v2 : Value} {M : List Ent} (D : Did P call ops st frx fr0 X CL i o h r h' x v1 v2 M) (t : Nat) : (lookL h'.fr.l t).2 = if o.dst = some t then v2 else (lookL h.fr.l t).2 := by
  rw [D.look]
  split
  · rfl
  · exact setD_look (fun d b e => (D.dec.2 d b e).2) t
theorem tr_step {rs : Nat → Sup} {i : Nat} {h' : HS} (ht : tr P call ops st frx fr0 X CL rs (i + 1) = some h') : ∃ o h x v1 v2 M, ops[i]? = some o ∧ tr P call ops st frx fr0 X CL rs i = some h ∧ Did P call ops st frx fr0 X CL i o h (rs i) h' x v1 v2 M := by
  simp only [tr] at ht
  obtain ⟨h, h1, h2⟩ := Option.bind_eq_some_iff.1 ht
  cases ho : ops[i]? with
  | none => rw [ho] at h2; cases h2
  | some o =>
    rw [ho] at h2
    obtain ⟨x, v1, v2, M, D⟩ := did_of h2
    exact ⟨o, h, x, v1, v2, M, rfl, h1, D⟩
theorem tr_down {rs : Nat → Sup} : ∀ (k i : Nat) {h : HS}, tr P call ops st frx fr0 X CL rs (i + k) = some h → ∃ h0, tr P call ops st frx fr0 X CL rs i = some h0 ∧ h0.fr.n = h.fr.n ∧ (∃ c, h.C = h0.C ++ c) ∧ (∃ c, h.W = h0.W ++ c) ∧ (∃ c, h.Y = h0.Y ++ c) ∧
    ∀ t, (∀ j, i ≤ j → j < i + k → Reg.dstOf ops j ≠ some t) → (lookL h.fr.l t).2 = (lookL h0.fr.l t).2
  | 0, i, h, ht => ⟨h, ht, rfl, ⟨[], by simp⟩, ⟨[], by simp⟩, ⟨[], by simp⟩, fun _ _ => rfl⟩
  | k + 1, i, h, ht => by
    obtain ⟨o, h1, x, v1, v2, M, ho, h1t, D⟩ := tr_step (i := i + k) ht
    obtain ⟨h0, g0, g1, ⟨c, g2⟩, ⟨d, g3⟩, ⟨e, g5⟩, g4⟩ := tr_down k i h1t
    refine ⟨h0, g0, by rw [g1, D.num], ⟨c ++ _, by rw [D.C, g2, List.append_assoc]⟩, ⟨d ++ _, by rw [D.W, g3, List.append_assoc]⟩, ⟨e ++ _, by rw [D.Y, g5, List.append_assoc]⟩, fun t hj => ?_⟩
    rw [D.look2, if_neg, g4 t fun j h1 h2 => hj j h1 (by omega)]
    have := hj (i + k) (by omega) (by omega)
    unfold Reg.dstOf at this
    rw [ho] at this
    exact this
theorem tr_len {rs : Nat → Sup} : ∀ (i : Nat) {h : HS}, tr P call ops st frx fr0 X CL rs i = some h → h.C.length = i ∧ h.W.length = i ∧ h.Y.length = i ∧ h.fr.n = fr0.n
  | 0, h, ht => by
    simp only [tr, Option.some.injEq] at ht
    subst ht
    exact ⟨rfl, rfl, rfl, rfl⟩
  | i + 1, h, ht => by
    obtain ⟨o, h1, x, v1, v2, M, ho, h1t, D⟩ := tr_step ht
    obtain ⟨a, b, d, c⟩ := tr_len i h1t
    exact ⟨by rw [D.C]; simp [a], by rw [D.W]; simp [b], by rw [D.Y]; simp [d], by rw [D.num, c]⟩
/-- what is not done stays so -/
theorem tr_dead {rs : Nat → Sup} : ∀ (k i : Nat) {h : HS}, tr P call ops st frx fr0 X CL rs (i + k) = some h → ∃ h0, tr P call ops st frx fr0 X CL rs i = some h0 ∧ (∀ j ∈ h0.D, j ∈ h.D) ∧ ∀ j ∈ h.D, j < i → j ∈ h0.D
  | 0, i, h, ht => ⟨h, ht, fun _ hj => hj, fun _ hj _ => hj⟩
  | k + 1, i, h, ht => by
    obtain ⟨o, h1, x, v1, v2, M, ho, h1t, D⟩ := tr_step (i := i + k) ht
    obtain ⟨h0, g0, g1, g2⟩ := tr_dead k i h1t
    rcases D.sel with ⟨_, hd, _⟩ | ⟨_, _, hd, _⟩
    · exact ⟨h0, g0, fun j hj => by rw [hd]; exact g1 j hj, fun j hj hl => g2 j (by rw [hd] at hj; exact hj) hl⟩
    · refine ⟨h0, g0, fun j hj => by rw [hd]; exact List.mem_cons_of_mem _ (g1 j hj), fun j hj hl => ?_⟩
      rw [hd] at hj
      rcases List.mem_cons.1 hj with rfl | hj
      · omega
      · exact g2 j hj hl
theorem tr_dlt {rs : Nat → Sup} : ∀ (i : Nat) {h : HS}, tr P call ops st frx fr0 X CL rs i = some h → ∀ j ∈ h.D, j < i
  | 0, h, ht => by
    simp only [tr, Option.some.injEq] at ht
    subst ht
    intro j hj; cases hj
  | i + 1, h, ht => by
    obtain ⟨o, h1, x, v1, v2, M, ho, h1t, D⟩ := tr_step ht
    intro j hj
    have ih := tr_dlt i h1t
    rcases D.sel with ⟨_, hd, _⟩ | ⟨_, _, hd, _⟩
    · rw [hd] at hj; have := ih j hj; omega
    · rw [hd] at hj
      rcases List.mem_cons.1 hj with rfl | hj
      · omega
      · have := ih j hj; omega
theorem tr_pan {rs : Nat → Sup} {p : Value × Value} : ∀ (k i : Nat) {h h0 : HS}, tr P call ops st frx fr0 X CL rs (i + k) = some h → tr P call ops st frx fr0 X CL rs i = some h0 → h0.pan = some p → h.pan = some p
  | 0, i, h, h0, ht, ht0, hp => by
    have : h0 = h := Option.some.inj (ht0.symm.trans ht)
    subst this; exact hp
  | k + 1, i, h, h0, ht, ht0, hp => by
    obtain ⟨o, h1, x, v1, v2, M, ho, h1t, D⟩ := tr_step (i := i + k) ht
    have ih := tr_pan k i h1t ht0 hp
    rcases D.sel with ⟨_, _, h2, _⟩ | ⟨_, _, _, h2⟩
    · rw [h2]; exact ih
    · rcases h2 with ⟨_, h2⟩ | ⟨_, h2, _⟩
      · rw [h2]; exact ih
      · rw [ih] at h2; cases h2
theorem anyT_iff {D : List Nat} : ∀ {l : List Nat}, anyT D l = true ↔ ∃ j ∈ l, hasT D j = true
  | [] => by simp [anyT]
  | x :: l => by
    unfold anyT
    cases hx : hasT D x with
    | true => simp [hx]
    | false => simp only [anyT_iff (l := l), List.mem_cons, exists_eq_or_imp, hx, Bool.false_eq_true, false_or]
theorem tr_df {rs : Nat → Sup} : ∀ (i : Nat) {h : HS}, tr P call ops st frx fr0 X CL rs i = some h → h.fr.df = fr0.df
  | 0, h, ht => by
    simp only [tr, Option.some.injEq] at ht
    subst ht
    rfl
  | i + 1, h, ht => by
    obtain ⟨o, h1, x, v1, v2, M, ho, h1t, D⟩ := tr_step ht
    rw [D.df, tr_df i h1t]
/-- what an operation does depends on the slots that it looks at alone -/
theorem evP_congr {fr fr' : Fr} {x : Operand} (h : ∀ t, x = .tmp t → lookL fr.l t = lookL fr'.l t) : evP fr x = evP fr' x := by
  cases x with
  | tmp t => exact h t rfl
  | _ => rfl
theorem evalOp_congr {o : Oper} {fr fr' : Fr} (hs : ∀ cs b, o.op ≠ .select cs b) (hop : ∀ x ∈ o.op.operands, evP fr x = evP fr' x) (s : St) (r : Sup) : evalOp P call o fr s r = evalOp P call o fr' s r := by
  have hex1 : execOp (ev1 fr) o = execOp (ev1 fr') o := execOp_congr o hs fun x hx => by simp only [ev1, hop x hx]
  have hex2 : execOp (ev2 fr) o = execOp (ev2 fr') o := execOp_congr o hs fun x hx => by simp only [ev2, hop x hx]
  have hslow : slowOp P call o fr = slowOp P call o fr' := by
    funext s r
    unfold slowOp
    rw [hex1, hex2]
  unfold evalOp fastOp
  rw [hslow]
  clear hslow hex1 hex2 hs
  generalize o.op = p at hop ⊢
  cases p with
  | move x => simp only [hop x (by simp [Op.operands])]
  | assign x => simp only [hop x (by simp [Op.operands])]
  | pick c x y => simp only [hop c (by simp [Op.operands]), hop x (by simp [Op.operands]), hop y (by simp [Op.operands])]
  | binOp op t x y u => simp only [hop x (by simp [Op.operands]), hop y (by simp [Op.operands])]
  | unOp op t x => simp only [hop x (by simp [Op.operands])]
  | nilCheck x => simp only [hop x (by simp [Op.operands])]
  | load t x => simp only [hop x (by simp [Op.operands])]
  | box t x => simp only [hop x (by simp [Op.operands])]
  | fieldAddr t x f => simp only [hop x (by simp [Op.operands])]
  | indexAddr t x i => simp only [hop x (by simp [Op.operands]), hop i (by simp [Op.operands])]
  | typeAssert x t u ok => simp only [hop x (by simp [Op.operands])]
  | panic x => simp only [hop x (by simp [Op.operands])]
  | call c =>
    simp only []
    unfold callO
    split
    · rename_i f hc
      have e1 : c.args.toList.map (ev1 fr) = c.args.toList.map (ev1 fr') := List.map_congr_left fun x hx => by
        simp only [ev1]
        rw [hop x (by simp only [Op.operands, Call.operands]; rw [hc]; simp; exact .inr (by simpa using hx))]
      have e2 : c.args.toList.map (ev2 fr) = c.args.toList.map (ev2 fr') := List.map_congr_left fun x hx => by
        simp only [ev2]
        rw [hop x (by simp only [Op.operands, Call.operands]; rw [hc]; simp; exact .inr (by simpa using hx))]
      rw [e1, e2]
    · rename_i hc
      unfold appO
      split
      · rename_i x y t u ha ht
        have m1 : x ∈ c.args.toList := by rw [ha]; simp
        have m2 : y ∈ c.args.toList := by rw [ha]; simp
        rw [hop x (by simp only [Op.operands, Call.operands]; rw [hc]; simpa using m1), hop y (by simp only [Op.operands, Call.operands]; rw [hc]; simpa using m2)]
      · rfl
    · rename_i hc
      unfold lenO
      split
      · rename_i x t ha ht
        have m1 : x ∈ c.args.toList := by rw [ha]; simp
        rw [hop x (by simp only [Op.operands, Call.operands]; rw [hc]; simpa using m1)]
      · rfl
    · rename_i hc
      unfold panO
      split
      · rename_i x ha
        have m1 : x ∈ c.args.toList := by rw [ha]; simp
        rw [hop x (by simp only [Op.operands, Call.operands]; rw [hc]; simpa using m1)]
      · rfl
    · rfl
  | store t x y =>
    have e2 : ev2 fr y = ev2 fr' y := by simp only [ev2]; rw [hop y (by simp [Op.operands])]
    simp only
    rw [e2, hop x (by simp [Op.operands])]
  | makeSlice t x y =>
    simp only
    rw [hop x (by simp [Op.operands]), hop y (by simp [Op.operands])]
  | slice t x lo hi mx =>
    have e : ∀ z : Option Operand, (∀ y, z = some y → evP fr y = evP fr' y) → z.map (evP fr) = z.map (evP fr') := fun z h => by
      cases z with
      | none => rfl
      | some y => simp only [Option.map_some, h y rfl]
    simp only
    rw [hop x (by simp [Op.operands]), e lo (fun y hy => hop y (by subst hy; simp [Op.operands])), e hi (fun y hy => hop y (by subst hy; simp [Op.operands])), e mx (fun y hy => hop y (by subst hy; simp [Op.operands]))]
  | _ => rfl
theorem gsplit_congr {o : Oper} {fr fr' : Fr} (h : ∀ t, gSlot ops o = some t → lookL fr.l t = lookL fr'.l t) : gsplit ops o fr = gsplit ops o fr' := by
  unfold gsplit
  cases hg : o.guard with
  | none => rfl
  | some jw =>
    obtain ⟨j, want⟩ := jw
    simp only [gsO]
    cases hj : (ops[j]?).bind (·.dst) with
    | none => rfl
    | some d =>
      simp only [gsJ]
      rw [h d (by unfold gSlot; rw [hg]; exact hj)]
theorem gSlot_looks {o : Oper} {d : Nat} (h : gSlot ops o = some d) : d ∈ o.looksAt ops := by
  unfold gSlot at h
  obtain ⟨⟨j, want⟩, hg, hj⟩ := Option.bind_eq_some_iff.1 h
  exact List.mem_append_right _ (by simp only [hg]; simpa using hj)
theorem setD_congr {fr fr' : Fr} {x : Dec} {t : Nat} (h : lookL fr.l t = lookL fr'.l t) : lookL (setD fr x).l t = lookL (setD fr' x).l t := by
  cases x with
  | none => exact h
  | some db =>
    obtain ⟨d, b⟩ := db
    show lookL ((d, .bool b, .bool b) :: fr.l) t = lookL ((d, .bool b, .bool b) :: fr'.l) t
    rw [look_cons, look_cons, h]
theorem guarded_congr {o : Oper} {fr fr' : Fr} (hs : ∀ cs b, o.op ≠ .select cs b) (h : ∀ t ∈ o.looksAt ops, lookL fr.l t = lookL fr'.l t) (s : St) (r : Sup) : guarded P call ops o fr s r = guarded P call ops o fr' s r := by
  unfold guarded
  rw [gsplit_congr fun t ht => h t (gSlot_looks ht)]
  congr 1
  funext x
  obtain ⟨x, b⟩ := x
  cases b with
  | false => rfl
  | true =>
    simp only [gRun, gRunB]
    rw [evalOp_congr hs fun y hy => evP_congr fun t ht => setD_congr (h t (List.mem_append_left _ (List.mem_filterMap.2 ⟨y, by simpa using hy, by rw [ht]⟩)))]
end
end Ev
end Go.Proofs.Ytbpnmjjmllgehaa
