/- The evaluator answers what the program does: all code. No condition. -/
import Derived.Test.YtbpnmjjmllgehaaEvI
namespace Go.Proofs.Ytbpnmjjmllgehaa
open Go Go.RowKit
namespace Ev
section
variable {P : Program} {call : CallE} {ops : Array Oper} {st : St} {frx : PX} {fr0 : Fr} {X CL : List Nat} {n : Nat} {N : Nat → Prop} {w0 W : World} {a0 : Act}
theorem getD_app {A : Type} {l : List A} {x d : A} {j : Nat} : (l ++ [x]).getD j d = if j < l.length then l.getD j d else if j = l.length then x else d := by
  simp only [List.getD_eq_getElem?_getD]
  by_cases h : j < l.length
  · rw [if_pos h, List.getElem?_append_left h]
  · rw [if_neg h, List.getElem?_append_right (by omega)]
    by_cases h2 : j = l.length
    · rw [if_pos h2, h2]; simp
    · rw [if_neg h2]
      obtain ⟨k, hk⟩ : ∃ k, j - l.length = k + 1 := ⟨j - l.length - 1, by omega⟩
      rw [hk]; simp
theorem getD_pre {A : Type} {l c : List A} {d : A} {j : Nat} (h : j < l.length) : (l ++ c).getD j d = l.getD j d := by
  simp only [List.getD_eq_getElem?_getD]
  rw [List.getElem?_append_left h]
theorem listed_set {listed : Array Bool} {i j : Nat} (h : (listed.setIfInBounds i true).getD j false = true) : j = i ∨ listed.getD j false = true := by
  by_cases hij : i = j
  · exact .inl hij.symm
  · rw [getD_set_ne false hij] at h
    exact .inr h
/-- one operation more -/
theorem inv_step (xo : XOk ops frx st X n N W) (co : COk ops CL n) (hf0 : FrOk fr0 a0) (K : Reg.Checks ops n []) (hle : n ≤ ops.size) (hall : ∀ rs, ∃ h, tr P call ops st frx fr0 X CL rs n = some h)
    {listed : Array Bool} {a : Act} {w : World} {rs : Nat → Sup} {L H : Nat → Nat} {h hi : HS} (inv : Inv P call ops st frx fr0 X CL n W a0 listed a w rs L H h) {i : Nat} {o : Oper} (hin : i < n) (ho : ops[i]? = some o)
    (hrd : i ∈ Region.ready .any ops listed) (hun : listed.getD i false = false) (hti : tr P call ops st frx fr0 X CL rs i = some hi) {v1 v2 : Value} {st' : St} {r r' : Sup} {w' : World}
    {x : Dec} (hs : (guarded P call ops o hi.fr (hsSt ops frx st X i o (xTag ops frx o) hi) r).sel = some (x, v1, v2, st', r')) (hr' : Rel (FX ops frx st i w (yEnt hi (srcOf ops o))) w st' w') :
    ∃ rs' L' H' h', Inv P call ops st frx fr0 X CL n W a0 (listed.setIfInBounds i true) (a.put o.dst v2) w' rs' L' H' h' := by
  have hsel : ∀ (j : Nat) (o : Oper) cs b, ops[j]? = some o → o.op ≠ .select cs b := Region.noSelect_spec K.sel
  obtain ⟨FF, hsub, hB', hlow⟩ := hr'
  obtain ⟨h', ht'⟩ := hall (upS rs i r)
  obtain ⟨g1, t1, n1, ⟨c1, d1⟩, ⟨c2, d2⟩, ⟨c3, d4⟩, d3⟩ := tr_down (n - (i + 1)) (i + 1) (by rw [Nat.add_sub_of_le hin]; exact ht')
  obtain ⟨o', g, y, u1, u2, M, ho', gt, D⟩ := tr_step t1
  have : o' = o := Option.some.inj (ho'.symm.trans ho)
  subst this
  have hg : g = hi := by
    have := tr_prefix (P := P) (call := call) (ops := ops) (st := st) (frx := frx) (fr0 := fr0) (X := X) (CL := CL) (rs := upS rs i r) (rs' := rs) i fun j hj => by simp only [upS]; rw [if_neg (by omega)]
    rw [gt, hti] at this
    exact Option.some.inj this
  subst hg
  have hri : upS rs i r i = r := by simp [upS]
  have hnd := no_dead K inv hin ho hrd hti
  obtain ⟨hgD, nt, r2, e1⟩ : g1.D = g.D ∧ ∃ nt r2, (guarded P call ops o' g.fr (hsSt ops frx st X i o' (xTag ops frx o') g) (upS rs i r i)).sel = some (y, u1, u2, ⟨M, nt⟩, r2) := by
    rcases D.sel with ⟨_, q1, _, nt, r2, e1⟩ | ⟨_, _, _, q⟩
    · exact ⟨q1, nt, r2, e1⟩
    · exfalso
      rcases q with ⟨q, _⟩ | ⟨_, _, _, _, _, q⟩
      · rw [hnd] at q; cases q
      · rw [hri, hs] at q; cases q
  rw [hri, hs] at e1
  simp only [Option.some.injEq, Prod.mk.injEq] at e1
  obtain ⟨rfl, rfl, rfl, rfl, _⟩ := e1
  obtain ⟨l1, l2, l4, l3⟩ := tr_len i gt
  obtain ⟨m1, m2, m4, m3⟩ := tr_len (i + 1) t1
  obtain ⟨A0, A1, A2⟩ := agree K hsel (S := fun j => j < n ∧ listed.getD j false = true) (fun k p hk hS hp j hj => by
      obtain ⟨e, he, hb, rfl⟩ := mem_dep.1 hj
      have := K.back k p e hk hp he hb
      exact ⟨by omega, inv.head.closed k p hp hS.2 e he hb⟩) (rs := rs) (rs' := upS rs i r) (fun j hS => by
      simp only [upS]
      rw [if_neg (fun e => by subst e; rw [hun] at hS; cases hS.2)]) n h h' (Nat.le_refl _) inv.trn ht' (fun j hj => inv.dead j hj.1 hj.2)
  have CW : h'.C.getD i [] = hideIf ((M.filter rwB).map roE) (hasT CL i) ++ depE g.C (depL o') ∧ h'.W.getD i [] = hideIf (M.filter rwB) (hasT CL i) ∧ h'.Y.getD i [] = hideIf (M.filter rwB) (!hasT CL i) := by
    rw [d1, d2, d4, getD_pre (by omega), getD_pre (by omega), getD_pre (by omega), D.C, D.W, D.Y, getD_app, getD_app, getD_app, l1, l2, l4]
    simp
  have hide : ∀ (l : List Ent) (b : Bool) (e : Ent), e ∈ hideIf l b → b = false ∧ e ∈ l := fun l b e he => by
    cases b with
    | true => cases he
    | false => exact ⟨rfl, he⟩
  -- the variable that a store of the region alone may touch
  have hy : ∀ y ∈ yEnt g (srcOf ops o'), ∃ k, k < n ∧ listed.getD k false = true ∧ srcI ops i = some k ∧ L k ≤ y.b ∧ y.b < H k := by
    intro y hyy
    cases hk : srcOf ops o' with
    | none => rw [hk] at hyy; cases hyy
    | some k =>
      rw [hk] at hyy
      have hyy' : y ∈ g.Y.getD k [] := hyy
      have hki : k < i := by
        rcases Nat.lt_or_ge k i with h | h
        · exact h
        · rw [List.getD_eq_getElem?_getD, List.getElem?_eq_none (by omega)] at hyy'; cases hyy'
      have hsi : srcI ops i = some k := by unfold srcI; rw [ho]; exact hk
      obtain ⟨d, hd1, hd2, _⟩ := src_spec hk
      have hkn := co.lt i k hin hsi
      rcases K.look i k o' d hin hkn (by omega) ho hd2 hd1 with ⟨hlt, _, hw⟩ | ⟨hlt, _, hw⟩
      · have hl := Reg.waits hw hrd
        obtain ⟨q, q0, _, _, _, ⟨c, q2⟩, _⟩ := tr_down (n - i) i (by rw [Nat.add_sub_of_le (Nat.le_of_lt hin)]; exact inv.trn)
        have : q = g := Option.some.inj (q0.symm.trans hti)
        subst this
        have hm : y ∈ h.Y.getD k [] := by rw [q2, getD_pre (by omega)]; exact hyy'
        obtain ⟨_, _, _, p1, p2⟩ := inv.pend k hkn hl (fun j hj hsj => by rw [co.uniq j i k hj hin hsj hsi]; exact hun) y hm
        exact ⟨k, hkn, hl, hsi, p1, p2⟩
      · omega
  have keep : ∀ k, k < w.heap.size → (∀ e, xe ops frx st i = some e → e.b ≠ k) → (∀ e ∈ yEnt g (srcOf ops o'), e.b ≠ k) → w'.heap[k]? = w.heap[k]? := fun k hk he hy => hlow.block k ⟨hk, he, hy⟩
  have hgrow := hlow.size
  have isz : a.tmps.size = fr0.n := by rw [inv.size, hf0.size]
  -- what the operation has made
  have newE : ∀ e ∈ M.filter rwB, e.rw = true ∧ e.own = true ∧ (w'.heap[e.b]? = some e.cur ∧ e.Fit) ∧ ((w.heap.size ≤ e.b ∧ e.b < w'.heap.size) ∨ (∃ x, xe ops frx st i = some x ∧ e.b = x.b) ∨ ∃ k, k < n ∧ listed.getD k false = true ∧ srcI ops i = some k ∧ L k ≤ e.b ∧ e.b < H k) := by
    intro e he
    obtain ⟨hm, hrw⟩ := List.mem_filter.1 he
    have hE := hB'.ent e hm
    obtain ⟨k0, k2⟩ := hE.rw hrw
    have k1 := fun h => k0 (hsub _ h)
    have hh := hE.own k2
    refine ⟨hrw, k2, hh, ?_⟩
    rcases Nat.lt_or_ge e.b w.heap.size with hlt | hge
    · right
      by_cases hx : ∃ x, xe ops frx st i = some x ∧ e.b = x.b
      · exact .inl hx
      · right
        by_cases hyy : ∃ y, y ∈ yEnt g (srcOf ops o') ∧ y.b = e.b
        · obtain ⟨y, h1, h2⟩ := hyy
          obtain ⟨k, q1, q2, q3, q4, q5⟩ := hy y h1
          exact ⟨k, q1, q2, q3, by omega, by omega⟩
        · exact absurd ⟨hlt, fun x h1 h2 => hx ⟨x, h1, h2.symm⟩, fun y h1 h2 => hyy ⟨y, h1, h2⟩⟩ k1
    · exact .inl ⟨hge, heap_lt hh.1⟩
  -- a block known before
  have stays : ∀ (e : Ent), (w.heap[e.b]? = some e.cur ∧ e.Fit) → (∃ k, k < n ∧ listed.getD k false = true ∧ ((L k ≤ e.b ∧ e.b < H k ∧ srcI ops i ≠ some k) ∨ ∃ x, xe ops frx st k = some x ∧ e.b = x.b)) → (w'.heap[e.b]? = some e.cur ∧ e.Fit) := by
    intro e hh ⟨k, hk, hkl, c4⟩
    rw [keep _ (heap_lt hh.1) (fun x hx heq => ?_) fun y hyy heq => ?_]
    · exact hh
    · have hxlt := heap_lt (xo.mem i x hin hx).2.2.2.2.2.1
      rcases c4 with c4 | ⟨y, hy, e1⟩
      · have := inv.lo k hk hkl
        omega
      · have hki : k ≠ i := fun e => by subst e; rw [hun] at hkl; cases hkl
        exact xo.ne k i y x hk hin hki hy hx (by rw [← e1, heq])
    · obtain ⟨q, q1, q2, q3, q4, q5⟩ := hy y hyy
      rcases c4 with ⟨c4, c5, c6⟩ | ⟨x, hx, e1⟩
      · have hkq : k ≠ q := fun e => c6 (e ▸ q3)
        have := inv.apart k q hk q1 hkq hkl q2
        omega
      · have := heap_lt (xo.mem k x hk hx).2.2.2.2.2.1
        have := (inv.lo q q1 q2).1
        omega
  have ne_of : ∀ j, listed.getD j false = true → j ≠ i := fun j hl e => by subst e; rw [hun] at hl; cases hl
  refine ⟨upS rs i r, fun k => if k = i then w.heap.size else L k, fun k => if k = i then w'.heap.size else H k, h', inv.head.set hrd hin, ht', hlow.os.trans inv.os, hlow.tape.trans inv.tape, hlow.output.trans inv.output, Nat.le_trans inv.grow hgrow,
    fun k hk hne => ?_, by rw [Reg.put_size]; exact inv.size, by rw [Reg.put_defers]; exact inv.defers, fun j t hj hl hd => ?_, fun t hno => ?_, fun j hj hl e he => ?_, fun j hj hl e he => ?_, fun k hk hl hno e he => ?_, fun j hj hl => ?_, fun j hj hl => ?_, fun j hj hl => ?_, fun j k hj hk hjk hlj hlk => ?_, fun j hj hl => ?_⟩
  · have his : i < listed.size := by rw [inv.head.size]; omega
    rw [keep k (Nat.lt_of_lt_of_le hk inv.grow) (fun e he => hne i hin (Reg.set_self (getD_in his hun)) e he) fun y hyy heq => (by
      obtain ⟨q, q1, q2, _, q4, _⟩ := hy y hyy
      have := (inv.lo q q1 q2).1
      omega)]
    exact inv.block k hk fun j hj hl e he => hne j hj (getD_set_true hl) e he
  · rw [put_getD]
    rcases listed_set hl with rfl | hl
    · have hdst : o'.dst = some t := by
        unfold Reg.dstOf at hd
        rw [ho] at hd
        exact hd
      have hlt : t < a.tmps.size := by
        rcases D.fr with ⟨e, _⟩ | ⟨d, e, hlt, _⟩
        · rw [e] at hdst; cases hdst
        · rw [e] at hdst
          have := Option.some.inj hdst
          subst this
          rw [isz, ← l3]; exact hlt
      rw [if_pos ⟨hdst, hlt⟩, d3 t fun k hk1 hk2 hdk => by have := K.dist k j t (by omega) hj hdk hd; omega, D.look2, if_pos hdst]
    · have hji := ne_of j hl
      rw [if_neg, inv.slotQ j t hj hl hd, A2 t fun k hk hdk => by have := K.dist k j t hk hj hdk hd; subst this; exact ⟨hk, hl⟩]
      rintro ⟨e, _⟩
      exact hji (K.dist j i t hj hin hd (by unfold Reg.dstOf; rw [ho]; exact e))
  · rw [put_getD, if_neg]
    · exact inv.slotO t fun j hj hl => hno j hj (getD_set_true hl)
    · rintro ⟨e, _⟩
      have his : i < listed.size := by rw [inv.head.size]; omega
      exact hno i hin (Reg.set_self (getD_in his hun)) (by unfold Reg.dstOf; rw [ho]; exact e)
  · rcases listed_set hl with rfl | hl
    · rw [CW.1] at he
      rcases List.mem_append.1 he with he | he
      · obtain ⟨hcl, he⟩ := hide _ _ _ he
        obtain ⟨f, hf, rfl⟩ := List.mem_map.1 he
        obtain ⟨q1, q2, q3, q4⟩ := newE f hf
        have hnoc : ∀ i, i < n → srcI ops i = some j → False := fun i hi hs => by rw [co.mem i j hi hs] at hcl; cases hcl
        rcases q4 with q4 | q4 | ⟨k, k1, k2, k3, k4, k5⟩
        · exact ⟨rfl, q2, q3, j, hj, hl, .inl ⟨by simp only [if_true]; exact q4.1, by simp only [if_true]; exact q4.2, fun i hi hs => (hnoc i hi hs).elim⟩⟩
        · exact ⟨rfl, q2, q3, j, hj, hl, .inr q4⟩
        · refine ⟨rfl, q2, q3, k, k1, getD_set_true k2, .inl ⟨by simp only [if_neg (ne_of k k2)]; exact k4, by simp only [if_neg (ne_of k k2)]; exact k5, fun i' hi hs => ?_⟩⟩
          rw [co.uniq i' j k hi hj hs k3]; exact hl
      · obtain ⟨k, hk, hm⟩ := mem_depE he
        obtain ⟨ed, hed, hb, rfl⟩ := mem_dep.1 hk
        have hlt : ed.on < j := K.back j o' ed hj ho hed hb
        have hll : listed.getD ed.on false = true := by
          obtain ⟨_, o2, h2, hall2⟩ := mem_ready.1 hrd
          have : o' = o2 := Option.some.inj (ho.symm.trans h2)
          subst this
          exact hall2 ed hed hb
        obtain ⟨q, q0, _, ⟨c, q2⟩, _, _⟩ := tr_down (n - j) j (by rw [Nat.add_sub_of_le (Nat.le_of_lt hj)]; exact inv.trn)
        have : q = g := Option.some.inj (q0.symm.trans hti)
        subst this
        have hm' : e ∈ h.C.getD ed.on [] := by rw [q2, getD_pre (by omega)]; exact hm
        obtain ⟨c1, c2, c3, k, hk, hkl, c4⟩ := inv.ents ed.on (by omega) hll e hm'
        refine ⟨c1, c2, stays _ c3 ⟨k, hk, hkl, ?_⟩, k, hk, getD_set_true hkl, ?_⟩
        · rcases c4 with ⟨c4, c5, c6⟩ | c4
          · exact .inl ⟨c4, c5, fun hs => by have := c6 j hj hs; rw [hun] at this; cases this⟩
          · exact .inr c4
        · simp only [if_neg (ne_of k hkl)]
          rcases c4 with ⟨c4, c5, c6⟩ | c4
          · exact .inl ⟨c4, c5, fun i hi hs => getD_set_true (c6 i hi hs)⟩
          · exact .inr c4
    · rw [← (A1 j hj ⟨hj, hl⟩).1] at he
      obtain ⟨c1, c2, c3, k, hk, hkl, c4⟩ := inv.ents j hj hl e he
      refine ⟨c1, c2, stays e c3 ⟨k, hk, hkl, ?_⟩, k, hk, getD_set_true hkl, ?_⟩
      · rcases c4 with ⟨c4, c5, c6⟩ | c4
        · exact .inl ⟨c4, c5, fun hs => by have := c6 i hin hs; rw [hun] at this; cases this⟩
        · exact .inr c4
      · simp only [if_neg (ne_of k hkl)]
        rcases c4 with ⟨c4, c5, c6⟩ | c4
        · exact .inl ⟨c4, c5, fun i hi hs => getD_set_true (c6 i hi hs)⟩
        · exact .inr c4
  · rcases listed_set hl with rfl | hl
    · rw [CW.2.1] at he
      obtain ⟨hcl, he⟩ := hide _ _ _ he
      obtain ⟨q1, q2, q3, q4⟩ := newE e he
      refine ⟨q1, q2, q3, ?_⟩
      rcases q4 with q4 | q4 | ⟨k, k1, k2, k3, k4, k5⟩
      · exact .inl ⟨by simp only [if_true]; exact q4.1, by simp only [if_true]; exact q4.2, hcl⟩
      · exact .inr (.inl q4)
      · exact .inr (.inr ⟨k, k1, getD_set_true k2, k3, by simp only [if_neg (ne_of k k2)]; exact k4, by simp only [if_neg (ne_of k k2)]; exact k5⟩)
    · rw [← (A1 j hj ⟨hj, hl⟩).2.1] at he
      obtain ⟨c1, c2, c3, c4⟩ := inv.news j hj hl e he
      have hji := ne_of j hl
      rcases c4 with ⟨c4, c5, c6⟩ | c4 | ⟨k, k1, k2, k3, k4, k5⟩
      · refine ⟨c1, c2, stays e c3 ⟨j, hj, hl, .inl ⟨c4, c5, fun hs => by rw [co.mem i j hin hs] at c6; cases c6⟩⟩, .inl ⟨by simp only [if_neg hji]; exact c4, by simp only [if_neg hji]; exact c5, c6⟩⟩
      · exact ⟨c1, c2, stays e c3 ⟨j, hj, hl, .inr c4⟩, .inr (.inl c4)⟩
      · exact ⟨c1, c2, stays e c3 ⟨k, k1, k2, .inl ⟨k4, k5, fun hs => hji (co.uniq j i k hj hin k3 hs)⟩⟩, .inr (.inr ⟨k, k1, getD_set_true k2, k3, by simp only [if_neg (ne_of k k2)]; exact k4, by simp only [if_neg (ne_of k k2)]; exact k5⟩)⟩
  · have his : i < listed.size := by rw [inv.head.size]; omega
    rcases listed_set hl with rfl | hl
    · rw [CW.2.2] at he
      obtain ⟨hcl, he⟩ := hide _ _ _ he
      obtain ⟨q1, q2, q3, q4⟩ := newE e he
      have hcl' : hasT CL k = true := by simpa using hcl
      -- the operation makes a variable: it writes no other
      obtain ⟨m, hm, hsm⟩ := co.ex k hcl'
      obtain ⟨p, t, hp, hpt⟩ : ∃ p t, ops[k]? = some p ∧ p.op = .alloc t := by
        unfold srcI at hsm
        obtain ⟨om, _, e2⟩ := Option.bind_eq_some_iff.1 hsm
        obtain ⟨_, _, _, p, t, e3, e4⟩ := src_spec e2
        exact ⟨p, t, e3, e4⟩
      have hs0 : srcOf ops p = none := by unfold srcOf; rw [hpt]
      have hx0 : xe ops frx st k = none := by
        unfold xe
        rw [hp, Option.bind_some]
        unfold xTag
        rw [hs0]
        simp only [xTag1, hpt]
        rfl
      rcases q4 with q4 | ⟨x, hx, _⟩ | ⟨k', _, _, k3, _⟩
      · exact ⟨q1, q2, q3, by simp only [if_true]; exact q4.1, by simp only [if_true]; exact q4.2⟩
      · rw [hx0] at hx; cases hx
      · unfold srcI at k3
        rw [hp] at k3
        simp only [Option.bind_some] at k3
        rw [hs0] at k3; cases k3
    · have hki := ne_of k hl
      rw [← (A1 k hk ⟨hk, hl⟩).2.2] at he
      have hno' : ∀ j, j < n → srcI ops j = some k → listed.getD j false = false := fun j hj hs => by
        cases hlj : listed.getD j false with
        | false => rfl
        | true => have := hno j hj hs; rw [getD_set_true hlj] at this; cases this
      have hsi : srcI ops i ≠ some k := fun hs => by
        have := hno i hin hs
        rw [Reg.set_self (getD_in his hun)] at this
        cases this
      obtain ⟨c1, c2, c3, c4, c5⟩ := inv.pend k hk hl hno' e he
      exact ⟨c1, c2, stays e c3 ⟨k, hk, hl, .inl ⟨c4, c5, hsi⟩⟩, by simp only [if_neg hki]; exact c4, by simp only [if_neg hki]; exact c5⟩
  · rcases listed_set hl with rfl | hl
    · rw [CW.2.1]
      cases hasT CL j with
      | true => exact List.Pairwise.nil
      | false =>
        have := hB'.dist.sublist (List.filter_sublist (p := rwB) (l := M))
        exact this.imp_of_mem fun {e f} he hf h => h (List.mem_filter.1 he).2 (List.mem_filter.1 hf).2
    · rw [← (A1 j hj ⟨hj, hl⟩).2.1]
      exact inv.dist j hj hl
  · rcases listed_set hl with rfl | hl
    · rw [CW.2.2]
      cases hasT CL j with
      | false => exact List.Pairwise.nil
      | true =>
        have := hB'.dist.sublist (List.filter_sublist (p := rwB) (l := M))
        exact this.imp_of_mem fun {e f} he hf h => h (List.mem_filter.1 he).2 (List.mem_filter.1 hf).2
    · rw [← (A1 j hj ⟨hj, hl⟩).2.2]
      exact inv.distY j hj hl
  · rcases listed_set hl with rfl | hl
    · simp only [if_true]
      exact ⟨inv.grow, Nat.le_refl _⟩
    · simp only [if_neg (ne_of j hl)]
      have := inv.lo j hj hl
      exact ⟨this.1, Nat.le_trans this.2 hgrow⟩
  · rcases listed_set hlj with e1 | k1 <;> rcases listed_set hlk with e2 | k2
    · exact absurd (e1.trans e2.symm) hjk
    · simp only [if_pos e1, if_neg (ne_of k k2)]
      exact .inr (inv.lo k hk k2).2
    · simp only [if_pos e2, if_neg (ne_of j k1)]
      exact .inl (inv.lo j hj k1).2
    · simp only [if_neg (ne_of j k1), if_neg (ne_of k k2)]
      exact inv.apart j k hj hk hjk k1 k2
  · rcases listed_set hl with rfl | hl
    · intro hm
      obtain ⟨q, q0, _, q2⟩ := tr_dead (n - (j + 1)) (j + 1) (by rw [Nat.add_sub_of_le hin]; exact ht')
      have : q = g1 := Option.some.inj (q0.symm.trans t1)
      subst this
      have h1 := q2 j hm (by omega)
      rw [hgD] at h1
      have := tr_dlt j gt j h1
      omega
    · exact A0 j hj ⟨hj, hl⟩
theorem wpAny_head {rd : Option Nat} {Qx : Exit → Act → World → Prop} (hc : ∀ N w0, CallOk P N w0 call) (hr : RelB N w0 st W) (xo : XOk ops frx st X n N W) (co : COk ops CL n) (hf0 : FrOk fr0 a0) (K : Reg.Checks ops n []) (hall : ∀ rs, ∃ h, tr P call ops st frx fr0 X CL rs n = some h) (nt : Nat)
    (hk : ∀ rs h, tr P call ops st frx fr0 X CL rs n = some h → ∀ a w, FrOk h.fr a → RelB N w0 ⟨h.W.flatten ++ dropT X st.M, nt⟩ w → h.D = [] → wpListIn (FW rd) 0 P ops Qx (ops.toList.drop n) a w)
    (hkp : ∀ rs h v1 v2, tr P call ops st frx fr0 X CL rs n = some h → h.pan = some (v1, v2) → h.D ≠ [] → ∀ a w, FrOk ⟨fr0.n, (dstL ops n).map (fun t => (t, undef, a.tmps.getD t undef)) ++ fr0.l, fr0.df⟩ a → RelB N w0 ⟨dropT X st.M, nt⟩ w → Qx (.panic [{ v := v2, recovered := false }]) a w) :
    ∀ (d : Nat) (listed : Array Bool) (a : Act) (w : World) (rs : Nat → Sup) (L H : Nat → Nat) (h : HS), Inv P call ops st frx fr0 X CL n W a0 listed a w rs L H h → Reg.unl listed n = d → wpAnyIn (FW rd) 0 P .any ops Qx (d + (ops.size - n)) listed a w := by
  have hle := K.le
  intro d
  induction d with
  | zero =>
    intro listed a w rs L H h inv hd
    have hl' : ∀ i, i < n → listed.getD i false = true := fun i hi => by
      rw [← Reg.getD_tf (by rw [inv.head.size]; omega)]; exact Reg.unl_zero n hd i hi
    have hl : listed = Array.replicate n true ++ Array.replicate (ops.size - n) false := by
      refine Array.ext (by simp [inv.head.size]; omega) fun i h1 h2 => ?_
      rw [inv.head.size] at h1
      by_cases hin : i < n
      · have := hl' i hin
        rw [Array.getElem_append_left (by simpa using hin)]
        simpa [inv.head.size, h1] using this
      · have := inv.head.tail i (by omega) h1
        rw [Array.getElem_append_right (by simp; omega)]
        simpa [inv.head.size, h1] using this
    have hseq := K.seq
    rw [← hl] at hseq
    have hlen : (ops.toList.drop n).length = ops.size - n := by simp
    have := wpAnyIn_of_seq (ops := ops) (md := .any) (Q' := Qx) (ops.toList.drop n) n listed a w (fun j => by simp [List.getElem?_drop]) (by rw [hlen]; exact hseq)
      (hk rs h inv.trn a w (end_fr hf0 inv hl') (end_rel hr xo co inv hl' nt) (by
        cases hD : h.D with
        | nil => rfl
        | cons j l =>
          exfalso
          have hj : j ∈ h.D := by rw [hD]; exact List.mem_cons_self
          have hjn := tr_dlt n inv.trn j hj
          exact inv.dead j hjn (hl' j hjn) hj))
    rw [hlen] at this
    rw [Nat.zero_add]
    exact this
  | succ d ih =>
    intro listed a w rs L H h inv hd
    obtain ⟨k, hkn, hkun, hkall⟩ := Reg.unl_pos n (by rw [hd]; omega)
    have hsz : listed.size = ops.size := inv.head.size
    have hkr : k ∈ Region.ready .any ops listed := by
      have hks : k < ops.size := by omega
      refine mem_ready.2 ⟨hkun, ops[k], by simp [hks], fun e' he' hb => ?_⟩
      have := K.back k ops[k] e' hkn (by simp [hks]) he' hb
      rw [← Reg.getD_tf (by omega)]
      exact hkall _ this
    rw [show d + 1 + (ops.size - n) = (d + (ops.size - n)) + 1 by omega]
    refine ⟨fun h0 => (by rw [h0] at hkr; cases hkr), fun i hir => ?_⟩
    obtain ⟨hun, o, ho, _⟩ := mem_ready.1 hir
    have his : i < ops.size := (Array.getElem?_eq_some_iff.1 ho).1
    have hin : i < n := by
      rcases Nat.lt_or_ge i n with h | h
      · exact h
      · rcases K.tail with ht | ⟨h1, h2, h3⟩
        · omega
        · exact absurd hir (tail_waits h2 h3 h1 inv.head (n - k) k rfl hkn hkun i h)
    have hunf : listed.getD i false = false := by rw [← Reg.getD_tf (by omega)]; exact hun
    have hcnt : Reg.unl (listed.setIfInBounds i true) n = d := by
      have := Reg.unl_set hun n
      rw [if_pos hin] at this
      omega
    have hsel : ∀ cs b, o.op ≠ .select cs b := fun cs b => Region.noSelect_spec K.sel i o cs b ho
    obtain ⟨hi, hti, _⟩ := tr_down (n - i) i (by rw [Nat.add_sub_of_le (Nat.le_of_lt hin)]; exact inv.trn)
    obtain ⟨f1, f2⟩ := frOf_ok (g := hi.fr) (by rw [tr_df _ hti]; exact inv.defers) (looks K inv hin ho hir hunf hti)
    have hrel := op_rel hr xo co K inv hin ho hir hunf hti
    have hgood : ∀ r, (guarded P call ops o (frOf a hi.fr (o.looksAt ops)) (hsSt ops frx st X i o (xTag ops frx o) hi) r).good (fun x => ∃ r, (guarded P call ops o hi.fr (hsSt ops frx st X i o (xTag ops frx o) hi) r).sel = some x) (fun v1 v2 _ _ => ∃ rs' h', tr P call ops st frx fr0 X CL rs' n = some h' ∧ h'.pan = some (v1, v2) ∧ h'.D ≠ []) := by
      intro r
      rw [guarded_congr hsel f2]
      refine good_selK (K := fun v1 v2 => ∃ rs' h', tr P call ops st frx fr0 X CL rs' n = some h' ∧ h'.pan = some (v1, v2) ∧ h'.D ≠ []) _ ?_
      obtain ⟨h', ht'⟩ := hall (upS rs i r)
      obtain ⟨g1, t1, _⟩ := tr_down (n - (i + 1)) (i + 1) (by rw [Nat.add_sub_of_le hin]; exact ht')
      obtain ⟨o', g, y, u1, u2, M, ho', gt, D⟩ := tr_step t1
      have : o' = o := Option.some.inj (ho'.symm.trans ho)
      subst this
      have hg : g = hi := by
        have := tr_prefix (P := P) (call := call) (ops := ops) (st := st) (frx := frx) (fr0 := fr0) (X := X) (CL := CL) (rs := upS rs i r) (rs' := rs) i fun j hj => by simp only [upS]; rw [if_neg (by omega)]
        rw [gt, hti] at this
        exact Option.some.inj this
      subst hg
      have hri : upS rs i r i = r := by simp [upS]
      have hnd := no_dead K inv hin ho hir hti
      rcases D.sel with ⟨_, _, _, nt, r2, e1⟩ | ⟨_, _, q1, q⟩
      · rw [hri] at e1
        exact .inl ⟨_, e1, r, e1⟩
      · rcases q with ⟨q, _⟩ | ⟨_, _, p, q2, q3, _⟩
        · rw [hnd] at q; cases q
        · rw [hri] at q3
          refine .inr ⟨p.1, p.2, q3, upS rs i r, h', ht', ?_, ?_⟩
          · exact tr_pan (n - (i + 1)) (i + 1) (by rw [Nat.add_sub_of_le hin]; exact ht') t1 q2
          · intro hD
            obtain ⟨z, z0, z1, _⟩ := tr_dead (n - (i + 1)) (i + 1) (by rw [Nat.add_sub_of_le hin]; exact ht')
            have : z = g1 := Option.some.inj (z0.symm.trans t1)
            subst this
            have := z1 i (by rw [q1]; exact List.mem_cons_self)
            rw [hD] at this
            cases this
    have key : GuardWp rd P ops o a w (wpAnyIn (FW rd) 0 P .any ops Qx (d + (ops.size - n)) (listed.setIfInBounds i true)) Qx := by
      refine guarded_sound (K := fun v1 v2 _ _ => ∃ rs' h', tr P call ops st frx fr0 X CL rs' n = some h' ∧ h'.pan = some (v1, v2) ∧ h'.D ≠ []) (hc _ _) f1 hgood (.of hrel) ?_ (fun v1 v2 st' w' hkk hr' => ?_)
      rotate_left
      · obtain ⟨rs', h', e1, e2, e3⟩ := hkk r0
        exact hkp rs' h' v1 v2 e1 e2 e3 a w' (fr_pan hf0 inv) (rel_pan hr xo inv hin hr'.low (y_low co K inv hin ho hir hunf hti) nt)
      intro x v1 v2 st' w' hq _ hr'
      obtain ⟨r, hs⟩ := hq r0
      obtain ⟨rs', L', H', h', inv'⟩ := inv_step xo co hf0 K hle hall inv hin ho hir hunf hti hs hr'
      exact ih _ _ _ _ _ _ _ inv' hcnt
    unfold wpOpIn
    simp only [ho]
    unfold GuardWp at key
    split
    · rename_i hw; rw [if_pos hw] at key; exact key
    · rename_i hw; rw [if_neg hw] at key; exact ⟨fun _ _ => trivial, key⟩
theorem region_draw {rd : Option Nat} {dk : Bool} (hc : ∀ N w0, CallOk P N w0 call) (hdk : dk = true → rd = none) (id : Nat) : CodeOk rd P N w0 (.region id ops true) (drawB P call dk ops n (P.follows .mixedOrders && Reg.checkB ops n [])) := by
  intro fr st a w Q KP Qx h hf hr hn
  obtain ⟨F, hsF, hB, hkF⟩ := hr
  cases hb : (P.follows .mixedOrders && Reg.checkB ops n []) with
  | false => rw [hb] at h; exact (h r0).elim
  | true =>
    rw [hb] at h
    simp only [Bool.and_eq_true] at hb
    have K := Reg.checks hb.2
    generalize hP : (⟨probe P st rz (ops.toList.take n) fr, n⟩ : PX) = frx at *
    have hpn : frx.n = n := by rw [← hP]
    generalize hX : xTags ops frx (ops.toList.take n) = X at *
    generalize hC : srcs ops (ops.toList.take n) = CL at *
    have h' : ∀ r, (drawX P call dk ops n frx fr st r X CL (xOkB st.M X && (nodupT CL && ltT n CL))).good Q KP := fun r => by
      have := h r
      simp only [drawB, drawK] at this
      rw [hP, hX, hC] at this
      exact this
    cases hx : (xOkB st.M X && (nodupT CL && ltT n CL)) with
    | false => rw [hx] at h'; exact (h' r0).elim
    | true =>
      rw [hx] at h'
      simp only [Bool.and_eq_true] at hx
      have xo := xOk_of hB hX.symm hx.1 (by rw [hpn]; exact Nat.le_refl _)
      have co := cOk_of hC.symm hx.2.1 hx.2.2
      have hle := K.le
      -- for all new things
      have all : ∀ rs : Nat → Sup, ∃ hh, tr P call ops st frx fr X CL rs n = some hh ∧ (tailK P call dk ops n st X fr (rs n) hh).good (fun x => (regK x).good Q KP) KP := by
        intro rs
        have hspl : ∀ i, i ≤ n → subSup n i (fun m => rs (m % (n + 1)) (m / (n + 1))) = rs i := by
          intro i hi
          funext j
          simp only [subSup]
          rw [Nat.mul_comm, Nat.mul_add_mod, Nat.mod_eq_of_lt (by omega), Nat.mul_add_div (by omega), Nat.div_eq_of_lt (by omega), Nat.add_zero]
        have h1 := h' fun m => rs (m % (n + 1)) (m / (n + 1))
        simp only [drawX] at h1
        rw [good_bind, good_bind, hspl n (Nat.le_refl _)] at h1
        have h1 := calm_good _ h1
        refine head_tr (rs := rs) (fun i hi => hspl i (Nat.le_of_lt hi)) (ops.toList.take n) 0 ⟨fr, [], [], [], [], none⟩ (fun j => ?_) (by simp; omega) rfl h1
        rw [Nat.zero_add, List.getElem?_take]
        simp
      refine wpIn_region_any hb.1 ?_
      have inv0 : Inv P call ops st frx fr X CL n w a (Array.replicate ops.size false) a { w with drawn := w.drawn + 1 } (fun _ => r0) (fun _ => 0) (fun _ => 0) (Classical.choose (all fun _ => r0)) := by
        have F : ∀ {j : Nat}, (Array.replicate ops.size false).getD j false = true → False := fun h => by rw [getD_replicate_false] at h; cases h
        exact ⟨⟨by simp, fun j oj _ hl => (F hl).elim, fun t _ ht => getD_in (by simpa using ht) (getD_replicate_false _ _)⟩, (Classical.choose_spec (all fun _ => r0)).1, rfl, rfl, rfl, Nat.le_refl _, fun _ _ _ => rfl, rfl, hf.defers,
          fun j t _ hl => (F hl).elim, fun t _ => hf.get t, fun j _ hl => (F hl).elim, fun j _ hl => (F hl).elim, fun j _ hl => (F hl).elim, fun j _ hl => (F hl).elim, fun j _ hl => (F hl).elim, fun j _ hl => (F hl).elim, fun j k _ _ _ hl => (F hl).elim, fun j _ hl => (F hl).elim⟩
      have := wpAny_head (Qx := Qx) hc hB xo co hf K (fun rs => let ⟨hh, e, _⟩ := all rs; ⟨hh, e⟩) (st.nt + 1000 * (n + 1)) (fun rs hh ht a' w' hf' hr' hD => by
        refine evalOps_sound (K := KP) (Q := fun x => (regK x).good Q KP) (hc _ _) hdk hn (ops.toList.drop n) hh.fr _ a' w' (fun r => ?_) hf' (.close hsF hkF hr')
        obtain ⟨h2, e2, g2⟩ := all (fun j => if j = n then r else rs j)
        have : h2 = hh := by
          have e3 := tr_prefix (P := P) (call := call) (ops := ops) (st := st) (frx := frx) (fr0 := fr) (X := X) (CL := CL) (rs := fun j => if j = n then r else rs j) (rs' := rs) n fun j hj => by show (if j = n then r else rs j) = rs j; rw [if_neg (by omega)]
          rw [e2, ht] at e3
          exact Option.some.inj e3
        subst this
        simp only [if_true, tailK, hD, tailB] at g2
        exact g2) (fun rs hh v1 v2 ht hp hD a' w' hf' hr' => by
        refine hn (.pan v1 v2) ⟨fr.n, (dstL ops n).map (fun t => (t, undef, a'.tmps.getD t undef)) ++ fr.l, fr.df⟩ ⟨dropT X st.M, st.nt + 1000 * (n + 1)⟩ a' w' (fun r => ?_) hf' (.close hsF hkF hr')
        obtain ⟨h2, e2, g2⟩ := all (fun j => if j = n then supOf (dstL ops n) (fun t => a'.tmps.getD t undef) r else rs j)
        have : h2 = hh := by
          have e3 := tr_prefix (P := P) (call := call) (ops := ops) (st := st) (frx := frx) (fr0 := fr) (X := X) (CL := CL) (rs := fun j => if j = n then supOf (dstL ops n) (fun t => a'.tmps.getD t undef) r else rs j) (rs' := rs) n fun j hj => by show (if j = n then _ else rs j) = rs j; rw [if_neg (by omega)]
          rw [e2, ht] at e3
          exact Option.some.inj e3
        subst this
        cases hDD : h2.D with
        | nil => exact absurd hDD hD
        | cons j l =>
          simp only [if_true, tailK, hDD, hp, tailB] at g2
          have g3 : Q (.pan v1 v2, ⟨fr.n, junkS (dstL ops n) (supOf (dstL ops n) (fun t => a'.tmps.getD t undef) r) ++ fr.l, fr.df⟩, ⟨dropT X st.M, st.nt + 1000 * (n + 1)⟩, fun i => supOf (dstL ops n) (fun t => a'.tmps.getD t undef) r (i + (dstL ops n).length)) := g2
          rw [junkS_sup, supOf_tl] at g3
          exact g3) n _ a _ _ _ _ _ inv0 (Reg.unl_init _ n (by simpa using hle))
      rw [show n + (ops.size - n) = ops.size by omega] at this
      exact this
end
section
variable {P : Program} {N : Nat → Prop} {w0 w : World} {G : Sum}
def RoundsOk (rd : Option Nat) (P : Program) (N : Nat → Prop) (w0 : World) (n : Nat) (c : Code) (e : EC) : Prop :=
  ∀ (fr : Fr) (st : St) (a : Act) (w : World) (Q : CQ) (K : PK) (Qx : Exit → Act → World → Prop), (∀ r, (e fr st r).good Q K) → FrOk fr a → Rel N w0 st w →
    (∀ ex fr st a w, (∀ r, Q (ex, fr, st, r)) → FrOk fr a → Rel N w0 st w → Qx ex.to a w) → Code.roundsIn (FW rd) 0 P c Qx n a w
theorem rounds_seq {rd : Option Nat} {n : Nat} {c : Code} {e1 e2 : EC} (h1 : CodeOk rd P N w0 c e1) (h2 : RoundsOk rd P N w0 n c e2) : RoundsOk rd P N w0 (n + 1) c (cSeq e1 e2) := by
  intro fr st a w Q K Qx h hf hr hn
  rw [roundsIn_succ]
  refine h1 fr st a w _ K _ (fun r => (good_bind _ _).1 (h r)) hf hr ?_
  intro e fr st a w hq hf hr
  cases e with
  | normal => exact h2 fr st a w Q K Qx hq hf hr hn
  | exit id => exact hn (.exit id) fr st a w hq hf hr
  | ret => exact hn .ret fr st a w hq hf hr
  | pan v1 v2 => exact hn (.pan v1 v2) fr st a w hq hf hr
theorem dkOf_ok (rd : Rd) : dkOf rd = true → rd.map Prod.snd = none := by
  cases rd with
  | none => intro _; rfl
  | some _ => intro h; cases h
/-- **what the evaluator answers is what the code does** -/
theorem evalR_sound (hG : ∀ N w0, SumOk P N w0 G) : ∀ n, (∀ rd N w0 c, CodeOk (rd.map Prod.snd) P N w0 c (evalR P G n rd c)) ∧ ∀ rd N w0 c, RoundsOk (rd.map Prod.snd) P N w0 n c (evalR P G n rd (.loop c))
  | 0 => ⟨fun rd N w0 c => code_fail c 50, fun rd N w0 c fr st a w Q K Qx h => (h r0).elim⟩
  | n + 1 => by
    obtain ⟨ih1, ih2⟩ := evalR_sound hG n
    have hcall : ∀ N w0, CallOk P N w0 (callE P G (evalR P G n)) := fun N w0 => callE_sound (hG N w0) fun rd c => ih1 rd N w0 c
    have hround : ∀ rd N w0 c, RoundsOk (rd.map Prod.snd) P N w0 (n + 1) c (evalR P G (n + 1) rd (.loop c)) := fun rd N w0 c => rounds_seq (ih1 rd N w0 c) (ih2 rd N w0 c)
    refine ⟨fun rd N w0 c => ?_, hround⟩
    cases c with
    | skip => exact code_end _ .normal fun Q a w h => wpIn_skip h
    | region id ops d =>
      cases d with
      | false => exact region_seq (hcall N w0) (dkOf_ok rd) id
      | true => exact region_draw hcall (dkOf_ok rd) id
    | seq a b => exact code_seq (ih1 rd N w0 a) (ih1 rd N w0 b)
    | cond c a b => exact code_cond (ih1 rd N w0 a) (ih1 rd N w0 b)
    | block id a => exact code_block (ih1 rd N w0 a)
    | loop a =>
      intro fr st act w Q K Qx h hf hr hn
      exact wpIn_loop_rounds (n + 1) (hround rd N w0 a fr st act w Q K Qx h hf hr hn)
    | rangeFunc g ps a b => exact code_range (hcall N w0) g ps a b
    | exit id => exact code_end _ (.exit id) fun Q a w h => wpIn_exit h
    | scope _ => exact code_fail _ 53
    | label l => exact code_end _ .normal fun Q a w h => wpIn_label h
    | goto _ => exact code_fail _ 54
    | ret => exact code_end _ .ret fun Q a w h => wpIn_ret h
    | refuse _ => exact code_fail _ 55
theorem evalC_sound (hG : ∀ N w0, SumOk P N w0 G) (n : Nat) (N : Nat → Prop) (w0 : World) (c : Code) : CodeOk none P N w0 c (evalC P G n c) := (evalR_sound hG n).1 none N w0 c
/-- **what the evaluator answers is what a call does** -/
theorem call_ok (hG : ∀ N w0, SumOk P N w0 G) (n : Nat) (N : Nat → Prop) (w0 : World) : CallOk P N w0 (callE P G (evalR P G n)) := callE_sound (hG N w0) fun rd c => (evalR_sound hG n).1 rd N w0 c
end
end Ev
end Go.Proofs.Ytbpnmjjmllgehaa
