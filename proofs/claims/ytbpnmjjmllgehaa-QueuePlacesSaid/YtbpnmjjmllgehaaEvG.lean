/- The evaluator answers what the program does: regions that draw their order, all orders. No condition. -/
import Derived.Test.YtbpnmjjmllgehaaEvR
namespace Go.Proofs.Ytbpnmjjmllgehaa
open Go Go.RowKit
namespace Ev
section
variable {P : Program} {call : CallE} {ops : Array Oper} {st : St} {frx : PX} {fr0 : Fr} {X CL : List Nat} {n : Nat}
theorem hasT_mem0 {x : Nat} : ∀ {l : List Nat}, hasT l x = true → x ∈ l
  | [], h => by cases h
  | y :: l, h => by
    unfold hasT at h
    cases hb : Nat.beq y x with
    | true => rw [Nat.eq_of_beq_eq_true hb]; exact List.mem_cons_self
    | false => rw [hb] at h; exact List.mem_cons_of_mem _ (hasT_mem0 h)
theorem mem_dep {o : Oper} {j : Nat} : j ∈ depL o ↔ ∃ e ∈ o.after, Region.binds .any e = true ∧ e.on = j := by
  unfold depL
  rw [List.mem_filterMap]
  constructor
  · rintro ⟨e, he, hj⟩
    cases hb : Region.binds .any e with
    | true => rw [hb] at hj; exact ⟨e, by simpa using he, hb, Option.some.inj hj⟩
    | false => rw [hb] at hj; cases hj
  · rintro ⟨e, he, hb, rfl⟩
    exact ⟨e, by simpa using he, by rw [hb]⟩
theorem waits_dep {i j : Nat} {o : Oper} (ho : ops[i]? = some o) (h : Region.waitsFor .any ops i j = true) : j ∈ depL o := by
  obtain ⟨o', h1, e, he, hb, hon⟩ := Region.waitsFor_spec h
  have : o' = o := Option.some.inj (h1.symm.trans ho)
  subst this
  exact mem_dep.2 ⟨e, he, hb, hon⟩
theorem depE_congr {C C' : List (List Ent)} : ∀ l : List Nat, (∀ j ∈ l, C.getD j [] = C'.getD j []) → depE C l = depE C' l
  | [], _ => rfl
  | j :: l, h => by
    simp only [depE]
    rw [depE_congr l fun k hk => h k (List.mem_cons_of_mem _ hk), h j List.mem_cons_self]
theorem mem_addE {C : List Ent} {e x : Ent} (h : x ∈ addE C e) : x = e ∨ x ∈ C := by
  unfold addE at h
  cases hf : find C e.tag with
  | none => rw [hf] at h; simpa [addB] using h
  | some y => rw [hf] at h; exact .inr h
theorem mem_union : ∀ {l C : List Ent} {x : Ent}, x ∈ unionE l C → x ∈ l ∨ x ∈ C
  | [], C, x, h => .inr h
  | e :: l, C, x, h => by
    rcases mem_union (l := l) h with h | h
    · exact .inl (List.mem_cons_of_mem _ h)
    · rcases mem_addE h with rfl | h
      · exact .inl List.mem_cons_self
      · exact .inr h
theorem mem_depE {C : List (List Ent)} {x : Ent} : ∀ {l : List Nat}, x ∈ depE C l → ∃ j ∈ l, x ∈ C.getD j []
  | [], h => by cases h
  | j :: l, h => by
    rcases mem_union h with h | h
    · exact ⟨j, List.mem_cons_self, h⟩
    · obtain ⟨k, hk, hx⟩ := mem_depE (l := l) h
      exact ⟨k, List.mem_cons_of_mem _ hk, hx⟩
theorem allocAt_spec {d : Nat} : ∀ {l : List Oper} {k0 k : Nat}, allocAt d l k0 = some k → ∃ j o t, k = k0 + j ∧ l[j]? = some o ∧ o.op = .alloc t ∧ o.dst = some d
  | [], _, _, h => by cases h
  | o :: l, k0, k, h => by
    have rest : allocAt d l (k0 + 1) = some k → ∃ j p t, k = k0 + j ∧ (o :: l)[j]? = some p ∧ p.op = .alloc t ∧ p.dst = some d := fun h => by
      obtain ⟨j, p, t, h1, h2, h3, h4⟩ := allocAt_spec h
      exact ⟨j + 1, p, t, by omega, by simpa using h2, h3, h4⟩
    unfold allocAt at h
    split at h
    · rename_i t e ho hd
      cases hb : Nat.beq e d with
      | true =>
        rw [hb] at h
        simp only [Option.some.injEq] at h
        exact ⟨0, o, t, by omega, rfl, ho, by rw [hd, Nat.eq_of_beq_eq_true hb]⟩
      | false => rw [hb] at h; exact rest h
    · exact rest h
theorem src_spec {o : Oper} {k : Nat} (h : srcOf ops o = some k) : ∃ d, d ∈ o.looksAt ops ∧ Reg.dstOf ops k = some d ∧ ∃ p t, ops[k]? = some p ∧ p.op = .alloc t := by
  unfold srcOf at h
  split at h
  · rename_i t d v ho
    obtain ⟨j, p, u, h1, h2, h3, h4⟩ := allocAt_spec h
    have hk : ops[k]? = some p := by rw [h1, Nat.zero_add]; simpa using h2
    exact ⟨d, List.mem_append_left _ (List.mem_filterMap.2 ⟨.tmp d, by rw [ho]; simp [Op.operands], rfl⟩), by simp [Reg.dstOf, hk, h4], p, u, hk, h3⟩
  · cases h
/-- two walks whose new things agree on a closed set of operations: what those operations did is the same -/
theorem agree (K : Reg.Checks ops n []) (hsel : ∀ (j : Nat) (o : Oper) cs b, ops[j]? = some o → o.op ≠ .select cs b) {S : Nat → Prop} (hS : ∀ i o, i < n → S i → ops[i]? = some o → ∀ j ∈ depL o, S j) {rs rs' : Nat → Sup} (hrs : ∀ j, S j → rs j = rs' j) :
    ∀ (i : Nat) (h h' : HS), i ≤ n → tr P call ops st frx fr0 X CL rs i = some h → tr P call ops st frx fr0 X CL rs' i = some h' → (∀ j, S j → j ∉ h.D) →
      (∀ j, j < i → S j → j ∉ h'.D) ∧ (∀ j, j < i → S j → h.C.getD j [] = h'.C.getD j [] ∧ h.W.getD j [] = h'.W.getD j [] ∧ h.Y.getD j [] = h'.Y.getD j []) ∧ ∀ t, (∀ j, j < i → Reg.dstOf ops j = some t → S j) → lookL h.fr.l t = lookL h'.fr.l t
  | 0, h, h', _, ht, ht', _ => by
    simp only [tr, Option.some.injEq] at ht ht'
    subst ht; subst ht'
    exact ⟨fun j hj => by omega, fun j hj => by omega, fun _ _ => rfl⟩
  | i + 1, h, h', hi, ht, ht', hS0 => by
    obtain ⟨o, g, x, v1, v2, M, ho, gt, D⟩ := tr_step ht
    obtain ⟨o', g', x', v1', v2', M', ho', gt', D'⟩ := tr_step ht'
    have : o' = o := Option.some.inj (ho'.symm.trans ho)
    subst this
    have hS1 : ∀ j, S j → j ∉ g.D := fun j hj hm => hS0 j hj (by
      rcases D.sel with ⟨_, hd, _⟩ | ⟨_, _, hd, _⟩
      · rw [hd]; exact hm
      · rw [hd]; exact List.mem_cons_of_mem _ hm)
    obtain ⟨a0, a1, a2⟩ := agree K hsel hS hrs i g g' (by omega) gt gt' hS1
    obtain ⟨c1, w1, y1, n1⟩ := tr_len i gt
    obtain ⟨c1', w1', y1', n1'⟩ := tr_len i gt'
    have key : S i → (v1 = v1' ∧ v2 = v2' ∧ M = M') ∧ h'.D = g'.D := by
      intro hs
      have hdep : ∀ j ∈ depL o', j < i ∧ S j := fun j hj => by
        obtain ⟨e, he, hb, rfl⟩ := mem_dep.1 hj
        exact ⟨K.back i o' e (by omega) ho he hb, hS i o' (by omega) hs ho _ hj⟩
      have hd : depE g.C (depL o') = depE g'.C (depL o') := depE_congr _ fun j hj => (a1 j (hdep j hj).1 (hdep j hj).2).1
      have hy : yEnt g (srcOf ops o') = yEnt g' (srcOf ops o') := by
        cases hso : srcOf ops o' with
        | none => rfl
        | some k =>
          by_cases hk : k < i
          · by_cases hkS : S k
            · exact (a1 k hk hkS).2.2
            · exfalso
              obtain ⟨d, hd1, hd2, hd3⟩ := src_spec hso
              rcases K.look i k o' d (by omega) (by omega) (by omega) ho hd2 hd1 with ⟨_, _, hw⟩ | ⟨hlt, _⟩
              · exact hkS (hdep k (waits_dep ho hw)).2
              · omega
          · show g.Y.getD k [] = g'.Y.getD k []
            simp only [List.getD_eq_getElem?_getD]
            rw [List.getElem?_eq_none (by omega), List.getElem?_eq_none (by omega)]
      have hst : hsSt ops frx st X i o' (xTag ops frx o') g = hsSt ops frx st X i o' (xTag ops frx o') g' := by unfold hsSt; rw [hd, hy]
      have hg : guarded P call ops o' g.fr (hsSt ops frx st X i o' (xTag ops frx o') g) (rs i) = guarded P call ops o' g'.fr (hsSt ops frx st X i o' (xTag ops frx o') g') (rs' i) := by
        rw [hst, hrs i hs]
        refine guarded_congr (hsel i o' · · ho) (fun t ht => a2 t fun j hj hdj => ?_) _ _
        rcases K.look i j o' t (by omega) (by omega) (by omega) ho hdj ht with ⟨_, _, hw⟩ | ⟨hlt, _⟩
        · exact (hdep j (waits_dep ho hw)).2
        · omega
      rcases D.sel with ⟨_, _, _, nt, r, e1⟩ | ⟨_, _, hd1, _⟩
      · rcases D'.sel with ⟨_, q1, _, nt', r', e2⟩ | ⟨_, _, _, q1⟩
        · rw [hg, e2] at e1
          simp only [Option.some.injEq, Prod.mk.injEq, St.mk.injEq] at e1
          exact ⟨⟨e1.2.1.symm, e1.2.2.1.symm, e1.2.2.2.1.1.symm⟩, q1⟩
        · exfalso
          rcases q1 with ⟨q1, _⟩ | ⟨_, _, _, _, _, q1⟩
          · obtain ⟨j, hj, hjd⟩ := anyT_iff.1 q1
            exact a0 j (hdep j hj).1 (hdep j hj).2 (hasT_mem0 hjd)
          · rw [hg, q1] at e1; cases e1
      · exact absurd (by rw [hd1]; exact List.mem_cons_self) (hS0 i hs)
    refine ⟨fun j hj hs => ?_, fun j hj hs => ?_, fun t ht => ?_⟩
    · by_cases hji : j < i
      · have h1 := a0 j hji hs
        rcases D'.sel with ⟨_, hd, _⟩ | ⟨_, _, hd, _⟩
        · rw [hd]; exact h1
        · rw [hd]
          intro hm
          rcases List.mem_cons.1 hm with e | hm
          · omega
          · exact h1 hm
      · have : j = i := by omega
        subst this
        rw [(key hs).2]
        intro hm
        have := tr_dlt j gt' j hm
        omega
    · rw [D.C, D'.C, D.W, D'.W, D.Y, D'.Y]
      by_cases hji : j < i
      · simp only [List.getD_eq_getElem?_getD]
        rw [List.getElem?_append_left (by omega), List.getElem?_append_left (by omega), List.getElem?_append_left (by omega), List.getElem?_append_left (by omega), List.getElem?_append_left (by omega), List.getElem?_append_left (by omega)]
        simpa only [List.getD_eq_getElem?_getD] using a1 j hji hs
      · have : j = i := by omega
        subst this
        obtain ⟨⟨_, _, rfl⟩, _⟩ := key hs
        have hd : depE g.C (depL o') = depE g'.C (depL o') := depE_congr _ fun k hk => by
          obtain ⟨e, he, hb, rfl⟩ := mem_dep.1 hk
          exact (a1 _ (K.back j o' e (by omega) ho he hb) (hS j o' (by omega) hs ho _ hk)).1
        simp only [List.getD_eq_getElem?_getD]
        rw [List.getElem?_append_right (by omega), List.getElem?_append_right (by omega), List.getElem?_append_right (by omega), List.getElem?_append_right (by omega), List.getElem?_append_right (by omega), List.getElem?_append_right (by omega), c1, c1', w1, w1', y1, y1', hd]
        exact ⟨rfl, rfl, rfl⟩
    · rw [D.look, D'.look]
      by_cases hd : o'.dst = some t
      · rw [if_pos hd, if_pos hd]
        obtain ⟨⟨rfl, rfl, _⟩, _⟩ := key (ht i (by omega) (by simp [Reg.dstOf, ho, hd]))
        rfl
      · rw [if_neg hd, if_neg hd]
        have hlt := a2 t fun j hj hdj => ht j (by omega) hdj
        have skip : ∀ (f : Fr) (x : Dec), (∀ d v, x = some (d, v) → gSlot ops o' = some d) → gSlot ops o' ≠ some t → lookL (setD f x).l t = lookL f.l t := by
          intro f x hx hne
          cases x with
          | none => rfl
          | some dv =>
            obtain ⟨d, v⟩ := dv
            show lookL ((d, .bool v, .bool v) :: f.l) t = _
            rw [look_cons, if_neg (fun e => hne (by rw [← e]; exact hx d v rfl))]
        by_cases hg : gSlot ops o' = some t
        · obtain ⟨⟨b, e1⟩, _⟩ := D.dec
          obtain ⟨⟨b', e2⟩, _⟩ := D'.dec
          rw [gsplit_congr (fr' := g'.fr) fun u hu => by rw [hg] at hu; cases hu; exact hlt, e2] at e1
          simp only [Option.some.injEq, Prod.mk.injEq] at e1
          rw [← e1.1]
          exact setD_congr hlt
        · rw [skip g.fr x (fun d v e => (D.dec.2 d v e).1) hg, skip g'.fr x' (fun d v e => (D'.dec.2 d v e).1) hg]
          exact hlt
/-- a frame that reads as the slots do, and, at the slots that are asked, as another frame -/
noncomputable def frOf (a : Act) (g : Fr) (T : List Tmp) : Fr :=
  ⟨a.tmps.size, T.map (fun t => (t, lookL g.l t)) ++ (List.range a.tmps.size).map (fun t => (t, undef, a.tmps.getD t undef)), g.df⟩
theorem look_map (f : Nat → Value × Value) (t : Nat) (r : List (Nat × Value × Value)) : ∀ l : List Nat, lookL (l.map (fun t => (t, f t)) ++ r) t = if t ∈ l then f t else lookL r t
  | [] => by simp
  | x :: l => by
    rw [List.map_cons, List.cons_append, look_cons, look_map f t r l]
    by_cases h : x = t
    · subst h; simp
    · simp [h, Ne.symm h]
theorem frOf_ok {a : Act} {g : Fr} {T : List Tmp} (hd : a.defers = g.df.map Prod.snd) (h : ∀ t ∈ T, a.tmps.getD t undef = (lookL g.l t).2) : FrOk (frOf a g T) a ∧ ∀ t ∈ T, lookL (frOf a g T).l t = lookL g.l t := by
  have hl : ∀ t, lookL (frOf a g T).l t = if t ∈ T then lookL g.l t else if t < a.tmps.size then (undef, a.tmps.getD t undef) else (undef, undef) := fun t => by
    unfold frOf
    rw [look_map (fun t => lookL g.l t)]
    have := look_map (fun t => (undef, a.tmps.getD t undef)) t [] (List.range a.tmps.size)
    rw [List.append_nil] at this
    rw [this]
    simp only [List.mem_range]
    rfl
  refine ⟨⟨rfl, fun t => ?_, hd⟩, fun t ht => by rw [hl, if_pos ht]⟩
  rw [hl]
  by_cases hT : t ∈ T
  · rw [if_pos hT]; exact h t hT
  · rw [if_neg hT]
    by_cases hs : t < a.tmps.size
    · rw [if_pos hs]
    · rw [if_neg hs]
      simp [Array.getD_eq_getD_getElem?, Array.getElem?_eq_none (show a.tmps.size ≤ t by omega)]
end
end Ev
end Go.Proofs.Ytbpnmjjmllgehaa
