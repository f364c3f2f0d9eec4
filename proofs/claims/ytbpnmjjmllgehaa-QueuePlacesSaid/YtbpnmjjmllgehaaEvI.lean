/- The evaluator answers what the program does: regions that draw their order, every order. No condition. -/
import Derived.Test.YtbpnmjjmllgehaaEvH
namespace Go.Proofs.Ytbpnmjjmllgehaa
open Go Go.RowKit
namespace Ev
section
variable {P : Program} {call : CallE} {ops : Array Oper} {st : St} {frx : PX} {fr0 : Fr} {X CL : List Nat} {n : Nat} {N : Nat → Prop} {w0 W : World} {a0 : Act}
def upS (rs : Nat → Sup) (i : Nat) (r : Sup) : Nat → Sup := fun j => if j = i then r else rs j
/-- the slots that a ready operation looks at read as in the walk of the text -/
theorem looks (K : Reg.Checks ops n []) {listed : Array Bool} {a : Act} {w : World} {rs : Nat → Sup} {L H : Nat → Nat} {h hi : HS} (inv : Inv P call ops st frx fr0 X CL n W a0 listed a w rs L H h) {i : Nat} {o : Oper} (hin : i < n) (ho : ops[i]? = some o)
    (hr : i ∈ Region.ready .any ops listed) (hun : listed.getD i false = false) (hti : tr P call ops st frx fr0 X CL rs i = some hi) : ∀ t ∈ o.looksAt ops, a.tmps.getD t undef = (lookL hi.fr.l t).2 := by
  intro t ht
  obtain ⟨g, g0, _, _, _, _, g4⟩ := tr_down (n - i) i (by rw [Nat.add_sub_of_le (Nat.le_of_lt hin)]; exact inv.trn)
  have : g = hi := Option.some.inj (g0.symm.trans hti)
  subst this
  obtain ⟨z, z0, _, _, _, _, z4⟩ := tr_down i 0 (by rw [Nat.zero_add]; exact hti)
  simp only [tr, Option.some.injEq] at z0
  subst z0
  have unw : (∀ j, j < n → Reg.dstOf ops j = some t → listed.getD j false = false ∧ i ≤ j) → a.tmps.getD t undef = (lookL g.fr.l t).2 := fun hu => by
    rw [inv.slotO t fun j hj hl hd => (by rw [(hu j hj hd).1] at hl; cases hl), z4 t fun j _ hj hd => by have := (hu j (by omega) hd).2; omega]
  by_cases hw : ∃ j, j < n ∧ Reg.dstOf ops j = some t
  · obtain ⟨j, hj, hd⟩ := hw
    have uniq : ∀ k, k < n → Reg.dstOf ops k = some t → k = j := fun k hk hdk => K.dist k j t hk hj hdk hd
    by_cases hji : j = i
    · exact unw fun k hk hdk => by rw [uniq k hk hdk, hji]; exact ⟨hun, Nat.le_refl _⟩
    · rcases K.look i j o t hin hj (Ne.symm hji) ho hd ht with ⟨hlt, _, hwt⟩ | ⟨hlt, _, hwt⟩
      · rw [inv.slotQ j t hj (Reg.waits hwt hr) hd, g4 t fun k hk1 hk2 hdk => by have := uniq k (by omega) hdk; omega]
      · refine unw fun k hk hdk => ?_
        rw [uniq k hk hdk]
        refine ⟨?_, Nat.le_of_lt hlt⟩
        cases hl : listed.getD j false with
        | false => rfl
        | true => have := Reg.closed inv.head hwt hl; rw [hun] at this; cases this
  · exact unw fun j hj hd => absurd ⟨j, hj, hd⟩ hw
def FX (ops : Array Oper) (frx : PX) (st : St) (i : Nat) (w : World) (Y : List Ent) (k : Nat) : Prop := k < w.heap.size ∧ (∀ e, xe ops frx st i = some e → e.b ≠ k) ∧ ∀ e ∈ Y, e.b ≠ k
theorem mem_visX {M : List Ent} {i : Nat} {e : Ent} : ∀ {l : List Oper}, e ∈ visX ops frx M i l → ∃ (k : Nat) (o : Oper) (x : Ent), l[k]? = some o ∧ hasT (depL o) i = true ∧ (xTag ops frx o).bind (find M) = some x ∧ e = roE x
  | [], h => by cases h
  | o :: l, h => by
    rcases List.mem_append.1 h with h | h
    · cases hb : hasT (depL o) i with
      | false => rw [hb] at h; cases h
      | true =>
        rw [hb] at h
        obtain ⟨x, hx, rfl⟩ := List.mem_map.1 h
        refine ⟨0, o, x, rfl, hb, ?_, rfl⟩
        cases ht : xTag ops frx o with
        | none => rw [ht] at hx; cases hx
        | some t => rw [ht] at hx; simpa [xEnt] using hx
    · obtain ⟨k, p, x, h1, h2⟩ := mem_visX h
      exact ⟨k + 1, p, x, h1, h2⟩
theorem y_low (co : COk ops CL n) (K : Reg.Checks ops n []) {listed : Array Bool} {a : Act} {w : World} {rs : Nat → Sup} {L H : Nat → Nat} {h hi : HS} (inv : Inv P call ops st frx fr0 X CL n W a0 listed a w rs L H h) {i : Nat} {o : Oper} (hin : i < n) (ho : ops[i]? = some o)
    (hrd : i ∈ Region.ready .any ops listed) (hun : listed.getD i false = false) (hti : tr P call ops st frx fr0 X CL rs i = some hi) : ∀ y ∈ yEnt hi (srcOf ops o), W.heap.size ≤ y.b := by
  obtain ⟨_, _, hlenY, _⟩ := tr_len i hti
  intro y hyy
  cases hk : srcOf ops o with
  | none => rw [hk] at hyy; cases hyy
  | some k =>
    rw [hk] at hyy
    have hyy' : y ∈ hi.Y.getD k [] := hyy
    have hki : k < i := by
      rcases Nat.lt_or_ge k i with h | h
      · exact h
      · rw [List.getD_eq_getElem?_getD, List.getElem?_eq_none (by omega)] at hyy'; cases hyy'
    have hsi : srcI ops i = some k := by unfold srcI; rw [ho]; exact hk
    obtain ⟨d, hd1, hd2, _⟩ := src_spec hk
    have hkn := co.lt i k hin hsi
    rcases K.look i k o d hin hkn (by omega) ho hd2 hd1 with ⟨hlt, _, hw⟩ | ⟨hlt, _, hw⟩
    · have hl := Reg.waits hw hrd
      obtain ⟨q, q0, _, _, _, ⟨c, q2⟩, _⟩ := tr_down (n - i) i (by rw [Nat.add_sub_of_le (Nat.le_of_lt hin)]; exact inv.trn)
      have : q = hi := Option.some.inj (q0.symm.trans hti)
      subst this
      have hm : y ∈ h.Y.getD k [] := by rw [q2, List.getD_eq_getElem?_getD, List.getElem?_append_left (by omega), ← List.getD_eq_getElem?_getD]; exact hyy'
      obtain ⟨_, _, _, p1, p2⟩ := inv.pend k hkn hl (fun j hj hsj => by rw [co.uniq j i k hj hin hsj hsi]; exact hun) y hm
      have := (inv.lo k hkn hl).1
      omega
    · omega
/-- what a ready operation waits for is done -/
theorem no_dead {listed : Array Bool} {a : Act} {w : World} {rs : Nat → Sup} {L H : Nat → Nat} {h hi : HS} (K : Reg.Checks ops n []) (inv : Inv P call ops st frx fr0 X CL n W a0 listed a w rs L H h) {i : Nat} {o : Oper} (hin : i < n) (ho : ops[i]? = some o)
    (hrd : i ∈ Region.ready .any ops listed) (hti : tr P call ops st frx fr0 X CL rs i = some hi) : anyT hi.D (depL o) = false := by
  cases hb : anyT hi.D (depL o) with
  | false => rfl
  | true =>
    exfalso
    obtain ⟨j, hj, hjd⟩ := anyT_iff.1 hb
    obtain ⟨ed, hed, hbd, rfl⟩ := mem_dep.1 hj
    have hlt : ed.on < i := K.back i o ed hin ho hed hbd
    have hll : listed.getD ed.on false = true := by
      obtain ⟨_, o2, h2, hall2⟩ := mem_ready.1 hrd
      have : o = o2 := Option.some.inj (ho.symm.trans h2)
      subst this
      exact hall2 ed hed hbd
    obtain ⟨q, q0, q1, _⟩ := tr_dead (n - i) i (by rw [Nat.add_sub_of_le (Nat.le_of_lt hin)]; exact inv.trn)
    have : q = hi := Option.some.inj (q0.symm.trans hti)
    subst this
    exact inv.dead ed.on (by omega) hll (q1 _ (hasT_mem0 hjd))
/-- the memory that a ready operation is given -/
theorem op_rel (hr : RelB N w0 st W) (xo : XOk ops frx st X n N W) (co : COk ops CL n) (K : Reg.Checks ops n []) {listed : Array Bool} {a : Act} {w : World} {rs : Nat → Sup} {L H : Nat → Nat} {h hi : HS} (inv : Inv P call ops st frx fr0 X CL n W a0 listed a w rs L H h) {i : Nat} {o : Oper} (hin : i < n) (ho : ops[i]? = some o)
    (hrd : i ∈ Region.ready .any ops listed) (hun : listed.getD i false = false) (hti : tr P call ops st frx fr0 X CL rs i = some hi) : RelB (FX ops frx st i w (yEnt hi (srcOf ops o))) w (hsSt ops frx st X i o (xTag ops frx o) hi) w := by
  obtain ⟨g, g0, _, ⟨c, g2⟩, _, ⟨cy, g3⟩, _⟩ := tr_down (n - i) i (by rw [Nat.add_sub_of_le (Nat.le_of_lt hin)]; exact inv.trn)
  have : g = hi := Option.some.inj (g0.symm.trans hti)
  subst this
  obtain ⟨hlen, _, hlenY, _⟩ := tr_len i hti
  have hready : ∀ e ∈ o.after, Region.binds .any e = true → listed.getD e.on false = true := by
    obtain ⟨_, o', h2, hall⟩ := mem_ready.1 hrd
    have : o = o' := Option.some.inj (ho.symm.trans h2)
    subst this
    exact hall
  have hxe : ∀ e ∈ xEnt st.M (xTag ops frx o), xe ops frx st i = some e := by
    intro e he
    unfold xe
    rw [ho, Option.bind_some]
    cases hx : xTag ops frx o with
    | none => rw [hx] at he; cases he
    | some x =>
      rw [hx] at he
      simp only [xEnt, Option.mem_toList] at he
      exact he
  -- the variable that a store of the region alone may touch
  have hy : ∀ k, srcOf ops o = some k → k < i → listed.getD k false = true ∧ srcI ops i = some k ∧ ∀ e ∈ g.Y.getD k [], e.rw = true ∧ e.own = true ∧ (w.heap[e.b]? = some e.cur ∧ e.Fit) ∧ L k ≤ e.b ∧ e.b < H k := by
    intro k hk hki
    have hsi : srcI ops i = some k := by unfold srcI; rw [ho]; exact hk
    obtain ⟨d, hd1, hd2, p, t, hp, hpt⟩ := src_spec hk
    have hkn := co.lt i k hin hsi
    rcases K.look i k o d hin hkn (by omega) ho hd2 hd1 with ⟨hlt, _, hw⟩ | ⟨hlt, _, hw⟩
    · have hl := Reg.waits hw hrd
      refine ⟨hl, hsi, fun e he => ?_⟩
      refine inv.pend k hkn hl (fun j hj hsj => ?_) e (by rw [g3, List.getD_eq_getElem?_getD, List.getElem?_append_left (by omega), ← List.getD_eq_getElem?_getD]; exact he)
      rw [co.uniq j i k hj hin hsj hsi]
      exact hun
    · omega
  have old : ∀ x, xe ops frx st i = some x → w.heap[x.b]? = W.heap[x.b]? := fun x hx => by
    have hlt := heap_lt (xo.mem i x hin hx).2.2.2.2.2.1
    refine inv.block _ hlt fun k hk hl e he heq => ?_
    have hki : k ≠ i := fun e => by subst e; rw [hun] at hl; cases hl
    exact xo.ne k i e x hk hin hki he hx heq
  have yb : ∀ y ∈ yEnt g (srcOf ops o), ∃ k, k < i ∧ listed.getD k false = true ∧ srcI ops i = some k ∧ y.rw = true ∧ y.own = true ∧ (w.heap[y.b]? = some y.cur ∧ y.Fit) ∧ L k ≤ y.b ∧ y.b < H k := by
    intro y hyy
    cases hk : srcOf ops o with
    | none => rw [hk] at hyy; cases hyy
    | some k =>
      rw [hk] at hyy
      have hyy' : y ∈ g.Y.getD k [] := hyy
      have hki : k < i := by
        rcases Nat.lt_or_ge k i with h | h
        · exact h
        · rw [List.getD_eq_getElem?_getD, List.getElem?_eq_none (by omega)] at hyy'; cases hyy'
      obtain ⟨q1, q2, q3⟩ := hy k hk hki
      exact ⟨k, hki, q1, q2, q3 y hyy'⟩
  have dep : ∀ e ∈ depE g.C (depL o), e.rw = false ∧ EntOk (FX ops frx st i w (yEnt g (srcOf ops o))) w e := by
    intro e he
    obtain ⟨j, hj, hm⟩ := mem_depE he
    obtain ⟨ed, hed, hb, rfl⟩ := mem_dep.1 hj
    have hlt : ed.on < i := K.back i o ed hin ho hed hb
    have hl : listed.getD ed.on false = true := hready ed hed hb
    have hm' : e ∈ h.C.getD ed.on [] := by
      rw [g2, List.getD_eq_getElem?_getD, List.getElem?_append_left (by omega), ← List.getD_eq_getElem?_getD]
      exact hm
    obtain ⟨c1, c2, c3, k, hk, hkl, c4⟩ := inv.ents ed.on (by omega) hl e hm'
    refine ⟨own_holds c2 c3, fun hr => (by rw [c1] at hr; cases hr), fun _ => .inl ⟨heap_lt c3.1, fun x hx heq => ?_, fun y hyy heq => ?_⟩⟩ |> fun x => ⟨c1, x⟩
    · have hxlt := heap_lt (xo.mem i x hin hx).2.2.2.2.2.1
      rcases c4 with c4 | ⟨y, hy, e1⟩
      · have := inv.lo k hk hkl
        omega
      · have hki : k ≠ i := fun e => by subst e; rw [hun] at hkl; cases hkl
        exact xo.ne k i y x hk hin hki hy hx (by rw [← e1, heq])
    · obtain ⟨q, q1, q2, q3, _, _, _, q5, q6⟩ := yb y hyy
      rcases c4 with ⟨c5, c6, c7⟩ | ⟨x, hx, e1⟩
      · have hkq : k ≠ q := fun e => by
          subst e
          have := c7 i hin q3
          rw [hun] at this
          cases this
        have := inv.apart k q hk (by omega) hkq hkl q2
        omega
      · have := heap_lt (xo.mem k x hk hx).2.2.2.2.2.1
        have := (inv.lo q (by omega) q2).1
        omega
  have ro : ∀ e ∈ (dropT X st.M).map roE, e.rw = false ∧ EntOk (FX ops frx st i w (yEnt g (srcOf ops o))) w e := by
    intro e he
    obtain ⟨f, hf, rfl⟩ := List.mem_map.1 he
    have hE := hr.ent f ((dropT_sub X st.M).subset hf)
    by_cases hsol : f.rw = true ∨ N f.b
    · obtain ⟨k1, k2⟩ := keep_drop hr xo inv hf hsol
      have hh := hE.toHolds.same k2
      refine ⟨rfl, ⟨hh.own, hh.cells, hh.row⟩, fun hr => (by cases hr), fun _ => .inl ⟨Nat.lt_of_lt_of_le k1 inv.grow, fun x hx => xo.drop i x f hin hx hf hsol, fun y hyy heq => ?_⟩⟩
      obtain ⟨q, q1, q2, q3, _, _, _, q5, q6⟩ := yb y hyy
      have := (inv.lo q (by omega) q2).1
      have heq' : y.b = f.b := heq
      omega
    · have hv : f.Void := by
        cases hfr : f.rw with
        | true => exact absurd (.inl hfr) hsol
        | false => exact (hE.ro hfr).resolve_left fun hn => hsol (.inr hn)
      have hv' : (roE f).Void := hv
      exact ⟨rfl, hv'.holds w, fun hr => (by cases hr), fun _ => .inr hv'⟩
  have vis : ∀ e ∈ visX ops frx st.M i (ops.toList.take frx.n), e.rw = false ∧ EntOk (FX ops frx st i w (yEnt g (srcOf ops o))) w e := by
    intro e he
    obtain ⟨k, p, x, h1, h2, h3, rfl⟩ := mem_visX he
    have hkl := (List.getElem?_eq_some_iff.1 h1).1
    rw [List.length_take] at hkl
    have hkn : k < n := by have := xo.le; omega
    have hkp : ops[k]? = some p := by rw [List.getElem?_take_of_lt (by omega)] at h1; simpa using h1
    have hxk : xe ops frx st k = some x := by unfold xe; rw [hkp]; exact h3
    obtain ⟨ed, e1, e2, e3⟩ := mem_dep.1 (hasT_mem.1 h2)
    have hik : i < k := by rw [← e3]; exact K.back k p ed hkn hkp e1 e2
    have hw : Region.waitsFor .any ops k i = true := by
      unfold Region.waitsFor
      rw [hkp]
      simp only [Array.any_eq_true']
      exact ⟨ed, e1, by simp [e2, e3]⟩
    have hku : listed.getD k false = false := by
      cases hl : listed.getD k false with
      | false => rfl
      | true => have := Reg.closed inv.head hw hl; rw [hun] at this; cases this
    obtain ⟨_, _, _, m4, _, m6⟩ := xo.mem k x hkn hxk
    have hb : w.heap[x.b]? = W.heap[x.b]? := inv.block _ (heap_lt m6.1) fun m hm hml y hy heq => by
      have hmk : m ≠ k := fun h => by subst h; rw [hku] at hml; cases hml
      exact xo.ne m k y x hm hkn hmk hy hxk heq
    have hw' : w.heap[x.b]? = some x.cur ∧ x.Fit := by rw [hb]; exact m6
    refine ⟨rfl, ⟨own_holds (e := roE x) m4 hw', fun hr => (by cases hr), fun _ => .inl ⟨heap_lt hw'.1, fun y hy heq => ?_, fun y hyy heq => ?_⟩⟩⟩
    · exact xo.ne i k y x hin hkn (by omega) hy hxk heq
    · obtain ⟨q, q1, q2, q3, _, _, _, q5, q6⟩ := yb y hyy
      have := (inv.lo q (by omega) q2).1
      have := heap_lt m6.1
      have heq' : y.b = x.b := heq
      omega
  have hrest : ∀ e ∈ depE g.C (depL o) ++ (visX ops frx st.M i (ops.toList.take frx.n) ++ (dropT X st.M).map roE), e.rw = false ∧ EntOk (FX ops frx st i w (yEnt g (srcOf ops o))) w e := fun e he => by
    rcases List.mem_append.1 he with he | he
    · exact dep e he
    · rcases List.mem_append.1 he with he | he
      · exact vis e he
      · exact ro e he
  refine ⟨fun e he => ?_, ?_, Keep.refl _ _, fun k hk => hk.1⟩
  · have he' : e ∈ xEnt st.M (xTag ops frx o) ++ (yEnt g (srcOf ops o) ++ (depE g.C (depL o) ++ (visX ops frx st.M i (ops.toList.take frx.n) ++ (dropT X st.M).map roE))) := he
    rcases List.mem_append.1 he' with hx | he'
    · have hx' := hxe e hx
      obtain ⟨_, m2, _, m4, m5, m6⟩ := xo.mem i e hin hx'
      have hw : w.heap[e.b]? = some e.cur ∧ e.Fit := by rw [old e hx']; exact m6
      exact ⟨own_holds m4 hw, fun _ => ⟨fun hF => hF.2.1 e hx' rfl, m4⟩, fun hf => (by rw [m2] at hf; cases hf)⟩
    · rcases List.mem_append.1 he' with hyy | he'
      · obtain ⟨q, q1, q2, q3, p1, p2, p3, _⟩ := yb e hyy
        exact ⟨own_holds p2 p3, fun _ => ⟨fun hF => hF.2.2 e hyy rfl, p2⟩, fun hf => (by rw [p1] at hf; cases hf)⟩
      · exact (hrest e he').2
  · have two : ∀ l : List Ent, (∀ e ∈ l, e.rw = false) → l.Pairwise fun e f => e.rw = true → f.rw = true → e.b ≠ f.b := fun l hl =>
      List.pairwise_of_forall_mem_list fun e he f _ h1 => by rw [hl e he] at h1; cases h1
    show (xEnt st.M (xTag ops frx o) ++ (yEnt g (srcOf ops o) ++ (depE g.C (depL o) ++ (visX ops frx st.M i (ops.toList.take frx.n) ++ (dropT X st.M).map roE)))).Pairwise _
    rw [List.pairwise_append, List.pairwise_append]
    refine ⟨?_, ⟨?_, two _ fun e he => (hrest e he).1, fun e _ f hf _ h2 => by rw [(hrest f hf).1] at h2; cases h2⟩, fun e he f hf _ h2 => ?_⟩
    · cases xTag ops frx o with
      | none => exact List.Pairwise.nil
      | some x =>
        show (find st.M x).toList.Pairwise _
        cases find st.M x with
        | none => exact List.Pairwise.nil
        | some e => exact List.pairwise_singleton _ _
    · cases hk : srcOf ops o with
      | none => exact List.Pairwise.nil
      | some k =>
        show (g.Y.getD k []).Pairwise _
        by_cases hki : k < i
        · obtain ⟨q2, _, _⟩ := hy k hk hki
          have := inv.distY k (by omega) q2
          rw [g3, List.getD_eq_getElem?_getD, List.getElem?_append_left (by omega), ← List.getD_eq_getElem?_getD] at this
          exact this.imp fun h _ _ => h
        · rw [List.getD_eq_getElem?_getD, List.getElem?_eq_none (by omega)]
          exact List.Pairwise.nil
    · rcases List.mem_append.1 hf with hyy | hf
      · obtain ⟨q, q1, q2, q3, _, _, _, q5, q6⟩ := yb f hyy
        have := heap_lt (xo.mem i e hin (hxe e he)).2.2.2.2.2.1
        have := (inv.lo q (by omega) q2).1
        omega
      · rw [(hrest f hf).1] at h2; cases h2
end
end Ev
end Go.Proofs.Ytbpnmjjmllgehaa
