/- The evaluator answers what the program does: regions that draw their order, the theorem. No condition. -/
import Derived.Test.YtbpnmjjmllgehaaEvG
namespace Go.Proofs.Ytbpnmjjmllgehaa
open Go Go.RowKit
namespace Ev
theorem hasT_mem : ∀ {l : List Nat} {t : Nat}, hasT l t = true ↔ t ∈ l
  | [], t => by simp [hasT]
  | x :: l, t => by
    simp only [hasT, List.mem_cons]
    cases hb : Nat.beq x t with
    | true => have := Nat.eq_of_beq_eq_true hb; simp [this]
    | false =>
      have : t ≠ x := fun e => by subst e; rw [Nat.beq_refl] at hb; cases hb
      simp only [this, false_or]
      exact hasT_mem
theorem xOk_spec {M : List Ent} : ∀ {X : List Nat}, xOkB M X = true → X.Nodup ∧ ∀ x ∈ X, ∃ e, find M x = some e ∧ e.rw = true
  | [], _ => ⟨List.nodup_nil, fun x hx => by cases hx⟩
  | x :: X, h => by
    simp only [xOkB, Bool.and_eq_true, Bool.not_eq_true'] at h
    obtain ⟨⟨h1, h2⟩, h3⟩ := h
    obtain ⟨a, b⟩ := xOk_spec h3
    refine ⟨List.nodup_cons.2 ⟨fun hx => (by rw [hasT_mem.2 hx] at h2; cases h2), a⟩, fun y hy => ?_⟩
    rcases List.mem_cons.1 hy with rfl | hy
    · cases hf : find M y with
      | none => rw [hf] at h1; cases h1
      | some e => rw [hf] at h1; exact ⟨e, rfl, h1⟩
    · exact b y hy
theorem xTags_mem {ops : Array Oper} {frx : PX} : ∀ {l : List Oper} {o : Oper} {x : Nat}, o ∈ l → xTag ops frx o = some x → x ∈ xTags ops frx l
  | [], _, _, h, _ => by cases h
  | p :: l, o, x, h, hx => by
    simp only [xTags, List.mem_append]
    rcases List.mem_cons.1 h with rfl | h
    · exact .inl (by simp [hx])
    · exact .inr (xTags_mem h hx)
theorem xTags_ne {ops : Array Oper} {frx : PX} (l : List Oper) : ∀ (i j : Nat) (o p : Oper) (x y : Nat), (xTags ops frx l).Nodup → i < j → l[i]? = some o → l[j]? = some p → xTag ops frx o = some x → xTag ops frx p = some y → x ≠ y := by
  induction l with
  | nil => intro i j o p x y _ _ hi; simp at hi
  | cons q l ih =>
    intro i j o p x y hn hij hi hj hx hy
    simp only [xTags, List.nodup_append] at hn
    obtain ⟨_, n2, n3⟩ := hn
    obtain ⟨k, rfl⟩ : ∃ k, j = k + 1 := ⟨j - 1, by omega⟩
    rw [List.getElem?_cons_succ] at hj
    rcases Nat.eq_zero_or_pos i with h0 | h0
    · subst h0
      rw [List.getElem?_cons_zero] at hi
      have : q = o := Option.some.inj hi
      subst this
      exact n3 x (by rw [hx]; simp) y (xTags_mem (List.mem_of_getElem? hj) hy)
    · obtain ⟨m, rfl⟩ : ∃ m, i = m + 1 := ⟨i - 1, by omega⟩
      rw [List.getElem?_cons_succ] at hi
      exact ih m k o p x y n2 (by omega) hi hj hx hy
theorem dropT_sub (X : List Nat) : ∀ M : List Ent, (dropT X M).Sublist M
  | [] => .slnil
  | e :: M => by
    simp only [dropT]
    cases hasT X e.tag with
    | true => exact (dropT_sub X M).cons e
    | false => exact (dropT_sub X M).cons_cons e
theorem dropT_tag {X : List Nat} : ∀ {M : List Ent} {e : Ent}, e ∈ dropT X M → e.tag ∉ X
  | [], _, h => by cases h
  | x :: M, e, h => by
    simp only [dropT] at h
    cases hb : hasT X x.tag with
    | true => rw [hb] at h; exact dropT_tag h
    | false =>
      rw [hb] at h
      rcases List.mem_cons.1 h with rfl | h
      · intro hm; rw [hasT_mem.2 hm] at hb; cases hb
      · exact dropT_tag h
theorem put_getD {a : Act} {d : Option Tmp} {v : Value} (t : Nat) : (a.put d v).tmps.getD t undef = if d = some t ∧ t < a.tmps.size then v else a.tmps.getD t undef := by
  cases d with
  | none => simp [Act.put]
  | some d =>
    by_cases h : d = t
    · subst h
      by_cases hs : d < a.tmps.size
      · simp [Act.put, hs]
      · simp [Act.put, hs]
    · simp [Act.put, Array.getD_eq_getD_getElem?, Array.getElem?_setIfInBounds_ne h, h]
section
variable {P : Program} {call : CallE} {ops : Array Oper} {st : St} {frx : PX} {fr0 : Fr} {X CL : List Nat} {n : Nat} {N : Nat → Prop} {w0 W : World} {a0 : Act}
/-- the entry that operation i alone may write -/
noncomputable def xe (ops : Array Oper) (frx : PX) (st : St) (i : Nat) : Option Ent := ((ops[i]?).bind (xTag ops frx)).bind (find st.M)
/-- the operation that makes the variable into which operation i stores -/
def srcI (ops : Array Oper) (i : Nat) : Option Nat := (ops[i]?).bind (srcOf ops)
structure COk (ops : Array Oper) (CL : List Nat) (n : Nat) : Prop where
  mem : ∀ i k, i < n → srcI ops i = some k → hasT CL k = true
  ex : ∀ k, hasT CL k = true → ∃ i, i < n ∧ srcI ops i = some k
  uniq : ∀ i j k, i < n → j < n → srcI ops i = some k → srcI ops j = some k → i = j
  lt : ∀ i k, i < n → srcI ops i = some k → k < n
theorem srcs_mem {ops : Array Oper} {k : Nat} : ∀ {l : List Oper}, k ∈ srcs ops l ↔ ∃ o ∈ l, srcOf ops o = some k
  | [] => by simp [srcs]
  | p :: l => by
    simp only [srcs, List.mem_append, Option.mem_toList, List.mem_cons, exists_eq_or_imp]
    rw [srcs_mem (l := l)]
theorem srcs_ne {ops : Array Oper} {k : Nat} : ∀ (l : List Oper) (i j : Nat) (o p : Oper), (srcs ops l).Nodup → i < j → l[i]? = some o → l[j]? = some p → srcOf ops o = some k → srcOf ops p = some k → False
  | [], _, _, _, _, _, _, hi, _, _, _ => by simp at hi
  | q :: l, i, j, o, p, hn, hij, hi, hj, hx, hy => by
    simp only [srcs, List.nodup_append] at hn
    obtain ⟨_, n2, n3⟩ := hn
    obtain ⟨m, rfl⟩ : ∃ m, j = m + 1 := ⟨j - 1, by omega⟩
    rw [List.getElem?_cons_succ] at hj
    rcases Nat.eq_zero_or_pos i with h0 | h0
    · subst h0
      rw [List.getElem?_cons_zero] at hi
      have : q = o := Option.some.inj hi
      subst this
      exact n3 k (by rw [hx]; simp) k (srcs_mem.2 ⟨p, List.mem_of_getElem? hj, hy⟩) rfl
    · obtain ⟨m', rfl⟩ : ∃ m, i = m + 1 := ⟨i - 1, by omega⟩
      rw [List.getElem?_cons_succ] at hi
      exact srcs_ne l m' m o p n2 (by omega) hi hj hx hy
theorem nodupT_nodup : ∀ {l : List Nat}, nodupT l = true → l.Nodup
  | [], _ => List.nodup_nil
  | x :: l, h => by
    simp only [nodupT, Bool.and_eq_true, Bool.not_eq_true'] at h
    exact List.nodup_cons.2 ⟨fun hx => (by rw [hasT_mem.2 hx] at h; cases h.1), nodupT_nodup h.2⟩
theorem ltT_lt : ∀ {l : List Nat}, ltT n l = true → ∀ k ∈ l, k < n
  | [], _, _, h => by cases h
  | x :: l, h, k, hk => by
    simp only [ltT, Bool.and_eq_true] at h
    rcases List.mem_cons.1 hk with rfl | hk
    · exact Nat.le_of_ble_eq_true h.1
    · exact ltT_lt h.2 k hk
theorem cOk_of (hC : CL = srcs ops (ops.toList.take n)) (hn : nodupT CL = true) (hl : ltT n CL = true) : COk ops CL n := by
  have hnd := nodupT_nodup hn
  have at' : ∀ i k, i < n → srcI ops i = some k → ∃ o, (ops.toList.take n)[i]? = some o ∧ srcOf ops o = some k := by
    intro i k hi hs
    unfold srcI at hs
    obtain ⟨o, h1, h2⟩ := Option.bind_eq_some_iff.1 hs
    exact ⟨o, by rw [List.getElem?_take_of_lt hi]; simpa using h1, h2⟩
  have mem : ∀ i k, i < n → srcI ops i = some k → k ∈ CL := fun i k hi hs => by
    obtain ⟨o, h1, h2⟩ := at' i k hi hs
    rw [hC]
    exact srcs_mem.2 ⟨o, List.mem_of_getElem? h1, h2⟩
  refine ⟨fun i k hi hs => hasT_mem.2 (mem i k hi hs), fun k hk => ?_, fun i j k hi hj h1 h2 => ?_, fun i k hi hs => ltT_lt hl k (mem i k hi hs)⟩
  · rw [hC] at hk
    obtain ⟨o, h1, h2⟩ := srcs_mem.1 (hasT_mem.1 hk)
    obtain ⟨i, hi⟩ := List.getElem?_of_mem h1
    have hlt := (List.getElem?_eq_some_iff.1 hi).1
    simp only [List.length_take] at hlt
    refine ⟨i, by omega, ?_⟩
    unfold srcI
    rw [List.getElem?_take_of_lt (by omega)] at hi
    have : ops[i]? = some o := by simpa using hi
    rw [this]
    exact h2
  · obtain ⟨o, a1, a2⟩ := at' i k hi h1
    obtain ⟨p, b1, b2⟩ := at' j k hj h2
    rw [hC] at hnd
    rcases Nat.lt_trichotomy i j with h | h | h
    · exact (srcs_ne _ i j o p hnd h a1 b1 a2 b2).elim
    · exact h
    · exact (srcs_ne _ j i p o hnd h b1 a1 b2 a2).elim
structure Inv (P : Program) (call : CallE) (ops : Array Oper) (st : St) (frx : PX) (fr0 : Fr) (X CL : List Nat) (n : Nat) (W : World) (a0 : Act) (listed : Array Bool) (a : Act) (w : World) (rs : Nat → Sup) (L H : Nat → Nat) (h : HS) : Prop where
  head : HeadInv .any ops n listed
  trn : tr P call ops st frx fr0 X CL rs n = some h
  os : w.os = W.os
  tape : w.tape = W.tape
  output : w.output = W.output
  grow : W.heap.size ≤ w.heap.size
  block : ∀ k, k < W.heap.size → (∀ i, i < n → listed.getD i false = true → ∀ e, xe ops frx st i = some e → e.b ≠ k) → w.heap[k]? = W.heap[k]?
  size : a.tmps.size = a0.tmps.size
  defers : a.defers = fr0.df.map Prod.snd
  slotQ : ∀ j t, j < n → listed.getD j false = true → Reg.dstOf ops j = some t → a.tmps.getD t undef = (lookL h.fr.l t).2
  slotO : ∀ t, (∀ j, j < n → listed.getD j false = true → Reg.dstOf ops j ≠ some t) → a.tmps.getD t undef = (lookL fr0.l t).2
  ents : ∀ j, j < n → listed.getD j false = true → ∀ e ∈ h.C.getD j [], e.rw = false ∧ e.own = true ∧ (w.heap[e.b]? = some e.cur ∧ e.Fit) ∧ ∃ k, k < n ∧ listed.getD k false = true ∧
    ((L k ≤ e.b ∧ e.b < H k ∧ ∀ i, i < n → srcI ops i = some k → listed.getD i false = true) ∨ ∃ x, xe ops frx st k = some x ∧ e.b = x.b)
  news : ∀ j, j < n → listed.getD j false = true → ∀ e ∈ h.W.getD j [], e.rw = true ∧ e.own = true ∧ (w.heap[e.b]? = some e.cur ∧ e.Fit) ∧
    ((L j ≤ e.b ∧ e.b < H j ∧ hasT CL j = false) ∨ (∃ x, xe ops frx st j = some x ∧ e.b = x.b) ∨ ∃ k, k < n ∧ listed.getD k false = true ∧ srcI ops j = some k ∧ L k ≤ e.b ∧ e.b < H k)
  pend : ∀ k, k < n → listed.getD k false = true → (∀ i, i < n → srcI ops i = some k → listed.getD i false = false) → ∀ e ∈ h.Y.getD k [], e.rw = true ∧ e.own = true ∧ (w.heap[e.b]? = some e.cur ∧ e.Fit) ∧ L k ≤ e.b ∧ e.b < H k
  dist : ∀ j, j < n → listed.getD j false = true → (h.W.getD j []).Pairwise fun e f => e.b ≠ f.b
  distY : ∀ j, j < n → listed.getD j false = true → (h.Y.getD j []).Pairwise fun e f => e.b ≠ f.b
  lo : ∀ j, j < n → listed.getD j false = true → W.heap.size ≤ L j ∧ H j ≤ w.heap.size
  apart : ∀ j k, j < n → k < n → j ≠ k → listed.getD j false = true → listed.getD k false = true → H j ≤ L k ∨ H k ≤ L j
  dead : ∀ j, j < n → listed.getD j false = true → j ∉ h.D
structure XOk (ops : Array Oper) (frx : PX) (st : St) (X : List Nat) (n : Nat) (N : Nat → Prop) (W : World) : Prop where
  mem : ∀ i e, i < n → xe ops frx st i = some e → e ∈ st.M ∧ e.rw = true ∧ e.tag ∈ X ∧ e.own = true ∧ ¬ N e.b ∧ (W.heap[e.b]? = some e.cur ∧ e.Fit)
  ne : ∀ i j e f, i < n → j < n → i ≠ j → xe ops frx st i = some e → xe ops frx st j = some f → e.b ≠ f.b
  le : frx.n ≤ n
  drop : ∀ i e f, i < n → xe ops frx st i = some e → f ∈ dropT X st.M → (f.rw = true ∨ N f.b) → e.b ≠ f.b
theorem xOk_of (hr : RelB N w0 st W) (hX : X = xTags ops frx (ops.toList.take n)) (hx : xOkB st.M X = true) (hle : frx.n ≤ n) : XOk ops frx st X n N W := by
  obtain ⟨hnd, hfind⟩ := xOk_spec hx
  have sym : ∀ a b : Ent, (a.rw = true → b.rw = true → a.b ≠ b.b) → (b.rw = true → a.rw = true → b.b ≠ a.b) := fun a b h h1 h2 e => h h2 h1 e.symm
  have mem : ∀ i e, i < n → xe ops frx st i = some e → ∃ o x, ops[i]? = some o ∧ (ops.toList.take n)[i]? = some o ∧ xTag ops frx o = some x ∧ find st.M x = some e ∧ e ∈ st.M ∧ e.rw = true ∧ e.tag ∈ X ∧ e.own = true ∧ ¬ N e.b ∧ (W.heap[e.b]? = some e.cur ∧ e.Fit) := by
    intro i e hi he
    unfold xe at he
    obtain ⟨x, h1, h2⟩ := Option.bind_eq_some_iff.1 he
    obtain ⟨o, h3, h4⟩ := Option.bind_eq_some_iff.1 h1
    have hl : (ops.toList.take n)[i]? = some o := by rw [List.getElem?_take_of_lt hi]; simpa using h3
    have hxX : x ∈ X := by rw [hX]; exact xTags_mem (List.mem_of_getElem? hl) h4
    obtain ⟨e', h5, h6⟩ := hfind x hxX
    have : e' = e := Option.some.inj (h5.symm.trans h2)
    subst this
    have hm := find_mem h2
    have hE := hr.ent e' hm
    obtain ⟨k1, k2⟩ := hE.rw h6
    exact ⟨o, x, h3, hl, h4, h2, hm, h6, by rw [find_tag h2]; exact hxX, k2, k1, hE.own k2⟩
  refine ⟨fun i e hi he => ?_, fun i j e f hi hj hij he hf => ?_, hle, fun i e f hi he hf hsol => ?_⟩
  · obtain ⟨o, x, _, _, _, _, h⟩ := mem i e hi he
    exact h
  · obtain ⟨o, x, _, ho, hox, hfx, hem, herw, _⟩ := mem i e hi he
    obtain ⟨p, y, _, hp, hpy, hfy, hfm, hfrw, _⟩ := mem j f hj hf
    have hxy : x ≠ y := by
      rw [hX] at hnd
      rcases Nat.lt_or_ge i j with h | h
      · exact xTags_ne _ i j o p x y hnd h ho hp hox hpy
      · exact fun e => xTags_ne _ j i p o y x hnd (by omega) hp ho hpy hox e.symm
    have hef : e ≠ f := fun h => hxy (by rw [← find_tag hfx, ← find_tag hfy, h])
    exact pairwise_two sym hr.dist e hem f hfm hef herw hfrw
  · obtain ⟨o, x, _, ho, hox, hfx, hem, herw, htag, _, hN, _⟩ := mem i e hi he
    have hfm : f ∈ st.M := (dropT_sub X st.M).subset hf
    have hef : e ≠ f := fun h => dropT_tag hf (h ▸ htag)
    cases hfr : f.rw with
    | true => exact pairwise_two sym hr.dist e hem f hfm hef herw hfr
    | false => exact fun h => hN (h ▸ (hsol.resolve_left (by rw [hfr]; simp)))
/-- what is left of the region's memory -/
theorem keep_drop (hr : RelB N w0 st W) (xo : XOk ops frx st X n N W) {listed : Array Bool} {a : Act} {w : World} {rs : Nat → Sup} {L H : Nat → Nat} {h : HS} (inv : Inv P call ops st frx fr0 X CL n W a0 listed a w rs L H h) {f : Ent} (hf : f ∈ dropT X st.M) (hsol : f.rw = true ∨ N f.b) :
    f.b < W.heap.size ∧ w.heap[f.b]? = W.heap[f.b]? := by
  have hfm : f ∈ st.M := (dropT_sub X st.M).subset hf
  have hE := hr.ent f hfm
  have hlt : f.b < W.heap.size := by
    cases hfr : f.rw with
    | true => exact heap_lt (hE.own (hE.rw hfr).2).1
    | false => exact hr.size _ (hsol.resolve_left (by rw [hfr]; simp))
  exact ⟨hlt, inv.block _ hlt fun i hi _ e he => xo.drop i e f hi he hf hsol⟩
theorem end_rel (hr : RelB N w0 st W) (xo : XOk ops frx st X n N W) (co : COk ops CL n) {listed : Array Bool} {a : Act} {w : World} {rs : Nat → Sup} {L H : Nat → Nat} {h : HS} (inv : Inv P call ops st frx fr0 X CL n W a0 listed a w rs L H h) (hall : ∀ i, i < n → listed.getD i false = true) (nt : Nat) :
    RelB N w0 ⟨h.W.flatten ++ dropT X st.M, nt⟩ w := by
  obtain ⟨lc, lw, _, _⟩ := tr_len n inv.trn
  have news : ∀ e ∈ h.W.flatten, ∃ j, j < n ∧ e ∈ h.W.getD j [] := by
    intro e he
    obtain ⟨l, hl, hel⟩ := List.mem_flatten.1 he
    obtain ⟨j, hj⟩ := List.getElem?_of_mem hl
    have hjl : j < h.W.length := (List.getElem?_eq_some_iff.1 hj).1
    exact ⟨j, by omega, by rw [List.getD_eq_getElem?_getD, hj]; exact hel⟩
  have apart2 : ∀ j k, j < n → k < n → j ≠ k → ∀ e ∈ h.W.getD j [], ∀ f ∈ h.W.getD k [], e.b ≠ f.b := by
    intro j k hj hk hjk e he f hf
    obtain ⟨_, _, _, c1⟩ := inv.news j hj (hall j hj) e he
    obtain ⟨_, _, _, c2⟩ := inv.news k hk (hall k hk) f hf
    have l1 := inv.lo j hj (hall j hj)
    have l2 := inv.lo k hk (hall k hk)
    have hk' : ∀ a b, a < n → srcI ops a = some b → b < n := fun a b ha h => co.lt a b ha h
    rcases c1 with ⟨a1, a2, a3⟩ | ⟨x, hx, e1⟩ | ⟨p, _, _, hp, a1, a2⟩ <;> rcases c2 with ⟨b1, b2, b3⟩ | ⟨y, hy, e2⟩ | ⟨q, _, _, hq, b1, b2⟩
    · have := inv.apart j k hj hk hjk (hall j hj) (hall k hk)
      omega
    · have := heap_lt (xo.mem k y hk hy).2.2.2.2.2.1
      omega
    · have hjq : j ≠ q := fun e => by subst e; rw [co.mem k j hk hq] at a3; cases a3
      have := inv.apart j q hj (hk' k q hk hq) hjq (hall j hj) (hall q (hk' k q hk hq))
      omega
    · have := heap_lt (xo.mem j x hj hx).2.2.2.2.2.1
      omega
    · rw [e1, e2]; exact xo.ne j k x y hj hk hjk hx hy
    · have := heap_lt (xo.mem j x hj hx).2.2.2.2.2.1
      have := (inv.lo q (hk' k q hk hq) (hall q (hk' k q hk hq))).1
      omega
    · have hkp : k ≠ p := fun e => by subst e; rw [co.mem j k hj hp] at b3; cases b3
      have := inv.apart k p hk (hk' j p hj hp) hkp (hall k hk) (hall p (hk' j p hj hp))
      omega
    · have := heap_lt (xo.mem k y hk hy).2.2.2.2.2.1
      have := (inv.lo p (hk' j p hj hp) (hall p (hk' j p hj hp))).1
      omega
    · have hpq : p ≠ q := fun e => by subst e; exact hjk (co.uniq j k p hj hk hp hq)
      have := inv.apart p q (hk' j p hj hp) (hk' k q hk hq) hpq (hall p (hk' j p hj hp)) (hall q (hk' k q hk hq))
      omega
  refine ⟨fun e he => ?_, ?_, ⟨inv.os.trans hr.low.os, inv.tape.trans hr.low.tape, inv.output.trans hr.low.output, Nat.le_trans hr.low.size inv.grow, fun k hk => ?_⟩, fun k hk => Nat.lt_of_lt_of_le (hr.size k hk) inv.grow⟩
  · rcases List.mem_append.1 he with he | he
    · obtain ⟨j, hj, hm⟩ := news e he
      obtain ⟨c1, c2, c3, c4⟩ := inv.news j hj (hall j hj) e hm
      refine ⟨own_holds c2 c3, fun _ => ⟨fun hN => ?_, c2⟩, fun hf => (by rw [c1] at hf; cases hf)⟩
      rcases c4 with c4 | ⟨x, hx, e1⟩ | ⟨k, _, _, hk, c4⟩
      · have := hr.size _ hN
        have := inv.lo j hj (hall j hj)
        omega
      · rw [e1] at hN; exact (xo.mem j x hj hx).2.2.2.2.1 hN
      · have := hr.size _ hN
        have hkn := co.lt j k hj hk
        have := inv.lo k hkn (hall k hkn)
        omega
    · have hE := hr.ent e ((dropT_sub X st.M).subset he)
      exact hE.same fun hsol => (keep_drop hr xo inv he hsol).2
  · rw [List.pairwise_append, List.pairwise_flatten]
    refine ⟨⟨fun l hl => ?_, ?_⟩, hr.dist.sublist (dropT_sub X st.M), fun e he f hf _ hfr => ?_⟩
    · obtain ⟨j, hj⟩ := List.getElem?_of_mem hl
      have hjl : j < h.W.length := (List.getElem?_eq_some_iff.1 hj).1
      have := inv.dist j (by omega) (hall j (by omega))
      rw [List.getD_eq_getElem?_getD, hj] at this
      exact this.imp fun h _ _ => h
    · rw [List.pairwise_iff_getElem]
      intro i j hi hj hij e he f hf _ _
      exact apart2 i j (by omega) (by omega) (by omega) e (by simpa [List.getD_eq_getElem?_getD, hi] using he) f (by simpa [List.getD_eq_getElem?_getD, hj] using hf)
    · obtain ⟨j, hj, hm⟩ := news e he
      obtain ⟨_, _, _, c4⟩ := inv.news j hj (hall j hj) e hm
      obtain ⟨k1, _⟩ := keep_drop hr xo inv hf (.inl hfr)
      rcases c4 with c4 | ⟨x, hx, e1⟩ | ⟨k, _, _, hk, c4⟩
      · have := inv.lo j hj (hall j hj)
        omega
      · rw [e1]; exact xo.drop j x f hj hx hf (.inl hfr)
      · have hkn := co.lt j k hj hk
        have := inv.lo k hkn (hall k hkn)
        omega
  · have hlt := hr.size k hk
    rw [inv.block k hlt fun i hi _ e he heq => (xo.mem i e hi he).2.2.2.2.1 (heq ▸ hk)]
    exact hr.low.block k hk
theorem rel_pan (hr : RelB N w0 st W) (xo : XOk ops frx st X n N W) {listed : Array Bool} {a : Act} {w : World} {rs : Nat → Sup} {L H : Nat → Nat} {h : HS} (inv : Inv P call ops st frx fr0 X CL n W a0 listed a w rs L H h) {i : Nat} (hin : i < n) {Y : List Ent} {w' : World}
    (hk : Keep (fun k => k < w.heap.size ∧ (∀ e, xe ops frx st i = some e → e.b ≠ k) ∧ ∀ e ∈ Y, e.b ≠ k) w w') (hY : ∀ y ∈ Y, W.heap.size ≤ y.b) (nt : Nat) : RelB N w0 ⟨dropT X st.M, nt⟩ w' := by
  have kp : ∀ k, k < W.heap.size → (∀ e, xe ops frx st i = some e → e.b ≠ k) → w'.heap[k]? = w.heap[k]? := fun k hl hx => hk.block k ⟨Nat.lt_of_lt_of_le hl inv.grow, hx, fun y hy => by have := hY y hy; omega⟩
  refine ⟨fun e he => ?_, hr.dist.sublist (dropT_sub X st.M), ⟨hk.os.trans (inv.os.trans hr.low.os), hk.tape.trans (inv.tape.trans hr.low.tape), hk.output.trans (inv.output.trans hr.low.output), Nat.le_trans (Nat.le_trans hr.low.size inv.grow) hk.size, fun k hN => ?_⟩, fun k hN => Nat.lt_of_lt_of_le (hr.size k hN) (Nat.le_trans inv.grow hk.size)⟩
  · have hE := hr.ent e ((dropT_sub X st.M).subset he)
    exact hE.same fun hsol => by
      obtain ⟨k1, k2⟩ := keep_drop hr xo inv he hsol
      rw [kp _ k1 fun x hx => xo.drop i x e hin hx he hsol, k2]
  · have hlt := hr.size k hN
    rw [kp k hlt fun x hx heq => (xo.mem i x hin hx).2.2.2.2.1 (heq ▸ hN), inv.block k hlt fun i hi _ e he heq => (xo.mem i e hi he).2.2.2.2.1 (heq ▸ hN)]
    exact hr.low.block k hN
theorem dstL_mem {t : Nat} : ∀ {n : Nat}, t ∈ dstL ops n ↔ ∃ j, j < n ∧ Reg.dstOf ops j = some t
  | 0 => by simp [dstL]
  | n + 1 => by
    have e : Reg.dstOf ops n = (ops[n]?).bind (·.dst) := rfl
    have step : (∃ j, j < n + 1 ∧ Reg.dstOf ops j = some t) ↔ Reg.dstOf ops n = some t ∨ ∃ j, j < n ∧ Reg.dstOf ops j = some t := by
      constructor
      · rintro ⟨j, hj, h⟩
        by_cases hjn : j = n
        · subst hjn; exact .inl h
        · exact .inr ⟨j, by omega, h⟩
      · rintro (h | ⟨j, hj, h⟩)
        · exact ⟨n, by omega, h⟩
        · exact ⟨j, by omega, h⟩
    rw [step, ← dstL_mem (n := n), e]
    have e2 : dstL ops (n + 1) = match (ops[n]?).bind (·.dst) with | some d => d :: dstL ops n | none => dstL ops n := rfl
    rw [e2]
    cases (ops[n]?).bind (·.dst) with
    | none => simp
    | some d => simp [eq_comm]
theorem fr_pan (hf0 : FrOk fr0 a0) {listed : Array Bool} {a : Act} {w : World} {rs : Nat → Sup} {L H : Nat → Nat} {h : HS} (inv : Inv P call ops st frx fr0 X CL n W a0 listed a w rs L H h) :
    FrOk ⟨fr0.n, (dstL ops n).map (fun t => (t, undef, a.tmps.getD t undef)) ++ fr0.l, fr0.df⟩ a := by
  refine ⟨by rw [inv.size, hf0.size], fun t => ?_, inv.defers⟩
  show _ = (lookL ((dstL ops n).map (fun t => (t, undef, a.tmps.getD t undef)) ++ fr0.l) t).2
  rw [look_map (fun t => (undef, a.tmps.getD t undef))]
  by_cases ht : t ∈ dstL ops n
  · rw [if_pos ht]
  · rw [if_neg ht]
    exact inv.slotO t fun j hj _ hd => ht (dstL_mem.2 ⟨j, hj, hd⟩)
theorem end_fr (hf0 : FrOk fr0 a0) {listed : Array Bool} {a : Act} {w : World} {rs : Nat → Sup} {L H : Nat → Nat} {h : HS} (inv : Inv P call ops st frx fr0 X CL n W a0 listed a w rs L H h) (hall : ∀ i, i < n → listed.getD i false = true) : FrOk h.fr a := by
  obtain ⟨_, _, _, hn⟩ := tr_len n inv.trn
  refine ⟨by rw [inv.size, hf0.size, hn], fun t => ?_, by rw [tr_df n inv.trn]; exact inv.defers⟩
  by_cases hw : ∃ j, j < n ∧ Reg.dstOf ops j = some t
  · obtain ⟨j, hj, hd⟩ := hw
    exact inv.slotQ j t hj (hall j hj) hd
  · rw [inv.slotO t fun j hj _ hd => hw ⟨j, hj, hd⟩]
    obtain ⟨h0, g0, _, _, _, _, g4⟩ := tr_down n 0 (by rw [Nat.zero_add]; exact inv.trn)
    simp only [tr, Option.some.injEq] at g0
    subst g0
    rw [g4 t fun j _ hj hd => hw ⟨j, by omega, hd⟩]
end
end Ev
end Go.Proofs.Ytbpnmjjmllgehaa
