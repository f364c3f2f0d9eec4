/- A law for regions that draw their order: operations that only read, calls that make new memory, operations that yield a new block each, and a tail in one order. One walk in the order of the text serves every order. No condition. -/
import Derived.Test.YtbpnmjjmllgehaaKit2
import Derived.StillTail
import Derived.BigQuiet
namespace Go.Proofs.Ytbpnmjjmllgehaa
open Go Go.ChangeShapes Go.WideShapes Go.ChangeAt Go.RowKit
namespace Reg
def SameOn (ts : List Tmp) (a b : Act) : Prop := ∀ t ∈ ts, a.tmps[t]? = b.tmps[t]?
section
variable {P : Program} {ops : Array Oper}
theorem exec_same {o : Oper} (hs : ∀ cs b, o.op ≠ .select cs b) {a b : Act} (h : SameOn (o.looksAt ops) a b) : execOp a.eval o = execOp b.eval o :=
  execOp_congr o hs fun x hx => by
    cases x with
    | tmp t =>
      have := h t (List.mem_append_left _ (List.mem_filterMap.2 ⟨.tmp t, by simpa using hx, rfl⟩))
      simp [Act.eval, this]
    | _ => rfl
theorem wanted_same {o : Oper} {a b : Act} (h : SameOn (o.looksAt ops) a b) : Region.wanted o (yielded ops a.tmps) = Region.wanted o (yielded ops b.tmps) := by
  unfold Region.wanted
  cases hg : o.guard with
  | none => rfl
  | some gw =>
    obtain ⟨g, want⟩ := gw
    have hy : yielded ops a.tmps g = yielded ops b.tmps g := by
      unfold yielded
      cases ht : (ops[g]?).bind (·.dst) with
      | none => rfl
      | some t =>
        have := h t (List.mem_append_right _ (by simp [hg, ht]))
        simp [this]
    simp only [hy]
theorem put_ne {a : Act} {x : Option Tmp} {v : Value} {t : Tmp} (h : x ≠ some t) : (a.put x v).tmps[t]? = a.tmps[t]? := by
  cases x with
  | none => rfl
  | some d =>
    have : d ≠ t := fun e => h (by rw [e])
    simp [Act.put, Array.getElem?_setIfInBounds_ne this]
theorem put_eq {a : Act} {v : Value} {t : Tmp} : (a.put (some t) v).tmps[t]? = if t < a.tmps.size then some v else none := by
  simp [Act.put, Array.getElem?_setIfInBounds_self]
theorem put_size {a : Act} {x : Option Tmp} {v : Value} : (a.put x v).tmps.size = a.tmps.size := by
  cases x <;> simp [Act.put]
theorem put_defers {a : Act} {x : Option Tmp} {v : Value} : (a.put x v).defers = a.defers := by
  cases x <;> rfl
theorem act_ext {a b : Act} (h : ∀ t : Nat, a.tmps[t]? = b.tmps[t]?) (hd : a.defers = b.defers) : a = b := by
  obtain ⟨x, d⟩ := a
  obtain ⟨y, d'⟩ := b
  have : x = y := Array.ext_getElem? h
  subst this
  simp only at hd
  subst hd
  rfl
/-- one operation that yields a value of its own, whatever the world, and leaves all that there was -/
def StepQ (P : Program) (ops : Array Oper) (W : World) (o : Oper) (a a1 : Act) : Prop :=
  if Region.wanted o (yielded ops a.tmps) = true then ∀ w, Below W.heap.size W w → ∃ v, a1 = a.put o.dst v ∧ o.quietAt P a (fun w'' => Below w.heap.size w w'') w v
  else a1 = a.put o.dst undef
def WalkI (P : Program) (ops : Array Oper) (W : World) : List Nat → Act → Act → Prop
  | [], a, e => a = e
  | i :: l, a, e => ∃ o a1, ops[i]? = some o ∧ StepQ P ops W o a a1 ∧ WalkI P ops W l a1 e
def dstOf (ops : Array Oper) (i : Nat) : Option Tmp := (ops[i]?).bind (·.dst)
theorem quiet_slot {C : World → Prop} {e : Act} {d : Tmp} : ∀ (l : List Oper) (a : Act), wpQuiet P ops C (fun a' => a' = e) l a → (∀ y ∈ l, y.dst ≠ some d) → e.tmps[d]? = a.tmps[d]?
  | [], a, h, _ => by rw [show a = e from h]
  | y :: l, a, h, hn => by
    simp only [wpQuiet] at h
    split at h
    · obtain ⟨v, _, k⟩ := h
      rw [quiet_slot l _ k (fun z hz => hn z (List.mem_cons_of_mem _ hz)), put_ne (hn y List.mem_cons_self)]
    · rw [quiet_slot l _ h (fun z hz => hn z (List.mem_cons_of_mem _ hz)), put_ne (hn y List.mem_cons_self)]
theorem quietUpon_mono {C C' : World → Prop} {w : World} {v : Value} {r : Result Next} (h : ∀ w', C w' → C' w') (hh : Oper.quietUpon P C w v r) : Oper.quietUpon P C' w v r := by
  cases r with
  | ok n w' =>
    cases n <;> simp only [Oper.quietUpon] at hh ⊢ <;> try exact hh
    exact ⟨hh.1, hh.2.mono fun e w'' ⟨he, hw⟩ => ⟨he, h _ hw⟩⟩
  | halt x w' => simp only [Oper.quietUpon] at hh
theorem walk_of_quiet {W : World} {e : Act} : ∀ (idx : List Nat) (l : List Oper) (a : Act), idx.map (ops[·]?) = l.map some → l.Pairwise (fun x y => x.dst = none ∨ x.dst ≠ y.dst) →
    (∀ g, Below W.heap.size W g → wpQuiet P ops (fun w' => ∃ x : Fut g, w' = x.w) (fun a' => a' = e) l a) → WalkI P ops W idx a e
  | [], [], a, _, _, h => h W (Below.refl _ _)
  | [], _ :: _, _, hm, _, _ => by simp at hm
  | _ :: _, [], _, hm, _, _ => by simp at hm
  | i :: idx, o :: l, a, hm, hp, h => by
    simp only [List.map_cons, List.cons.injEq] at hm
    obtain ⟨hi, hm⟩ := hm
    obtain ⟨hp1, hp2⟩ := List.pairwise_cons.1 hp
    by_cases hw : Region.wanted o (yielded ops a.tmps) = true
    · have h' : ∀ g, Below W.heap.size W g → ∃ v, (∀ w, (∃ x : Fut g, w = x.w) → o.quietAt P a (fun w' => ∃ x : Fut g, w' = x.w) w v) ∧ wpQuiet P ops (fun w' => ∃ x : Fut g, w' = x.w) (fun a' => a' = e) l (a.put o.dst v) := by
        intro g hg
        have := h g hg
        simp only [wpQuiet, hw, if_true] at this
        exact this
      obtain ⟨v0, _, k0⟩ := h' W (Below.refl _ _)
      have uniq : ∀ g v, wpQuiet P ops (fun w' => ∃ x : Fut g, w' = x.w) (fun a' => a' = e) l (a.put o.dst v) → a.put o.dst v = a.put o.dst v0 := by
        intro g v hv
        cases hd : o.dst with
        | none => rfl
        | some d =>
          have hn : ∀ y ∈ l, y.dst ≠ some d := fun y hy e' => by
            rcases hp1 y hy with h0 | h0
            · rw [hd] at h0; cases h0
            · exact h0 (by rw [hd, e'])
          have e1 := quiet_slot l _ hv hn
          have e2 := quiet_slot l _ k0 hn
          rw [hd] at e1 e2
          rw [e1] at e2
          refine act_ext (fun t => ?_) (by rw [put_defers, put_defers])
          by_cases htd : t = d
          · subst htd; exact e2
          · rw [put_ne (by intro h; exact htd (Option.some.inj h).symm), put_ne (by intro h; exact htd (Option.some.inj h).symm)]
      refine ⟨o, a.put o.dst v0, hi, ?_, walk_of_quiet idx l _ hm hp2 fun g hg => ?_⟩
      · unfold StepQ
        rw [if_pos hw]
        intro w hw'
        obtain ⟨v, hv, kv⟩ := h' w hw'
        exact ⟨v, (uniq _ _ kv).symm, quietUpon_mono (fun w' ⟨x, hx⟩ => by rw [hx]; exact x.ok) (hv w ⟨⟨w, Below.refl _ _⟩, rfl⟩)⟩
      · obtain ⟨v, _, kv⟩ := h' g hg
        rw [← uniq _ _ kv]
        exact kv
    · refine ⟨o, a.put o.dst undef, hi, ?_, walk_of_quiet idx l _ hm hp2 fun g hg => ?_⟩
      · unfold StepQ; rw [if_neg hw]
      · have := h g hg
        simp only [wpQuiet, hw] at this
        exact this
theorem step_put {W : World} {o : Oper} {a a1 : Act} (h : StepQ P ops W o a a1) : ∃ v, a1 = a.put o.dst v := by
  unfold StepQ at h
  split at h
  · obtain ⟨v, hv, _⟩ := h W (Below.refl _ _); exact ⟨v, hv⟩
  · exact ⟨_, h⟩
theorem walk_slot {W : World} {e : Act} {d : Tmp} : ∀ (idx : List Nat) (a : Act), WalkI P ops W idx a e → (∀ j ∈ idx, dstOf ops j ≠ some d) → e.tmps[d]? = a.tmps[d]?
  | [], a, h, _ => by rw [show a = e from h]
  | i :: l, a, ⟨o, a1, hi, hs, hr⟩, hn => by
    obtain ⟨v, rfl⟩ := step_put hs
    have := hn i List.mem_cons_self
    simp only [dstOf, hi, Option.bind_some] at this
    rw [walk_slot l _ hr (fun j hj => hn j (List.mem_cons_of_mem _ hj)), put_ne this]
theorem walk_frame {W : World} {e : Act} : ∀ (idx : List Nat) (a : Act), WalkI P ops W idx a e → e.tmps.size = a.tmps.size ∧ e.defers = a.defers
  | [], a, h => by rw [show a = e from h]; exact ⟨rfl, rfl⟩
  | i :: l, a, ⟨o, a1, hi, hs, hr⟩ => by
    obtain ⟨v, rfl⟩ := step_put hs
    have := walk_frame l _ hr
    rw [put_size, put_defers] at this
    exact this
theorem walk_at {W : World} {e : Act} {n : Nat} (hd : ∀ i j t, i < n → j < n → dstOf ops i = some t → dstOf ops j = some t → i = j) : ∀ (idx : List Nat) (a : Act), WalkI P ops W idx a e → (∀ i ∈ idx, i < n) → idx.Pairwise (· < ·) → ∀ i ∈ idx,
    ∃ o b b1, ops[i]? = some o ∧ StepQ P ops W o b b1 ∧ b.tmps.size = a.tmps.size ∧ (∀ t, (∀ j ∈ idx, j < i → dstOf ops j ≠ some t) → b.tmps[t]? = a.tmps[t]?) ∧
      (∀ t j, j ∈ idx → j < i → dstOf ops j = some t → b.tmps[t]? = e.tmps[t]?) ∧ ∀ t, o.dst = some t → b1.tmps[t]? = e.tmps[t]?
  | [], _, _, _, _, i, hi => by cases hi
  | k :: l, a, ⟨o, a1, hk, hs, hr⟩, hn, hp, i, hi => by
    have hn' : ∀ i ∈ l, i < n := fun i hi => hn i (List.mem_cons_of_mem _ hi)
    have hkn := hn k List.mem_cons_self
    obtain ⟨hp1, hp2⟩ := List.pairwise_cons.1 hp
    rcases List.mem_cons.1 hi with rfl | hi'
    · refine ⟨o, a, a1, hk, hs, rfl, fun _ _ => rfl, fun t j hj hlt _ => ?_, fun t ht => ?_⟩
      · rcases List.mem_cons.1 hj with rfl | hj'
        · omega
        · have := hp1 j hj'; omega
      · refine (walk_slot l _ hr fun j hj e' => ?_).symm
        have := hd i j t hkn (hn' j hj) (by simp [dstOf, hk, ht]) e'
        have := hp1 j hj
        omega
    · obtain ⟨o', b, b1, h1, h2, h3, h4, h5, h6⟩ := walk_at hd l a1 hr hn' hp2 i hi'
      obtain ⟨v, rfl⟩ := step_put hs
      have hki := hp1 i hi'
      refine ⟨o', b, b1, h1, h2, by rw [h3, put_size], fun t ht => ?_, fun t j hj hlt hdj => ?_, h6⟩
      · rw [h4 t fun j hj hlt => ht j (List.mem_cons_of_mem _ hj) hlt]
        have := ht k List.mem_cons_self hki
        simp only [dstOf, hk, Option.bind_some] at this
        exact put_ne this
      · rcases List.mem_cons.1 hj with rfl | hj'
        · have hno : ∀ j' ∈ l, dstOf ops j' ≠ some t := fun j' hj' e' => by
            have := hd j j' t hkn (hn' j' hj') hdj e'
            have := hp1 j' hj'
            omega
          rw [h4 t fun j' hj' _ => hno j' hj', walk_slot l _ hr hno]
        · exact h5 t j hj' hlt hdj
/-- what a new thing is, when an operation has made it: its value, the blocks that it took, the world then -/
def FreshAt (P : Program) (o : Oper) (a : Act) (w : World) (F : Value → Nat → Nat → World → Prop) : Prop :=
  match (execOp a.eval o).run P w with
  | .ok (.value u) w' => Below w.heap.size w w' ∧ F u w.heap.size w'.heap.size w'
  | .ok (.enter f args) w' => w' = w ∧ Calls P f args w (fun e w'' => ∃ u, e = .returned u ∧ Below w.heap.size w w'' ∧ F u w.heap.size w''.heap.size w'')
  | _ => False
def unl (listed : Array Bool) : Nat → Nat
  | 0 => 0
  | k + 1 => unl listed k + (if listed.getD k true = true then 0 else 1)
theorem unl_set {listed : Array Bool} {i : Nat} (hi : listed.getD i true = false) : ∀ k, unl (listed.setIfInBounds i true) k + (if i < k then 1 else 0) = unl listed k
  | 0 => by simp [unl]
  | k + 1 => by
    have ih := unl_set hi k
    simp only [unl]
    by_cases hik : i = k
    · subst hik
      have hlt : i < listed.size := by
        rcases Nat.lt_or_ge i listed.size with h | h
        · exact h
        · simp [Array.getElem?_eq_none h] at hi
      have h1 : (listed.setIfInBounds i true).getD i true = true := by simp [hlt]
      rw [h1, hi]
      simp at ih ⊢
      exact ih
    · rw [getD_set_ne true hik]
      have : (i < k + 1) ↔ (i < k) := by omega
      simp only [this]
      omega
theorem unl_zero {listed : Array Bool} : ∀ k, unl listed k = 0 → ∀ i, i < k → listed.getD i true = true
  | 0, _, i, hi => by omega
  | k + 1, h, i, hi => by
    simp only [unl] at h
    by_cases hik : i = k
    · subst hik
      by_cases hb : listed.getD i true = true
      · exact hb
      · rw [if_neg hb] at h; omega
    · exact unl_zero k (by omega) i (by omega)
theorem unl_pos {listed : Array Bool} : ∀ k, unl listed k ≠ 0 → ∃ i, i < k ∧ listed.getD i true = false ∧ ∀ j, j < i → listed.getD j true = true
  | 0, h => absurd rfl h
  | k + 1, h => by
    by_cases h0 : unl listed k = 0
    · refine ⟨k, by omega, ?_, unl_zero k h0⟩
      simp only [unl, h0] at h
      cases hb : listed.getD k true
      · rfl
      · rw [if_pos hb] at h; exact absurd rfl h
    · obtain ⟨i, hi, h1⟩ := unl_pos k h0
      exact ⟨i, by omega, h1⟩
theorem unl_init (m : Nat) : ∀ k, k ≤ m → unl (Array.replicate m false) k = k
  | 0, _ => rfl
  | k + 1, h => by
    have hk : (Array.replicate m false).getD k true = false := by simp [show k < m by omega]
    simp only [unl, unl_init m k (by omega), hk]
    simp
end
def frB (frs : List (Nat × Tmp)) (i : Nat) : Bool := frs.any fun p => p.1 == i
/-- the checks of a region: n operations in whatever order, then the rest in the order of the text -/
def checkB (ops : Array Oper) (n : Nat) (frs : List (Nat × Tmp)) : Bool :=
  Region.noSelect ops && decide (n ≤ ops.size) &&
  ((List.range n).all fun i => (List.range n).all fun j => i == j || ((dstOf ops i == none || dstOf ops i != dstOf ops j) &&
    (match dstOf ops j, ops[i]? with
     | some d, some o => !(o.looksAt ops).contains d || (if j < i then !frB frs j && Region.waitsFor .any ops i j else !frB frs i && Region.waitsFor .any ops j i)
     | _, _ => true))) &&
  ((List.range n).all fun i => ((ops[i]?).map fun o => o.after.all fun e => !Region.binds .any e || decide (e.on < i)).getD false) &&
  (n == ops.size || (decide (n < ops.size) && Region.sinkB .any ops n && Region.chainB .any ops n)) &&
  Region.seqB .any ops (ops.size - n) n (Array.replicate n true ++ Array.replicate (ops.size - n) false) &&
  (frs.all fun p => decide (p.1 < n) && dstOf ops p.1 == some p.2)
structure Checks (ops : Array Oper) (n : Nat) (frs : List (Nat × Tmp)) : Prop where
  sel : Region.noSelect ops = true
  le : n ≤ ops.size
  dist : ∀ i j t, i < n → j < n → dstOf ops i = some t → dstOf ops j = some t → i = j
  look : ∀ i j o t, i < n → j < n → i ≠ j → ops[i]? = some o → dstOf ops j = some t → t ∈ o.looksAt ops →
    (j < i ∧ frB frs j = false ∧ Region.waitsFor .any ops i j = true) ∨ (i < j ∧ frB frs i = false ∧ Region.waitsFor .any ops j i = true)
  back : ∀ i o e, i < n → ops[i]? = some o → e ∈ o.after → Region.binds .any e = true → e.on < i
  tail : n = ops.size ∨ (n < ops.size ∧ Region.sinkB .any ops n = true ∧ Region.chainB .any ops n = true)
  seq : Region.seqB .any ops (ops.size - n) n (Array.replicate n true ++ Array.replicate (ops.size - n) false) = true
  frs : ∀ p ∈ frs, p.1 < n ∧ dstOf ops p.1 = some p.2
theorem checks {ops : Array Oper} {n : Nat} {frs : List (Nat × Tmp)} (h : checkB ops n frs = true) : Checks ops n frs := by
  simp only [checkB, Bool.and_eq_true] at h
  obtain ⟨⟨⟨⟨⟨⟨h1, h2⟩, h3⟩, h4⟩, h5⟩, h6⟩, h7⟩ := h
  have h3' : ∀ i j, i < n → j < n → i ≠ j → (dstOf ops i = none ∨ dstOf ops i ≠ dstOf ops j) ∧ (match dstOf ops j, ops[i]? with
     | some d, some o => !(o.looksAt ops).contains d || (if j < i then !frB frs j && Region.waitsFor .any ops i j else !frB frs i && Region.waitsFor .any ops j i)
     | _, _ => true) = true := by
    intro i j hi hj hne
    have := List.all_eq_true.1 (List.all_eq_true.1 h3 i (List.mem_range.2 hi)) j (List.mem_range.2 hj)
    simp only [Bool.or_eq_true, beq_iff_eq, hne, false_or, Bool.and_eq_true, bne_iff_ne] at this
    exact this
  refine ⟨h1, of_decide_eq_true h2, fun i j t hi hj e1 e2 => ?_, fun i j o t hi hj hne ho ht hm => ?_, fun i o e hi ho he hb => ?_, ?_, h6, fun p hp => ?_⟩
  · by_cases hne : i = j
    · exact hne
    · rcases (h3' i j hi hj hne).1 with h | h
      · rw [e1] at h; cases h
      · exact absurd (e1.trans e2.symm) h
  · have := (h3' i j hi hj hne).2
    simp only [ht, ho, Bool.or_eq_true, Bool.not_eq_true'] at this
    rcases this with h | h
    · rw [List.contains_iff_mem.2 hm] at h; cases h
    · split at h
      · rename_i hlt
        simp only [Bool.and_eq_true, Bool.not_eq_true'] at h
        exact .inl ⟨hlt, h.1, h.2⟩
      · simp only [Bool.and_eq_true, Bool.not_eq_true'] at h
        exact .inr ⟨by omega, h.1, h.2⟩
  · have := List.all_eq_true.1 h4 i (List.mem_range.2 hi)
    simp only [ho, Option.map_some, Option.getD_some] at this
    have := Array.all_eq_true_iff_forall_mem.1 this e he
    simp only [hb, Bool.not_true, Bool.false_or, decide_eq_true_eq] at this
    exact this
  · simp only [Bool.or_eq_true, beq_iff_eq, Bool.and_eq_true, decide_eq_true_eq] at h5
    rcases h5 with h | h
    · exact .inl h
    · exact .inr ⟨h.1.1, h.1.2, h.2⟩
  · have := List.all_eq_true.1 h7 p hp
    simp only [Bool.and_eq_true, decide_eq_true_eq, beq_iff_eq] at this
    exact this
section
variable {P : Program} {ops : Array Oper} {n : Nat} {frs : List (Nat × Tmp)}
theorem getD_tf {listed : Array Bool} {i : Nat} (hi : i < listed.size) : listed.getD i true = listed.getD i false := by simp [hi]
theorem frB_mem {i : Nat} (h : frB frs i = true) : ∃ t, (i, t) ∈ frs := by
  obtain ⟨p, hp, he⟩ := List.any_eq_true.1 h
  have : p.1 = i := by simpa using he
  exact ⟨p.2, by rw [← this]; exact hp⟩
theorem frB_of {p : Nat × Tmp} (h : p ∈ frs) : frB frs p.1 = true := List.any_eq_true.2 ⟨p, h, by simp⟩
/-- where a region stands, some of its operations being done -/
structure Inv (ops : Array Oper) (n : Nat) (frs : List (Nat × Tmp)) (W : World) (F : Nat → Value → Nat → Nat → World → Prop) (a0 e : Act) (listed : Array Bool) (a : Act) (w : World) (U : Nat → Value) (L H : Nat → Nat) : Prop where
  head : HeadInv .any ops n listed
  low : Below W.heap.size W w
  size : a.tmps.size = a0.tmps.size
  defers : a.defers = a0.defers
  slotQ : ∀ i t, i < n → frB frs i = false → listed.getD i false = true → dstOf ops i = some t → a.tmps[t]? = e.tmps[t]?
  slotO : ∀ t : Nat, (∀ i, i < n → listed.getD i false = true → dstOf ops i ≠ some t) → a.tmps[t]? = a0.tmps[t]?
  slotF : ∀ p ∈ frs, listed.getD p.1 false = true → a.tmps[p.2]? = (if p.2 < a0.tmps.size then some (U p.1) else none) ∧ F p.1 (U p.1) (L p.1) (H p.1) w ∧ W.heap.size ≤ L p.1 ∧ H p.1 ≤ w.heap.size
  apart : ∀ p ∈ frs, ∀ q ∈ frs, p.1 ≠ q.1 → listed.getD p.1 false = true → listed.getD q.1 false = true → H p.1 ≤ L q.1 ∨ H q.1 ≤ L p.1
theorem waits {i j : Nat} {listed : Array Bool} (hw : Region.waitsFor .any ops i j = true) (hr : i ∈ Region.ready .any ops listed) : listed.getD j false = true := by
  obtain ⟨oi, h1, e, he, hb, hon⟩ := Region.waitsFor_spec hw
  obtain ⟨_, o', h2, hall⟩ := mem_ready.1 hr
  have : oi = o' := Option.some.inj (h1.symm.trans h2)
  subst this
  have := hall e he hb
  rwa [hon] at this
theorem closed {i j : Nat} {listed : Array Bool} (inv : HeadInv .any ops n listed) (hw : Region.waitsFor .any ops j i = true) (hj : listed.getD j false = true) : listed.getD i false = true := by
  obtain ⟨oj, h1, e, he, hb, hon⟩ := Region.waitsFor_spec hw
  have := inv.closed j oj h1 hj e he hb
  rwa [hon] at this
/-- the frame of a quiet operation that is ready reads as in the walk of the text -/
theorem same_quiet {W : World} {F : Nat → Value → Nat → Nat → World → Prop} {a0 e : Act} {listed : Array Bool} {a : Act} {w : World} {U : Nat → Value} {L H : Nat → Nat} {i : Nat} {o : Oper} {b : Act}
    (C : Checks ops n frs) (inv : Inv ops n frs W F a0 e listed a w U L H) (ho : ops[i]? = some o) (hi : i < n) (hun : listed.getD i false = false) (hr : i ∈ Region.ready .any ops listed)
    (h4 : ∀ t, (∀ j, j < n → frB frs j = false → j < i → dstOf ops j ≠ some t) → b.tmps[t]? = a0.tmps[t]?) (h5 : ∀ t j, j < n → frB frs j = false → j < i → dstOf ops j = some t → b.tmps[t]? = e.tmps[t]?) :
    SameOn (o.looksAt ops) a b := by
  intro t ht
  by_cases hj : ∃ j, j < n ∧ dstOf ops j = some t
  · obtain ⟨j, hjn, hdj⟩ := hj
    by_cases hij : i = j
    · subst hij
      rw [inv.slotO t fun j hj hl hd => by have := C.dist j i t hj hi hd hdj; subst this; rw [hun] at hl; cases hl]
      exact (h4 t fun j hj _ hlt hd => by have := C.dist j i t hj hi hd hdj; omega).symm
    · rcases C.look i j o t hi hjn hij ho hdj ht with ⟨hlt, hfj, hw⟩ | ⟨hlt, _, hw⟩
      · have hl := waits hw hr
        rw [inv.slotQ j t hjn hfj hl hdj]
        exact (h5 t j hjn hfj hlt hdj).symm
      · have hl : listed.getD j false ≠ true := fun hl => by rw [closed inv.head hw hl] at hun; cases hun
        rw [inv.slotO t fun j' hj' hl' hd => by have := C.dist j' j t hj' hjn hd hdj; subst this; exact hl hl']
        exact (h4 t fun j' hj' _ hlt' hd => by have := C.dist j' j t hj' hjn hd hdj; omega).symm
  · rw [inv.slotO t fun j hjn _ hd => hj ⟨j, hjn, hd⟩]
    exact (h4 t fun j hjn _ _ hd => hj ⟨j, hjn, hd⟩).symm
/-- the frame of an operation that makes something new, and is ready, reads as at the end of the walk -/
theorem same_fresh {W : World} {F : Nat → Value → Nat → Nat → World → Prop} {a0 e : Act} {listed : Array Bool} {a : Act} {w : World} {U : Nat → Value} {L H : Nat → Nat} {i : Nat} {o : Oper}
    (C : Checks ops n frs) (inv : Inv ops n frs W F a0 e listed a w U L H) (hi : i < n) (hf : frB frs i = true) (hun : listed.getD i false = false) (hr : i ∈ Region.ready .any ops listed) (ho : ops[i]? = some o)
    (he : ∀ t, (∀ j, j < n → frB frs j = false → dstOf ops j ≠ some t) → e.tmps[t]? = a0.tmps[t]?) : SameOn (o.looksAt ops) a e := by
  intro t ht
  by_cases hj : ∃ j, j < n ∧ dstOf ops j = some t
  · obtain ⟨j, hjn, hdj⟩ := hj
    by_cases hij : i = j
    · subst hij
      rw [inv.slotO t fun j hj hl hd => by have := C.dist j i t hj hi hd hdj; subst this; rw [hun] at hl; cases hl]
      exact (he t fun j hj hfj hd => by have := C.dist j i t hj hi hd hdj; subst this; rw [hf] at hfj; cases hfj).symm
    · rcases C.look i j o t hi hjn hij ho hdj ht with ⟨hlt, hfj, hw⟩ | ⟨_, hfi, _⟩
      · exact inv.slotQ j t hjn hfj (waits hw hr) hdj
      · rw [hf] at hfi; cases hfi
  · rw [inv.slotO t fun j hjn _ hd => hj ⟨j, hjn, hd⟩]
    exact (he t fun j hjn _ hd => hj ⟨j, hjn, hd⟩).symm
section
variable {W : World} {F : Nat → Value → Nat → Nat → World → Prop} {a0 e : Act} {listed : Array Bool} {a : Act} {w w' : World} {U : Nat → Value} {L H : Nat → Nat} {i : Nat} {o : Oper} {v : Value}
theorem set_self {listed : Array Bool} {i : Nat} (hun : listed.getD i true = false) : (listed.setIfInBounds i true).getD i false = true := by
  have hlt : i < listed.size := by
    rcases Nat.lt_or_ge i listed.size with h | h
    · exact h
    · simp [Array.getElem?_eq_none h] at hun
  simp [hlt]
theorem Inv.quiet (C : Checks ops n frs) (inv : Inv ops n frs W F a0 e listed a w U L H) (hS : ∀ p ∈ frs, ∀ u lo hi w w', F p.1 u lo hi w → Below w.heap.size w w' → F p.1 u lo hi w')
    (ho : ops[i]? = some o) (hi : i < n) (hf : frB frs i = false) (hun : listed.getD i true = false) (hr : i ∈ Region.ready .any ops listed)
    (hv : ∀ t, o.dst = some t → e.tmps[t]? = if t < a0.tmps.size then some v else none) (hB : Below w.heap.size w w') :
    Inv ops n frs W F a0 e (listed.setIfInBounds i true) (a.put o.dst v) w' U L H := by
  have hd : dstOf ops i = o.dst := by simp [dstOf, ho]
  refine ⟨inv.head.set hr hi, chain inv.low hB, by rw [put_size, inv.size], by rw [put_defers, inv.defers], fun j t hj hfj hl hdj => ?_, fun t h => ?_, fun p hp hl => ?_, fun p hp q hq hne h1 h2 => ?_⟩
  · by_cases hij : i = j
    · subst hij
      rw [hd] at hdj
      rw [hv t hdj, hdj, put_eq, inv.size]
    · rw [getD_set_ne false hij] at hl
      rw [put_ne (by intro h; exact hij (C.dist i j t hi hj (hd.trans h) hdj))]
      exact inv.slotQ j t hj hfj hl hdj
  · rw [put_ne (by have := h i hi (set_self hun); rwa [hd] at this)]
    exact inv.slotO t fun j hj hl => h j hj (getD_set_true hl)
  · have hpi : i ≠ p.1 := fun h => by rw [h, frB_of hp] at hf; cases hf
    rw [getD_set_ne false hpi] at hl
    obtain ⟨h1, h2, h3, h4⟩ := inv.slotF p hp hl
    have hc := C.frs p hp
    rw [put_ne (by intro h; exact hpi (C.dist i p.1 p.2 hi hc.1 (hd.trans h) hc.2))]
    exact ⟨h1, hS p hp _ _ _ _ _ h2 hB, h3, Nat.le_trans h4 hB.size⟩
  · have hpi : i ≠ p.1 := fun h => by rw [h, frB_of hp] at hf; cases hf
    have hqi : i ≠ q.1 := fun h => by rw [h, frB_of hq] at hf; cases hf
    rw [getD_set_ne false hpi] at h1
    rw [getD_set_ne false hqi] at h2
    exact inv.apart p hp q hq hne h1 h2
theorem Inv.fresh (C : Checks ops n frs) (inv : Inv ops n frs W F a0 e listed a w U L H) (hS : ∀ p ∈ frs, ∀ u lo hi w w', F p.1 u lo hi w → Below w.heap.size w w' → F p.1 u lo hi w')
    (ho : ops[i]? = some o) (hi : i < n) (hf : frB frs i = true) (hun : listed.getD i true = false) (hr : i ∈ Region.ready .any ops listed)
    (hB : Below w.heap.size w w') (hF : F i v w.heap.size w'.heap.size w') :
    Inv ops n frs W F a0 e (listed.setIfInBounds i true) (a.put o.dst v) w' (fun j => if j = i then v else U j) (fun j => if j = i then w.heap.size else L j) (fun j => if j = i then w'.heap.size else H j) := by
  have hd : dstOf ops i = o.dst := by simp [dstOf, ho]
  obtain ⟨t0, ht0⟩ := frB_mem hf
  have hc0 := C.frs _ ht0
  refine ⟨inv.head.set hr hi, chain inv.low hB, by rw [put_size, inv.size], by rw [put_defers, inv.defers], fun j t hj hfj hl hdj => ?_, fun t h => ?_, fun p hp hl => ?_, fun p hp q hq hne h1 h2 => ?_⟩
  · by_cases hij : i = j
    · subst hij
      rw [hf] at hfj; cases hfj
    · rw [getD_set_ne false hij] at hl
      rw [put_ne (by intro h; exact hij (C.dist i j t hi hj (hd.trans h) hdj))]
      exact inv.slotQ j t hj hfj hl hdj
  · rw [put_ne (by have := h i hi (set_self hun); rwa [hd] at this)]
    exact inv.slotO t fun j hj hl => h j hj (getD_set_true hl)
  · have hc := C.frs p hp
    by_cases hpi : i = p.1
    · simp only [← hpi, if_true]
      have : o.dst = some p.2 := by rw [← hd, hpi]; exact hc.2
      rw [this, put_eq, inv.size]
      exact ⟨rfl, hF, inv.low.size, Nat.le_refl _⟩
    · rw [getD_set_ne false hpi] at hl
      obtain ⟨h1, h2, h3, h4⟩ := inv.slotF p hp hl
      rw [put_ne (by intro h; exact hpi (C.dist i p.1 p.2 hi hc.1 (hd.trans h) hc.2))]
      simp only [Ne.symm hpi, if_false]
      exact ⟨h1, hS p hp _ _ _ _ _ h2 hB, h3, Nat.le_trans h4 hB.size⟩
  · by_cases hpi : i = p.1
    · have hqi : i ≠ q.1 := fun h => hne (hpi ▸ h)
      rw [getD_set_ne false hqi] at h2
      simp only [← hpi, if_true, Ne.symm hqi, if_false]
      exact .inr (inv.slotF q hq h2).2.2.2
    · rw [getD_set_ne false hpi] at h1
      by_cases hqi : i = q.1
      · simp only [← hqi, if_true, Ne.symm hpi, if_false]
        exact .inl (inv.slotF p hp h1).2.2.2
      · rw [getD_set_ne false hqi] at h2
        simp only [Ne.symm hpi, Ne.symm hqi, if_false]
        exact inv.apart p hp q hq hne h1 h2
theorem fold_size (U : Nat → Value) : ∀ (l : List (Nat × Tmp)) (a : Act), (l.foldl (fun a p => a.put (some p.2) (U p.1)) a).tmps.size = a.tmps.size ∧ (l.foldl (fun a p => a.put (some p.2) (U p.1)) a).defers = a.defers
  | [], a => ⟨rfl, rfl⟩
  | p :: l, a => by
    have := fold_size U l (a.put (some p.2) (U p.1))
    rw [put_size, put_defers] at this
    exact this
theorem fold_ne (U : Nat → Value) {t : Nat} : ∀ (l : List (Nat × Tmp)) (a : Act), (∀ p ∈ l, p.2 ≠ t) → (l.foldl (fun a p => a.put (some p.2) (U p.1)) a).tmps[t]? = a.tmps[t]?
  | [], a, _ => rfl
  | p :: l, a, h => by
    simp only [List.foldl_cons]
    rw [fold_ne U l _ fun q hq => h q (List.mem_cons_of_mem _ hq), put_ne (by intro h'; exact h p List.mem_cons_self (Option.some.inj h'))]
theorem fold_eq (U : Nat → Value) {i t : Nat} : ∀ (l : List (Nat × Tmp)) (a : Act), (i, t) ∈ l → (∀ p ∈ l, p.2 = t → p.1 = i) → (l.foldl (fun a p => a.put (some p.2) (U p.1)) a).tmps[t]? = if t < a.tmps.size then some (U i) else none
  | [], a, h, _ => by cases h
  | p :: l, a, h, hu => by
    simp only [List.foldl_cons]
    by_cases hin : ∃ q ∈ l, q.2 = t
    · obtain ⟨q, hq, hqt⟩ := hin
      have : q = (i, t) := Prod.ext (hu q (List.mem_cons_of_mem _ hq) hqt) hqt
      subst this
      rw [fold_eq U l _ hq fun p hp => hu p (List.mem_cons_of_mem _ hp), put_size]
    · rw [fold_ne U l _ fun q hq hqt => hin ⟨q, hq, hqt⟩]
      rcases List.mem_cons.1 h with h | h
      · subst h; rw [put_eq]
      · exact absurd ⟨_, h, rfl⟩ hin
theorem final_frame (C : Checks ops n frs) (inv : Inv ops n frs W F a0 e listed a w U L H) (hall : ∀ i, i < n → listed.getD i false = true)
    (he : ∀ t, (∀ j, j < n → frB frs j = false → dstOf ops j ≠ some t) → e.tmps[t]? = a0.tmps[t]?) (hs : e.tmps.size = a0.tmps.size) (hdf : e.defers = a0.defers) :
    a = frs.foldl (fun a p => a.put (some p.2) (U p.1)) e := by
  refine act_ext (fun t => ?_) (by rw [(fold_size U frs e).2, hdf, inv.defers])
  by_cases hf : ∃ p ∈ frs, p.2 = t
  · obtain ⟨p, hp, rfl⟩ := hf
    rw [(inv.slotF p hp (hall _ (C.frs p hp).1)).1, fold_eq U frs e (i := p.1) hp fun q hq hqt => C.dist q.1 p.1 p.2 (C.frs q hq).1 (C.frs p hp).1 (by rw [(C.frs q hq).2, hqt]) (C.frs p hp).2, hs]
  · rw [fold_ne U frs e fun p hp hpt => hf ⟨p, hp, hpt⟩]
    by_cases hj : ∃ j, j < n ∧ dstOf ops j = some t
    · obtain ⟨j, hjn, hdj⟩ := hj
      cases hfj : frB frs j
      · exact inv.slotQ j t hjn hfj (hall j hjn) hdj
      · obtain ⟨t', ht'⟩ := frB_mem hfj
        have := (C.frs _ ht').2
        rw [show dstOf ops j = some t from hdj] at this
        exact absurd ⟨_, ht', (Option.some.inj this).symm⟩ hf
    · rw [inv.slotO t fun j hjn _ hd => hj ⟨j, hjn, hd⟩]
      exact (he t fun j hjn _ hd => hj ⟨j, hjn, hd⟩).symm
end
theorem wpAny_fresh {W : World} {F : Nat → Value → Nat → Nat → World → Prop} {a0 e : Act} {Q : Exit → Act → World → Prop} (C : Checks ops n frs)
    (hq : WalkI P ops W ((List.range n).filter fun i => !frB frs i) a0 e)
    (hS : ∀ p ∈ frs, ∀ u lo hi w w', F p.1 u lo hi w → Below w.heap.size w w' → F p.1 u lo hi w')
    (hF : ∀ p ∈ frs, ∀ o, ops[p.1]? = some o → Region.wanted o (yielded ops e.tmps) = true ∧ ∀ w, Below W.heap.size W w → FreshAt P o e w (F p.1))
    (hk : ∀ (U : Nat → Value) (L H : Nat → Nat) (w : World), Below W.heap.size W w → (∀ p ∈ frs, F p.1 (U p.1) (L p.1) (H p.1) w ∧ W.heap.size ≤ L p.1 ∧ H p.1 ≤ w.heap.size) →
      (∀ p ∈ frs, ∀ q ∈ frs, p.1 ≠ q.1 → H p.1 ≤ L q.1 ∨ H q.1 ≤ L p.1) → wpList P ops Q (ops.toList.drop n) (frs.foldl (fun a p => a.put (some p.2) (U p.1)) e) w) :
    ∀ (d : Nat) (listed : Array Bool) (a : Act) (w : World) (U : Nat → Value) (L H : Nat → Nat), Inv ops n frs W F a0 e listed a w U L H → unl listed n = d →
      wpAny P .any ops Q (d + (ops.size - n)) listed a w := by
  have hidx : ∀ i ∈ ((List.range n).filter fun i => !frB frs i), i < n := fun i hi => List.mem_range.1 (List.mem_filter.1 hi).1
  have hmem : ∀ i, i < n → frB frs i = false → i ∈ ((List.range n).filter fun i => !frB frs i) := fun i hi hf => List.mem_filter.2 ⟨List.mem_range.2 hi, by simp [hf]⟩
  have hpw : ((List.range n).filter fun i => !frB frs i).Pairwise (· < ·) := List.Pairwise.filter _ List.pairwise_lt_range
  obtain ⟨hes, hed⟩ := walk_frame _ _ hq
  have he : ∀ t, (∀ j, j < n → frB frs j = false → dstOf ops j ≠ some t) → e.tmps[t]? = a0.tmps[t]? := fun t h =>
    walk_slot _ _ hq fun j hj => h j (hidx j hj) (by simpa using (List.mem_filter.1 hj).2)
  intro d
  induction d with
  | zero =>
    intro listed a w U L H inv hd
    have hall : ∀ i, i < n → listed.getD i false = true := fun i hi => by
      rw [← getD_tf (by rw [inv.head.size]; have := C.le; omega)]; exact unl_zero n hd i hi
    have hl : listed = Array.replicate n true ++ Array.replicate (ops.size - n) false := by
      refine Array.ext (by have := C.le; simp [inv.head.size]; omega) fun i h1 h2 => ?_
      rw [inv.head.size] at h1
      by_cases hin : i < n
      · have := hall i hin
        rw [Array.getElem_append_left (by simpa using hin)]
        simpa [inv.head.size, h1] using this
      · have := inv.head.tail i (by omega) h1
        rw [Array.getElem_append_right (by simp; omega)]
        simpa [inv.head.size, h1] using this
    rw [final_frame C inv hall he hes hed]
    have hseq := C.seq
    rw [← hl] at hseq
    have hlen : (ops.toList.drop n).length = ops.size - n := by simp
    have := wpAny_of_seq (ops := ops) (md := .any) (Q' := Q) (ops.toList.drop n) n listed (frs.foldl (fun a p => a.put (some p.2) (U p.1)) e) w (fun j => by simp [List.getElem?_drop]) (by rw [hlen]; exact hseq)
      (hk U L H w inv.low (fun p hp => (inv.slotF p hp (hall _ (C.frs p hp).1)).2) (fun p hp q hq hne => inv.apart p hp q hq hne (hall _ (C.frs p hp).1) (hall _ (C.frs q hq).1)))
    rw [hlen] at this
    rw [Nat.zero_add]
    exact this
  | succ d ih =>
    intro listed a w U L H inv hd
    obtain ⟨k, hkn, hkun, hkall⟩ := unl_pos n (by rw [hd]; omega)
    have hsz : listed.size = ops.size := inv.head.size
    have hle := C.le
    have hkr : k ∈ Region.ready .any ops listed := by
      have hks : k < ops.size := by omega
      refine mem_ready.2 ⟨hkun, ops[k], by simp [hks], fun e' he' hb => ?_⟩
      have := C.back k ops[k] e' hkn (by simp [hks]) he' hb
      rw [← getD_tf (by omega)]
      exact hkall _ this
    rw [show d + 1 + (ops.size - n) = (d + (ops.size - n)) + 1 by omega]
    refine ⟨fun h0 => (by rw [h0] at hkr; cases hkr), fun i hir => ?_⟩
    obtain ⟨hun, o, ho, _⟩ := mem_ready.1 hir
    have his : i < ops.size := (Array.getElem?_eq_some_iff.1 ho).1
    have hin : i < n := by
      rcases Nat.lt_or_ge i n with h | h
      · exact h
      · rcases C.tail with ht | ⟨h1, h2, h3⟩
        · omega
        · exact absurd hir (tail_waits h2 h3 h1 inv.head (n - k) k rfl hkn hkun i h)
    have hunf : listed.getD i false = false := by rw [← getD_tf (by omega)]; exact hun
    have hcnt : unl (listed.setIfInBounds i true) n = d := by
      have := unl_set hun n
      rw [if_pos hin] at this
      omega
    have hsel : ∀ cs b, o.op ≠ .select cs b := fun cs b => Region.noSelect_spec C.sel i o cs b ho
    unfold wpOp
    simp only [ho]
    cases hf : frB frs i
    · obtain ⟨o', b, b1, ho', hst, hbs, h4, h5, h6⟩ := walk_at C.dist _ _ hq hidx hpw i (hmem i hin hf)
      have : o' = o := Option.some.inj (ho'.symm.trans ho)
      subst this
      have hsame : SameOn (o'.looksAt ops) a b := same_quiet C inv ho hin hunf hir
        (fun t h => h4 t fun j hj hlt => h j (hidx j hj) (by simpa using (List.mem_filter.1 hj).2) hlt)
        (fun t j hj hfj hlt hd => h5 t j (hmem j hj hfj) hlt hd)
      have hex := exec_same (ops := ops) hsel hsame
      have hwa := wanted_same (ops := ops) hsame
      have step : ∀ v w', b1 = b.put o'.dst v → Below w.heap.size w w' → wpAny P .any ops Q (d + (ops.size - n)) (listed.setIfInBounds i true) (a.put o'.dst v) w' := fun v w' hb1 hB =>
        ih _ _ _ U L H (inv.quiet C hS ho hin hf hun hir (fun t ht => by
          rw [← h6 t ht, hb1, ht, put_eq, hbs]) hB) hcnt
      unfold StepQ at hst
      rw [hwa]
      split at hst
      · rename_i hw
        rw [if_pos hw]
        obtain ⟨v, hb1, hqa⟩ := hst w inv.low
        refine .inl ?_
        unfold Oper.wp
        unfold Oper.quietAt at hqa
        rw [hex]
        generalize (execOp b.eval o').run P w = r at hqa
        cases r with
        | ok x w' =>
          cases x <;> simp only [Oper.quietUpon] at hqa <;> simp only [Oper.upon]
          case value u =>
            obtain ⟨rfl, rfl⟩ := hqa
            exact step _ _ hb1 (Below.refl _ _)
          case skip =>
            obtain ⟨rfl, rfl⟩ := hqa
            exact step _ _ hb1 (Below.refl _ _)
          case enter f args =>
            obtain ⟨rfl, hc⟩ := hqa
            exact hc.mono fun e' w'' ⟨he', hB⟩ => by subst he'; exact step _ _ hb1 hB
        | halt x w' => simp only [Oper.quietUpon] at hqa
      · rename_i hw
        rw [if_neg hw]
        exact step _ _ hst (Below.refl _ _)
    · obtain ⟨t, ht⟩ := frB_mem hf
      have hsame : SameOn (o.looksAt ops) a e := same_fresh C inv hin hf hunf hir ho he
      obtain ⟨hwe, hfr⟩ := hF _ ht o ho
      have hex := exec_same (ops := ops) hsel hsame
      have hwa := wanted_same (ops := ops) hsame
      rw [hwa, if_pos hwe]
      refine .inl ?_
      have hfw := hfr w inv.low
      unfold FreshAt at hfw
      unfold Oper.wp
      rw [hex]
      generalize (execOp e.eval o).run P w = r at hfw
      cases r with
      | ok x w' =>
        cases x <;> simp only at hfw <;> simp only [Oper.upon]
        case value u => exact ih _ _ _ _ _ _ (inv.fresh C hS ho hin hf hun hir hfw.1 hfw.2) hcnt
        case enter f args =>
          obtain ⟨rfl, hc⟩ := hfw
          exact hc.mono fun e' w'' ⟨u, he', hB, hFu⟩ => by subst he'; exact ih _ _ _ _ _ _ (inv.fresh C hS ho hin hf hun hir hB hFu) hcnt
      | halt x w' => simp only at hfw
theorem wp_region_fresh {id : Nat} {Q : Exit → Act → World → Prop} {a e : Act} {W : World} {l : List Oper} (F : Nat → Value → Nat → Nat → World → Prop) (n : Nat) (frs : List (Nat × Tmp)) (lq : List Oper)
    (hm : P.follows .mixedOrders = true) (hB : checkB l.toArray n frs = true)
    (hl : ((List.range n).filter fun i => !frB frs i).map (l[·]?) = lq.map some)
    (hq : ∀ g, Below W.heap.size W g → wpQuiet P l.toArray (fun w' => ∃ x : Fut g, w' = x.w) (fun a' => a' = e) lq a)
    (hS : ∀ p ∈ frs, ∀ u lo hi w w', F p.1 u lo hi w → Below w.heap.size w w' → F p.1 u lo hi w')
    (hF : ∀ p ∈ frs, ∀ o, l[p.1]? = some o → Region.wanted o (yielded l.toArray e.tmps) = true ∧ ∀ w, Below W.heap.size W w → FreshAt P o e w (F p.1))
    (hk : ∀ (U : Nat → Value) (L H : Nat → Nat) (w : World), Below W.heap.size W w → (∀ p ∈ frs, F p.1 (U p.1) (L p.1) (H p.1) w ∧ W.heap.size ≤ L p.1 ∧ H p.1 ≤ w.heap.size) →
      (∀ p ∈ frs, ∀ q ∈ frs, p.1 ≠ q.1 → H p.1 ≤ L q.1 ∨ H q.1 ≤ L p.1) → wpList P l.toArray Q (l.drop n) (frs.foldl (fun a p => a.put (some p.2) (U p.1)) e) w) :
    (Code.region id l.toArray true).wp P Q a W := by
  have C := checks hB
  have hle : n ≤ l.length := by simpa using C.le
  have hdq : lq.Pairwise (fun x y => x.dst = none ∨ x.dst ≠ y.dst) := by
    have hp : (((List.range n).filter fun i => !frB frs i).map (l[·]?)).Pairwise (fun x y => ∀ o o', x = some o → y = some o' → o.dst = none ∨ o.dst ≠ o'.dst) := by
      rw [List.pairwise_map]
      have hlt : ((List.range n).filter fun i => !frB frs i).Pairwise (· < ·) := List.Pairwise.filter _ List.pairwise_lt_range
      refine hlt.imp_of_mem fun {i j} hi hj hij o o' h1 h2 => ?_
      have hi' := List.mem_range.1 (List.mem_filter.1 hi).1
      have hj' := List.mem_range.1 (List.mem_filter.1 hj).1
      cases hd : o.dst with
      | none => exact .inl rfl
      | some t =>
        right
        intro h
        have := C.dist i j t hi' hj' (by simp [dstOf, h1, hd]) (by simp [dstOf, h2, ← h])
        omega
    rw [hl, List.pairwise_map] at hp
    exact hp.imp fun h => h _ _ rfl rfl
  refine wp_region_any hm ?_
  have inv0 : Inv l.toArray n frs W F a e (Array.replicate l.toArray.size false) a { W with drawn := W.drawn + 1 } (fun _ => undef) (fun _ => 0) (fun _ => 0) := by
    refine ⟨⟨by simp, fun j oj _ hl => (by rw [getD_replicate_false] at hl; cases hl), fun t _ ht => getD_in (by simpa using ht) (getD_replicate_false _ _)⟩, Below.drew (Below.refl _ _), rfl, rfl,
      fun i t _ _ hl => (by rw [getD_replicate_false] at hl; cases hl), fun _ _ => rfl, fun p _ hl => (by rw [getD_replicate_false] at hl; cases hl), fun p _ q _ _ hl => (by rw [getD_replicate_false] at hl; cases hl)⟩
  have hw : WalkI P l.toArray W ((List.range n).filter fun i => !frB frs i) a e := walk_of_quiet _ lq a (by simpa using hl) hdq hq
  have := wpAny_fresh C hw hS (fun p hp o ho => hF p hp o (by simpa using ho)) (fun U L H w h1 h2 h3 => by simpa using hk U L H w h1 h2 h3) n (Array.replicate l.toArray.size false) a _ _ _ _ inv0 (unl_init _ n (by simpa using hle))
  rw [show n + (l.toArray.size - n) = l.toArray.size by simp; omega] at this
  exact this
end
theorem wp_region_new {P : Program} {id : Nat} {Q : Exit → Act → World → Prop} {a : Act} {W : World} {l : List Oper} (F : Nat → Value → Nat → Nat → World → Prop) (n : Nat) (frs : List (Nat × Tmp)) (lq : List Oper)
    (hm : P.follows .mixedOrders = true) (hB : checkB l.toArray n frs = true)
    (hl : ((List.range n).filter fun i => !frB frs i).map (l[·]?) = lq.map some)
    (hS : ∀ p ∈ frs, ∀ u lo hi w w', F p.1 u lo hi w → Below w.heap.size w w' → F p.1 u lo hi w')
    (h : ∃ e, (∀ g, Below W.heap.size W g → wpQuiet P l.toArray (fun w' => ∃ x : Fut g, w' = x.w) (fun a' => a' = e) lq a) ∧
      (∀ p ∈ frs, ∀ o, l[p.1]? = some o → Region.wanted o (yielded l.toArray e.tmps) = true ∧ ∀ w, Below W.heap.size W w → FreshAt P o e w (F p.1)) ∧
      (∀ (U : Nat → Value) (L H : Nat → Nat) (w : World), Below W.heap.size W w → (∀ p ∈ frs, F p.1 (U p.1) (L p.1) (H p.1) w ∧ W.heap.size ≤ L p.1 ∧ H p.1 ≤ w.heap.size) →
        (∀ p ∈ frs, ∀ q ∈ frs, p.1 ≠ q.1 → H p.1 ≤ L q.1 ∨ H q.1 ≤ L p.1) → wpList P l.toArray Q (l.drop n) (frs.foldl (fun a p => a.put (some p.2) (U p.1)) e) w)) :
    (Code.region id l.toArray true).wp P Q a W := by
  obtain ⟨e, h1, h2, h3⟩ := h
  exact wp_region_fresh F n frs lq hm hB hl h1 hS h2 h3
/-- a new variable: its block, in order, and unmarked -/
def NewCells (vals : List Value) (T : TypeId) (u : Value) (lo hi : Nat) (w : World) : Prop := u = .pointer (some ⟨lo, 0, none⟩) ∧ lo < hi ∧ hi ≤ w.heap.size ∧ w.heap[lo]? = some (.cells vals.toArray T (0, 0))
theorem NewCells.stable {vals : List Value} {T : TypeId} {u : Value} {lo hi : Nat} {w w' : World} (h : NewCells vals T u lo hi w) (hb : Below w.heap.size w w') : NewCells vals T u lo hi w' :=
  ⟨h.1, h.2.1, Nat.le_trans h.2.2.1 hb.size, by rw [hb.block lo (by have := h.2.1; have := h.2.2.1; omega)]; exact h.2.2.2⟩
theorem NewCells.cell {vals : List Value} {T : TypeId} {u : Value} {lo hi : Nat} {w : World} (h : NewCells vals T u lo hi w) (i : Nat) : w.cell? ⟨lo, i, none⟩ = vals[i]? := by
  simp [World.cell?, h.2.2.2]
theorem NewCells.frozen {vals : List Value} {T : TypeId} {u : Value} {lo hi : Nat} {w : World} (h : NewCells vals T u lo hi w) (i : Nat) : w.frozen? ⟨lo, i, none⟩ = false := by
  simp [World.frozen?, h.2.2.2]
theorem newCells_alloc (vals : List Value) (T : TypeId) (w : World) : Below w.heap.size w (w.alloc (.cells vals.toArray T)) ∧ NewCells vals T (.pointer (some ⟨w.heap.size, 0, none⟩)) w.heap.size (w.alloc (.cells vals.toArray T)).heap.size (w.alloc (.cells vals.toArray T)) := by
  refine ⟨Below.alloc (Below.refl _ _) (Nat.le_refl _) _, rfl, ?_, Nat.le_refl _, ?_⟩
  · simp
  · show (w.heap.push (.cells vals.toArray T))[w.heap.size]? = _
    simp
theorem fresh_of_run {P : Program} {o : Oper} {a : Act} {w w' : World} {u : Value} {F : Value → Nat → Nat → World → Prop} (h : (execOp a.eval o).run P w = .ok (.value u) w') (hF : Below w.heap.size w w' ∧ F u w.heap.size w'.heap.size w') : FreshAt P o a w F := by
  unfold FreshAt
  rw [h]
  exact hF
end Reg
end Go.Proofs.Ytbpnmjjmllgehaa
