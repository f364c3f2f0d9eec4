/- The evaluator: functions that return new rows. No condition. -/
import Derived.Test.YtbpnmjjmllgehaaEvB
namespace Go.Proofs.Ytbpnmjjmllgehaa
open Go Go.RowKit
namespace Ev
/-- a row that a call has made, or one that came in: how many cells an element has, how many elements, what they are -/
structure NR where
  k : Nat
  n : Nat
  g : Nat → Nat → Value
/-- such rows stand in the world -/
def NewRow (w w' : World) (a : Option Addr) (c : Nat) (v : NR) : Prop := RowT w' a v.k v.n v.g ∧ v.n ≤ c ∧ 0 < v.k ∧ (0 < v.n → w.heap.size ≤ (getA a).block)
/-- what is said of a call: numbers that must be the same, conditions, new rows, the value out of them -/
structure GR2 where
  cl : List (Nat × Nat)
  pre : List Bool
  rows : List NR
  v : List Value → Value
def adV : Value → Option Addr
  | .slice a _ _ => a
  | _ => none
def hintsN : Nat → List NR → List Value
  | _, [] => []
  | nt, _ :: l => .slice (some ⟨nt, 0, some 0⟩) 0 0 :: hintsN (nt + 1) l
def valsN (r : Sup) : Nat → List NR → List Value
  | _, [] => []
  | i, v :: l => .slice (adV (r i).2) v.n (r i).1 :: valsN r (i + 1) l
def entsN (r : Sup) : Nat → Nat → List NR → List Ent
  | _, _, [] => []
  | nt, i, v :: l => rowC nt (r i).1 (adV (r i).2) v.k v.n v.g :: entsN r (nt + 1) (i + 1) l
def genK2 (st : St) (r : Sup) : Option GR2 → Tree VR
  | some s => clm s.cl (ites s.pre (.leaf (s.v (hintsN st.nt s.rows), s.v (valsN r 0 s.rows), ⟨entsN r st.nt 0 s.rows ++ st.M, st.nt + s.rows.length⟩, fun i => r (i + s.rows.length))))
  | none => .fail 45
def genR (g : St → List (Value × Value) → Option GR2) : SumF := fun a1 a2 st r => match Nat.beq a1.length a2.length with
  | true => genK2 st r (g st (a1.zip a2))
  | false => .fail 44
/-- where the new rows lie -/
def NewRows (w w' : World) : List NR → List (Option Addr × Nat) → Prop
  | [], [] => True
  | v :: l, x :: m => NewRow w w' x.1 x.2 v ∧ NewRows w w' l m
  | _, _ => False
def valsA : List NR → List (Option Addr × Nat) → List Value
  | v :: l, x :: m => .slice x.1 v.n x.2 :: valsA l m
  | _, _ => []
def supA : List (Option Addr × Nat) → Sup → Sup
  | [], r => r
  | x :: m, r => fun i => match i with
    | 0 => (x.2, .slice x.1 0 0)
    | i + 1 => supA m r i
theorem valsN_sup {r : Sup} : ∀ {rows : List NR} {m : List (Option Addr × Nat)} {q : Sup} {i : Nat}, rows.length = m.length → (∀ j, q (i + j) = supA m r j) → valsN q i rows = valsA rows m ∧ (∀ nt, entsN q nt i rows = entsN (supA m r) nt 0 rows) ∧ ∀ j, q (i + rows.length + j) = r j
  | [], [], q, i, _, h => ⟨rfl, fun _ => rfl, fun j => by rw [List.length_nil, Nat.add_zero, h]; rfl⟩
  | v :: l, x :: m, q, i, hl, h => by
    have h0 : q i = (x.2, .slice x.1 0 0) := by have := h 0; simpa [supA] using this
    have hs : ∀ j, q (i + 1 + j) = supA m r j := fun j => by have := h (j + 1); rw [show i + (j + 1) = i + 1 + j by omega] at this; exact this
    obtain ⟨h1, h2, h3⟩ := valsN_sup (rows := l) (m := m) (q := q) (i := i + 1) (by simpa using hl) hs
    obtain ⟨_, g2, _⟩ := valsN_sup (rows := l) (m := m) (q := supA (x :: m) r) (i := 0 + 1) (by simpa using hl) (fun j => by rw [show 0 + 1 + j = j + 1 by omega]; rfl)
    refine ⟨?_, fun nt => ?_, fun j => ?_⟩
    · simp only [valsN, h0, h1, valsA, adV]
    · simp only [entsN, h0, h2, g2]
      rfl
    · rw [← h3 j, List.length_cons]; congr 1; omega
  | [], _ :: _, _, _, h, _ => by simp at h
  | _ :: _, [], _, _, h, _ => by simp at h
theorem rowC_void {tag c k : Nat} {a : Option Addr} {g : Nat → Nat → Value} : (rowC tag c a k 0 g).Void := by
  refine ⟨rfl, fun off v hv => (by simp [cellAt, rowC, nthL] at hv), fun R hR j q hj => ?_⟩
  simp only [rowC, Option.some.injEq] at hR
  subst hR
  exact absurd hj (by simp)
theorem newRow_ent {w w' : World} {a : Option Addr} {c tag : Nat} {v : NR} (h : NewRow w w' a c v) : (rowC tag c a v.k v.n v.g).rw = false ∧ (((rowC tag c a v.k v.n v.g).Holds w' ∧ (rowC tag c a v.k v.n v.g).b < w'.heap.size ∧ w.heap.size ≤ (rowC tag c a v.k v.n v.g).b) ∨ (rowC tag c a v.k v.n v.g).Void) := by
  obtain ⟨h1, h2, h3, h4⟩ := h
  refine ⟨rfl, ?_⟩
  rcases Nat.eq_zero_or_pos v.n with hz | hz
  · rw [hz]; exact .inr rowC_void
  · refine .inl ⟨⟨fun ho => (by cases ho), fun off u hv => (by simp [cellAt, rowC, nthL] at hv), fun _ R hR j q hj hq => ?_⟩, lt_of (h1 0 0 hz h3).2, h4 hz⟩
    simp only [rowC, Option.some.injEq] at hR
    subst hR
    obtain ⟨q1, q2⟩ := h1 j q hj hq
    refine ⟨q1, q2, fun cp x hx => ?_⟩
    simp only [rowC, Option.some.injEq, Prod.mk.injEq] at hx
    obtain ⟨rfl, rfl⟩ := hx
    exact h2
theorem newRows_ents {w w' : World} {r : Sup} : ∀ {rows : List NR} {m : List (Option Addr × Nat)} (nt : Nat), NewRows w w' rows m → (rows.length = m.length ∧ ∀ e ∈ entsN (supA m r) nt 0 rows, e.rw = false ∧ ((e.Holds w' ∧ e.b < w'.heap.size ∧ w.heap.size ≤ e.b) ∨ e.Void))
  | [], [], _, _ => ⟨rfl, fun e he => by cases he⟩
  | v :: l, x :: m, nt, h => by
    obtain ⟨h1, h2⟩ := newRows_ents (r := r) (nt + 1) h.2
    refine ⟨by simp [h1], fun e he => ?_⟩
    have hs : entsN (supA (x :: m) r) nt 0 (v :: l) = rowC nt x.2 x.1 v.k v.n v.g :: entsN (supA m r) (nt + 1) 0 l := by
      have := (valsN_sup (r := r) (rows := l) (m := m) (q := supA (x :: m) r) (i := 0 + 1) h1 (fun j => by rw [show 0 + 1 + j = j + 1 by omega]; rfl)).2.1 (nt + 1)
      simp only [entsN, this]
      rfl
    rw [hs] at he
    rcases List.mem_cons.1 he with rfl | he
    · exact newRow_ent h.1
    · exact h2 e he
  | [], _ :: _, _, h => h.elim
  | _ :: _, [], _, h => h.elim
/-- **a function that returns new rows, by what is said of it** -/
theorem genR_ok {P : Program} {f : FuncId} {g : St → List (Value × Value) → Option GR2} (h : ∀ st xs s, g st xs = some s → (∀ x ∈ s.cl, x.1 = x.2) → (∀ b ∈ s.pre, b = true) → ∀ w N w0, Rel N w0 st w → Calls P f (xs.map Prod.snd).toArray w fun e w' => (∃ m, e = .returned (s.v (valsA s.rows m)) ∧ NewRows w w' s.rows m) ∧ Below w.heap.size w w') (N : Nat → Prop) (w0 : World) : SumOk1 P N w0 f (genR g) := by
  intro a1 a2 st Q K w hq hr
  unfold genR at hq
  cases hl : Nat.beq a1.length a2.length with
  | false => rw [hl] at hq; exact (hq r0).elim
  | true =>
    rw [hl] at hq
    have hq' : ∀ r, (genK2 st r (g st (a1.zip a2))).good Q K := hq
    cases hg : g st (a1.zip a2) with
    | none => rw [hg] at hq'; exact (hq' r0).elim
    | some s =>
      rw [hg] at hq'
      have h1 : ∀ r, (∀ x ∈ s.cl, x.1 = x.2) ∧ (∀ b ∈ s.pre, b = true) ∧ Q (s.v (hintsN st.nt s.rows), s.v (valsN r 0 s.rows), ⟨entsN r st.nt 0 s.rows ++ st.M, st.nt + s.rows.length⟩, fun i => r (i + s.rows.length)) := fun r => let ⟨x, y⟩ := clm_good (hq' r); ⟨x, ites_good y⟩
      have := h st _ s hg (h1 r0).1 (h1 r0).2.1 w N w0 hr
      rw [(zip_fst (Nat.eq_of_beq_eq_true hl)).2] at this
      refine this.mono fun e w' ⟨⟨m, he, hm⟩, hb⟩ => ?_
      obtain ⟨hlen, hE⟩ := newRows_ents (r := r0) st.nt hm
      have hr' := rel_below hr hb
      have hlt : ∀ f ∈ st.M, f.rw = true → f.b < w.heap.size := by
        intro f hf hrw
        obtain ⟨F, _, hE⟩ := hr.ent hf
        exact heap_lt (hE.own (hE.rw hrw).2).1
      refine .inl ⟨s.v (hintsN st.nt s.rows), _, ⟨entsN (supA m r0) st.nt 0 s.rows ++ st.M, st.nt + s.rows.length⟩, he, fun r => ?_, hr'.frz fun e' he' => ?_⟩
      · have hx := (h1 (supA m r)).2.2
        obtain ⟨v1, _, v3⟩ := valsN_sup (r := r) (rows := s.rows) (m := m) (q := supA m r) (i := 0) hlen (fun j => by rw [Nat.zero_add])
        rw [v1] at hx
        have e1 : (fun i => supA m r (i + s.rows.length)) = r := funext fun i => by have := v3 i; rw [Nat.zero_add, Nat.add_comm] at this; exact this
        rw [e1] at hx
        have e2 : ∀ (rows : List NR) (m : List (Option Addr × Nat)) (nt : Nat), rows.length = m.length → entsN (supA m r) nt 0 rows = entsN (supA m r0) nt 0 rows := by
          intro rows
          induction rows with
          | nil => intro m nt _; rfl
          | cons v l ih =>
            intro m nt hl
            cases m with
            | nil => simp at hl
            | cons x m =>
              have q1 := (valsN_sup (r := r) (rows := l) (m := m) (q := supA (x :: m) r) (i := 0 + 1) (by simpa using hl) (fun j => by rw [show 0 + 1 + j = j + 1 by omega]; rfl)).2.1 (nt + 1)
              have q2 := (valsN_sup (r := r0) (rows := l) (m := m) (q := supA (x :: m) r0) (i := 0 + 1) (by simpa using hl) (fun j => by rw [show 0 + 1 + j = j + 1 by omega]; rfl)).2.1 (nt + 1)
              simp only [entsN, q1, q2, ih m (nt + 1) (by simpa using hl)]
              rfl
        rw [e2 s.rows m st.nt hlen] at hx
        exact hx
      · obtain ⟨q1, q2⟩ := hE e' he'
        refine ⟨q1, q2.imp (fun ⟨a, b, c⟩ => ⟨a, b, fun f hf hrw => ?_⟩) fun h => h⟩
        have := hlt f hf hrw
        omega
/-- the slice in a result: what is known of it -/
theorem newRow_of {N : Nat → Prop} {w w' : World} {st : St} {k e : Nat} {x : Value × Value} {a : ApS} (hr : Rel N w st w') (hN : ∀ k, k < w.heap.size → N k) (hk : 0 < k) (h : apS st.M k e x = some a) (hcl : ∀ y ∈ a.ok, y.1 = y.2) :
    ∃ ad c, x.2 = .slice ad a.n c ∧ NewRow w w' ad c ⟨k, a.n, apF k a.c⟩ := by
  obtain ⟨F, hs, hB, _⟩ := hr
  obtain ⟨o1, o2, _⟩ := apS_own hB hk h hcl
  obtain ⟨hl, hrow⟩ := o1
  rcases hrow with ⟨hv, hz⟩ | ⟨g, cap, cur, hv, _, hheap, hle, hcm, hsz, htake⟩
  · refine ⟨none, 0, by rw [hv, hz], fun j c hj => ?_, ?_, hk, fun hp => ?_⟩
    · simp only at hj; omega
    · simp only; omega
    · simp only at hp; omega
  · refine ⟨some ⟨g, 0, none⟩, cap, hv, fun j c hj hc => ⟨rfl, ?_⟩, hle, hk, fun _ => ?_⟩
    · simp only at hj hc ⊢
      have h3 := apF_get hl hj hc
      rw [← htake, List.getElem?_take] at h3
      split at h3
      · simp only [World.cell?, getA, hheap, Option.isSome_none, Bool.false_eq_true, if_false, Nat.zero_add]
        simpa using h3
      · cases h3
    · rcases o2 with ⟨_, hx, _⟩ | ⟨tag, en, cap', hrm, hx, hf, hrw⟩ | ⟨_, _, _, hx, _⟩
      · rw [hv] at hx; cases hx
      · rw [hv] at hx
        simp only [Value.slice.injEq, Option.some.injEq, Addr.mk.injEq, and_true, true_and] at hx
        obtain ⟨rfl, _⟩ := hx
        have hE := hB.ent en (find_mem hf)
        have := (hE.rw hrw).1
        show w.heap.size ≤ en.b
        rcases Nat.lt_or_ge en.b w.heap.size with h | h
        · exact absurd (hs _ (hN _ h)) this
        · exact h
      · rw [hv] at hx; cases hx
/-- what a call answers: its new rows, and the other values -/
abbrev OutR := List NR × List Value
def lvA (k : Nat) (K : List NR → Tree OutR) : Option ApS → Tree OutR
  | some a => clm a.ok (K [⟨k, a.n, apF k a.c⟩])
  | none => .fail 111
def lvR (M : List Ent) : List (Nat × Nat) → List (Value × Value) → (List NR → Tree OutR) → Tree OutR
  | [], [], K => K []
  | (k, e) :: ks, x :: xs, K => lvA k (fun a => lvR M ks xs fun l => K (a ++ l)) (apS M k e x)
  | _, _, _ => .fail 112
def leafR (ks : List (Nat × Nat)) (ex : Value → Value → Option (List (Value × Value) × List Value)) : VR → Tree OutR
  | (v1, v2, st, _) => match ex v1 v2 with
    | some (xs, os) => lvR st.M ks xs fun l => .leaf (l, os)
    | none => .fail 113
theorem lvR_good {N : Nat → Prop} {w w' : World} {st : St} {Q : OutR → Prop} (hr : Rel N w st w') (hN : ∀ k, k < w.heap.size → N k) : ∀ {ks : List (Nat × Nat)} {xs : List (Value × Value)} {K : List NR → Tree OutR}, (∀ x ∈ ks, 0 < x.1) → (lvR st.M ks xs K).good Q → ∃ rows m, (K rows).good Q ∧ NewRows w w' rows m ∧ xs.map Prod.snd = valsA rows m
  | [], [], K, _, h => ⟨[], [], h, trivial, rfl⟩
  | (k, e) :: ks, x :: xs, K, hk, h => by
    have h' : (lvA k (fun a => lvR st.M ks xs fun l => K (a ++ l)) (apS st.M k e x)).good Q := h
    cases ha : apS st.M k e x with
    | none => rw [ha] at h'; exact h'.elim
    | some a =>
      rw [ha] at h'
      obtain ⟨h1, h2⟩ := clm_good h'
      obtain ⟨rows, m, q1, q2, q3⟩ := lvR_good hr hN (fun x hx => hk x (List.mem_cons_of_mem _ hx)) h2
      obtain ⟨ad, c, e1, e2⟩ := newRow_of hr hN (hk (k, e) (List.mem_cons_self ..)) ha h1
      exact ⟨⟨k, a.n, apF k a.c⟩ :: rows, (ad, c) :: m, q1, ⟨e2, q2⟩, by simp only [List.map_cons, valsA, e1, q3]⟩
  | [], _ :: _, _, _, h => h.elim
  | _ :: _, [], _, _, h => h.elim
noncomputable def evalFR (P : Program) (G : Sum) (LF : LTF) (n : Nat) (f : FuncId) (a1 a2 : List Value) (M : List Ent) (ks : List (Nat × Nat)) (ex : Value → Value → Option (List (Value × Value) × List Value)) (r : Sup) : Tree OutR := (evalFW P G LF n f a1 a2 M r).bind (leafR ks ex)
/-- **a contract of a function that returns new rows** -/
theorem contractR {P : Program} {G : Sum} {LF : LTF} (hG : ∀ N w0, SumOk P N w0 G) (hL : LFOk P LF) (n : Nat) {f : FuncId} {a1 a2 : List Value} {M : List Ent} {ks : List (Nat × Nat)} {ex : Value → Value → Option (List (Value × Value) × List Value)} {mk : List Value → List Value → Value} (hks : ∀ x ∈ ks, 0 < x.1) (hmk : ∀ v1 v2 xs os, ex v1 v2 = some (xs, os) → v2 = mk (xs.map Prod.snd) os) {T : Tree OutR} {Q : OutR → Prop} {w : World} (hM : ExtOk w M)
    (hl : ∀ r, (evalFR P G LF n f a1 a2 M ks ex r).lhs = (evalFR P G LF n f a1 a2 M ks ex r).rhs) (hT : ∀ r, (evalFR P G LF n f a1 a2 M ks ex r).noC = T) (hg : T.good Q) :
    Calls P f a2.toArray w fun e w' => (∃ rows os m, e = .returned (mk (valsA rows m) os) ∧ NewRows w w' rows m ∧ Q (rows, os)) ∧ Below w.heap.size w w' := by
  have h0 : ∀ r, (evalFW P G LF n f a1 a2 M r).good (fun x => (leafR ks ex x).good Q) := fun r => (good_bind _ _).1 (noC_good _ (hl r) (by have := hT r; unfold evalFR at this; rw [this]; exact hg))
  refine (evalFW_ok hG hL n (a1 := a1) hM h0).mono fun e w' h => ?_
  rcases h with ⟨v1, v2, st', he, hq, hr⟩ | ⟨v1, v2, st', he, hq, hr⟩
  · have h2 := hq r0
    simp only [leafR] at h2
    cases hx : ex v1 v2 with
    | none => rw [hx] at h2; exact h2.elim
    | some y =>
      obtain ⟨xs, os⟩ := y
      rw [hx] at h2
      obtain ⟨rows, m, q1, q2, q3⟩ := lvR_good hr (fun k hk => hk) hks h2
      exact ⟨⟨rows, os, m, by rw [he, hmk v1 v2 xs os hx, q3], q2, q1⟩, hr.low.below⟩
  · exact (hq r0).elim
/-- all cells are whole numbers -/
def kindK (kk : IntKind) (g : Nat → Nat → Value) (n k : Nat) : Bool := decide (∀ j, j < n → ∀ c, c < k → isI kk (g j c) = true)
theorem kindK_g {kk : IntKind} {g : Nat → Nat → Value} {n k : Nat} (h : kindK kk g n k = true) : ∀ j c, j < n → c < k → g j c = .int kk (payI (g j c)) := by
  intro j c hj hc
  simp only [kindK, decide_eq_true_eq] at h
  exact isI_eq (h j hj c hc)
theorem kindK_row {kk : IntKind} {g : Nat → Nat → Value} {n k : Nat} {a : Option Addr} {w : World} (h : kindK kk g n k = true) (hr : RowT w a k n g) : RowT w a k n fun j c => .int kk (payI (g j c)) := by
  intro j c hj hc
  obtain ⟨h1, h2⟩ := hr j c hj hc
  refine ⟨h1, ?_⟩
  show _ = some (Value.int kk (payI (g j c)))
  rw [← kindK_g h j c hj hc]; exact h2
theorem kindK_t {kk : IntKind} {f : Nat → Nat → Int} {n k : Nat} : kindK kk (fun j c => .int kk (f j c)) n k = true := by
  simp only [kindK, decide_eq_true_eq]
  intro j _ c _
  cases kk <;> rfl
theorem kindK_of {kk : IntKind} {g : Nat → Nat → Value} {f : Nat → Nat → Int} {n k : Nat} (h : ∀ j c, j < n → c < k → g j c = .int kk (f j c)) : kindK kk g n k = true := by
  simp only [kindK, decide_eq_true_eq]
  intro j hj c hc
  rw [h j c hj hc]
  cases kk <;> rfl
theorem flatK_t {kk : IntKind} {f : Nat → Nat → Int} {n k : Nat} : flatA n k (.rw fun j c => .int kk (f j c)) = true := by
  simp only [flatA, flatR, decide_eq_true_eq]
  intro j _ c _
  rfl
theorem apG_eq (k n : Nat) (a b : Ap) (j c : Nat) : apG k n a b j c = if n ≤ j then apF k b (j - n) c else apF k a j c := by
  cases n with
  | zero => simp [apG]
  | succ n =>
    show (match Nat.ble (n + 1) j with | true => apF k b (j - (n + 1)) c | false => apF k a j c) = _
    by_cases h : n + 1 ≤ j
    · rw [if_pos h, Nat.ble_eq_true_of_le h]
    · rw [if_neg h]
      have : Nat.ble (n + 1) j = false := by
        cases hb : Nat.ble (n + 1) j with
        | false => rfl
        | true => exact absurd (Nat.le_of_ble_eq_true hb) h
      rw [this]
end Ev
end Go.Proofs.Ytbpnmjjmllgehaa
