/- The evaluator answers what the program does: append. No condition. -/
import Derived.Test.YtbpnmjjmllgehaaEvS
import Derived.Maps.AppendAt
namespace Go.Proofs.Ytbpnmjjmllgehaa
open Go Go.RowKit
namespace Ev
theorem heap_lt {w : World} {b : Nat} {o : Obj} (h : w.heap[b]? = some o) : b < w.heap.size := (Array.getElem?_eq_some_iff.1 h).1
theorem find_tag : ∀ {M : List Ent} {t : Nat} {e : Ent}, find M t = some e → e.tag = t
  | [], _, _, h => by simp [find] at h
  | x :: M, t, e, h => by
    simp only [find] at h
    cases hb : Nat.beq x.tag t with
    | true => rw [hb] at h; simp only [Option.some.injEq] at h; subst h; exact Nat.eq_of_beq_eq_true hb
    | false => rw [hb] at h; exact find_tag h
theorem pairwise_two {R : Ent → Ent → Prop} (hs : ∀ a b, R a b → R b a) : ∀ {l : List Ent}, l.Pairwise R → ∀ a ∈ l, ∀ b ∈ l, a ≠ b → R a b
  | [], _, _, h, _, _, _ => by cases h
  | x :: l, hp, a, ha, b, hb, hne => by
    obtain ⟨h1, h2⟩ := List.pairwise_cons.1 hp
    rcases List.mem_cons.1 ha with e1 | k1 <;> rcases List.mem_cons.1 hb with e2 | k2
    · exact absurd (e1.trans e2.symm) hne
    · rw [e1]; exact h1 b k2
    · rw [e2]; exact hs _ _ (h1 a k1)
    · exact pairwise_two hs h2 a k1 b k2 hne
theorem row_cap {N : Nat → Prop} {w : World} {e : Ent} {R : Row} (hE : EntOk N w e) (ho : e.own = false) (hR : e.row = some R) {cp q : Nat} (hc : e.cap = some (cp, q)) (hk : 0 < R.k) : R.n ≤ cp := by
  rcases Nat.eq_zero_or_pos R.n with h | h
  · omega
  · exact (hE.row ho R hR 0 0 h hk).2.2 cp q hc
theorem row_cell {N : Nat → Prop} {w : World} {e : Ent} {R : Row} (hE : EntOk N w e) (hR : e.row = some R) {j c : Nat} (hj : j < R.n) (hc : c < R.k) : R.a = some ⟨e.b, (getA R.a).off, none⟩ ∧ w.cell? ⟨e.b, (getA R.a).off + (j * R.k + c), none⟩ = some (R.g j c) := by
  cases ho : e.own with
  | true =>
    obtain ⟨h1, h2⟩ := (hE.own ho).2.1 R hR j c hj hc
    exact ⟨h1, cell_of_heap (hE.own ho).1 h2⟩
  | false =>
    obtain ⟨h1, h2, _⟩ := hE.row ho R hR j c hj hc
    exact ⟨h1, h2⟩
theorem sameA_eq {a b : Option Addr} {m o : Nat} (h : ∀ y ∈ sameA a b, y.1 = y.2) (hb : b = some ⟨m, o, none⟩) : a = some ⟨m, o, none⟩ := by
  subst hb
  cases a with
  | none => have : isA none = isA (some (⟨m, o, none⟩ : Addr)) := h (isA none, isA (some ⟨m, o, none⟩)) (by simp [sameA]); cases this
  | some x =>
    obtain ⟨xb, xo, xs⟩ := x
    have h1 : xb = m := h (xb, m) (by simp [sameA, getA])
    have h2 : xo = o := h (xo, o) (by simp [sameA, getA])
    have h3 : spN xs = spN none := h (spN xs, spN none) (by simp [sameA, getA])
    cases xs with
    | none => rw [h1, h2]
    | some q => cases h3
theorem eqA_eq {a b : Option Addr} (h : ∀ y ∈ eqA a b, y.1 = y.2) : a = b := by
  have h1 : isA a = isA b := h (isA a, isA b) (by simp [eqA, sameA])
  have h2 : (getA a).block = (getA b).block := h (_, _) (by simp [eqA, sameA])
  have h3 : (getA a).off = (getA b).off := h (_, _) (by simp [eqA, sameA])
  have h4 : spN (getA a).spot = spN (getA b).spot := h (spN (getA a).spot, spN (getA b).spot) (List.mem_cons_of_mem _ (List.mem_cons_of_mem _ (List.mem_cons_of_mem _ (List.mem_cons_of_mem _ (List.mem_cons_self ..)))))
  have h5 : (getA a).spot.getD 0 = (getA b).spot.getD 0 := h ((getA a).spot.getD 0, (getA b).spot.getD 0) (List.mem_cons_self ..)
  cases a with
  | none => cases b with
    | none => rfl
    | some y => cases h1
  | some x => cases b with
    | none => cases h1
    | some y =>
      obtain ⟨xb, xo, xs⟩ := x
      obtain ⟨yb, yo, ys⟩ := y
      simp only [getA] at h2 h3 h4 h5
      subst h2 h3
      cases xs with
      | none => cases ys with
        | none => rfl
        | some q => cases h4
      | some p => cases ys with
        | none => cases h4
        | some q =>
          simp only [Option.getD_some] at h5
          rw [h5]
theorem add_none (b off i : Nat) : (⟨b, off, none⟩ : Addr).add i = ⟨b, off + i, none⟩ := by
  unfold Addr.add
  split
  · rename_i h; subst h; rfl
  · rfl
theorem ite_true {R : Type} {Q : R → Prop} {K : PK} {p : Prop} [Decidable p] {t : Tree R} {n : Nat} (h : (Tree.ite (decide p) t (.fail n)).good Q K) : p ∧ t.good Q K := by
  by_cases hp : p
  · exact ⟨hp, h.1 (decide_eq_true hp)⟩
  · exact (h.2 (decide_eq_false hp)).elim
theorem ite_trueB {R : Type} {Q : R → Prop} {K : PK} {b : Bool} {t : Tree R} {n : Nat} (h : (Tree.ite b t (.fail n)).good Q K) : b = true ∧ t.good Q K := by
  cases b with
  | true => exact ⟨rfl, h.1 rfl⟩
  | false => exact (h.2 rfl).elim
theorem ble_true {R : Type} {Q : R → Prop} {K : PK} {a b : Nat} {t : Tree R} {n : Nat} (h : (Tree.ite (Nat.ble a b) t (.fail n)).good Q K) : a ≤ b ∧ t.good Q K := by
  cases hb : Nat.ble a b with
  | true => exact ⟨Nat.le_of_ble_eq_true hb, h.1 hb⟩
  | false => exact (h.2 hb).elim
theorem clm_good {R : Type} {Q : R → Prop} {K : PK} {t : Tree R} : ∀ {l : List (Nat × Nat)}, (clm l t).good Q K → (∀ x ∈ l, x.1 = x.2) ∧ t.good Q K
  | [], h => ⟨fun x hx => (by cases hx), h⟩
  | (x, y) :: l, h => by
    obtain ⟨h1, h2⟩ := clm_good h.2
    refine ⟨fun z hz => ?_, h2⟩
    rcases List.mem_cons.1 hz with rfl | hz
    · exact h.1
    · exact h1 z hz
theorem flat_one {v : Value} (h : flatV v = true) : v.oneCell' = true := by cases v <;> first | rfl | cases h
theorem takeC_get {o : Obj} : ∀ {n off : Nat} {l : List Value}, takeC o off n = some l → l.length = n ∧ ∀ j u, l[j]? = some u → cellAt o (off + j) = some u
  | 0, off, l, h => by simp only [takeC, Option.some.injEq] at h; subst h; exact ⟨rfl, fun j u hj => by simp at hj⟩
  | n + 1, off, l, h => by
    simp only [takeC] at h
    split at h
    · rename_i v l' h1 h2
      simp only [Option.some.injEq] at h
      subst h
      obtain ⟨i1, i2⟩ := takeC_get h2
      refine ⟨by simp [i1], fun j u hj => ?_⟩
      cases j with
      | zero => simp only [List.getElem?_cons_zero, Option.some.injEq] at hj; subst hj; exact h1
      | succ j => simp only [List.getElem?_cons_succ] at hj; have := i2 j u hj; rwa [show off + 1 + j = off + (j + 1) by omega] at this
    · cases h
theorem takeC_take {c : Array Value} {t : Nat} {f : Nat × Nat} {n : Nat} {l : List Value} (h : takeC (.cells c t f) 0 n = some l) : c.toList.take n = l ∧ n ≤ c.size := by
  obtain ⟨h1, h2⟩ := takeC_get h
  have hg : ∀ j u, l[j]? = some u → c.toList[j]? = some u := fun j u hj => by have := h2 j u hj; rw [Nat.zero_add] at this; simp only [cellAt, nthL_get] at this; exact this
  have hn : n ≤ c.size := by
    rcases Nat.eq_zero_or_pos n with hz | hz
    · omega
    · have hl : n - 1 < l.length := by omega
      have := hg (n - 1) _ (List.getElem?_eq_getElem hl)
      have := (List.getElem?_eq_some_iff.1 this).1
      simp at this
      omega
  refine ⟨List.ext_getElem? fun j => ?_, hn⟩
  rw [List.getElem?_take]
  by_cases hj : j < n
  · rw [if_pos hj]
    have hl : j < l.length := by omega
    rw [List.getElem?_eq_getElem hl]
    exact hg j _ (List.getElem?_eq_getElem hl)
  · rw [if_neg hj, List.getElem?_eq_none (by omega)]
/-- the cells of m elements -/
def rowL (g : Nat → Nat → Value) (k : Nat) : Nat → List Value
  | 0 => []
  | m + 1 => rowL g k m ++ (List.range k).map (g m)
theorem rowL_len {g : Nat → Nat → Value} {k : Nat} : ∀ m, (rowL g k m).length = m * k
  | 0 => by simp [rowL]
  | m + 1 => by simp [rowL, rowL_len m, Nat.add_mul]
theorem rowL_get {g : Nat → Nat → Value} {k : Nat} : ∀ {m j c : Nat}, j < m → c < k → (rowL g k m)[j * k + c]? = some (g j c)
  | 0, j, c, h, _ => by omega
  | m + 1, j, c, h, hc => by
    show (rowL g k m ++ (List.range k).map (g m))[j * k + c]? = _
    by_cases hj : j < m
    · have hlt : j * k + c < m * k := by
        have : (j + 1) * k ≤ m * k := Nat.mul_le_mul_right k hj
        rw [Nat.add_mul] at this
        omega
      rw [List.getElem?_append_left (by rw [rowL_len]; exact hlt)]
      exact rowL_get hj hc
    · have : j = m := by omega
      subst this
      rw [List.getElem?_append_right (by rw [rowL_len]; omega), rowL_len, show j * k + c - j * k = c by omega]
      simp [hc]
theorem idx_split {q m k : Nat} (h : q < m * k) : q / k < m ∧ q % k < k ∧ q = q / k * k + q % k := by
  have hk : 0 < k := by
    rcases Nat.eq_zero_or_pos k with hz | hz
    · subst hz; simp at h
    · exact hz
  refine ⟨(Nat.div_lt_iff_lt_mul hk).2 h, Nat.mod_lt _ hk, ?_⟩
  have := Nat.div_add_mod q k
  rw [Nat.mul_comm] at this
  exact this.symm
def apL (k n : Nat) : Ap → List Value
  | .cl _ l => l
  | .rw g => rowL g k n
theorem apF_get {k n : Nat} {a : Ap} (hl : (apL k n a).length = n * k) {j c : Nat} (hj : j < n) (hc : c < k) : (apL k n a)[j * k + c]? = some (apF k a j c) := by
  cases a with
  | cl l1 l =>
    have hlt : j * k + c < l.length := by
      have h1 : (j + 1) * k ≤ n * k := Nat.mul_le_mul_right k hj
      rw [Nat.add_mul] at h1
      have : l.length = n * k := hl
      omega
    show l[j * k + c]? = some ((nthL l (j * k + c)).getD undef)
    rw [nthL_get, List.getElem?_eq_getElem hlt]
    rfl
  | rw g => exact rowL_get hj hc
theorem apG_get {k n m : Nat} {a b : Ap} (ha : (apL k n a).length = n * k) (hb : (apL k m b).length = m * k) {j c : Nat} (hj : j < n + m) (hc : c < k) : (apL k n a ++ apL k m b)[j * k + c]? = some (apG k n a b j c) := by
  by_cases hlt : j < n
  · have hn : n ≠ 0 := by omega
    have h1 : (j + 1) * k ≤ n * k := Nat.mul_le_mul_right k hlt
    rw [Nat.add_mul] at h1
    rw [List.getElem?_append_left (by rw [ha]; omega), apF_get ha hlt hc]
    unfold apG
    cases n with
    | zero => omega
    | succ n =>
      show _ = some (match Nat.ble (n + 1) j with | true => _ | false => _)
      have : Nat.ble (n + 1) j = false := by rw [ble_dec]; exact decide_eq_false (by omega)
      rw [this]
  · have h1 : n * k ≤ j * k := Nat.mul_le_mul_right k (by omega)
    rw [List.getElem?_append_right (by rw [ha]; omega), ha, show j * k + c - n * k = (j - n) * k + c by rw [Nat.sub_mul]; omega, apF_get hb (by omega) hc]
    unfold apG
    cases n with
    | zero => rfl
    | succ n =>
      show _ = some (match Nat.ble (n + 1) j with | true => _ | false => _)
      have : Nat.ble (n + 1) j = true := by rw [ble_dec]; exact decide_eq_true (by omega)
      rw [this]
section
variable {P : Program} {N : Nat → Prop} {w0 w : World} {st : St} {K : PK}
theorem apCap_ok {c : Array Value} {cap k : Nat} {cp : Option (Nat × Nat)} {q : List (Nat × Nat)} {en : Ent} {t : Nat} {bb : Bool} (h : apCap c cap k cp bb = some q) (hcl : ∀ x ∈ q, x.1 = x.2) (hb : bb = true → Nat.ble cap 9223372036854775807 = true) (hF : en.Fit) (hcur : en.cur = .cells c t (0, 0)) (hcp : en.cap = cp) : c.size = cap * k ∧ cap ≤ maxLen := by
  unfold apCap at h
  split at h
  · rename_i cp k'
    simp only [Option.some.injEq] at h
    subst h
    have h1 : cap = cp := hcl (cap, cp) (by simp)
    have h2 : k' = k := hcl (k', k) (by simp)
    obtain ⟨A, t', hA, h3, h4⟩ := hF.2.1 cp k' hcp
    rw [hcur] at hA
    cases hA
    rw [h1, ← h2]
    exact ⟨h3, h4⟩
  · simp only [Option.some.injEq] at h
    subst h
    have h1 : c.toList.length = cap * k := hcl (c.toList.length, cap * k) (by simp)
    have h2 := Nat.le_of_ble_eq_true (hb rfl)
    exact ⟨by simpa using h1, by unfold maxLen; omega⟩
  · cases h
theorem apN_own {k e tag n cap : Nat} {ad : Option Addr} {a : ApS} {en : Ent} (hr : RelB N w0 st w) (hk : 0 < k) (hf : find st.M tag = some en) (h : apNO tag n cap k e ad en en.row en.cap en.cur = some a) (hcl : ∀ x ∈ a.ok, x.1 = x.2) :
    w.ownsRow 0 e k (.slice ad n cap) a.n (apL k a.n a.c) ∧ ((Value.slice ad n cap = .slice none 0 0 ∧ a.n = 0) ∨ ∃ cap', Value.slice ad n cap = .slice (some ⟨en.b, 0, none⟩) a.n cap' ∧ en.rw = true) ∧ a.rm = some tag ∧ ∃ g, a.c = .rw g := by
  have hE := hr.ent en (find_mem hf)
  generalize hrow : en.row = ro at h
  generalize hcp : en.cap = cp at h
  generalize hcur : en.cur = cu at h
  unfold apNO at h
  split at h
  · rename_i R c k' A t
    simp only [Option.some.injEq] at h
    subst h
    simp only at hcl ⊢
    have c1 : bN en.rw = bN (isS R.a) := hcl (bN en.rw, bN (isS R.a)) (by simp)
    have c2 : bN en.own = bN (isS R.a) := hcl (bN en.own, bN (isS R.a)) (by simp)
    have c3 : cap = capN R.a c := hcl (cap, capN R.a c) (by simp)
    have c4 : k' = k := hcl (k', k) (by simp)
    have c5 : R.k = k := hcl (R.k, k) (by simp)
    have c6 : R.n = n := hcl (R.n, n) (by simp)
    have c7 : t = e := hcl (t, e) (by simp)
    have c8 : ad = R.a := eqA_eq fun y hy => hcl y (by simp [hy])
    have bnT : ∀ b, bN b = 1 → b = true := fun b hb => by cases b <;> simp [bN] at hb ⊢
    have bnF : ∀ b, bN b = 0 → b = false := fun b hb => by cases b <;> simp [bN] at hb ⊢
    cases hRa : R.a with
    | none =>
      rw [hRa] at c1 c2 c3 c8
      have hown := bnF _ c2
      have hn : n = 0 := by
        rcases Nat.eq_zero_or_pos n with h0 | h0
        · exact h0
        · have := (hE.row hown R hrow 0 0 (by omega) (by omega)).1
          rw [hRa] at this; cases this
      subst hn
      have c3' : cap = 0 := c3
      subst c3' c8
      exact ⟨⟨by simp [apL, rowL], .inl (by simp)⟩, .inl (by simp), by simp⟩
    | some x =>
      rw [hRa] at c1 c2 c3 c8
      have hrw := bnT _ c1
      obtain ⟨hN, hown⟩ := hE.rw hrw
      obtain ⟨hh, hF⟩ := hE.own hown
      have hRa' := hF.2.2 R _ hrow hcp
      rw [hRa] at hRa'
      simp only [Option.some.injEq] at hRa'
      have c3' : cap = c := c3
      subst c3' c4 c6 c7 c8 hRa'
      obtain ⟨A', t', hA, h3, h4⟩ := hF.2.1 cap k' hcp
      rw [hcur] at hA
      cases hA
      have hcell : ∀ j c', j < R.n → c' < k' → A.toList[j * k' + c']? = some (R.g j c') := fun j c' hj hc' => by
        have := (hF.1 R hrow j c' hj (by omega)).2
        rw [hcur, hRa, c5] at this
        simpa [getA, cellAt, nthL_get] using this
      have hsz : R.n * k' ≤ A.size := by
        rcases Nat.eq_zero_or_pos R.n with hz | hz
        · rw [hz]; simp
        · have := (List.getElem?_eq_some_iff.1 (hcell (R.n - 1) (k' - 1) (by omega) (by omega))).1
          simp only [Array.length_toList] at this
          have h1 : R.n * k' = (R.n - 1) * k' + k' := by
            rw [← Nat.succ_mul]; congr 1; omega
          omega
      have hle : R.n ≤ cap := Nat.le_of_mul_le_mul_right (by rw [← h3]; exact hsz) hk
      refine ⟨⟨rowL_len R.n, .inr ⟨en.b, cap, A, rfl, Nat.zero_le _, by rw [hh, hcur], hle, h4, h3, ?_⟩⟩, .inr ⟨cap, rfl, hrw⟩, by simp⟩
      show A.toList.take (R.n * k') = rowL R.g k' R.n
      refine List.ext_getElem? fun q => ?_
      rw [List.getElem?_take]
      by_cases hqn : q < R.n * k'
      · obtain ⟨d1, d2, d3⟩ := idx_split hqn
        rw [if_pos hqn, d3, hcell _ _ d1 d2, rowL_get d1 d2]
      · rw [if_neg hqn, List.getElem?_eq_none (by rw [rowL_len]; omega)]
  · cases h
theorem apS_own {k e : Nat} {s : Value × Value} {a : ApS} (hr : RelB N w0 st w) (hk : 0 < k) (h : apS st.M k e s = some a) (hcl : ∀ x ∈ a.ok, x.1 = x.2) :
    w.ownsRow 0 e k s.2 a.n (apL k a.n a.c) ∧ ((a.rm = none ∧ s.2 = .slice none 0 0 ∧ a.n = 0) ∨ (∃ tag en cap, a.rm = some tag ∧ s.2 = .slice (some ⟨en.b, 0, none⟩) a.n cap ∧ find st.M tag = some en ∧ en.rw = true) ∨ ∃ tag g, a.rm = some tag ∧ s.2 = .slice none 0 0 ∧ a.n = 0 ∧ a.na = true ∧ a.c = .rw g) ∧ (∀ l1 l2, a.c = .cl l1 l2 → a.n = a.n1) := by
  obtain ⟨s1, s2⟩ := s
  unfold apS at h
  simp only at h ⊢
  unfold apSH at h
  split at h
  · unfold apZV at h
    split at h
    · simp only [Option.some.injEq] at h
      subst h
      exact ⟨⟨by simp [apL], .inl ⟨rfl, rfl⟩⟩, .inl ⟨rfl, rfl, rfl⟩, fun _ _ _ => rfl⟩
    · cases h
  · rename_i tag sp n1 c1
    unfold apSW at h
    split at h
    · unfold apNV at h
      split at h
      · rename_i ad n cap
        cases hf : find st.M tag with
        | none => rw [hf] at h; cases h
        | some en =>
          rw [hf] at h
          simp only [apNE] at h
          obtain ⟨q1, q2, q3, g, q4⟩ := apN_own hr hk hf h hcl
          refine ⟨q1, ?_, fun l1 l2 hl => (by rw [q4] at hl; cases hl)⟩
          rcases q2 with ⟨q2, q5⟩ | ⟨cap', q2, q5⟩
          · refine .inr (.inr ⟨tag, g, q3, q2, q5, ?_, q4⟩)
            unfold apNO at h
            split at h
            · simp only [Option.some.injEq] at h
              rw [← h]
            · cases h
          · exact .inr (.inl ⟨tag, en, cap', q3, q2, hf, q5⟩)
      · cases h
    unfold apSV at h
    split at h
    rotate_left
    · cases h
    rename_i b n cap
    cases hf : find st.M tag with
    | none => rw [hf] at h; cases h
    | some en =>
      rw [hf] at h
      simp only [apSE] at h
      have hE := hr.ent en (find_mem hf)
      generalize hcur : en.cur = cu at h
      generalize hcp : en.cap = cp at h
      unfold apSO at h
      split at h
      · rename_i c t hrw hrow _
        obtain ⟨hN, hown⟩ := hE.rw hrw
        obtain ⟨hh, hF⟩ := hE.own hown
        rw [Option.bind_eq_some_iff] at h
        obtain ⟨q, hq, h⟩ := h
        unfold apC at h
        split at h
        · rename_i l1 l2 g1 g2
          simp only [Option.some.injEq] at h
          subst h
          simp only at hcl ⊢
          have k1 : b = en.b := hcl (b, en.b) (by simp)
          have k2 : n = n1 := hcl (n, n1) (by simp)
          have k3 : t = e := hcl (t, e) (by simp)
          obtain ⟨c2, c3⟩ := apCap_ok hq (fun x hx => hcl x (by simp [hx])) (fun hb => hb) hF hcur hcp
          obtain ⟨t1, t2⟩ := takeC_take g2
          subst k1 k2 k3
          have hle : n ≤ cap := Nat.le_of_mul_le_mul_right (by rw [← c2]; exact t2) hk
          refine ⟨⟨?_, .inr ⟨en.b, cap, c, rfl, Nat.zero_le _, by rw [hh, hcur], hle, c3, c2, t1⟩⟩, .inr (.inl ⟨tag, en, cap, rfl, rfl, hf, hrw⟩), fun _ _ _ => rfl⟩
          exact (takeC_get g2).1
        · cases h
      · rename_i sp' R c t hrw hrow _
        obtain ⟨hN, hown⟩ := hE.rw hrw
        obtain ⟨hh, hF⟩ := hE.own hown
        rw [Option.map_eq_some_iff] at h
        obtain ⟨q, hq, h⟩ := h
        subst h
        simp only at hcl ⊢
        have k1 : b = en.b := hcl (b, en.b) (by simp)
        have k2 : (getA R.a).off = 0 := hcl ((getA R.a).off, 0) (by simp)
        have k3 : R.k = k := hcl (R.k, k) (by simp)
        have k4 : R.n = n := hcl (R.n, n) (by simp)
        have k5 : t = e := hcl (t, e) (by simp)
        obtain ⟨c2, c3⟩ := apCap_ok hq (fun x hx => hcl x (by simp [hx])) (fun hb => (by cases hb)) hF hcur hcp
        have hcell : ∀ j c', j < n → c' < k → c.toList[j * k + c']? = some (R.g j c') := fun j c' hj hc' => by
          have := (hF.1 R hrow j c' (by omega) (by omega)).2
          rw [hcur, k2, k3, Nat.zero_add] at this
          simpa [cellAt, nthL_get] using this
        have hsz : n * k ≤ c.size := by
          rcases Nat.eq_zero_or_pos n with hz | hz
          · subst hz; simp
          · have := (List.getElem?_eq_some_iff.1 (hcell (n - 1) (k - 1) (by omega) (by omega))).1
            simp only [Array.length_toList] at this
            have h1 : n * k = (n - 1) * k + k := by
              rw [← Nat.succ_mul]; congr 1; omega
            omega
        have hle : n ≤ cap := Nat.le_of_mul_le_mul_right (by rw [← c2]; exact hsz) hk
        subst k1 k5
        refine ⟨⟨rowL_len n, .inr ⟨en.b, cap, c, rfl, Nat.zero_le _, by rw [hh, hcur], hle, c3, c2, ?_⟩⟩, .inr (.inl ⟨tag, en, cap, rfl, rfl, hf, hrw⟩), fun _ _ h => by cases h⟩
        show c.toList.take (n * k) = rowL R.g k n
        refine List.ext_getElem? fun q => ?_
        rw [List.getElem?_take]
        by_cases hqn : q < n * k
        · obtain ⟨d1, d2, d3⟩ := idx_split hqn
          rw [if_pos hqn, d3, hcell _ _ d1 d2, rowL_get d1 d2]
        · rw [if_neg hqn, List.getElem?_eq_none (by rw [rowL_len]; omega)]
      · cases h
  · cases h
/-- what is known of the second operand: a slice of those cells, or nil -/
theorem apX_ok {k : Nat} {x : Value × Value} {a : ApX} (hr : RelB N w0 st w) (hk : 0 < k) (h : apX st.M k x = some a) (hcl : ∀ y ∈ a.ok, y.1 = y.2) :
    (apL k a.m a.c).length = a.m * k ∧ (∀ l1 l2, a.c = .cl l1 l2 → a.m = a.m1) ∧ ((∃ c, x.2 = .slice none a.m c ∧ a.m = 0) ∨ ∃ ad c, x.2 = .slice (some ad) a.m c ∧ ∀ j u, (apL k a.m a.c)[j]? = some u → w.cell? (ad.add j) = some u) := by
  unfold apX at h
  split at h
  · rename_i tag off1 sp m1 c1 a0 m c2
    unfold apXE at h
    split at h
    · rename_i en hf
      have hE := hr.ent en (find_mem hf)
      unfold apXC at h
      split at h
      · rename_i b off
        unfold apD at h
        split at h
        · rename_i l1 l2 g1 g2
          simp only [Option.some.injEq] at h
          subst h
          simp only at hcl ⊢
          have k1 : b = en.b := hcl (b, en.b) (by simp)
          have k2 : off = off1 := hcl (off, off1) (by simp)
          have k3 : m = m1 := hcl (m, m1) (by simp)
          subst k1 k2 k3
          obtain ⟨t1, t2⟩ := takeC_get g2
          exact ⟨t1, fun _ _ _ => rfl, .inr ⟨⟨en.b, off, none⟩, c2, rfl, fun j u hj => by rw [add_none]; exact hE.cells _ _ (t2 j u hj)⟩⟩
        · cases h
      · cases h
    · rename_i j0 en hf
      have hE := hr.ent en (find_mem hf)
      unfold apXR at h
      split at h
      · rename_i R hrow
        simp only [Option.some.injEq] at h
        subst h
        simp only at hcl ⊢
        have k3 : m = R.n := hcl (m, R.n) (by simp)
        have k4 : R.k = k := hcl (R.k, k) (by simp)
        refine ⟨rowL_len m, fun _ _ h => (by cases h), ?_⟩
        cases a0 with
        | none =>
          refine .inl ⟨c2, rfl, ?_⟩
          rcases Nat.eq_zero_or_pos m with hz | hz
          · exact hz
          · obtain ⟨q1, _⟩ := row_cell hE hrow (j := 0) (c := 0) (by omega) (by omega)
            have := sameA_eq (a := none) (fun y hy => hcl y (List.mem_cons_of_mem _ (List.mem_cons_of_mem _ hy))) q1
            cases this
        | some ad =>
          refine .inr ⟨ad, c2, rfl, fun j u hj => ?_⟩
          have hlt : j < m * k := by
            have := (List.getElem?_eq_some_iff.1 hj).1
            have h2 : (apL k m (.rw R.g)).length = m * k := rowL_len m
            omega
          obtain ⟨d1, d2, d3⟩ := idx_split hlt
          have e1 : (rowL R.g k m)[j]? = some (R.g (j / k) (j % k)) := by rw [← rowL_get d1 d2, ← d3]
          have e2 : u = R.g (j / k) (j % k) := by
            have : (rowL R.g k m)[j]? = some u := hj
            rw [e1] at this
            exact (Option.some.inj this).symm
          obtain ⟨q1, q2⟩ := row_cell hE hrow (j := j / k) (c := j % k) (by omega) (by omega)
          have hs := sameA_eq (a := some ad) (fun y hy => hcl y (List.mem_cons_of_mem _ (List.mem_cons_of_mem _ hy))) q1
          simp only [Option.some.injEq] at hs
          rw [hs, add_none, e2, ← q2, k4, ← d3]
      · cases h
    · cases h
  · simp only [Option.some.injEq] at h
    subst h
    exact ⟨by simp [apL], fun _ _ _ => rfl, .inl ⟨_, rfl, rfl⟩⟩
  · cases h
/-- append, whatever the second operand is -/
theorem run_append_any (t ty e : TypeId) (i : TypeInfo) (z : Value) (size bytes : Nat) (ht : P.underlying t = some (.slice e)) (hi : P.info? e = some i) (hz : i.zero = some z)
    (hsize : i.size = size) (hby : i.bytes = bytes) (hzs : z.cells.size = size) (hsz : 0 < size) (v : Value) (n : Nat) (xs : List Value) (hown : w.ownsRow 0 e size v n xs)
    (xv : Value) (m : Nat) (news : List Value) (hl : news.length = m * size) (hx : (∃ c, xv = .slice none m c ∧ m = 0) ∨ ∃ ad c, xv = .slice (some ad) m c ∧ ∀ j u, news[j]? = some u → w.cell? (ad.add j) = some u) (h1 : ∀ u ∈ news, u.oneCell' = true)
    (h63 : n + m ≤ maxLen) (hbytes : (n + m) * bytes ≤ 140737488355328) :
    ∃ v' w', (Builtin.append_ #[t, t] ty #[v, xv]).run P w = .ok v' w' ∧ w'.ownsRow 0 e size v' (n + m) (xs ++ news) ∧ w.grownBy w' v.ownBlock ∧
      (v' = .slice none 0 0 ↔ v = .slice none 0 0 ∧ m = 0) ∧ (v'.ownBlock = v.ownBlock ∨ v'.ownBlock = some w.heap.size) := by
  rcases hx with ⟨c, rfl, rfl⟩ | ⟨ad, c, rfl, hnews⟩
  · have hn : news = [] := List.eq_nil_of_length_eq_zero (by simpa using hl)
    subst hn
    refine ⟨v, w, ?_, by simpa using hown, ⟨rfl, rfl, rfl, Nat.le_refl _, fun _ _ _ => rfl⟩, by simp, .inl rfl⟩
    rcases hown.2 with ⟨rfl, rfl⟩ | ⟨g, cap, cur, rfl, _, _, hnc, _, _, _⟩
    · simp [Builtin.append_, run_underlying ht, sizeOf, typeInfo, hi, Builtin.lenOf, Builtin.firstCells]
    · simp [Builtin.append_, run_underlying ht, sizeOf, typeInfo, hi, Builtin.lenOf, Builtin.firstCells, hnc, storeCells]
  · exact run_append_own_at w 0 t ty e i z size bytes ht hi hz hsize hby hzs hsz v n xs hown ad m c news hl hnews h1 h63 hbytes (Nat.zero_le _)
theorem new_rel {v : Value} {rm : Option Nat} {g e nt : Nat} {w' : World} {cur : Array Value} {lit : Obj} {row : Option Row} {cap : Option (Nat × Nat)} (hr : RelB N w0 st w)
    (hrm : v.ownBlock = none ∨ ∃ tag en, rm = some tag ∧ find st.M tag = some en ∧ en.rw = true ∧ v.ownBlock = some en.b) (hg : w.grownBy w' v.ownBlock) (hat : v.ownBlock = some g ∨ g = w.heap.size)
    (hh : w'.heap[g]? = some (.cells cur e (0, 0))) (hfit : (⟨st.nt, g, lit, .cells cur e, true, true, row, cap⟩ : Ent).Fit) : RelB N w0 ⟨⟨st.nt, g, lit, .cells cur e, true, true, row, cap⟩ :: dropO st.M rm, nt⟩ w' := by
  have hob : ∀ k, v.ownBlock = some k → ¬ N k := by
    intro k hk
    rcases hrm with h | ⟨tag, en, _, hf, hrw, h⟩
    · rw [h] at hk; cases hk
    · rw [h] at hk; simp only [Option.some.injEq] at hk; subst hk; exact ((hr.ent en (find_mem hf)).rw hrw).1
  have hsub : ∀ f ∈ dropO st.M rm, f ∈ st.M := by
    intro f hf
    cases rm with
    | none => exact hf
    | some t => exact (List.mem_filter.1 hf).1
  have hlt : ∀ f ∈ st.M, (f.rw = true ∨ N f.b) → f.b < w.heap.size := by
    intro f hf hh
    have hE := hr.ent f hf
    cases hrw : f.rw with
    | false => exact hr.size _ ((hh.resolve_left (by rw [hrw]; simp)))
    | true => exact heap_lt (hE.own (hE.rw hrw).2).1
  have hne : ∀ f ∈ dropO st.M rm, (f.rw = true ∨ N f.b) → some f.b ≠ v.ownBlock := by
    intro f hf hh he
    rcases hrm with h | ⟨tag, en, hrm, hfd, hrw, h⟩
    · rw [h] at he; cases he
    · rw [h] at he
      simp only [Option.some.injEq] at he
      have hE := hr.ent en (find_mem hfd)
      cases hfr : f.rw with
      | false => exact (hE.rw hrw).1 (he ▸ (hh.resolve_left (by rw [hfr]; simp)))
      | true =>
        subst hrm
        have htag : (!Nat.beq f.tag tag) = true := (List.mem_filter.1 hf).2
        have hfe : f ≠ en := fun hx => by
          rw [hx, find_tag hfd, Nat.beq_refl] at htag
          cases htag
        have sym : ∀ a b : Ent, (a.rw = true → b.rw = true → a.b ≠ b.b) → (b.rw = true → a.rw = true → b.b ≠ a.b) := fun a b h h1 h2 e => h h2 h1 e.symm
        exact pairwise_two sym hr.dist f (hsub f hf) en (find_mem hfd) hfe hfr hrw he
  have hsame : ∀ f ∈ dropO st.M rm, (f.rw = true ∨ N f.b) → w'.heap[f.b]? = w.heap[f.b]? := fun f hf hh => hg.block f.b (hlt f (hsub f hf) hh) (hne f hf hh)
  refine ⟨fun f hf => ?_, List.pairwise_cons.2 ⟨fun f hf _ hfr => ?_, ?_⟩, hr.low.trans ⟨hg.os, hg.tape, hg.output, hg.size, fun k hk => hg.block k (hr.size k hk) fun he => hob k he.symm hk⟩, fun k hk => Nat.lt_of_lt_of_le (hr.size k hk) hg.size⟩
  · rcases List.mem_cons.1 hf with rfl | hf
    · refine ⟨own_holds rfl ⟨hh, hfit⟩, fun _ => ⟨fun hN => ?_, rfl⟩, fun h => (by cases h)⟩
      have hN' : N g := hN
      rcases hat with h | h
      · exact hob g h hN'
      · have := hr.size g hN'; omega
    · exact (hr.ent f (hsub f hf)).same (hsame f hf)
  · show g ≠ f.b
    rcases hat with h | h
    · intro hgf; exact hne f hf (.inl hfr) (by rw [h, hgf])
    · have := hlt f (hsub f hf) (.inl hfr); omega
  · cases rm with
    | none => exact hr.dist
    | some t => exact hr.dist.filter _
theorem elemT_spec {t e k bytes : Nat} (h : elemT P t = some (e, k, bytes)) : ∃ i z, P.underlying t = some (.slice e) ∧ P.info? e = some i ∧ i.zero = some z ∧ z.cells.size = i.size ∧ i.size = k ∧ i.bytes = bytes ∧ 0 < k ∧ 0 < bytes := by
  unfold elemT at h
  split at h
  · rename_i e' hu
    split at h
    · rename_i i hi
      unfold elemOk at h
      split at h
      · rename_i z hz
        split at h
        · rename_i hb
          simp only [Option.some.injEq, Prod.mk.injEq] at h
          obtain ⟨rfl, rfl, rfl⟩ := h
          simp only [Bool.and_eq_true] at hb
          exact ⟨i, z, hu, hi, hz, Nat.eq_of_beq_eq_true hb.1, rfl, rfl, Nat.le_of_ble_eq_true hb.2.1, Nat.le_of_ble_eq_true hb.2.2⟩
        · cases h
      · cases h
    · cases h
  · cases h
def sup2 (g : Nat) (v : Value) (c : Nat) (r : Sup) : Sup := fun i => match i with
  | 0 => (g, v)
  | 1 => (c, undef)
  | i + 2 => r i
abbrev VQ := VR → Prop
theorem app_new {Q : VQ} {t ty e k bytes : Nat} {s x : Value × Value} {a : ApS} {b : ApX} (hr : RelB N w0 st w) (ht : elemT P t = some (e, k, bytes)) (ha : apS st.M k e s = some a) (hx : apX st.M k x = some b) (hca : ∀ y ∈ a.ok, y.1 = y.2) (hcb : ∀ y ∈ b.ok, y.1 = y.2)
    (hnil : a.rm = none ∨ a.na = true → b.m ≠ 0) (h : ∀ r, (apNew a b k e bytes st r a.c b.c).good Q K) : ∃ v1 v' st' w', (Builtin.append_ #[t, t] ty #[s.2, x.2]).run P w = .ok v' w' ∧ RelB N w0 st' w' ∧ ∀ r, Q (v1, v', st', r) := by
  obtain ⟨i, z, h1, h2, h3, h4, h5, h6, hk, hby⟩ := elemT_spec ht
  obtain ⟨o1, o2, o3⟩ := apS_own hr hk ha hca
  obtain ⟨x2, x4, x3⟩ := apX_ok hr hk hx hcb
  have hlen : (apL k a.n a.c).length = a.n * k := o1.1
  -- what the tree asks
  have need : (a.n + b.m) * bytes ≤ 140737488355328 ∧ ∀ u ∈ apL k b.m b.c, flatV u = true := by
    have hh := h r0
    unfold apNew at hh
    split at hh
    · rename_i l1 l2 m1 m2 e1 e2
      rw [o3 _ _ e1, x4 _ _ e2, e2]
      unfold apNC at hh
      split at hh
      · rename_i hb
        simp only [Bool.and_eq_true, List.all_eq_true] at hb
        exact ⟨Nat.le_of_ble_eq_true hb.1, hb.2⟩
      · exact hh.elim
    · obtain ⟨g1, g2⟩ := ble_true hh
      refine ⟨g1, ?_⟩
      cases hfl : flatA b.m k b.c with
      | false => rw [hfl] at g2; exact (g2.2 rfl).elim
      | true =>
        intro u hu
        cases hc : b.c with
        | cl m1 m2 =>
          rw [hc] at hfl hu
          simp only [flatA, List.all_eq_true] at hfl
          exact hfl u hu
        | rw gg =>
          rw [hc] at hfl hu
          simp only [flatA, flatR, decide_eq_true_eq] at hfl
          obtain ⟨q, hq⟩ := List.getElem?_of_mem hu
          have hlt : q < b.m * k := by
            have := (List.getElem?_eq_some_iff.1 hq).1
            have h2 : (apL k b.m (.rw gg)).length = b.m * k := rowL_len b.m
            omega
          obtain ⟨d1, d2, d3⟩ := idx_split hlt
          have : (rowL gg k b.m)[q]? = some (gg (q / k) (q % k)) := by rw [← rowL_get d1 d2, ← d3]
          have hq' : (rowL gg k b.m)[q]? = some u := hq
          rw [this] at hq'
          rw [← Option.some.inj hq']
          exact hfl _ d1 _ d2
  have h63 : a.n + b.m ≤ maxLen := by
    have : (a.n + b.m) * 1 ≤ (a.n + b.m) * bytes := Nat.mul_le_mul_left _ hby
    unfold maxLen
    omega
  obtain ⟨v', w', hrun, hown', hgr, hni, hat⟩ := run_append_any (P := P) t ty e i z k bytes h1 h2 h3 h5 h6 (by rw [h4, h5]) hk s.2 a.n (apL k a.n a.c) o1 x.2 b.m (apL k b.m b.c) x2 x3 (fun u hu => flat_one (need.2 u hu)) h63 need.1
  have hv' : v' ≠ .slice none 0 0 := by
    intro hv
    obtain ⟨q1, q2⟩ := hni.1 hv
    rcases o2 with ⟨r1, _, _⟩ | ⟨tag, en, cap, _, r2, _⟩ | ⟨_, _, _, _, _, r1, _⟩
    · exact hnil (.inl r1) q2
    · rw [r2] at q1; cases q1
    · exact hnil (.inr r1) q2
  obtain ⟨hl', hrow⟩ := hown'
  rcases hrow with ⟨hv, _⟩ | ⟨g, cap, cur, hv, _, hheap, hle, hcm, hsz, htake⟩
  · exact (hv' hv).elim
  have hrm : s.2.ownBlock = none ∨ ∃ tag en, a.rm = some tag ∧ find st.M tag = some en ∧ en.rw = true ∧ s.2.ownBlock = some en.b := by
    rcases o2 with ⟨r1, r2, _⟩ | ⟨tag, en, cap, r1, r2, r3, r4⟩ | ⟨tag, g, r1, r2, _⟩
    · exact .inl (by rw [r2]; rfl)
    · exact .inr ⟨tag, en, r1, r3, r4, by rw [r2]; rfl⟩
    · exact .inl (by rw [r2]; rfl)
  have hat' : s.2.ownBlock = some g ∨ g = w.heap.size := by
    rw [hv] at hat
    rcases hat with h | h
    · exact .inl h.symm
    · right; simpa [Value.ownBlock] using h
  have hcapF : ∀ cp k', some (cap, k) = some (cp, k') → ∃ A t, Obj.cells cur e (0, 0) = .cells A t (0, 0) ∧ A.size = cp * k' ∧ cp ≤ maxLen := by
    intro cp k' hc
    simp only [Option.some.injEq, Prod.mk.injEq] at hc
    obtain ⟨rfl, rfl⟩ := hc
    exact ⟨cur, e, rfl, hsz, hcm⟩
  by_cases hcl : ∃ l1 l2 m1 m2, a.c = .cl l1 l2 ∧ b.c = .cl m1 m2
  · obtain ⟨l1, l2, m1, m2, e1, e2⟩ := hcl
    have hcur : (l2 ++ (m2 ++ (arV (.agg (cur.toList.drop ((a.n + b.m) * k)).toArray)).toList)).toArray = cur := by
      have : apL k a.n a.c ++ apL k b.m b.c = l2 ++ m2 := by rw [e1, e2]; rfl
      rw [this] at htake
      have h3 : l2 ++ (m2 ++ cur.toList.drop ((a.n + b.m) * k)) = cur.toList := by
        rw [← List.append_assoc, ← htake, List.take_append_drop]
      simp only [arV]
      rw [h3]
    refine ⟨.slice (some ⟨st.nt, 0, none⟩) (a.n1 + b.m1) 0, v', ⟨⟨st.nt, g, .cells (l1 ++ m1).toArray e, .cells cur e, true, true, none, some (cap, k)⟩ :: dropO st.M a.rm, st.nt + 1⟩, w', hrun, new_rel hr hrm hgr hat' hheap ⟨fun R hR => (by cases hR), hcapF, fun R _ hR => (by cases hR)⟩, fun r => ?_⟩
    have hh := h (sup2 g (.agg (cur.toList.drop ((a.n + b.m) * k)).toArray) cap r)
    rw [e1, e2] at hh
    simp only [apNew] at hh
    cases hbb : (Nat.ble ((a.n1 + b.m1) * bytes) 140737488355328 && m2.all flatV) with
    | false => rw [hbb] at hh; exact hh.elim
    | true =>
      rw [hbb] at hh
      simp only [apNC] at hh
      have hh2 : Q (.slice (some ⟨st.nt, 0, none⟩) (a.n1 + b.m1) 0, .slice (some ⟨g, 0, none⟩) (a.n + b.m) cap, ⟨⟨st.nt, g, .cells (l1 ++ m1).toArray e, .cells (l2 ++ (m2 ++ (arV (.agg (cur.toList.drop ((a.n + b.m) * k)).toArray)).toList)).toArray e, true, true, none, some (cap, k)⟩ :: dropO st.M a.rm, st.nt + 1⟩, r) := hh
      rw [hcur] at hh2
      rw [hv]
      exact hh2
  · refine ⟨.slice (some ⟨st.nt, 0, some 0⟩) 0 0, v', ⟨⟨st.nt, g, .cells #[] e, .cells cur e, true, true, some ⟨some ⟨g, 0, none⟩, k, a.n + b.m, apG k a.n a.c b.c⟩, some (cap, k)⟩ :: dropO st.M a.rm, st.nt + 1⟩, w', hrun, new_rel hr hrm hgr hat' hheap ⟨fun R hR j c' hj hc' => ?_, hcapF, fun R cp hR _ => by simp only [Option.some.injEq] at hR; subst hR; rfl⟩, fun r => ?_⟩
    · simp only [Option.some.injEq] at hR
      subst hR
      simp only at hj hc' ⊢
      have h3 := apG_get hlen x2 hj hc'
      refine ⟨rfl, ?_⟩
      show nthL cur.toList (0 + (j * k + c')) = _
      rw [Nat.zero_add, nthL_get, ← h3, ← htake, List.getElem?_take, if_pos]
      have h4 : (j + 1) * k ≤ (a.n + b.m) * k := Nat.mul_le_mul_right k hj
      rw [Nat.add_mul] at h4
      omega
    · have hh := h (sup2 g (.agg cur) cap r)
      have hh2 : (Tree.ite (Nat.ble ((a.n + b.m) * bytes) 140737488355328) (.ite (flatA b.m k b.c) (apNR a b k e st (sup2 g (.agg cur) cap r)) (.fail 77)) (.fail 76)).good Q K := by
        unfold apNew at hh
        split at hh
        · rename_i l1 l2 m1 m2 e1 e2
          exact (hcl ⟨l1, l2, m1, m2, e1, e2⟩).elim
        · exact hh
      obtain ⟨_, hh3⟩ := ble_true hh2
      cases hfl : flatA b.m k b.c with
      | false => rw [hfl] at hh3; exact (hh3.2 rfl).elim
      | true =>
        rw [hfl] at hh3
        have hh4 := hh3.1 rfl
        rw [hv]
        exact hh4
theorem app_sound0 {Q : VQ} {t ty e k bytes : Nat} {s x : Value × Value} {a : ApS} {b : ApX} (hr : RelB N w0 st w) (ht : elemT P t = some (e, k, bytes)) (ha : apS st.M k e s = some a) (hx : apX st.M k x = some b) (hca : ∀ y ∈ a.ok, y.1 = y.2) (hcb : ∀ y ∈ b.ok, y.1 = y.2)
    (hna : a.na = false) (h : ∀ r, (apR a b k e bytes st r a.rm b.c b.m1).good Q K) : ∃ v1 v' st' w', (Builtin.append_ #[t, t] ty #[s.2, x.2]).run P w = .ok v' w' ∧ RelB N w0 st' w' ∧ ∀ r, Q (v1, v', st', r) := by
  obtain ⟨i, z, h1, h2, h3, h4, h5, h6, hk, hby⟩ := elemT_spec ht
  obtain ⟨o1, o2, o3⟩ := apS_own hr hk ha hca
  obtain ⟨x2, x4, x3⟩ := apX_ok hr hk hx hcb
  have nil0 : a.rm = none → b.m = 0 → (∀ r, Q (nilS, nilS, st, r)) → ∃ v1 v' st' w', (Builtin.append_ #[t, t] ty #[s.2, x.2]).run P w = .ok v' w' ∧ RelB N w0 st' w' ∧ ∀ r, Q (v1, v', st', r) := by
    intro hrm hm hq
    rcases o2 with ⟨_, r2, _⟩ | ⟨tag, en, cap, r1, _⟩ | ⟨_, _, r1, _⟩
    · refine ⟨nilS, nilS, st, w, ?_, hr, hq⟩
      rw [r2]
      rcases x3 with ⟨c, x1, _⟩ | ⟨ad, c, x1, _⟩ <;> rw [x1, hm] <;> simp [Builtin.append_, run_underlying h1, sizeOf, typeInfo, h2, Builtin.lenOf, Builtin.firstCells, loadCells, loadCellsFrom, nilS]
    · rw [hrm] at r1; cases r1
    · rw [hrm] at r1; cases r1
  cases hrm : a.rm with
  | some tag =>
    refine app_new (K := K) hr ht ha hx hca hcb (fun hn => by (rcases hn with hn | hn <;> first | (rw [hrm] at hn; cases hn) | (rw [hna] at hn; cases hn))) fun r => ?_
    have := h r
    rw [hrm] at this
    exact this
  | none =>
    cases hc : b.c with
    | cl m1 m2 =>
      cases hm : b.m1 with
      | zero =>
        refine nil0 hrm (by rw [x4 _ _ hc, hm]) fun r => ?_
        have := h r
        rw [hrm, hc, hm] at this
        exact this
      | succ m =>
        refine app_new (K := K) hr ht ha hx hca hcb (fun _ hz => by rw [x4 _ _ hc, hm] at hz; cases hz) fun r => ?_
        have := h r
        rw [hrm, hc, hm] at this
        exact this
    | rw g =>
      have h' : ∀ r, (Tree.ite (decide (b.m = 0)) (.leaf (nilS, nilS, st, r)) (apNew a b k e bytes st r a.c b.c)).good Q K := fun r => by
        have := h r
        rw [hrm, hc] at this
        exact this
      by_cases hz : b.m = 0
      · exact nil0 hrm hz fun r => (h' r).1 (decide_eq_true hz)
      · exact app_new (K := K) hr ht ha hx hca hcb (fun _ => hz) fun r => (h' r).2 (decide_eq_false hz)
theorem RelB.sub {M' : List Ent} (h : RelB N w0 st w) (hs : M'.Sublist st.M) (nt : Nat) : RelB N w0 ⟨M', nt⟩ w := ⟨fun e he => h.ent e (hs.subset he), h.dist.sublist hs, h.low, h.size⟩
theorem RelB.voidCons {M : List Ent} {e : Ent} {nt nt' : Nat} (h : RelB N w0 ⟨M, nt⟩ w) (hv : e.Void) (hrw : e.rw = false) : RelB N w0 ⟨e :: M, nt'⟩ w := by
  refine ⟨fun f hf => ?_, List.pairwise_cons.2 ⟨fun f _ hr => (by rw [hrw] at hr; cases hr), h.dist⟩, h.low, h.size⟩
  rcases List.mem_cons.1 hf with rfl | hf
  · exact ⟨hv.holds w, fun hr => (by rw [hrw] at hr; cases hr), fun _ => .inr hv⟩
  · exact h.ent f hf
theorem RelB.grown {w' : World} (h : RelB N w0 st w) (hb : w.grownBy w' none) : RelB N w0 st w' := by
  have hk : ∀ k, k < w.heap.size → w'.heap[k]? = w.heap[k]? := fun k hk => hb.block k hk (by simp)
  refine ⟨fun e he => ?_, h.dist, h.low.trans ⟨hb.os, hb.tape, hb.output, hb.size, fun k hN => hk k (h.size k hN)⟩, fun k hN => Nat.lt_of_lt_of_le (h.size k hN) hb.size⟩
  have hE := h.ent e he
  refine hE.same fun hh => hk _ ?_
  rcases hh with hr | hn
  · exact heap_lt (hE.own (hE.rw hr).2).1
  · exact h.size _ hn
theorem dropO_sub (M : List Ent) (rm : Option Nat) : (dropO M rm).Sublist M := by
  cases rm with
  | none => exact List.Sublist.refl _
  | some t => exact List.filter_sublist
theorem naE_void {tag k e n c : Nat} {g : Nat → Nat → Value} {A : Array Value} (hn : n = 0) : (naE tag none k e n g c A).Void := by
  refine ⟨rfl, fun off v hv => ?_, fun R hR j c hj => ?_⟩
  · simp [naE, cellAt, naA, nthL] at hv
  · simp only [naE, Option.some.injEq] at hR
    subst hR
    have hj' : j < n := hj
    omega
theorem row_fit {g e k n nt : Nat} {gg : Nat → Nat → Value} {cur : Array Value} {cap : Nat} {xs : List Value} (_hle : n ≤ cap) (hcm : cap ≤ maxLen) (hsz : cur.size = cap * k) (htake : cur.toList.take (n * k) = xs) (hget : ∀ j c, j < n → c < k → xs[j * k + c]? = some (gg j c)) (lit : Obj) :
    (⟨nt, g, lit, .cells cur e, true, true, some ⟨some ⟨g, 0, none⟩, k, n, gg⟩, some (cap, k)⟩ : Ent).Fit := by
  refine ⟨fun R hR j c' hj hc' => ?_, fun cp k' hc => ?_, fun R cp hR _ => by simp only [Option.some.injEq] at hR; subst hR; rfl⟩
  · simp only [Option.some.injEq] at hR
    subst hR
    simp only at hj hc' ⊢
    refine ⟨rfl, ?_⟩
    show nthL cur.toList (0 + (j * k + c')) = _
    have h4 : (j + 1) * k ≤ n * k := Nat.mul_le_mul_right k hj
    rw [Nat.add_mul] at h4
    rw [Nat.zero_add, nthL_get, ← hget j c' hj hc', ← htake, List.getElem?_take, if_pos]
    omega
  · simp only [Option.some.injEq, Prod.mk.injEq] at hc
    obtain ⟨rfl, rfl⟩ := hc
    exact ⟨cur, e, rfl, hsz, hcm⟩
theorem app_nn {Q : VQ} {t ty e k bytes : Nat} {s x : Value × Value} {a : ApS} {b : ApX} (hr : RelB N w0 st w) (ht : elemT P t = some (e, k, bytes)) (ha : apS st.M k e s = some a) (hx : apX st.M k x = some b) (hca : ∀ y ∈ a.ok, y.1 = y.2) (hcb : ∀ y ∈ b.ok, y.1 = y.2)
    (h : ∀ r, (apNN a b k e bytes st r).good Q K) : ∃ v1 v' st' w', (Builtin.append_ #[t, t] ty #[s.2, x.2]).run P w = .ok v' w' ∧ RelB N w0 st' w' ∧ ∀ r, Q (v1, v', st', r) := by
  obtain ⟨i, z, h1, h2, h3, h4, h5, h6, hk, hby⟩ := elemT_spec ht
  obtain ⟨o1, o2, o3⟩ := apS_own hr hk ha hca
  obtain ⟨x2, x4, x3⟩ := apX_ok hr hk hx hcb
  have hlen : (apL k a.n a.c).length = a.n * k := o1.1
  have h' : ∀ r : Sup, (a.n + b.m) * bytes ≤ 140737488355328 ∧ flatA b.m k b.c = true ∧ Q (.slice (some ⟨st.nt, 0, some 1⟩) 0 0, .slice (adO (obV (r 0).2)) (a.n + b.m) (capN (adO (obV (r 0).2)) (r 1).1), ⟨naE st.nt (adO (obV (r 0).2)) k e (a.n + b.m) (apG k a.n a.c b.c) (r 1).1 (arV (r 1).2) :: dropO st.M a.rm, st.nt + 1⟩, r.tl.tl) := fun r => by
    obtain ⟨g1, g2⟩ := ble_true (h r)
    cases hfl : flatA b.m k b.c with
    | false => rw [hfl] at g2; exact (g2.2 rfl).elim
    | true => rw [hfl] at g2; exact ⟨g1, rfl, g2.1 rfl⟩
  have need : (a.n + b.m) * bytes ≤ 140737488355328 ∧ ∀ u ∈ apL k b.m b.c, flatV u = true := by
    refine ⟨(h' r0).1, ?_⟩
    have hfl := (h' r0).2.1
    intro u hu
    cases hc : b.c with
    | cl m1 m2 =>
      rw [hc] at hfl hu
      simp only [flatA, List.all_eq_true] at hfl
      exact hfl u hu
    | rw gg =>
      rw [hc] at hfl hu
      simp only [flatA, flatR, decide_eq_true_eq] at hfl
      obtain ⟨q, hq⟩ := List.getElem?_of_mem hu
      have hlt : q < b.m * k := by
        have := (List.getElem?_eq_some_iff.1 hq).1
        have h2 : (apL k b.m (.rw gg)).length = b.m * k := rowL_len b.m
        omega
      obtain ⟨d1, d2, d3⟩ := idx_split hlt
      have : (rowL gg k b.m)[q]? = some (gg (q / k) (q % k)) := by rw [← rowL_get d1 d2, ← d3]
      have hq' : (rowL gg k b.m)[q]? = some u := hq
      rw [this] at hq'
      rw [← Option.some.inj hq']
      exact hfl _ d1 _ d2
  have h63 : a.n + b.m ≤ maxLen := by
    have : (a.n + b.m) * 1 ≤ (a.n + b.m) * bytes := Nat.mul_le_mul_left _ hby
    unfold maxLen
    omega
  obtain ⟨v', w', hrun, hown', hgr, hni, hat⟩ := run_append_any (P := P) t ty e i z k bytes h1 h2 h3 h5 h6 (by rw [h4, h5]) hk s.2 a.n (apL k a.n a.c) o1 x.2 b.m (apL k b.m b.c) x2 x3 (fun u hu => flat_one (need.2 u hu)) h63 need.1
  have hrm : s.2.ownBlock = none ∨ ∃ tag en, a.rm = some tag ∧ find st.M tag = some en ∧ en.rw = true ∧ s.2.ownBlock = some en.b := by
    rcases o2 with ⟨r1, r2, _⟩ | ⟨tag, en, cap, r1, r2, r3, r4⟩ | ⟨tag, g, r1, r2, _⟩
    · exact .inl (by rw [r2]; rfl)
    · exact .inr ⟨tag, en, r1, r3, r4, by rw [r2]; rfl⟩
    · exact .inl (by rw [r2]; rfl)
  obtain ⟨hl', hrow⟩ := hown'
  rcases hrow with ⟨hv, hz⟩ | ⟨g, cap, cur, hv, _, hheap, hle, hcm, hsz, htake⟩
  · obtain ⟨q1, q2⟩ := hni.1 hv
    have hob : s.2.ownBlock = none := by rw [q1]; rfl
    rw [hob] at hgr
    have hrel := (hr.sub (dropO_sub st.M a.rm) st.nt).grown hgr
    refine ⟨.slice (some ⟨st.nt, 0, some 1⟩) 0 0, v', ⟨naE st.nt none k e (a.n + b.m) (apG k a.n a.c b.c) 0 #[] :: dropO st.M a.rm, st.nt + 1⟩, w', hrun, hrel.voidCons (naE_void hz) rfl, fun r => ?_⟩
    have hq := (h' (fun i => match i with
      | 0 => (0, undef)
      | 1 => (0, undef)
      | i + 2 => r i)).2.2
    have hq2 : Q (.slice (some ⟨st.nt, 0, some 1⟩) 0 0, .slice none (a.n + b.m) 0, ⟨naE st.nt none k e (a.n + b.m) (apG k a.n a.c b.c) 0 #[] :: dropO st.M a.rm, st.nt + 1⟩, r) := hq
    rw [hz] at hq2
    rw [hv, hz]
    exact hq2
  · have hat' : s.2.ownBlock = some g ∨ g = w.heap.size := by
      rw [hv] at hat
      rcases hat with h | h
      · exact .inl h.symm
      · right; simpa [Value.ownBlock] using h
    have hfit := row_fit (g := g) (e := e) (nt := st.nt) (gg := apG k a.n a.c b.c) hle hcm hsz htake (fun j c hj hc => apG_get hlen x2 hj hc) (.cells #[] e)
    refine ⟨.slice (some ⟨st.nt, 0, some 1⟩) 0 0, v', ⟨naE st.nt (some ⟨g, 0, none⟩) k e (a.n + b.m) (apG k a.n a.c b.c) cap cur :: dropO st.M a.rm, st.nt + 1⟩, w', hrun, new_rel hr hrm hgr hat' hheap hfit, fun r => ?_⟩
    have hq := (h' (fun i => match i with
      | 0 => (0, .slice (some ⟨g, 0, none⟩) 0 0)
      | 1 => (cap, .agg cur)
      | i + 2 => r i)).2.2
    rw [hv]
    exact hq
theorem app_sound {Q : VQ} {t ty e k bytes : Nat} {s x : Value × Value} {a : ApS} {b : ApX} (hr : RelB N w0 st w) (ht : elemT P t = some (e, k, bytes)) (ha : apS st.M k e s = some a) (hx : apX st.M k x = some b) (hca : ∀ y ∈ a.ok, y.1 = y.2) (hcb : ∀ y ∈ b.ok, y.1 = y.2)
    (h : ∀ r, (apRB a b k e bytes st r a.na).good Q K) : ∃ v1 v' st' w', (Builtin.append_ #[t, t] ty #[s.2, x.2]).run P w = .ok v' w' ∧ RelB N w0 st' w' ∧ ∀ r, Q (v1, v', st', r) := by
  cases hna : a.na with
  | false =>
    rw [hna] at h
    exact app_sound0 hr ht ha hx hca hcb hna h
  | true =>
    rw [hna] at h
    have h' : ∀ r, (apRN a b k e bytes st r b.c b.m1).good Q K := h
    obtain ⟨i, z, h1, h2, h3, h4, h5, h6, hk, hby⟩ := elemT_spec ht
    obtain ⟨x2, x4, x3⟩ := apX_ok hr hk hx hcb
    cases hc : b.c with
    | cl m1 m2 =>
      rw [hc] at h'
      cases hm : b.m1 with
      | zero => rw [hm] at h'; exact (h' r0).elim
      | succ m =>
        rw [hm] at h'
        refine app_new (K := K) hr ht ha hx hca hcb (fun _ hz => by rw [x4 _ _ hc, hm] at hz; cases hz) fun r => ?_
        have := h' r
        simp only [apRN] at this
        exact this
    | rw g =>
      rw [hc] at h'
      exact app_nn hr ht ha hx hca hcb h'
/-- the world holds what is known, and the blocks in N are as they were; further blocks may be known to stay as they are -/
def Rel (N : Nat → Prop) (w0 : World) (st : St) (w : World) : Prop := ∃ F : Nat → Prop, (∀ k, N k → F k) ∧ RelB F w st w ∧ Keep N w0 w
theorem Rel.close {F : Nat → Prop} {w' : World} {st' : St} (hs : ∀ k, N k → F k) (hk : Keep N w0 w) (h : RelB F w st' w') : Rel N w0 st' w' :=
  ⟨F, hs, ⟨h.ent, h.dist, Keep.refl _ _, h.size⟩, hk.trans ⟨h.low.os, h.low.tape, h.low.output, h.low.size, fun k hN => h.low.block k (hs k hN)⟩⟩
theorem Rel.of (h : RelB N w0 st w) : Rel N w0 st w := ⟨N, fun _ h => h, ⟨h.ent, h.dist, Keep.refl _ _, h.size⟩, h.low⟩
theorem Rel.low (h : Rel N w0 st w) : Keep N w0 w := let ⟨_, _, _, h4⟩ := h; h4
theorem Rel.size (h : Rel N w0 st w) : ∀ k, N k → k < w.heap.size := let ⟨_, h2, h3, _⟩ := h; fun k hN => h3.size k (h2 k hN)
theorem runS_soundR {A : Type} (s : Sem A) (s1 : Option (Sem A)) (st : St) (w : World) (Q : Option A × A × St × Sup → Prop) (h : ∀ r, (runS P s s1 st r).good Q K) (hr : Rel N w0 st w) :
    ∃ x1 x st' w', s.run P w = .ok x w' ∧ Rel N w0 st' w' ∧ ∀ r, Q (x1, x, st', r) := by
  obtain ⟨F, hs, hB, hk⟩ := hr
  obtain ⟨x1, x, st', w', h1, h2, h3⟩ := runS_sound s s1 st w Q h hB
  exact ⟨x1, x, st', w', h1, .close hs hk h2, h3⟩
theorem app_soundR {Q : VQ} {t ty e k bytes : Nat} {s x : Value × Value} {a : ApS} {b : ApX} (hr : Rel N w0 st w) (ht : elemT P t = some (e, k, bytes)) (ha : apS st.M k e s = some a) (hx : apX st.M k x = some b) (hca : ∀ y ∈ a.ok, y.1 = y.2) (hcb : ∀ y ∈ b.ok, y.1 = y.2)
    (h : ∀ r, (apRB a b k e bytes st r a.na).good Q K) : ∃ v1 v' st' w', (Builtin.append_ #[t, t] ty #[s.2, x.2]).run P w = .ok v' w' ∧ Rel N w0 st' w' ∧ ∀ r, Q (v1, v', st', r) := by
  obtain ⟨F, hs, hB, hk⟩ := hr
  obtain ⟨v1, v', st', w', h1, h2, h3⟩ := app_sound (ty := ty) hB ht ha hx hca hcb h
  exact ⟨v1, v', st', w', h1, .close hs hk h2, h3⟩
theorem Rel.new {o o1 : Obj} {nt : Nat} (h : Rel N w0 st w) : Rel N w0 ⟨⟨st.nt, w.heap.size, o1, o, true, true, none, none⟩ :: st.M, nt⟩ { w with heap := w.heap.push o } := by
  obtain ⟨F, hs, hB, hk⟩ := h
  exact .close hs hk hB.new
theorem Rel.ent (h : Rel N w0 st w) {e : Ent} (he : e ∈ st.M) : ∃ F : Nat → Prop, (∀ k, N k → F k) ∧ EntOk F w e := by
  obtain ⟨F, hs, hB, _⟩ := h
  exact ⟨F, hs, hB.ent e he⟩
/-- rows that stay as they are from here on -/
theorem Rel.frz {M' : List Ent} {nt : Nat} (h : Rel N w0 st w) (hM : ∀ e ∈ M', e.rw = false ∧ (e.Holds w ∧ e.b < w.heap.size ∧ (∀ f ∈ st.M, f.rw = true → f.b ≠ e.b) ∨ e.Void)) : Rel N w0 ⟨M' ++ st.M, nt⟩ w := by
  obtain ⟨F, hs, hB, hk⟩ := h
  refine ⟨fun k => F k ∨ ∃ e ∈ M', e.b = k ∧ ¬ e.Void, fun k hN => .inl (hs k hN), ⟨fun e he => ?_, ?_, Keep.refl _ _, fun k hN => ?_⟩, hk⟩
  · rcases List.mem_append.1 he with he | he
    · obtain ⟨h1, h2⟩ := hM e he
      by_cases hv : e.Void
      · exact ⟨hv.holds w, fun hr => (by rw [h1] at hr; cases hr), fun _ => .inr hv⟩
      · obtain ⟨h3, _, _⟩ := h2.resolve_right hv
        exact ⟨h3, fun hr => (by rw [h1] at hr; cases hr), fun _ => .inl (.inr ⟨e, he, rfl, hv⟩)⟩
    · have hE := hB.ent e he
      refine ⟨hE.toHolds, fun hr => ⟨fun hx => ?_, (hE.rw hr).2⟩, fun hr => (hE.ro hr).imp (fun h => .inl h) fun h => h⟩
      rcases hx with hx | ⟨f, hf, hfb, hfv⟩
      · exact (hE.rw hr).1 hx
      · exact ((hM f hf).2.resolve_right hfv).2.2 e he hr hfb.symm
  · rw [List.pairwise_append]
    exact ⟨List.pairwise_of_forall_mem_list fun e he f _ hr => (by rw [(hM e he).1] at hr; cases hr), hB.dist, fun e he f _ hr => (by rw [(hM e he).1] at hr; cases hr)⟩
  · rcases hN with hN | ⟨e, he, rfl, hv⟩
    · exact hB.size k hN
    · exact ((hM e he).2.resolve_right hv).2.1
end
end Ev
end Go.Proofs.Ytbpnmjjmllgehaa
