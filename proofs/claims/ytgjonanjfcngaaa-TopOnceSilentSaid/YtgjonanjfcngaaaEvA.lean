/- The evaluator answers what the program does: append. No condition. -/
import Derived.Test.YtgjonanjfcngaaaEvS
import Derived.Maps.AppendAt
namespace Go.Proofs.Ytgjonanjfcngaaa
open Go Go.RowKit
namespace Ev
theorem heap_lt {w : World} {b : Nat} {o : Obj} (h : w.heap[b]? = some o) : b < w.heap.size := (Array.getElem?_eq_some_iff.1 h).1
theorem find_tag : ∀ {M : List Ent} {t : Nat} {e : Ent}, find M t = some e → e.tag = t
  | [], _, _, h => by simp [find] at h
  | x :: M, t, e, h => by
    simp only [find] at h
    cases hb : Nat.beq x.tag t with
    | true => rw [hb] at h; simp only [Option.some.injEq] at h; subst h; exact Nat.eq_of_beq_eq_true hb
    | false => rw [hb] at h; exact find_tag h
theorem pairwise_two {R : Ent → Ent → Prop} (hs : ∀ a b, R a b → R b a) : ∀ {l : List Ent}, l.Pairwise R → ∀ a ∈ l, ∀ b ∈ l, a ≠ b → R a b
  | [], _, _, h, _, _, _ => by cases h
  | x :: l, hp, a, ha, b, hb, hne => by
    obtain ⟨h1, h2⟩ := List.pairwise_cons.1 hp
    rcases List.mem_cons.1 ha with e1 | k1 <;> rcases List.mem_cons.1 hb with e2 | k2
    · exact absurd (e1.trans e2.symm) hne
    · rw [e1]; exact h1 b k2
    · rw [e2]; exact hs _ _ (h1 a k1)
    · exact pairwise_two hs h2 a k1 b k2 hne
theorem row_cell {N : Nat → Prop} {w : World} {e : Ent} {R : Row} (hE : EntOk N w e) (hR : e.row = some R) {j c : Nat} (hj : j < R.n) (hc : c < R.k) : R.a = some ⟨e.b, (getA R.a).off, none⟩ ∧ w.cell? ⟨e.b, (getA R.a).off + (j * R.k + c), none⟩ = some (R.g j c) := by
  cases ho : e.own with
  | true =>
    obtain ⟨h1, h2⟩ := (hE.own ho).2.1 R hR j c hj hc
    exact ⟨h1, cell_of_heap (hE.own ho).1 h2⟩
  | false => exact hE.row ho R hR j c hj hc
theorem sameA_eq {a b : Option Addr} {m o : Nat} (h : ∀ y ∈ sameA a b, y.1 = y.2) (hb : b = some ⟨m, o, none⟩) : a = some ⟨m, o, none⟩ := by
  subst hb
  cases a with
  | none => have : isA none = isA (some (⟨m, o, none⟩ : Addr)) := h (isA none, isA (some ⟨m, o, none⟩)) (by simp [sameA]); cases this
  | some x =>
    obtain ⟨xb, xo, xs⟩ := x
    have h1 : xb = m := h (xb, m) (by simp [sameA, getA])
    have h2 : xo = o := h (xo, o) (by simp [sameA, getA])
    have h3 : spN xs = spN none := h (spN xs, spN none) (by simp [sameA, getA])
    cases xs with
    | none => rw [h1, h2]
    | some q => cases h3
theorem add_none (b off i : Nat) : (⟨b, off, none⟩ : Addr).add i = ⟨b, off + i, none⟩ := by
  unfold Addr.add
  split
  · rename_i h; subst h; rfl
  · rfl
theorem ite_true {R : Type} {Q : R → Prop} {K : PK} {p : Prop} [Decidable p] {t : Tree R} {n : Nat} (h : (Tree.ite (decide p) t (.fail n)).good Q K) : p ∧ t.good Q K := by
  by_cases hp : p
  · exact ⟨hp, h.1 (decide_eq_true hp)⟩
  · exact (h.2 (decide_eq_false hp)).elim
theorem ble_true {R : Type} {Q : R → Prop} {K : PK} {a b : Nat} {t : Tree R} {n : Nat} (h : (Tree.ite (Nat.ble a b) t (.fail n)).good Q K) : a ≤ b ∧ t.good Q K := by
  cases hb : Nat.ble a b with
  | true => exact ⟨Nat.le_of_ble_eq_true hb, h.1 hb⟩
  | false => exact (h.2 hb).elim
theorem clm_good {R : Type} {Q : R → Prop} {K : PK} {t : Tree R} : ∀ {l : List (Nat × Nat)}, (clm l t).good Q K → (∀ x ∈ l, x.1 = x.2) ∧ t.good Q K
  | [], h => ⟨fun x hx => (by cases hx), h⟩
  | (x, y) :: l, h => by
    obtain ⟨h1, h2⟩ := clm_good h.2
    refine ⟨fun z hz => ?_, h2⟩
    rcases List.mem_cons.1 hz with rfl | hz
    · exact h.1
    · exact h1 z hz
theorem flat_one {v : Value} (h : flatV v = true) : v.oneCell' = true := by cases v <;> first | rfl | cases h
theorem takeC_get {o : Obj} : ∀ {n off : Nat} {l : List Value}, takeC o off n = some l → l.length = n ∧ ∀ j u, l[j]? = some u → cellAt o (off + j) = some u
  | 0, off, l, h => by simp only [takeC, Option.some.injEq] at h; subst h; exact ⟨rfl, fun j u hj => by simp at hj⟩
  | n + 1, off, l, h => by
    simp only [takeC] at h
    split at h
    · rename_i v l' h1 h2
      simp only [Option.some.injEq] at h
      subst h
      obtain ⟨i1, i2⟩ := takeC_get h2
      refine ⟨by simp [i1], fun j u hj => ?_⟩
      cases j with
      | zero => simp only [List.getElem?_cons_zero, Option.some.injEq] at hj; subst hj; exact h1
      | succ j => simp only [List.getElem?_cons_succ] at hj; have := i2 j u hj; rwa [show off + 1 + j = off + (j + 1) by omega] at this
    · cases h
theorem takeC_take {c : Array Value} {t : Nat} {f : Nat × Nat} {n : Nat} {l : List Value} (h : takeC (.cells c t f) 0 n = some l) : c.toList.take n = l ∧ n ≤ c.size := by
  obtain ⟨h1, h2⟩ := takeC_get h
  have hg : ∀ j u, l[j]? = some u → c.toList[j]? = some u := fun j u hj => by have := h2 j u hj; rw [Nat.zero_add] at this; simp only [cellAt, nthL_get] at this; exact this
  have hn : n ≤ c.size := by
    rcases Nat.eq_zero_or_pos n with hz | hz
    · omega
    · have hl : n - 1 < l.length := by omega
      have := hg (n - 1) _ (List.getElem?_eq_getElem hl)
      have := (List.getElem?_eq_some_iff.1 this).1
      simp at this
      omega
  refine ⟨List.ext_getElem? fun j => ?_, hn⟩
  rw [List.getElem?_take]
  by_cases hj : j < n
  · rw [if_pos hj]
    have hl : j < l.length := by omega
    rw [List.getElem?_eq_getElem hl]
    exact hg j _ (List.getElem?_eq_getElem hl)
  · rw [if_neg hj, List.getElem?_eq_none (by omega)]
/-- the cells of m elements -/
def rowL (g : Nat → Nat → Value) (k : Nat) : Nat → List Value
  | 0 => []
  | m + 1 => rowL g k m ++ (List.range k).map (g m)
theorem rowL_len {g : Nat → Nat → Value} {k : Nat} : ∀ m, (rowL g k m).length = m * k
  | 0 => by simp [rowL]
  | m + 1 => by simp [rowL, rowL_len m, Nat.add_mul]
theorem rowL_get {g : Nat → Nat → Value} {k : Nat} : ∀ {m j c : Nat}, j < m → c < k → (rowL g k m)[j * k + c]? = some (g j c)
  | 0, j, c, h, _ => by omega
  | m + 1, j, c, h, hc => by
    show (rowL g k m ++ (List.range k).map (g m))[j * k + c]? = _
    by_cases hj : j < m
    · have hlt : j * k + c < m * k := by
        have : (j + 1) * k ≤ m * k := Nat.mul_le_mul_right k hj
        rw [Nat.add_mul] at this
        omega
      rw [List.getElem?_append_left (by rw [rowL_len]; exact hlt)]
      exact rowL_get hj hc
    · have : j = m := by omega
      subst this
      rw [List.getElem?_append_right (by rw [rowL_len]; omega), rowL_len, show j * k + c - j * k = c by omega]
      simp [hc]
theorem idx_split {q m k : Nat} (h : q < m * k) : q / k < m ∧ q % k < k ∧ q = q / k * k + q % k := by
  have hk : 0 < k := by
    rcases Nat.eq_zero_or_pos k with hz | hz
    · subst hz; simp at h
    · exact hz
  refine ⟨(Nat.div_lt_iff_lt_mul hk).2 h, Nat.mod_lt _ hk, ?_⟩
  have := Nat.div_add_mod q k
  rw [Nat.mul_comm] at this
  exact this.symm
def apL (k n : Nat) : Ap → List Value
  | .cl _ l => l
  | .rw g => rowL g k n
theorem apF_get {k n : Nat} {a : Ap} (hl : (apL k n a).length = n * k) {j c : Nat} (hj : j < n) (hc : c < k) : (apL k n a)[j * k + c]? = some (apF k a j c) := by
  cases a with
  | cl l1 l =>
    have hlt : j * k + c < l.length := by
      have h1 : (j + 1) * k ≤ n * k := Nat.mul_le_mul_right k hj
      rw [Nat.add_mul] at h1
      have : l.length = n * k := hl
      omega
    show l[j * k + c]? = some ((nthL l (j * k + c)).getD undef)
    rw [nthL_get, List.getElem?_eq_getElem hlt]
    rfl
  | rw g => exact rowL_get hj hc
theorem apG_get {k n m : Nat} {a b : Ap} (ha : (apL k n a).length = n * k) (hb : (apL k m b).length = m * k) {j c : Nat} (hj : j < n + m) (hc : c < k) : (apL k n a ++ apL k m b)[j * k + c]? = some (apG k n a b j c) := by
  by_cases hlt : j < n
  · have hn : n ≠ 0 := by omega
    have h1 : (j + 1) * k ≤ n * k := Nat.mul_le_mul_right k hlt
    rw [Nat.add_mul] at h1
    rw [List.getElem?_append_left (by rw [ha]; omega), apF_get ha hlt hc]
    unfold apG
    cases n with
    | zero => omega
    | succ n =>
      show _ = some (match Nat.ble (n + 1) j with | true => _ | false => _)
      have : Nat.ble (n + 1) j = false := by rw [ble_dec]; exact decide_eq_false (by omega)
      rw [this]
  · have h1 : n * k ≤ j * k := Nat.mul_le_mul_right k (by omega)
    rw [List.getElem?_append_right (by rw [ha]; omega), ha, show j * k + c - n * k = (j - n) * k + c by rw [Nat.sub_mul]; omega, apF_get hb (by omega) hc]
    unfold apG
    cases n with
    | zero => rfl
    | succ n =>
      show _ = some (match Nat.ble (n + 1) j with | true => _ | false => _)
      have : Nat.ble (n + 1) j = true := by rw [ble_dec]; exact decide_eq_true (by omega)
      rw [this]
section
variable {P : Program} {N : Nat → Prop} {w0 w : World} {st : St} {K : PK}
theorem apCap_ok {c : Array Value} {cap k : Nat} {cp : Option (Nat × Nat)} {q : List (Nat × Nat)} {en : Ent} {t : Nat} {bb : Bool} (h : apCap c cap k cp bb = some q) (hcl : ∀ x ∈ q, x.1 = x.2) (hb : bb = true → Nat.ble cap 9223372036854775807 = true) (hF : en.Fit) (hcur : en.cur = .cells c t (0, 0)) (hcp : en.cap = cp) : c.size = cap * k ∧ cap ≤ maxLen := by
  unfold apCap at h
  split at h
  · rename_i cp k'
    simp only [Option.some.injEq] at h
    subst h
    have h1 : cap = cp := hcl (cap, cp) (by simp)
    have h2 : k' = k := hcl (k', k) (by simp)
    obtain ⟨A, t', hA, h3, h4⟩ := hF.2 cp k' hcp
    rw [hcur] at hA
    cases hA
    rw [h1, ← h2]
    exact ⟨h3, h4⟩
  · simp only [Option.some.injEq] at h
    subst h
    have h1 : c.toList.length = cap * k := hcl (c.toList.length, cap * k) (by simp)
    have h2 := Nat.le_of_ble_eq_true (hb rfl)
    exact ⟨by simpa using h1, by unfold maxLen; omega⟩
  · cases h
theorem apS_own {k e : Nat} {s : Value × Value} {a : ApS} (hr : Rel N w0 st w) (hk : 0 < k) (h : apS st.M k e s = some a) (hcl : ∀ x ∈ a.ok, x.1 = x.2) :
    w.ownsRow 0 e k s.2 a.n (apL k a.n a.c) ∧ ((a.rm = none ∧ s.2 = .slice none 0 0 ∧ a.n = 0) ∨ ∃ tag en cap, a.rm = some tag ∧ s.2 = .slice (some ⟨en.b, 0, none⟩) a.n cap ∧ find st.M tag = some en ∧ en.rw = true) ∧ (∀ l1 l2, a.c = .cl l1 l2 → a.n = a.n1) := by
  unfold apS at h
  split at h
  · simp only [Option.some.injEq] at h
    subst h
    exact ⟨⟨by simp [apL], .inl ⟨rfl, rfl⟩⟩, .inl ⟨rfl, rfl, rfl⟩, fun _ _ _ => rfl⟩
  · rename_i tag sp n1 c1 b n cap
    cases hf : find st.M tag with
    | none => rw [hf] at h; cases h
    | some en =>
      rw [hf] at h
      simp only [apSE] at h
      have hE := hr.ent en (find_mem hf)
      generalize hcur : en.cur = cu at h
      generalize hcp : en.cap = cp at h
      unfold apSO at h
      split at h
      · rename_i c t hrw hrow
        obtain ⟨hN, hown⟩ := hE.rw hrw
        obtain ⟨hh, hF⟩ := hE.own hown
        rw [Option.bind_eq_some_iff] at h
        obtain ⟨q, hq, h⟩ := h
        unfold apC at h
        split at h
        · rename_i l1 l2 g1 g2
          simp only [Option.some.injEq] at h
          subst h
          simp only at hcl ⊢
          have k1 : b = en.b := hcl (b, en.b) (by simp)
          have k2 : n = n1 := hcl (n, n1) (by simp)
          have k3 : t = e := hcl (t, e) (by simp)
          obtain ⟨c2, c3⟩ := apCap_ok hq (fun x hx => hcl x (by simp [hx])) (fun hb => hb) hF hcur hcp
          obtain ⟨t1, t2⟩ := takeC_take g2
          subst k1 k2 k3
          have hle : n ≤ cap := Nat.le_of_mul_le_mul_right (by rw [← c2]; exact t2) hk
          refine ⟨⟨?_, .inr ⟨en.b, cap, c, rfl, Nat.zero_le _, by rw [hh, hcur], hle, c3, c2, t1⟩⟩, .inr ⟨tag, en, cap, rfl, rfl, hf, hrw⟩, fun _ _ _ => rfl⟩
          exact (takeC_get g2).1
        · cases h
      · rename_i sp' R c t hrw hrow
        obtain ⟨hN, hown⟩ := hE.rw hrw
        obtain ⟨hh, hF⟩ := hE.own hown
        rw [Option.map_eq_some_iff] at h
        obtain ⟨q, hq, h⟩ := h
        subst h
        simp only at hcl ⊢
        have k1 : b = en.b := hcl (b, en.b) (by simp)
        have k2 : (getA R.a).off = 0 := hcl ((getA R.a).off, 0) (by simp)
        have k3 : R.k = k := hcl (R.k, k) (by simp)
        have k4 : R.n = n := hcl (R.n, n) (by simp)
        have k5 : t = e := hcl (t, e) (by simp)
        obtain ⟨c2, c3⟩ := apCap_ok hq (fun x hx => hcl x (by simp [hx])) (fun hb => (by cases hb)) hF hcur hcp
        have hcell : ∀ j c', j < n → c' < k → c.toList[j * k + c']? = some (R.g j c') := fun j c' hj hc' => by
          have := (hF.1 R hrow j c' (by omega) (by omega)).2
          rw [hcur, k2, k3, Nat.zero_add] at this
          simpa [cellAt, nthL_get] using this
        have hsz : n * k ≤ c.size := by
          rcases Nat.eq_zero_or_pos n with hz | hz
          · subst hz; simp
          · have := (List.getElem?_eq_some_iff.1 (hcell (n - 1) (k - 1) (by omega) (by omega))).1
            simp only [Array.length_toList] at this
            have h1 : n * k = (n - 1) * k + k := by
              rw [← Nat.succ_mul]; congr 1; omega
            omega
        have hle : n ≤ cap := Nat.le_of_mul_le_mul_right (by rw [← c2]; exact hsz) hk
        subst k1 k5
        refine ⟨⟨rowL_len n, .inr ⟨en.b, cap, c, rfl, Nat.zero_le _, by rw [hh, hcur], hle, c3, c2, ?_⟩⟩, .inr ⟨tag, en, cap, rfl, rfl, hf, hrw⟩, fun _ _ h => by cases h⟩
        show c.toList.take (n * k) = rowL R.g k n
        refine List.ext_getElem? fun q => ?_
        rw [List.getElem?_take]
        by_cases hqn : q < n * k
        · obtain ⟨d1, d2, d3⟩ := idx_split hqn
          rw [if_pos hqn, d3, hcell _ _ d1 d2, rowL_get d1 d2]
        · rw [if_neg hqn, List.getElem?_eq_none (by rw [rowL_len]; omega)]
      · cases h
  · cases h
/-- what is known of the second operand: a slice of those cells, or nil -/
theorem apX_ok {k : Nat} {x : Value × Value} {a : ApX} (hr : Rel N w0 st w) (hk : 0 < k) (h : apX st.M k x = some a) (hcl : ∀ y ∈ a.ok, y.1 = y.2) :
    (apL k a.m a.c).length = a.m * k ∧ (∀ l1 l2, a.c = .cl l1 l2 → a.m = a.m1) ∧ ((∃ c, x.2 = .slice none a.m c ∧ a.m = 0) ∨ ∃ ad c, x.2 = .slice (some ad) a.m c ∧ ∀ j u, (apL k a.m a.c)[j]? = some u → w.cell? (ad.add j) = some u) := by
  unfold apX at h
  split at h
  · rename_i tag off1 sp m1 c1 a0 m c2
    unfold apXE at h
    split at h
    · rename_i en hf
      have hE := hr.ent en (find_mem hf)
      unfold apXC at h
      split at h
      · rename_i b off
        unfold apD at h
        split at h
        · rename_i l1 l2 g1 g2
          simp only [Option.some.injEq] at h
          subst h
          simp only at hcl ⊢
          have k1 : b = en.b := hcl (b, en.b) (by simp)
          have k2 : off = off1 := hcl (off, off1) (by simp)
          have k3 : m = m1 := hcl (m, m1) (by simp)
          subst k1 k2 k3
          obtain ⟨t1, t2⟩ := takeC_get g2
          exact ⟨t1, fun _ _ _ => rfl, .inr ⟨⟨en.b, off, none⟩, c2, rfl, fun j u hj => by rw [add_none]; exact hE.cells _ _ (t2 j u hj)⟩⟩
        · cases h
      · cases h
    · rename_i j0 en hf
      have hE := hr.ent en (find_mem hf)
      unfold apXR at h
      split at h
      · rename_i R hrow
        simp only [Option.some.injEq] at h
        subst h
        simp only at hcl ⊢
        have k3 : m = R.n := hcl (m, R.n) (by simp)
        have k4 : R.k = k := hcl (R.k, k) (by simp)
        refine ⟨rowL_len m, fun _ _ h => (by cases h), ?_⟩
        cases a0 with
        | none =>
          refine .inl ⟨c2, rfl, ?_⟩
          rcases Nat.eq_zero_or_pos m with hz | hz
          · exact hz
          · obtain ⟨q1, _⟩ := row_cell hE hrow (j := 0) (c := 0) (by omega) (by omega)
            have := sameA_eq (a := none) (fun y hy => hcl y (List.mem_cons_of_mem _ (List.mem_cons_of_mem _ hy))) q1
            cases this
        | some ad =>
          refine .inr ⟨ad, c2, rfl, fun j u hj => ?_⟩
          have hlt : j < m * k := by
            have := (List.getElem?_eq_some_iff.1 hj).1
            have h2 : (apL k m (.rw R.g)).length = m * k := rowL_len m
            omega
          obtain ⟨d1, d2, d3⟩ := idx_split hlt
          have e1 : (rowL R.g k m)[j]? = some (R.g (j / k) (j % k)) := by rw [← rowL_get d1 d2, ← d3]
          have e2 : u = R.g (j / k) (j % k) := by
            have : (rowL R.g k m)[j]? = some u := hj
            rw [e1] at this
            exact (Option.some.inj this).symm
          obtain ⟨q1, q2⟩ := row_cell hE hrow (j := j / k) (c := j % k) (by omega) (by omega)
          have hs := sameA_eq (a := some ad) (fun y hy => hcl y (List.mem_cons_of_mem _ (List.mem_cons_of_mem _ hy))) q1
          simp only [Option.some.injEq] at hs
          rw [hs, add_none, e2, ← q2, k4, ← d3]
      · cases h
    · cases h
  · simp only [Option.some.injEq] at h
    subst h
    exact ⟨by simp [apL], fun _ _ _ => rfl, .inl ⟨_, rfl, rfl⟩⟩
  · cases h
/-- append, whatever the second operand is -/
theorem run_append_any (t ty e : TypeId) (i : TypeInfo) (z : Value) (size bytes : Nat) (ht : P.underlying t = some (.slice e)) (hi : P.info? e = some i) (hz : i.zero = some z)
    (hsize : i.size = size) (hby : i.bytes = bytes) (hzs : z.cells.size = size) (hsz : 0 < size) (v : Value) (n : Nat) (xs : List Value) (hown : w.ownsRow 0 e size v n xs)
    (xv : Value) (m : Nat) (news : List Value) (hl : news.length = m * size) (hx : (∃ c, xv = .slice none m c ∧ m = 0) ∨ ∃ ad c, xv = .slice (some ad) m c ∧ ∀ j u, news[j]? = some u → w.cell? (ad.add j) = some u) (h1 : ∀ u ∈ news, u.oneCell' = true)
    (h63 : n + m ≤ maxLen) (hbytes : (n + m) * bytes ≤ 140737488355328) :
    ∃ v' w', (Builtin.append_ #[t, t] ty #[v, xv]).run P w = .ok v' w' ∧ w'.ownsRow 0 e size v' (n + m) (xs ++ news) ∧ w.grownBy w' v.ownBlock ∧
      (v' = .slice none 0 0 ↔ v = .slice none 0 0 ∧ m = 0) ∧ (v'.ownBlock = v.ownBlock ∨ v'.ownBlock = some w.heap.size) := by
  rcases hx with ⟨c, rfl, rfl⟩ | ⟨ad, c, rfl, hnews⟩
  · have hn : news = [] := List.eq_nil_of_length_eq_zero (by simpa using hl)
    subst hn
    refine ⟨v, w, ?_, by simpa using hown, ⟨rfl, rfl, rfl, Nat.le_refl _, fun _ _ _ => rfl⟩, by simp, .inl rfl⟩
    rcases hown.2 with ⟨rfl, rfl⟩ | ⟨g, cap, cur, rfl, _, _, hnc, _, _, _⟩
    · simp [Builtin.append_, run_underlying ht, sizeOf, typeInfo, hi, Builtin.lenOf, Builtin.firstCells]
    · simp [Builtin.append_, run_underlying ht, sizeOf, typeInfo, hi, Builtin.lenOf, Builtin.firstCells, hnc, storeCells]
  · exact run_append_own_at w 0 t ty e i z size bytes ht hi hz hsize hby hzs hsz v n xs hown ad m c news hl hnews h1 h63 hbytes (Nat.zero_le _)
theorem new_rel {v : Value} {rm : Option Nat} {g e nt : Nat} {w' : World} {cur : Array Value} {lit : Obj} {row : Option Row} {cap : Option (Nat × Nat)} (hr : Rel N w0 st w)
    (hrm : (rm = none ∧ v.ownBlock = none) ∨ ∃ tag en, rm = some tag ∧ find st.M tag = some en ∧ en.rw = true ∧ v.ownBlock = some en.b) (hg : w.grownBy w' v.ownBlock) (hat : v.ownBlock = some g ∨ g = w.heap.size)
    (hh : w'.heap[g]? = some (.cells cur e (0, 0))) (hfit : (⟨st.nt, g, lit, .cells cur e, true, true, row, cap⟩ : Ent).Fit) : Rel N w0 ⟨⟨st.nt, g, lit, .cells cur e, true, true, row, cap⟩ :: dropO st.M rm, nt⟩ w' := by
  have hob : ∀ k, v.ownBlock = some k → ¬ N k := by
    intro k hk
    rcases hrm with ⟨_, h⟩ | ⟨tag, en, _, hf, hrw, h⟩
    · rw [h] at hk; cases hk
    · rw [h] at hk; simp only [Option.some.injEq] at hk; subst hk; exact ((hr.ent en (find_mem hf)).rw hrw).1
  have hsub : ∀ f ∈ dropO st.M rm, f ∈ st.M := by
    intro f hf
    cases rm with
    | none => exact hf
    | some t => exact (List.mem_filter.1 hf).1
  have hlt : ∀ f ∈ st.M, (f.rw = true ∨ N f.b) → f.b < w.heap.size := by
    intro f hf hh
    have hE := hr.ent f hf
    cases hrw : f.rw with
    | false => exact hr.size _ ((hh.resolve_left (by rw [hrw]; simp)))
    | true => exact heap_lt (hE.own (hE.rw hrw).2).1
  have hne : ∀ f ∈ dropO st.M rm, (f.rw = true ∨ N f.b) → some f.b ≠ v.ownBlock := by
    intro f hf hh he
    rcases hrm with ⟨_, h⟩ | ⟨tag, en, hrm, hfd, hrw, h⟩
    · rw [h] at he; cases he
    · rw [h] at he
      simp only [Option.some.injEq] at he
      have hE := hr.ent en (find_mem hfd)
      cases hfr : f.rw with
      | false => exact (hE.rw hrw).1 (he ▸ (hh.resolve_left (by rw [hfr]; simp)))
      | true =>
        subst hrm
        have htag : (!Nat.beq f.tag tag) = true := (List.mem_filter.1 hf).2
        have hfe : f ≠ en := fun hx => by
          rw [hx, find_tag hfd, Nat.beq_refl] at htag
          cases htag
        have sym : ∀ a b : Ent, (a.rw = true → b.rw = true → a.b ≠ b.b) → (b.rw = true → a.rw = true → b.b ≠ a.b) := fun a b h h1 h2 e => h h2 h1 e.symm
        exact pairwise_two sym hr.dist f (hsub f hf) en (find_mem hfd) hfe hfr hrw he
  have hsame : ∀ f ∈ dropO st.M rm, (f.rw = true ∨ N f.b) → w'.heap[f.b]? = w.heap[f.b]? := fun f hf hh => hg.block f.b (hlt f (hsub f hf) hh) (hne f hf hh)
  refine ⟨fun f hf => ?_, List.pairwise_cons.2 ⟨fun f hf _ hfr => ?_, ?_⟩, hr.low.trans ⟨hg.os, hg.tape, hg.output, hg.size, fun k hk => hg.block k (hr.size k hk) fun he => hob k he.symm hk⟩, fun k hk => Nat.lt_of_lt_of_le (hr.size k hk) hg.size⟩
  · rcases List.mem_cons.1 hf with rfl | hf
    · refine ⟨own_holds rfl ⟨hh, hfit⟩, fun _ => ⟨fun hN => ?_, rfl⟩, fun h => (by cases h)⟩
      have hN' : N g := hN
      rcases hat with h | h
      · exact hob g h hN'
      · have := hr.size g hN'; omega
    · exact (hr.ent f (hsub f hf)).same (hsame f hf)
  · show g ≠ f.b
    rcases hat with h | h
    · intro hgf; exact hne f hf (.inl hfr) (by rw [h, hgf])
    · have := hlt f (hsub f hf) (.inl hfr); omega
  · cases rm with
    | none => exact hr.dist
    | some t => exact hr.dist.filter _
theorem elemT_spec {t e k bytes : Nat} (h : elemT P t = some (e, k, bytes)) : ∃ i z, P.underlying t = some (.slice e) ∧ P.info? e = some i ∧ i.zero = some z ∧ z.cells.size = i.size ∧ i.size = k ∧ i.bytes = bytes ∧ 0 < k ∧ 0 < bytes := by
  unfold elemT at h
  split at h
  · rename_i e' hu
    split at h
    · rename_i i hi
      unfold elemOk at h
      split at h
      · rename_i z hz
        split at h
        · rename_i hb
          simp only [Option.some.injEq, Prod.mk.injEq] at h
          obtain ⟨rfl, rfl, rfl⟩ := h
          simp only [Bool.and_eq_true] at hb
          exact ⟨i, z, hu, hi, hz, Nat.eq_of_beq_eq_true hb.1, rfl, rfl, Nat.le_of_ble_eq_true hb.2.1, Nat.le_of_ble_eq_true hb.2.2⟩
        · cases h
      · cases h
    · cases h
  · cases h
def sup2 (g : Nat) (v : Value) (c : Nat) (r : Sup) : Sup := fun i => match i with
  | 0 => (g, v)
  | 1 => (c, undef)
  | i + 2 => r i
abbrev VQ := VR → Prop
theorem app_new {Q : VQ} {t ty e k bytes : Nat} {s x : Value × Value} {a : ApS} {b : ApX} (hr : Rel N w0 st w) (ht : elemT P t = some (e, k, bytes)) (ha : apS st.M k e s = some a) (hx : apX st.M k x = some b) (hca : ∀ y ∈ a.ok, y.1 = y.2) (hcb : ∀ y ∈ b.ok, y.1 = y.2)
    (hnil : a.rm = none → b.m ≠ 0) (h : ∀ r, (apNew a b k e bytes st r a.c b.c).good Q K) : ∃ v1 v' st' w', (Builtin.append_ #[t, t] ty #[s.2, x.2]).run P w = .ok v' w' ∧ Rel N w0 st' w' ∧ ∀ r, Q (v1, v', st', r) := by
  obtain ⟨i, z, h1, h2, h3, h4, h5, h6, hk, hby⟩ := elemT_spec ht
  obtain ⟨o1, o2, o3⟩ := apS_own hr hk ha hca
  obtain ⟨x2, x4, x3⟩ := apX_ok hr hk hx hcb
  have hlen : (apL k a.n a.c).length = a.n * k := o1.1
  -- what the tree asks
  have need : (a.n + b.m) * bytes ≤ 140737488355328 ∧ ∀ u ∈ apL k b.m b.c, flatV u = true := by
    have hh := h r0
    unfold apNew at hh
    split at hh
    · rename_i l1 l2 m1 m2 e1 e2
      rw [o3 _ _ e1, x4 _ _ e2, e2]
      unfold apNC at hh
      split at hh
      · rename_i hb
        simp only [Bool.and_eq_true, List.all_eq_true] at hb
        exact ⟨Nat.le_of_ble_eq_true hb.1, hb.2⟩
      · exact hh.elim
    · obtain ⟨g1, g2⟩ := ble_true hh
      refine ⟨g1, ?_⟩
      cases hfl : flatA b.m k b.c with
      | false => rw [hfl] at g2; exact (g2.2 rfl).elim
      | true =>
        intro u hu
        cases hc : b.c with
        | cl m1 m2 =>
          rw [hc] at hfl hu
          simp only [flatA, List.all_eq_true] at hfl
          exact hfl u hu
        | rw gg =>
          rw [hc] at hfl hu
          simp only [flatA, flatR, decide_eq_true_eq] at hfl
          obtain ⟨q, hq⟩ := List.getElem?_of_mem hu
          have hlt : q < b.m * k := by
            have := (List.getElem?_eq_some_iff.1 hq).1
            have h2 : (apL k b.m (.rw gg)).length = b.m * k := rowL_len b.m
            omega
          obtain ⟨d1, d2, d3⟩ := idx_split hlt
          have : (rowL gg k b.m)[q]? = some (gg (q / k) (q % k)) := by rw [← rowL_get d1 d2, ← d3]
          have hq' : (rowL gg k b.m)[q]? = some u := hq
          rw [this] at hq'
          rw [← Option.some.inj hq']
          exact hfl _ d1 _ d2
  have h63 : a.n + b.m ≤ maxLen := by
    have : (a.n + b.m) * 1 ≤ (a.n + b.m) * bytes := Nat.mul_le_mul_left _ hby
    unfold maxLen
    omega
  obtain ⟨v', w', hrun, hown', hgr, hni, hat⟩ := run_append_any (P := P) t ty e i z k bytes h1 h2 h3 h5 h6 (by rw [h4, h5]) hk s.2 a.n (apL k a.n a.c) o1 x.2 b.m (apL k b.m b.c) x2 x3 (fun u hu => flat_one (need.2 u hu)) h63 need.1
  have hv' : v' ≠ .slice none 0 0 := by
    intro hv
    obtain ⟨q1, q2⟩ := hni.1 hv
    rcases o2 with ⟨r1, _, _⟩ | ⟨tag, en, cap, _, r2, _⟩
    · exact hnil r1 q2
    · rw [r2] at q1; cases q1
  obtain ⟨hl', hrow⟩ := hown'
  rcases hrow with ⟨hv, _⟩ | ⟨g, cap, cur, hv, _, hheap, hle, hcm, hsz, htake⟩
  · exact (hv' hv).elim
  have hrm : (a.rm = none ∧ s.2.ownBlock = none) ∨ ∃ tag en, a.rm = some tag ∧ find st.M tag = some en ∧ en.rw = true ∧ s.2.ownBlock = some en.b := by
    rcases o2 with ⟨r1, r2, _⟩ | ⟨tag, en, cap, r1, r2, r3, r4⟩
    · exact .inl ⟨r1, by rw [r2]; rfl⟩
    · exact .inr ⟨tag, en, r1, r3, r4, by rw [r2]; rfl⟩
  have hat' : s.2.ownBlock = some g ∨ g = w.heap.size := by
    rw [hv] at hat
    rcases hat with h | h
    · exact .inl h.symm
    · right; simpa [Value.ownBlock] using h
  have hcapF : ∀ cp k', some (cap, k) = some (cp, k') → ∃ A t, Obj.cells cur e (0, 0) = .cells A t (0, 0) ∧ A.size = cp * k' ∧ cp ≤ maxLen := by
    intro cp k' hc
    simp only [Option.some.injEq, Prod.mk.injEq] at hc
    obtain ⟨rfl, rfl⟩ := hc
    exact ⟨cur, e, rfl, hsz, hcm⟩
  by_cases hcl : ∃ l1 l2 m1 m2, a.c = .cl l1 l2 ∧ b.c = .cl m1 m2
  · obtain ⟨l1, l2, m1, m2, e1, e2⟩ := hcl
    have hcur : (l2 ++ (m2 ++ (arV (.agg (cur.toList.drop ((a.n + b.m) * k)).toArray)).toList)).toArray = cur := by
      have : apL k a.n a.c ++ apL k b.m b.c = l2 ++ m2 := by rw [e1, e2]; rfl
      rw [this] at htake
      have h3 : l2 ++ (m2 ++ cur.toList.drop ((a.n + b.m) * k)) = cur.toList := by
        rw [← List.append_assoc, ← htake, List.take_append_drop]
      simp only [arV]
      rw [h3]
    refine ⟨.slice (some ⟨st.nt, 0, none⟩) (a.n1 + b.m1) 0, v', ⟨⟨st.nt, g, .cells (l1 ++ m1).toArray e, .cells cur e, true, true, none, some (cap, k)⟩ :: dropO st.M a.rm, st.nt + 1⟩, w', hrun, new_rel hr hrm hgr hat' hheap ⟨fun R hR => (by cases hR), hcapF⟩, fun r => ?_⟩
    have hh := h (sup2 g (.agg (cur.toList.drop ((a.n + b.m) * k)).toArray) cap r)
    rw [e1, e2] at hh
    simp only [apNew] at hh
    cases hbb : (Nat.ble ((a.n1 + b.m1) * bytes) 140737488355328 && m2.all flatV) with
    | false => rw [hbb] at hh; exact hh.elim
    | true =>
      rw [hbb] at hh
      simp only [apNC] at hh
      have hh2 : Q (.slice (some ⟨st.nt, 0, none⟩) (a.n1 + b.m1) 0, .slice (some ⟨g, 0, none⟩) (a.n + b.m) cap, ⟨⟨st.nt, g, .cells (l1 ++ m1).toArray e, .cells (l2 ++ (m2 ++ (arV (.agg (cur.toList.drop ((a.n + b.m) * k)).toArray)).toList)).toArray e, true, true, none, some (cap, k)⟩ :: dropO st.M a.rm, st.nt + 1⟩, r) := hh
      rw [hcur] at hh2
      rw [hv]
      exact hh2
  · refine ⟨.slice (some ⟨st.nt, 0, some 0⟩) 0 0, v', ⟨⟨st.nt, g, .cells #[] e, .cells cur e, true, true, some ⟨some ⟨g, 0, none⟩, k, a.n + b.m, apG k a.n a.c b.c⟩, some (cap, k)⟩ :: dropO st.M a.rm, st.nt + 1⟩, w', hrun, new_rel hr hrm hgr hat' hheap ⟨fun R hR j c' hj hc' => ?_, hcapF⟩, fun r => ?_⟩
    · simp only [Option.some.injEq] at hR
      subst hR
      simp only at hj hc' ⊢
      have h3 := apG_get hlen x2 hj hc'
      refine ⟨rfl, ?_⟩
      show nthL cur.toList (0 + (j * k + c')) = _
      rw [Nat.zero_add, nthL_get, ← h3, ← htake, List.getElem?_take, if_pos]
      have h4 : (j + 1) * k ≤ (a.n + b.m) * k := Nat.mul_le_mul_right k hj
      rw [Nat.add_mul] at h4
      omega
    · have hh := h (sup2 g (.agg cur) cap r)
      have hh2 : (Tree.ite (Nat.ble ((a.n + b.m) * bytes) 140737488355328) (.ite (flatA b.m k b.c) (apNR a b k e st (sup2 g (.agg cur) cap r)) (.fail 77)) (.fail 76)).good Q K := by
        unfold apNew at hh
        split at hh
        · rename_i l1 l2 m1 m2 e1 e2
          exact (hcl ⟨l1, l2, m1, m2, e1, e2⟩).elim
        · exact hh
      obtain ⟨_, hh3⟩ := ble_true hh2
      cases hfl : flatA b.m k b.c with
      | false => rw [hfl] at hh3; exact (hh3.2 rfl).elim
      | true =>
        rw [hfl] at hh3
        have hh4 := hh3.1 rfl
        rw [hv]
        exact hh4
theorem app_sound {Q : VQ} {t ty e k bytes : Nat} {s x : Value × Value} {a : ApS} {b : ApX} (hr : Rel N w0 st w) (ht : elemT P t = some (e, k, bytes)) (ha : apS st.M k e s = some a) (hx : apX st.M k x = some b) (hca : ∀ y ∈ a.ok, y.1 = y.2) (hcb : ∀ y ∈ b.ok, y.1 = y.2)
    (h : ∀ r, (apR a b k e bytes st r a.rm b.c b.m1).good Q K) : ∃ v1 v' st' w', (Builtin.append_ #[t, t] ty #[s.2, x.2]).run P w = .ok v' w' ∧ Rel N w0 st' w' ∧ ∀ r, Q (v1, v', st', r) := by
  obtain ⟨i, z, h1, h2, h3, h4, h5, h6, hk, hby⟩ := elemT_spec ht
  obtain ⟨o1, o2, o3⟩ := apS_own hr hk ha hca
  obtain ⟨x2, x4, x3⟩ := apX_ok hr hk hx hcb
  have nil0 : a.rm = none → b.m = 0 → (∀ r, Q (nilS, nilS, st, r)) → ∃ v1 v' st' w', (Builtin.append_ #[t, t] ty #[s.2, x.2]).run P w = .ok v' w' ∧ Rel N w0 st' w' ∧ ∀ r, Q (v1, v', st', r) := by
    intro hrm hm hq
    rcases o2 with ⟨_, r2, _⟩ | ⟨tag, en, cap, r1, _⟩
    · refine ⟨nilS, nilS, st, w, ?_, hr, hq⟩
      rw [r2]
      rcases x3 with ⟨c, x1, _⟩ | ⟨ad, c, x1, _⟩ <;> rw [x1, hm] <;> simp [Builtin.append_, run_underlying h1, sizeOf, typeInfo, h2, Builtin.lenOf, Builtin.firstCells, loadCells, loadCellsFrom, nilS]
    · rw [hrm] at r1; cases r1
  cases hrm : a.rm with
  | some tag =>
    refine app_new (K := K) hr ht ha hx hca hcb (fun hn => by rw [hrm] at hn; cases hn) fun r => ?_
    have := h r
    rw [hrm] at this
    exact this
  | none =>
    cases hc : b.c with
    | cl m1 m2 =>
      cases hm : b.m1 with
      | zero =>
        refine nil0 hrm (by rw [x4 _ _ hc, hm]) fun r => ?_
        have := h r
        rw [hrm, hc, hm] at this
        exact this
      | succ m =>
        refine app_new (K := K) hr ht ha hx hca hcb (fun _ hz => by rw [x4 _ _ hc, hm] at hz; cases hz) fun r => ?_
        have := h r
        rw [hrm, hc, hm] at this
        exact this
    | rw g =>
      have h' : ∀ r, (Tree.ite (decide (b.m = 0)) (.leaf (nilS, nilS, st, r)) (apNew a b k e bytes st r a.c b.c)).good Q K := fun r => by
        have := h r
        rw [hrm, hc] at this
        exact this
      by_cases hz : b.m = 0
      · exact nil0 hrm hz fun r => (h' r).1 (decide_eq_true hz)
      · exact app_new (K := K) hr ht ha hx hca hcb (fun _ => hz) fun r => (h' r).2 (decide_eq_false hz)
end
end Ev
end Go.Proofs.Ytgjonanjfcngaaa
