/- The evaluator: reading slots and blocks ahead of a loop. No condition. -/
import Derived.Test.YtbpnmjjmllgehaaEvT
namespace Go.Proofs.Ytbpnmjjmllgehaa
open Go Go.RowKit
namespace Ev
theorem good_t {R : Type} {Q : R → Prop} {b : Bool} {t e : Tree R} (hb : b = true) (h : t.good Q) : (Tree.ite b t e).good Q := ⟨fun _ => h, fun hf => by rw [hb] at hf; cases hf⟩
theorem good_f {R : Type} {Q : R → Prop} {b : Bool} {t e : Tree R} (hb : b = false) (h : e.good Q) : (Tree.ite b t e).good Q := ⟨fun hf => (by rw [hb] at hf; cases hf), fun _ => h⟩
theorem inB_t {i n : Nat} (h : i < n) : inB (i : Int) n = true := by simp only [inB, decide_eq_true_eq]; omega
theorem ble_t {i n : Nat} (h : i < n) : Nat.ble (i + 1) n = true := Nat.ble_eq_true_of_le h
theorem lt_t {i n : Nat} (h : i < n) : decide ((i : Int) < (n : Int)) = true := by simp only [decide_eq_true_eq]; omega
theorem lt_f {i n : Nat} (h : ¬ i < n) : decide ((i : Int) < (n : Int)) = false := by simp only [decide_eq_false_iff_not]; omega
def asI (k : IntKind) : Value → Option Int
  | .int k' i => (match Nat.beq (kn k) (kn k') with | true => some i | false => none)
  | _ => none
theorem kn_inj {k k' : IntKind} (h : Nat.beq (kn k) (kn k') = true) : k = k' := by
  cases k <;> cases k' <;> first | rfl | (exact absurd h (by decide))
theorem asI_eq {k : IntKind} {v : Value} {i : Int} (h : asI k v = some i) : v = .int k i := by
  unfold asI at h
  split at h
  · rename_i k' j
    split at h
    · rename_i hb
      simp only [Option.some.injEq] at h
      rw [kn_inj hb, h]
    · cases h
  · cases h
/-- the whole number in a slot -/
noncomputable def intAt (k : IntKind) (t : Nat) (fr : Fr) : Option Int := asI k (lookL fr.l t).2
theorem intAt_eq {k : IntKind} {t : Nat} {fr : Fr} {i : Int} (h : intAt k t fr = some i) : (lookL fr.l t).2 = .int k i := asI_eq h
def asN : Int → Option Nat
  | .ofNat k => some k
  | .negSucc _ => none
theorem asN_eq {i : Int} {k : Nat} (h : asN i = some k) : i = (k : Int) := by
  cases i <;> simp only [asN, Option.some.injEq] at h <;> first | (subst h; rfl) | cases h
/-- the number in a slot, that is none below 0 -/
noncomputable def natAt (k : IntKind) (t : Nat) (fr : Fr) : Option Nat := (intAt k t fr).bind asN
theorem natAt_eq {k : IntKind} {t : Nat} {fr : Fr} {i : Nat} (h : natAt k t fr = some i) : (lookL fr.l t).2 = .int k (i : Int) := by
  unfold natAt at h
  rw [Option.bind_eq_some_iff] at h
  obtain ⟨z, h1, h2⟩ := h
  rw [intAt_eq h1, asN_eq h2]
def asB : Value → Option Bool
  | .bool b => some b
  | _ => none
theorem asB_eq {v : Value} {b : Bool} (h : asB v = some b) : v = .bool b := by
  cases v <;> simp only [asB, Option.some.injEq] at h <;> first | (rw [h]) | cases h
noncomputable def boolAt (t : Nat) (fr : Fr) : Option Bool := asB (lookL fr.l t).2
theorem boolAt_eq {t : Nat} {fr : Fr} {b : Bool} (h : boolAt t fr = some b) : (lookL fr.l t).2 = .bool b := asB_eq h
/-- a block that a slot points to: its tag, its number in the pointer, its number, its type, its cells -/
structure PB where
  tag : Nat
  b' : Nat
  b : Nat
  T : Nat
  l : List Value
def ptO (tag b' b : Nat) : Bool → Option (Nat × Nat) → Obj → Option PB
  | true, none, .cells c T (0, 0) => some ⟨tag, b', b, T, c.toList⟩
  | _, _, _ => none
def ptE (tag b' : Nat) : Option Ent → Option PB
  | some e => ptO tag b' e.b e.rw e.cap e.cur
  | none => none
def ptV (M : List Ent) : Value × Value → Option PB
  | (.pointer (some ⟨tag, 0, none⟩), .pointer (some ⟨b', 0, none⟩)) => ptE tag b' (find M tag)
  | _ => none
noncomputable def ptrAt (t : Nat) (fr : Fr) (st : St) : Option PB := ptV st.M (lookL fr.l t)
theorem ptrAt_eq {t : Nat} {fr : Fr} {st : St} {p : PB} (h : ptrAt t fr st = some p) : (lookL fr.l t).2 = .pointer (some ⟨p.b', 0, none⟩) ∧ ∃ e, find st.M p.tag = some e ∧ e.rw = true ∧ e.b = p.b ∧ e.cur = .cells p.l.toArray p.T (0, 0) ∧ e.cap = none := by
  unfold ptrAt at h
  generalize lookL fr.l t = x at h ⊢
  unfold ptV at h
  split at h
  · rename_i tag b'
    cases hf : find st.M tag with
    | none => rw [hf] at h; cases h
    | some e =>
      rw [hf] at h
      simp only [ptE] at h
      unfold ptO at h
      split at h
      · rename_i c T h1 h2 hcur
        simp only [Option.some.injEq] at h
        subst h
        exact ⟨rfl, e, hf, h1, rfl, by simpa using hcur, h2⟩
      · cases h
  · cases h
/-- a slice that came in: its tag, its number in the slice, where it begins, how long it is, its number, its elements -/
structure SB where
  tag : Nat
  a : Option Addr
  len : Nat
  cap : Nat
  b : Nat
  R : Row
def slO (tag : Nat) (a : Option Addr) (len cap b : Nat) : Bool → Bool → Option Row → Option SB
  | false, false, some R => some ⟨tag, a, len, cap, b, R⟩
  | _, _, _ => none
def slE (tag : Nat) (a : Option Addr) (len cap : Nat) : Option Ent → Option SB
  | some e => slO tag a len cap e.b e.rw e.own e.row
  | none => none
def slV (M : List Ent) : Value × Value → Option SB
  | (.slice (some ⟨tag, _, _⟩) _ _, .slice a len cap) => slE tag a len cap (find M tag)
  | _ => none
noncomputable def sliceAt (t : Nat) (fr : Fr) (st : St) : Option SB := slV st.M (lookL fr.l t)
theorem sliceAt_eq {t : Nat} {fr : Fr} {st : St} {p : SB} (h : sliceAt t fr st = some p) : (lookL fr.l t).2 = .slice p.a p.len p.cap ∧ ∃ e ∈ st.M, e.rw = false ∧ e.own = false ∧ e.b = p.b ∧ e.row = some p.R := by
  unfold sliceAt at h
  generalize lookL fr.l t = x at h ⊢
  unfold slV at h
  split at h
  · rename_i tag o1 s1 l1 c1 a0 len cap
    cases hf : find st.M tag with
    | none => rw [hf] at h; cases h
    | some e =>
      rw [hf] at h
      simp only [slE] at h
      unfold slO at h
      split at h
      · rename_i h1 h2 h3
        simp only [Option.some.injEq] at h
        subst h
        exact ⟨rfl, e, find_mem hf, h1, h2, rfl, h3⟩
      · cases h
  · cases h
/-- the elements of a row that came in, as a block of which no more is known -/
def rowE (tag b : Nat) (R : Row) : Ent := ⟨tag, b, .cells #[] 0, .cells #[] 0, false, false, some R, none⟩
/-- the same, and its capacity -/
def rowC (tag c : Nat) (a : Option Addr) (k n : Nat) (g : Nat → Nat → Value) : Ent := ⟨tag, (getA a).block, .cells #[] 0, .cells #[] 0, false, false, some ⟨a, k, n, g⟩, some (c, k)⟩
/-- a slice that came in -/
def rowA (tag : Nat) (a : Option Addr) (k n : Nat) (g : Nat → Nat → Value) : Ent := rowE tag (getA a).block ⟨a, k, n, g⟩
/-- a slice's elements are those -/
def RowT (w : World) (a : Option Addr) (k n : Nat) (g : Nat → Nat → Value) : Prop := ∀ j c, j < n → c < k → a = some ⟨(getA a).block, (getA a).off, none⟩ ∧ w.cell? ⟨(getA a).block, (getA a).off + (j * k + c), none⟩ = some (g j c)
theorem rowA_ok {N : Nat → Prop} {w : World} {tag k n : Nat} {a : Option Addr} {g : Nat → Nat → Value} (h : RowT w a k n g) (hN : ∀ b, b < w.heap.size → N b) : (rowA tag a k n g).rw = false ∧ (N (rowA tag a k n g).b ∧ (rowA tag a k n g).Holds w ∨ (rowA tag a k n g).Void) := by
  refine ⟨rfl, ?_⟩
  have hv0 : ∀ off v, cellAt (rowA tag a k n g).cur off ≠ some v := fun off v hv => by simp [cellAt, rowA, rowE, nthL] at hv
  by_cases hz : 0 < n ∧ 0 < k
  · refine .inl ⟨hN _ (lt_of (h 0 0 hz.1 hz.2).2), fun ho => (by cases ho), fun off v hv => absurd hv (hv0 off v), fun _ R hR j c hj hk => ?_⟩
    simp only [rowA, rowE, Option.some.injEq] at hR
    subst hR
    exact ⟨(h j c hj hk).1, (h j c hj hk).2, fun _ _ hx => (by cases hx)⟩
  · refine .inr ⟨rfl, hv0, fun R hR j c hj hk => ?_⟩
    simp only [rowA, rowE, Option.some.injEq] at hR
    subst hR
    exact hz ⟨Nat.lt_of_le_of_lt (Nat.zero_le _) hj, Nat.lt_of_le_of_lt (Nat.zero_le _) hk⟩
theorem rowA_ext {tag k n : Nat} {a : Option Addr} {g : Nat → Nat → Value} {w : World} (h : RowT w a k n g) : ExtOk w [rowA tag a k n g] := by
  intro e he
  rcases List.mem_singleton.1 he with rfl
  obtain ⟨h1, h2⟩ := rowA_ok (N := (· < w.heap.size)) (tag := tag) h fun b hb => hb
  refine ⟨h1, ?_⟩
  rcases h2 with ⟨h2, h3⟩ | h2
  · exact .inl ⟨h2, rfl, h3⟩
  · exact .inr h2
theorem RowT.keep {w w' : World} {a : Option Addr} {k n : Nat} {g : Nat → Nat → Value} (h : RowT w a k n g) (hk : Keep (· < w.heap.size) w w') : RowT w' a k n g := fun j c hj hc => by
  obtain ⟨h1, h2⟩ := h j c hj hc
  refine ⟨h1, ?_⟩
  rw [cell_same (w := w) (a := ⟨(getA a).block, (getA a).off + (j * k + c), none⟩) (hk.block _ (lt_of h2))]
  exact h2
/-- a slice that came in stands there all along -/
theorem rowA_in {w0 w : World} {st : St} {tag k n : Nat} {a : Option Addr} {g : Nat → Nat → Value} (h : RowT w0 a k n g) (hr : Rel (· < w0.heap.size) w0 st w) : (rowA tag a k n g).rw = false ∧ ((rowA tag a k n g).b < w0.heap.size ∧ (rowA tag a k n g).Holds w ∨ (rowA tag a k n g).Void) := by
  obtain ⟨h1, h2⟩ := rowA_ok (N := (· < w0.heap.size)) (tag := tag) h fun b hb => hb
  refine ⟨h1, ?_⟩
  rcases h2 with ⟨h2, h3⟩ | h2
  · exact .inl ⟨h2, h3.same (hr.low.block _ h2)⟩
  · exact .inr h2
def asS : Value → Option (Option Addr × Nat × Nat)
  | .slice a n c => some (a, n, c)
  | _ => none
/-- the slice in a slot -/
noncomputable def slcAt (t : Nat) (fr : Fr) : Option (Option Addr × Nat × Nat) := asS (lookL fr.l t).2
theorem slcAt_eq {t : Nat} {fr : Fr} {p : Option Addr × Nat × Nat} (h : slcAt t fr = some p) : (lookL fr.l t).2 = .slice p.1 p.2.1 p.2.2 := by
  unfold slcAt at h
  generalize (lookL fr.l t).2 = v at h ⊢
  cases v <;> simp only [asS, Option.some.injEq] at h <;> first | (subst h; rfl) | cases h
theorem nthZ_getD : ∀ (zs : List Int) (i : Nat), nthZ zs i = zs.getD i 0
  | [], _ => by simp [nthZ]
  | _ :: _, 0 => rfl
  | _ :: zs, i + 1 => by simp [nthZ, nthZ_getD zs i]
/-- a row of whole numbers that came in -/
theorem isRow_t {kk : IntKind} {a : Option Addr} {len cap : Nat} {zs : List Int} {w : World} (h : IsRow kk w a len cap zs) : RowT w a 1 len fun j _ => .int kk (nthZ zs j) := by
  intro j c hj hc
  have hc0 : c = 0 := by omega
  subst hc0
  rcases h with ⟨_, h2, _⟩ | ⟨x, rfl, h1, h2, h3, h4, h5⟩
  · omega
  · have hcell : ∀ i, i < len → w.cell? (x.add i) = some (.int kk (nthZ zs i)) := fun i hi => by
      rw [nthZ_getD]; exact h4 i (by omega)
    have hsp : x.spot = none := by
      have h0 := hcell 0 (by omega)
      cases hs : x.spot with
      | none => rfl
      | some q =>
        have : (x.add 0) = x := by simp [Addr.add]
        rw [this] at h0
        simp only [World.cell?] at h0
        split at h0
        · rw [hs] at h0; simp at h0
        · cases h0
    obtain ⟨xb, xo, xs⟩ := x
    simp only at hsp
    subst hsp
    refine ⟨rfl, ?_⟩
    have := hcell j hj
    rw [add_none] at this
    simpa [getA] using this
/-- a table of the package: its number -/
def tbO (b : Nat) : Bool → Bool → Bool → Option Nat
  | false, false, true => some b
  | _, _, _ => none
def tbE (L : List Value) : Option Ent → Option Nat
  | some e => tbO e.b e.rw e.own (sameI (objL e.cur) L)
  | none => none
def tabAt (g : Nat) (L : List Value) (st : St) : Option Nat := tbE L (find st.M g)
theorem tabAt_eq {g b : Nat} {L : List Value} {st : St} (h : tabAt g L st = some b) : ∃ e ∈ st.M, e.rw = false ∧ e.own = false ∧ e.b = b ∧ ∀ off v, L[off]? = some v → cellAt e.cur off = some v := by
  unfold tabAt at h
  cases hf : find st.M g with
  | none => rw [hf] at h; cases h
  | some e =>
    rw [hf] at h
    simp only [tbE] at h
    unfold tbO at h
    split at h
    · rename_i h1 h2 h3
      simp only [Option.some.injEq] at h
      refine ⟨e, find_mem hf, h1, h2, h, fun off v hv => ?_⟩
      have hl := sameI_eq _ _ h3
      cases hc : e.cur with
      | cells c t fz =>
        rw [hc] at hl
        simp only [objL] at hl
        simp only [cellAt, nthL_get]
        rw [hl]; exact hv
      | _ => rw [hc] at hl; simp only [objL] at hl; subst hl; simp at hv
    · cases h
end Ev
end Go.Proofs.Ytbpnmjjmllgehaa
