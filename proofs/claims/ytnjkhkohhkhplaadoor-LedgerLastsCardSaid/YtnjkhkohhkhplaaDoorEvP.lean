/- The evaluator: reading slots and blocks ahead of a loop. No condition. -/
import Derived.Test.YtnjkhkohhkhplaaDoorEvT
namespace Go.Proofs.YtnjkhkohhkhplaaDoor
open Go Go.RowKit
namespace Ev
def asI (k : IntKind) : Value → Option Int
  | .int k' i => (match Nat.beq (kn k) (kn k') with | true => some i | false => none)
  | _ => none
theorem kn_inj {k k' : IntKind} (h : Nat.beq (kn k) (kn k') = true) : k = k' := by
  cases k <;> cases k' <;> first | rfl | (exact absurd h (by decide))
theorem asI_eq {k : IntKind} {v : Value} {i : Int} (h : asI k v = some i) : v = .int k i := by
  unfold asI at h
  split at h
  · rename_i k' j
    split at h
    · rename_i hb
      simp only [Option.some.injEq] at h
      rw [kn_inj hb, h]
    · cases h
  · cases h
/-- the whole number in a slot -/
noncomputable def intAt (k : IntKind) (t : Nat) (fr : Fr) : Option Int := asI k (lookL fr.l t).2
theorem intAt_eq {k : IntKind} {t : Nat} {fr : Fr} {i : Int} (h : intAt k t fr = some i) : (lookL fr.l t).2 = .int k i := asI_eq h
def asB : Value → Option Bool
  | .bool b => some b
  | _ => none
theorem asB_eq {v : Value} {b : Bool} (h : asB v = some b) : v = .bool b := by
  cases v <;> simp only [asB, Option.some.injEq] at h <;> first | (rw [h]) | cases h
noncomputable def boolAt (t : Nat) (fr : Fr) : Option Bool := asB (lookL fr.l t).2
theorem boolAt_eq {t : Nat} {fr : Fr} {b : Bool} (h : boolAt t fr = some b) : (lookL fr.l t).2 = .bool b := asB_eq h
/-- a block that a slot points to: its tag, its number in the pointer, its number, its type, its cells -/
structure PB where
  tag : Nat
  b' : Nat
  b : Nat
  T : Nat
  l : List Value
def ptO (tag b' b : Nat) : Bool → Option (Nat × Nat) → Obj → Option PB
  | true, none, .cells c T (0, 0) => some ⟨tag, b', b, T, c.toList⟩
  | _, _, _ => none
def ptE (tag b' : Nat) : Option Ent → Option PB
  | some e => ptO tag b' e.b e.rw e.cap e.cur
  | none => none
def ptV (M : List Ent) : Value × Value → Option PB
  | (.pointer (some ⟨tag, 0, none⟩), .pointer (some ⟨b', 0, none⟩)) => ptE tag b' (find M tag)
  | _ => none
noncomputable def ptrAt (t : Nat) (fr : Fr) (st : St) : Option PB := ptV st.M (lookL fr.l t)
theorem ptrAt_eq {t : Nat} {fr : Fr} {st : St} {p : PB} (h : ptrAt t fr st = some p) : (lookL fr.l t).2 = .pointer (some ⟨p.b', 0, none⟩) ∧ ∃ e, find st.M p.tag = some e ∧ e.rw = true ∧ e.b = p.b ∧ e.cur = .cells p.l.toArray p.T (0, 0) ∧ e.cap = none := by
  unfold ptrAt at h
  generalize lookL fr.l t = x at h ⊢
  unfold ptV at h
  split at h
  · rename_i tag b'
    cases hf : find st.M tag with
    | none => rw [hf] at h; cases h
    | some e =>
      rw [hf] at h
      simp only [ptE] at h
      unfold ptO at h
      split at h
      · rename_i c T h1 h2 hcur
        simp only [Option.some.injEq] at h
        subst h
        exact ⟨rfl, e, hf, h1, rfl, by simpa using hcur, h2⟩
      · cases h
  · cases h
/-- a slice that came in: its tag, its number in the slice, where it begins, how long it is, its number, its elements -/
structure SB where
  tag : Nat
  b' : Nat
  off : Nat
  len : Nat
  cap : Nat
  b : Nat
  R : Row
def slO (tag b' off len cap b : Nat) : Bool → Bool → Option Row → Option SB
  | false, false, some R => some ⟨tag, b', off, len, cap, b, R⟩
  | _, _, _ => none
def slE (tag b' off len cap : Nat) : Option Ent → Option SB
  | some e => slO tag b' off len cap e.b e.rw e.own e.row
  | none => none
def slV (M : List Ent) : Value × Value → Option SB
  | (.slice (some ⟨tag, _, _⟩) _ _, .slice (some ⟨b', off, none⟩) len cap) => slE tag b' off len cap (find M tag)
  | _ => none
noncomputable def sliceAt (t : Nat) (fr : Fr) (st : St) : Option SB := slV st.M (lookL fr.l t)
theorem sliceAt_eq {t : Nat} {fr : Fr} {st : St} {p : SB} (h : sliceAt t fr st = some p) : (lookL fr.l t).2 = .slice (some ⟨p.b', p.off, none⟩) p.len p.cap ∧ ∃ e ∈ st.M, e.rw = false ∧ e.own = false ∧ e.b = p.b ∧ e.row = some p.R := by
  unfold sliceAt at h
  generalize lookL fr.l t = x at h ⊢
  unfold slV at h
  split at h
  · rename_i tag o1 s1 l1 c1 b' off len cap
    cases hf : find st.M tag with
    | none => rw [hf] at h; cases h
    | some e =>
      rw [hf] at h
      simp only [slE] at h
      unfold slO at h
      split at h
      · rename_i h1 h2 h3
        simp only [Option.some.injEq] at h
        subst h
        exact ⟨rfl, e, find_mem hf, h1, h2, rfl, h3⟩
      · cases h
  · cases h
/-- the elements of a row that came in, as a block of which no more is known -/
def rowE (tag b : Nat) (R : Row) : Ent := ⟨tag, b, .cells #[] 0, .cells #[] 0, false, false, some R, none⟩
theorem rowE_has {tag : Nat} {e : Ent} {R : Row} (ho : e.own = false) (hR : e.row = some R) : ∀ off v, (rowE tag e.b R).Has off v → e.Has off v := by
  intro off v h
  rcases h with h | ⟨_, R', j, c, h1, h2⟩
  · simp [cellAt, rowE, nthL] at h
  · simp only [rowE, Option.some.injEq] at h1
    subst h1
    exact .inr ⟨ho, R, j, c, hR, h2⟩
/-- a table of the package: its number -/
def tbO (b : Nat) : Bool → Bool → Bool → Option Nat
  | false, false, true => some b
  | _, _, _ => none
def tbE (L : List Value) : Option Ent → Option Nat
  | some e => tbO e.b e.rw e.own (sameI (objL e.cur) L)
  | none => none
def tabAt (g : Nat) (L : List Value) (st : St) : Option Nat := tbE L (find st.M g)
theorem tabAt_eq {g b : Nat} {L : List Value} {st : St} (h : tabAt g L st = some b) : ∃ e ∈ st.M, e.rw = false ∧ e.own = false ∧ e.b = b ∧ ∀ off v, L[off]? = some v → e.Has off v := by
  unfold tabAt at h
  cases hf : find st.M g with
  | none => rw [hf] at h; cases h
  | some e =>
    rw [hf] at h
    simp only [tbE] at h
    unfold tbO at h
    split at h
    · rename_i h1 h2 h3
      simp only [Option.some.injEq] at h
      refine ⟨e, find_mem hf, h1, h2, h, fun off v hv => .inl ?_⟩
      have hl := sameI_eq _ _ h3
      cases hc : e.cur with
      | cells c t fz =>
        rw [hc] at hl
        simp only [objL] at hl
        simp only [cellAt, nthL_get]
        rw [hl]; exact hv
      | _ => rw [hc] at hl; simp only [objL] at hl; subst hl; simp at hv
    · cases h
theorem tabI_has {k : IntKind} {g : Nat} {zs : List Int} {e : Ent} (h : ∀ off v, (zs.map (Value.int k))[off]? = some v → e.Has off v) : ∀ off v, (tabI k g zs).Has off v → e.Has off v := by
  intro off v hv
  rcases hv with hv | ⟨_, R, j, c, hR, hj, hk, ho, hv⟩
  · exact h off v (by simpa [cellAt, tabI, nthL_get] using hv)
  · simp only [tabI, Option.some.injEq] at hR
    subst hR
    simp only at hj hk ho hv
    have : c = 0 := by omega
    subst this
    have ho' : off = j := by omega
    subst ho' hv
    exact h off _ (nthZ_get _ _ hj)
end Ev
end Go.Proofs.YtnjkhkohhkhplaaDoor
