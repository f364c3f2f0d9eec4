/- The evaluator: blocks that a loop leaves as they are. No condition. -/
import Derived.Test.YtbpnmjjmllgehaaEvK
namespace Go.Proofs.Ytbpnmjjmllgehaa
open Go Go.RowKit
namespace Ev
/-- a block with known cells, as a loop's rounds see it -/
def boxE (tag b T : Nat) (h v : List Value) : Ent := ⟨tag, b, .cells h.toArray T, .cells v.toArray T, false, false, none, none⟩
/-- a pointer to a block of one cell -/
structure BX where
  p : PB
  h : Value
  v : Value
def bxO (p : PB) (h : Option Value) : List Value → Option BX
  | [v] => h.map fun h => ⟨p, h, v⟩
  | _ => none
def bxE (p : PB) : Option Ent → Option BX
  | some e => bxO p (cellAt e.lit 0) p.l
  | none => none
noncomputable def boxAt (t : Nat) (fr : Fr) (st : St) : Option BX := (ptrAt t fr st).bind fun p => bxE p (find st.M p.tag)
theorem boxAt_eq {t : Nat} {fr : Fr} {st : St} {p : BX} (h : boxAt t fr st = some p) : (lookL fr.l t).2 = .pointer (some ⟨p.p.b', 0, none⟩) ∧ ∃ e, find st.M p.p.tag = some e ∧ e.rw = true ∧ e.b = p.p.b ∧ e.cur = .cells [p.v].toArray p.p.T (0, 0) := by
  unfold boxAt at h
  simp only [Option.bind_eq_some_iff] at h
  obtain ⟨q, hq, h⟩ := h
  obtain ⟨h1, e, h2, h3, h4, h5, _⟩ := ptrAt_eq hq
  rw [h2] at h
  simp only [bxE] at h
  unfold bxO at h
  split at h
  · rename_i v hl
    simp only [Option.map_eq_some_iff] at h
    obtain ⟨u, hu, rfl⟩ := h
    exact ⟨h1, e, h2, h3, h4, by rw [h5, hl]⟩
  · cases h
theorem rsV_eq {M : List Ent} {v h0 : Value} {p : RS} (h : rsV M v h0 = some p) : v = .slice p.a p.len p.cap ∧ ∃ e ∈ M, e.tag = p.tag ∧ e.rw = p.rw ∧ e.b = p.b ∧ e.row = some p.R := by
  unfold rsV at h
  split at h
  · rename_i tag o1 s1 l1 c1
    unfold rsV2 at h
    split at h
    · rename_i a len cap
      cases hf : find M tag with
      | none => rw [hf] at h; cases h
      | some e =>
        rw [hf] at h
        simp only [rsE] at h
        cases hR : e.row with
        | none => rw [hR] at h; cases h
        | some R =>
          rw [hR] at h
          simp only [rsO, Option.some.injEq] at h
          subst h
          exact ⟨rfl, e, find_mem hf, find_tag hf, rfl, rfl, hR⟩
    · cases h
  · cases h
/-- two numbers -/
def two (k : IntKind) : List Value → Option (Int × Int)
  | [x, y] => (asI k x).bind fun x => (asI k y).map fun y => (x, y)
  | _ => none
theorem two_eq {k : IntKind} {l : List Value} {p : Int × Int} (h : two k l = some p) : l = [.int k p.1, .int k p.2] := by
  unfold two at h
  split at h
  · simp only [Option.bind_eq_some_iff, Option.map_eq_some_iff] at h
    obtain ⟨x, hx, y, hy, rfl⟩ := h
    rw [asI_eq hx, asI_eq hy]
  · cases h
/-- a block that the rounds of a loop leave as it is -/
theorem boxX_in {N : Nat → Prop} {w0 w : World} {st : St} {tag ptag b T : Nat} {h v : List Value} {C : List Nat} {e : Ent} (hr : RelB N w0 st w) (hf : find st.M ptag = some e) (hrw : e.rw = true) (hb : e.b = b) (hcur : e.cur = .cells v.toArray T (0, 0)) (hC : ptag ∉ C) :
    (boxE tag b T h v).rw = false ∧ (((boxE tag b T h v).Holds w ∧ ∃ e' ∈ st.M, e'.b = (boxE tag b T h v).b ∧ (e'.rw = true ∧ e'.tag ∉ C ∨ N e'.b)) ∨ (boxE tag b T h v).Void) := by
  have hE := hr.ent e (find_mem hf)
  refine ⟨rfl, .inl ⟨⟨fun ho => (by cases ho), fun off x hx => ?_, fun _ R hR => (by cases hR)⟩, e, find_mem hf, hb, .inl ⟨hrw, by rw [find_tag hf]; exact hC⟩⟩⟩
  show w.cell? ⟨b, off, none⟩ = some x
  rw [← hb]
  exact hE.cells off x (by rw [hcur]; exact hx)
end Ev
end Go.Proofs.Ytbpnmjjmllgehaa
