/- More small lemmas. -/
import Derived.Test.YtbpnmjjmllgehaaKit
namespace Go.Proofs.Ytbpnmjjmllgehaa
open Go.ChangeShapes Go.WideShapes Go.ChangeAt Go.RowKit
theorem fkeep2 {w w' : World} {b : Nat} (h : ∀ i, w.frozen? ⟨b, i, none⟩ = false) (hl : b < w.heap.size) (hb : Below w.heap.size w w') : ∀ i, w'.frozen? ⟨b, i, none⟩ = false := fun i => fkeep (h i) hl hb
theorem cset_ne {w : World} {b o c : Nat} {v : Value} (h : w.cell? ⟨b, o, none⟩ = some v) (hne : b ≠ c) (i : Nat) (u : Value) : (w.setCell ⟨c, i, none⟩ u).cell? ⟨b, o, none⟩ = some v := by
  rw [World.cell?_of_block (w := w) (Below.heap_setCell w _ u b hne)]; exact h
theorem cset_eq {w : World} {b o : Nat} {v : Value} (h : w.cell? ⟨b, o, none⟩ = some v) (u : Value) : (w.setCell ⟨b, o, none⟩ u).cell? ⟨b, o, none⟩ = some u := by
  simp [go_sem, h]
theorem cset_off {w : World} {b o i : Nat} {v : Value} (h : w.cell? ⟨b, o, none⟩ = some v) (_hne : o ≠ i) (u : Value) : (w.setCell ⟨b, i, none⟩ u).cell? ⟨b, o, none⟩ = some v := by
  simp [go_sem, h]
end Go.Proofs.Ytbpnmjjmllgehaa
