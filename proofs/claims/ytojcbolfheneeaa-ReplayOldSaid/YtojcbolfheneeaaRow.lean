/- Slices of integers, read: whether they came in or are new. -/
import Derived.Test.YtojcbolfheneeaaKit2
import Derived.Laws.AppendOwn
import Derived.Laws.OwnMore
namespace Go.Proofs.Ytojcbolfheneeaa
open Go Go.ChangeShapes Go.WideShapes Go.ChangeAt Go.RowKit
/-- a slice value that reads as xs -/
def Reads (k : IntKind) (w : World) (v : Value) (xs : List Int) : Prop :=
  ∃ (a : Option Addr) (cap : Nat), v = .slice a xs.length cap ∧ xs.length ≤ cap ∧ cap ≤ maxLen ∧ (xs.length = 0 ∨ ∃ b o, a = some ⟨b, o, none⟩ ∧ ∀ j, j < xs.length → w.cell? ⟨b, o + j, none⟩ = some (.int k (xs.getD j 0)))
theorem Reads.below {k : IntKind} {w w' : World} {v : Value} {xs : List Int} (h : Reads k w v xs) (hb : Below w.heap.size w w') : Reads k w' v xs := by
  obtain ⟨a, cap, h1, h2, h3, h4⟩ := h
  refine ⟨a, cap, h1, h2, h3, ?_⟩
  rcases h4 with h4 | ⟨b, o, h5, h6⟩
  · exact .inl h4
  · exact .inr ⟨b, o, h5, fun j hj => keep (h6 j hj) hb⟩
theorem reads_of_row {k : IntKind} {w : World} {a : Option Addr} {len cap : Nat} {z : List Int} (h : IsRow k w a len cap z) : Reads k w (.slice a len cap) (z.take len) ∧ (z.take len).length = len ∧ ∀ x ∈ z.take len, (Lit.int k x).wf = true := by
  rcases h with ⟨rfl, rfl, rfl, rfl⟩ | ⟨x, rfl, h1, h2, h3, h4, h5⟩
  · exact ⟨⟨none, 0, by simp, by simp, by simp, .inl (by simp)⟩, by simp, by simp⟩
  · have hl : (z.take len).length = len := by simp; omega
    refine ⟨⟨some x, cap, by rw [hl], by rw [hl]; exact h1, h2, ?_⟩, hl, fun y hy => h5 y (List.mem_of_mem_take hy)⟩
    rcases Nat.eq_zero_or_pos len with h0 | h0
    · exact .inl (by rw [hl]; exact h0)
    · right
      obtain ⟨b, o, rfl, hc⟩ := ints_at h4 (by omega)
      refine ⟨b, o, rfl, fun j hj => ?_⟩
      rw [hl] at hj
      rw [hc j (by omega)]
      simp [List.getD, hj]
theorem reads_of_own {k : IntKind} {w : World} {base : Nat} {e : TypeId} {v : Value} {xs : List Int} (h : w.ownsRow base e 1 v xs.length (xs.map (Value.int k))) : Reads k w v xs := by
  obtain ⟨hlen, h⟩ := h
  rcases h with ⟨rfl, h0⟩ | ⟨g, cap, cur, rfl, hg, hcur, h1, h2, h3, h4⟩
  · exact ⟨none, 0, by rw [h0], by omega, by simp, .inl h0⟩
  · refine ⟨some ⟨g, 0, none⟩, cap, rfl, h1, h2, .inr ⟨g, 0, rfl, fun j hj => ?_⟩⟩
    have hc : cur[j]? = some (.int k (xs.getD j 0)) := by
      have : (cur.toList.take (xs.length * 1))[j]? = some (.int k (xs.getD j 0)) := by
        rw [h4, List.getElem?_map, List.getElem?_eq_getElem hj]
        simp [List.getD, hj]
      rw [List.getElem?_take_of_lt (by omega)] at this
      simpa using this
    simp [World.cell?, hcur, hc]
theorem own_below {w w' : World} {base : Nat} {e : TypeId} {size : Nat} {v : Value} {n : Nat} {xs : List Value} (h : w.ownsRow base e size v n xs) (hb : Below w.heap.size w w') : w'.ownsRow base e size v n xs := by
  obtain ⟨hlen, h⟩ := h
  refine ⟨hlen, ?_⟩
  rcases h with h | ⟨g, cap, cur, h0, h1, h2, h3⟩
  · exact .inl h
  · refine .inr ⟨g, cap, cur, h0, h1, ?_, h3⟩
    rw [hb.block g ?_]
    · exact h2
    · rcases Nat.lt_or_ge g w.heap.size with h | h
      · exact h
      · rw [Array.getElem?_eq_none h] at h2; cases h2
theorem Reads.len {k : IntKind} {w : World} {v : Value} {xs : List Int} (h : Reads k w v xs) : ∃ a cap, v = .slice a xs.length cap ∧ (xs.length : Int) ≤ 9223372036854775807 := by
  obtain ⟨a, cap, h1, h2, h3, _⟩ := h
  exact ⟨a, cap, h1, by unfold maxLen at h3; omega⟩
theorem Reads.at {k : IntKind} {w : World} {a : Option Addr} {cap : Nat} {xs : List Int} (h : Reads k w (.slice a xs.length cap) xs) {i : Nat} (hi : i < xs.length) : ∃ b o, a = some ⟨b, o, none⟩ ∧ ∀ j, j < xs.length → w.cell? ⟨b, o + j, none⟩ = some (.int k (xs.getD j 0)) := by
  obtain ⟨a', cap', h1, _, _, h4⟩ := h
  cases h1
  rcases h4 with h4 | h4
  · omega
  · exact h4
/-- the block of a slice that is read -/
theorem Reads.row {k : IntKind} {w : World} {a : Option Addr} {cap : Nat} {xs : List Int} (h : Reads k w (.slice a xs.length cap) xs) :
    ∃ b o, (0 < xs.length → a = some ⟨b, o, none⟩) ∧ ∀ j, j < xs.length → w.cell? ⟨b, o + j, none⟩ = some (.int k (xs.getD j 0)) := by
  obtain ⟨a', cap', h1, _, _, h4⟩ := h
  cases h1
  rcases h4 with h4 | ⟨b, o, h5, h6⟩
  · exact ⟨0, 0, fun h => by omega, fun j hj => by omega⟩
  · exact ⟨b, o, fun _ => h5, h6⟩
theorem own_row {k : IntKind} {w : World} {base : Nat} {e : TypeId} {v : Value} {xs : List Int} (h : w.ownsRow base e 1 v xs.length (xs.map (Value.int k))) :
    ∃ a cap b, v = .slice a xs.length cap ∧ (xs.length : Int) ≤ 9223372036854775807 ∧ (0 < xs.length → a = some ⟨b, 0, none⟩) ∧ base ≤ b ∧ ∀ j, j < xs.length → w.cell? ⟨b, 0 + j, none⟩ = some (.int k (xs.getD j 0)) := by
  have hr := reads_of_own h
  obtain ⟨a, cap, h1, hm⟩ := hr.len
  subst h1
  obtain ⟨_, h⟩ := h
  rcases h with ⟨h2, h0⟩ | ⟨g, cap', cur, h2, hg, hcur, _⟩
  · exact ⟨a, cap, base, rfl, hm, fun h => by omega, Nat.le_refl _, fun j hj => by omega⟩
  · cases h2
    refine ⟨_, _, g, rfl, hm, fun _ => rfl, hg, fun j hj => ?_⟩
    obtain ⟨b, o, h5, h6⟩ := hr.at hj
    cases h5
    exact h6 j hj
end Go.Proofs.Ytojcbolfheneeaa
