/- A package-level variable of numbers, bools and strings, however nested, that reads as a given datum: what its cells are. -/
import Derived.Test.YtggiilfanlmeoaaDoorKit2
import Derived.Test.YtggiilfanlmeoaaDoorFlat
import Derived.LaidLaws
import Derived.Lib.LaidTab
namespace Go.Proofs.YtggiilfanlmeoaaDoor
open Go Go.ChangeShapes Go.WideShapes Go.RowKit
namespace Laid
def AllEq (vs cs : List Value) : Prop := ∀ (i : Nat) (v : Value), vs[i]? = some v → cs[i]? = some v
def chunks {H : Type} (P : Program) (go : TypeId → DataW H → Option (List Value)) : List (Nat × TypeId) → List (DataW H) → List Value → Option (List Value)
  | [], [], acc => some acc
  | c :: cs, d :: ds, acc => match go c.2 d with
    | some vs => if c.1 = acc.length ∧ P.cellsOf c.2 = vs.length then chunks P go cs ds (acc ++ vs) else none
    | none => none
  | _, _, _ => none
def cellsD {H : Type} (P : Program) : Nat → TypeId → DataW H → Option (List Value)
  | 0, _, _ => none
  | n + 1, t, d => match P.underlying t, d with
    | some (.int k), .lit (.int k' z) => if k = k' then some [.int k z] else none
    | some .bool, .lit (.bool b) => some [.bool b]
    | some .string, .lit (.string s) => some [.string ⟨s.toArray⟩]
    | some (.struct fs), .agg ds => chunks P (cellsD P n) (fs.toList.map fun f => (f.offset, f.type)) ds []
    | some (.array m e), .agg ds => chunks P (cellsD P n) ((List.range m).map fun i => (i * P.cellsOf e, e)) ds []
    | _, _ => none
section
variable {H : Type} {enc : TypeId × Value → H} {P : Program} {w : World} {base : Nat} {spare : Nat → Bool} {held : Bool}
theorem chunks_ok {go : TypeId → DataW H → Option (List Value)} {cs : List Value} : ∀ (ch : List (Nat × TypeId)) (ds : List (DataW H)) (acc vs : List Value), chunks P go ch ds acc = some vs → AllEq acc cs →
    (∀ (i : Nat) (c : Nat × TypeId) (d : DataW H), ch[i]? = some c → ds[i]? = some d → ∀ us, go c.2 d = some us → AllEq us ((cs.drop c.1).take (P.cellsOf c.2))) → AllEq vs cs
  | [], [], acc, vs, h, ha, _ => by simp only [chunks, Option.some.injEq] at h; subst h; exact ha
  | [], _ :: _, _, _, h, _, _ => by simp [chunks] at h
  | _ :: _, [], _, _, h, _, _ => by simp [chunks] at h
  | c :: ch, d :: ds, acc, vs, h, ha, hf => by
    simp only [chunks] at h
    split at h
    · rename_i us hus
      split at h
      · rename_i hc
        refine chunks_ok ch ds _ vs h (fun i v hi => ?_) fun i c' d' h1 h2 => hf (i + 1) c' d' (by simpa using h1) (by simpa using h2)
        by_cases hlt : i < acc.length
        · rw [List.getElem?_append_left hlt] at hi; exact ha i v hi
        · rw [List.getElem?_append_right (by omega)] at hi
          have hv := hf 0 c d rfl rfl us hus _ _ hi
          have hb : i - acc.length < P.cellsOf c.2 := by
            rw [hc.2]
            rcases Nat.lt_or_ge (i - acc.length) us.length with h | h
            · exact h
            · rw [List.getElem?_eq_none h] at hi; cases hi
          rw [List.getElem?_take_of_lt hb, List.getElem?_drop, hc.1, show acc.length + (i - acc.length) = i by omega] at hv
          exact hv
      · cases h
    · cases h
theorem cells_ok : ∀ (n : Nat) (t : TypeId) (d : DataW H) (p : List MemPlace) (vs cs : List Value) (fuel : Nat), cellsD P n t d = some vs → DataW.trod enc P w base spare held fuel t cs = some (d, p) → AllEq vs cs
  | 0, _, _, _, _, _, _, h, _ => by cases h
  | n + 1, t, d, p, vs, cs, fuel, h, hx => by
    simp only [cellsD] at h
    split at h
    · rename_i k k' z hu
      split at h
      · rename_i hk
        cases h
        subst hk
        obtain ⟨z', rfl, he, _⟩ := DataW.trod_int hu hx
        simp only [Prod.mk.injEq, DataW.lit.injEq, Lit.int.injEq, true_and] at he
        obtain ⟨rfl, _⟩ := he
        exact fun i v hi => hi
      · cases h
    · rename_i b hu
      cases h
      obtain ⟨z', rfl, he⟩ := DataW.trod_bool hu hx
      simp only [Prod.mk.injEq, DataW.lit.injEq, Lit.bool.injEq] at he
      obtain ⟨rfl, _⟩ := he
      exact fun i v hi => hi
    · rename_i s hu
      cases h
      obtain ⟨z', rfl, he, _⟩ := DataW.trod_string hu hx
      simp only [Prod.mk.injEq, DataW.lit.injEq, Lit.string.injEq] at he
      obtain ⟨rfl, _⟩ := he
      cases z'
      exact fun i v hi => by simpa using hi
    · rename_i fs ds hu
      obtain ⟨xs, m, _, he, _, hlen, hg⟩ := DataW.trod_struct hu hx
      simp only [Prod.mk.injEq, DataW.agg.injEq] at he
      obtain ⟨rfl, _⟩ := he
      refine chunks_ok _ _ [] vs h (fun i v hi => by simp at hi) fun i c d' h1 h2 us hus => ?_
      simp only [List.getElem?_map, Option.map_eq_some_iff] at h1 h2
      obtain ⟨f, hf, rfl⟩ := h1
      obtain ⟨y, hy, rfl⟩ := h2
      have := hg i f (by rw [← Array.getElem?_toList]; exact hf)
      rw [hy] at this
      exact cells_ok n f.type y.1 y.2 us _ _ hus this
    · rename_i m e ds hu
      obtain ⟨xs, fu, _, he, _, hlen, hg⟩ := DataW.trod_array hu hx
      simp only [Prod.mk.injEq, DataW.agg.injEq] at he
      obtain ⟨rfl, _⟩ := he
      refine chunks_ok _ _ [] vs h (fun i v hi => by simp at hi) fun i c d' h1 h2 us hus => ?_
      simp only [List.getElem?_map, Option.map_eq_some_iff] at h1 h2
      obtain ⟨j, hj, rfl⟩ := h1
      obtain ⟨y, hy, rfl⟩ := h2
      have hjm : i < m ∧ j = i := by
        rcases Nat.lt_or_ge i m with hlt | hge
        · rw [List.getElem?_range hlt] at hj; exact ⟨hlt, (Option.some.inj hj).symm⟩
        · rw [List.getElem?_eq_none (by simpa using hge)] at hj; cases hj
      obtain ⟨him, rfl⟩ := hjm
      have := hg j him
      rw [hy] at this
      exact cells_ok n e y.1 y.2 us _ _ hus this
    · cases h
/-- the cells of a listed variable, in a world -/
def VarIs (g : Nat) (vs : List Value) (W : World) : Prop := ∀ (i : Nat) (v : Value), vs[i]? = some v → W.cell? ⟨g, i, none⟩ = some v
theorem VarIs.below {g : Nat} {vs : List Value} {W W' : World} (h : VarIs g vs W) (hb : Below W.heap.size W W') : VarIs g vs W' := fun i v hi => keep (h i v hi) hb
theorem var_head {name : String} {d : DataW Unit} {rest : List (String × DataW Unit)} {W : World} {g : Nat} {t : TypeId} {vs : List Value} (n : Nat) (hg : P.globalNamed name = some g) (hty : (P.globals[g]?).map (·.type) = some t) (hc : cellsD P n t d = some vs)
    (h : laidMet P ((name, d) :: rest) W) : VarIs g vs W := by
  obtain ⟨ps, ⟨g', t', cs, fuel, p, q, hg', ht', hvar, hd, _, _⟩, _⟩ := h
  obtain rfl := Option.some.inj (hg.symm.trans hg')
  obtain rfl := Option.some.inj (hty.symm.trans ht')
  intro i v hi
  have := World.var?_cell hg hvar i
  rw [this]
  rw [← Array.getElem?_toList]
  exact cells_ok n _ _ _ _ _ _ hc hd i v hi
end
end Laid
end Go.Proofs.YtggiilfanlmeoaaDoor
