/- Structs and arrays of numbers, bools and strings, however nested, by value: what their cells are. -/
import Derived.Test.YtbpnmjjmllgehaaKit
import Derived.WideShapes
import Derived.ChangeArms
namespace Go.Proofs.Ytbpnmjjmllgehaa
open Go Go.ChangeShapes Go.WideShapes Go.RowKit
namespace Flat
def leafOk : Option (Option IntKind) → Value → Prop
  | some (some k), v => ∃ z, v = .int k z ∧ (Lit.int k z).wf = true
  | some none, v => ∃ b, v = .bool b
  | none, v => ∃ s : ByteArray, v = .string s ∧ s.size ≤ maxLen
def fields (P : Program) (go : TypeId → Option (List (Option (Option IntKind)))) : List Field → List (Option (Option IntKind)) → Option (List (Option (Option IntKind)))
  | [], acc => some acc
  | f :: fs, acc => match go f.type with
    | some ks => if f.offset = acc.length ∧ P.cellsOf f.type = ks.length then fields P go fs (acc ++ ks) else none
    | none => none
def flat (P : Program) : Nat → TypeId → Option (List (Option (Option IntKind)))
  | 0, _ => none
  | n + 1, t => match P.underlying t with
    | some (.int k) => some [some (some k)]
    | some .bool => some [some none]
    | some .string => some [none]
    | some (.struct fs) => match fields P (flat P n) fs.toList [] with
      | some ks => if P.cellsOf t = ks.length then some ks else none
      | none => none
    | some (.array m e) => match flat P n e with
      | some ks => if P.cellsOf e = ks.length ∧ P.cellsOf t = m * ks.length then some (List.replicate m ks).flatten else none
      | none => none
    | _ => none
def AllOk (ks : List (Option (Option IntKind))) (cs : List Value) : Prop := ∀ (i : Nat) (k : Option (Option IntKind)), ks[i]? = some k → ∃ v, cs[i]? = some v ∧ leafOk k v
section
variable {H : Type} {enc : TypeId × Value → H} {P : Program} {w : World} {base : Nat} {spare : Nat → Bool} {held : Bool}
theorem fields_ok {go : TypeId → Option (List (Option (Option IntKind)))} {cs : List Value} : ∀ (fs : List Field) (acc ks : List (Option (Option IntKind))), fields P go fs acc = some ks → AllOk acc cs →
    (∀ f ∈ fs, ∀ k, go f.type = some k → AllOk k ((cs.drop f.offset).take (P.cellsOf f.type))) → AllOk ks cs
  | [], acc, ks, h, ha, _ => by simp only [fields, Option.some.injEq] at h; subst h; exact ha
  | f :: fs, acc, ks, h, ha, hf => by
    simp only [fields] at h
    split at h
    · rename_i kf hk
      split at h
      · rename_i hc
        refine fields_ok fs _ ks h (fun i k hi => ?_) fun g hg => hf g (List.mem_cons_of_mem _ hg)
        by_cases hlt : i < acc.length
        · rw [List.getElem?_append_left hlt] at hi; exact ha i k hi
        · rw [List.getElem?_append_right (by omega)] at hi
          obtain ⟨v, hv, hl⟩ := hf f List.mem_cons_self kf hk _ _ hi
          have hb : i - acc.length < P.cellsOf f.type := by
            rw [hc.2]
            rcases Nat.lt_or_ge (i - acc.length) kf.length with h | h
            · exact h
            · rw [List.getElem?_eq_none h] at hi; cases hi
          rw [List.getElem?_take_of_lt hb, List.getElem?_drop, hc.1, show acc.length + (i - acc.length) = i by omega] at hv
          exact ⟨v, hv, hl⟩
      · cases h
    · cases h
theorem flat_ok : ∀ (n : Nat) (t : TypeId) (ks : List (Option (Option IntKind))) (cs : List Value) (fuel : Nat) (x : DataW H × List MemPlace), flat P n t = some ks → DataW.trod enc P w base spare held fuel t cs = some x → AllOk ks cs
  | 0, _, _, _, _, _, h, _ => by cases h
  | n + 1, t, ks, cs, fuel, x, h, hx => by
    simp only [flat] at h
    split at h
    · rename_i k hu
      cases h
      obtain ⟨z, rfl, _, hw⟩ := DataW.trod_int hu hx
      intro i k' hi
      cases i with
      | zero => simp only [List.getElem?_cons_zero, Option.some.injEq] at hi; subst hi; exact ⟨_, rfl, z, rfl, hw⟩
      | succ i => simp at hi
    · rename_i hu
      cases h
      obtain ⟨z, rfl, _⟩ := DataW.trod_bool hu hx
      intro i k' hi
      cases i with
      | zero => simp only [List.getElem?_cons_zero, Option.some.injEq] at hi; subst hi; exact ⟨_, rfl, z, rfl⟩
      | succ i => simp at hi
    · rename_i hu
      cases h
      obtain ⟨z, rfl, _, hw⟩ := DataW.trod_string hu hx
      intro i k' hi
      cases i with
      | zero => simp only [List.getElem?_cons_zero, Option.some.injEq] at hi; subst hi; exact ⟨_, rfl, z, rfl, hw⟩
      | succ i => simp at hi
    · rename_i fs hu
      split at h
      · rename_i ks' hks
        split at h
        · cases h
          obtain ⟨xs, m, _, _, _, hlen, hg⟩ := DataW.trod_struct hu hx
          refine fields_ok fs.toList [] ks hks (fun i k hi => by simp at hi) fun f hf k hk => ?_
          obtain ⟨j, hj⟩ := List.getElem?_of_mem hf
          have hj' : fs[j]? = some f := by rw [← Array.getElem?_toList]; exact hj
          have hjl : j < xs.length := by
            rw [hlen]; exact (Array.getElem?_eq_some_iff.1 hj').1
          have := hg j f hj'
          rw [List.getElem?_eq_getElem hjl] at this
          exact flat_ok n f.type k _ _ _ hk this
        · cases h
      · cases h
    · rename_i m e hu
      split at h
      · rename_i ks' hks
        split at h
        · rename_i hc
          cases h
          obtain ⟨xs, fu, _, _, _, hlen, hg⟩ := DataW.trod_array hu hx
          intro i k hi
          have hpos : 0 < ks'.length := by
            rcases Nat.eq_zero_or_pos ks'.length with h0 | h0
            · have : ks' = [] := List.eq_nil_of_length_eq_zero h0
              subst this
              simp at hi
            · exact h0
          have hq := Nat.div_add_mod i ks'.length
          have hr := Nat.mod_lt i hpos
          have hlt : i < m * ks'.length := by
            rcases Nat.lt_or_ge i (m * ks'.length) with h | h
            · exact h
            · rw [List.getElem?_eq_none (by simpa using h)] at hi; cases hi
          have him : i / ks'.length < m := Nat.div_lt_of_lt_mul (by rw [Nat.mul_comm]; exact hlt)
          have hk' : ks'[i % ks'.length]? = some k := by
            rw [← hi]
            clear hi hlt hg hlen hks hc hu hx
            induction m generalizing i with
            | zero => exact absurd him (Nat.not_lt_zero _)
            | succ m ih =>
              rw [List.replicate_succ, List.flatten_cons]
              by_cases hil : i < ks'.length
              · rw [List.getElem?_append_left hil, Nat.mod_eq_of_lt hil]
              · rw [List.getElem?_append_right (by omega)]
                have h1 : (i - ks'.length) % ks'.length = i % ks'.length := (Nat.mod_eq_sub_mod (by omega)).symm
                have h2 : (i - ks'.length) / ks'.length < m := by
                  have := Nat.div_eq_sub_div hpos (by omega : ks'.length ≤ i)
                  omega
                rw [← ih (i - ks'.length) (Nat.div_add_mod _ _) (Nat.mod_lt _ hpos) h2, h1]
          have hx' := hg (i / ks'.length) him
          rw [List.getElem?_eq_getElem (by omega)] at hx'
          obtain ⟨v, hv, hl⟩ := flat_ok n e ks' _ _ _ hks hx' _ _ hk'
          rw [List.getElem?_take_of_lt (by rw [hc.1]; exact hr), List.getElem?_drop, hc.1] at hv
          refine ⟨v, ?_, hl⟩
          rw [← hv]
          congr 1
          rw [Nat.mul_comm] at hq
          exact hq.symm
        · cases h
      · cases h
    · cases h
theorem open_struct {r : Reach} {b0 : Nat} {t : TypeId} {fs : Array Field} {v : Value} {d : DataW H} {p : List MemPlace} {ks : List (Option (Option IntKind))} (n : Nat) (hs : P.underlying t = some (.struct fs)) (hf : flat P n t = some ks)
    (hv : Value.okWide P w r b0 t v) (h : DataW.Trod enc P w base spare held t v d p) : ∃ cs : Array Value, v = .agg cs ∧ cs.size = P.cellsOf t ∧ AllOk ks cs.toList := by
  obtain ⟨cs, rfl, hsz⟩ := okWide_struct hs hv
  obtain ⟨fuel, hx⟩ := h
  exact ⟨cs, rfl, hsz, flat_ok n t ks _ _ _ hf hx⟩
theorem open_array {r : Reach} {b0 : Nat} {t : TypeId} {m : Nat} {e : TypeId} {v : Value} {d : DataW H} {p : List MemPlace} {ks : List (Option (Option IntKind))} (n : Nat) (hs : P.underlying t = some (.array m e)) (hf : flat P n t = some ks)
    (hv : Value.okWide P w r b0 t v) (h : DataW.Trod enc P w base spare held t v d p) : ∃ cs : Array Value, v = .agg cs ∧ cs.size = P.cellsOf t ∧ AllOk ks cs.toList := by
  simp only [Value.okWide, hs] at hv
  obtain ⟨cs, rfl, hsz, _⟩ := hv
  obtain ⟨fuel, hx⟩ := h
  exact ⟨cs, rfl, hsz, flat_ok n t ks _ _ _ hf hx⟩
end
end Flat
end Go.Proofs.Ytbpnmjjmllgehaa
