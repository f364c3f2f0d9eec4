/- The evaluator: functions that read a table of the package. No condition. -/
import Derived.Test.YtbpnmjjmllgehaaEvN
namespace Go.Proofs.Ytbpnmjjmllgehaa
open Go Go.RowKit
namespace Ev
def sameI : List Value → List Value → Bool
  | [], [] => true
  | .int k a :: l, .int k' b :: m => (match decide (k = k' ∧ a = b) with | true => sameI l m | false => false)
  | _, _ => false
theorem sameI_eq : ∀ l m, sameI l m = true → l = m
  | [], [], _ => rfl
  | [], _ :: _, h => by simp [sameI] at h
  | _ :: _, [], h => by simp [sameI] at h
  | x :: l, y :: m, h => by
    unfold sameI at h
    split at h
    · rename_i h1 h2
      cases h1
    · rename_i k a l' k' b m' h1 h2
      simp only [List.cons.injEq] at h1 h2
      obtain ⟨rfl, rfl⟩ := h1
      obtain ⟨rfl, rfl⟩ := h2
      split at h
      · rename_i hd
        obtain ⟨rfl, rfl⟩ := of_decide_eq_true hd
        rw [sameI_eq l m h]
      · cases h
    · cases h
def objL : Obj → List Value
  | .cells c _ _ => c.toList
  | _ => []
/-- the package's variable g holds those cells -/
def TabW (g : Nat) (L : List Value) (w : World) : Prop := ∀ i v, L[i]? = some v → w.cell? ⟨g, i, none⟩ = some v
def tabE (g : Nat) (L : List Value) : Ent := ext g g L L
theorem tab_ext {g : Nat} {x : Value} {L : List Value} {w : World} (h : TabW g (x :: L) w) : ExtOk w [tabE g (x :: L)] := by
  intro e he
  rcases List.mem_singleton.1 he with rfl
  have hc : ∀ off v, cellAt (tabE g (x :: L)).cur off = some v → w.cell? ⟨g, off, none⟩ = some v := fun off v hv => h off v (by simpa [cellAt, tabE, ext, nthL_get] using hv)
  exact ⟨rfl, .inl ⟨lt_of (hc 0 x rfl), rfl, ⟨fun ho => (by cases ho), hc, fun _ R hR => (by cases hR)⟩⟩⟩
def nthZ : List Int → Nat → Int
  | [], _ => 0
  | z :: _, 0 => z
  | _ :: l, i + 1 => nthZ l i
/-- a table of whole numbers, that may be read at any place -/
def tabI (k : IntKind) (g : Nat) (zs : List Int) : Ent := ⟨g, g, .cells (zs.map (.int k)).toArray 0, .cells (zs.map (.int k)).toArray 0, false, false, some ⟨some ⟨g, 0, none⟩, 1, zs.length, fun j _ => .int k (nthZ zs j)⟩, none⟩
theorem nthZ_get {k : IntKind} : ∀ (zs : List Int) (j : Nat), j < zs.length → (zs.map (Value.int k))[j]? = some (.int k (nthZ zs j))
  | [], j, h => by simp at h
  | z :: zs, 0, _ => rfl
  | z :: zs, j + 1, h => by
    have := nthZ_get (k := k) zs j (by simpa using h)
    simpa [nthZ] using this
theorem tabI_holds {k : IntKind} {g : Nat} {zs : List Int} {w : World} (h : TabW g (zs.map (.int k)) w) : (tabI k g zs).Holds w := by
  refine ⟨fun ho => (by cases ho), fun off v hv => h off v (by simpa [cellAt, tabI, nthL_get] using hv), fun _ R hR j c hj hk => ?_⟩
  simp only [tabI, Option.some.injEq] at hR
  subst hR
  simp only at hj hk ⊢
  have : c = 0 := by omega
  subst this
  refine ⟨rfl, ?_, fun _ _ h => (by cases h)⟩
  have := h j _ (nthZ_get (k := k) _ _ hj)
  simpa [getA, tabI] using this
theorem tabI_ext {k : IntKind} {g : Nat} {z : Int} {zs : List Int} {w : World} (h : TabW g ((z :: zs).map (.int k)) w) : ExtOk w [tabI k g (z :: zs)] := by
  intro e he
  rcases List.mem_singleton.1 he with rfl
  exact ⟨rfl, .inl ⟨lt_of (h 0 (.int k z) rfl), rfl, tabI_holds h⟩⟩
def hintK (h : Value → Value) (st : St) (r : Sup) : Option Value → Tree VR
  | some v => .leaf (h v, v, st, r)
  | none => .fail 45
def tabK (h : Value → Value) (g : List Value → Option Value) (a2 : List Value) (st : St) (r : Sup) : Bool → Tree VR
  | true => hintK h st r (g a2)
  | false => .fail 46
def tabK2 (n : Nat) (L : List Value) (h : Value → Value) (g : List Value → Option Value) (a2 : List Value) (st : St) (r : Sup) : Option Ent → Tree VR
  | some e => .claim e.b n (tabK h g a2 st r (sameI (objL e.cur) L))
  | none => .fail 47
/-- a function of values and of the table -/
def tabH (n : Nat) (L : List Value) (k : Value → Value) (g : List Value → Option Value) : SumF := fun _ a2 st r => tabK2 n L k g a2 st r (find st.M n)
def tabS (n : Nat) (L : List Value) : (List Value → Option Value) → SumF := tabH n L pois
theorem tabH_ok {P : Program} {n : Nat} {L : List Value} {k : Value → Value} {f : FuncId} {g : List Value → Option Value} (h : ∀ a v, g a = some v → ∀ w, TabW n L w → Calls P f a.toArray w fun e w' => e = .returned v ∧ Below w.heap.size w w') (N : Nat → Prop) (w0 : World) : SumOk1 P N w0 f (tabH n L k g) := by
  intro a1 a2 st Q K w hq hr
  unfold tabH at hq
  cases hf : find st.M n with
  | none => rw [hf] at hq; exact (hq r0).elim
  | some e =>
    rw [hf] at hq
    simp only [tabK2] at hq
    have hb : e.b = n := (hq r0).1
    have h2 := fun r => (hq r).2
    cases hs : sameI (objL e.cur) L with
    | false => rw [hs] at h2; exact (h2 r0).elim
    | true =>
      rw [hs] at h2
      simp only [tabK] at h2
      have hl := sameI_eq _ _ hs
      have ht : TabW n L w := by
        intro i v hi
        obtain ⟨_, _, hE0⟩ := hr.ent (find_mem hf)
        have hE := hE0.cells i v ((by
          cases hc : e.cur with
          | cells c t fz =>
            rw [hc] at hl
            simp only [objL] at hl
            simp only [cellAt, nthL_get]
            rw [hl]
            exact hi
          | _ => rw [hc] at hl; simp only [objL] at hl; subst hl; simp at hi))
        rwa [hb] at hE
      cases hg : g a2 with
      | none => rw [hg] at h2; exact (h2 r0).elim
      | some v =>
        rw [hg] at h2
        exact (h a2 v hg w ht).mono fun e w' ⟨he, hbl⟩ => .inl ⟨_, v, st, he, h2, rel_below hr hbl⟩
end Ev
end Go.Proofs.Ytbpnmjjmllgehaa
