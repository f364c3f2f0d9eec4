/- The evaluator: what a loop does, out of what its body does. No condition. -/
import Derived.Test.YtbpnmjjmllgehaaEvL
namespace Go.Proofs.Ytbpnmjjmllgehaa
open Go Go.RowKit
namespace Ev
/-- slots of which nothing is known but their values -/
def junk (jv : Nat → Value) : Nat → List (Nat × Value × Value)
  | 0 => []
  | t + 1 => (t, undef, jv t) :: junk jv t
/-- a block that a loop changes: its tag, its number, the type of its cells -/
abbrev CD := Nat × Nat × Nat
def cEnt (d : CD) (l : List Value) : Ent := ⟨d.1, d.2.1, .cells (l.map fun _ => undef).toArray d.2.2, .cells l.toArray d.2.2, true, true, none, none⟩
def cEnts : List CD → List (List Value) → List Ent
  | d :: ds, l :: ls => cEnt d l :: cEnts ds ls
  | _, _ => []
def zipH : List Nat → List Value → List Value → List (Nat × Value × Value)
  | t :: ts, h :: hs, v :: vs => (t, h, v) :: zipH ts hs vs
  | _, _, _ => []
section
variable {P : Program} {N : Nat → Prop} {w0 w : World} {G : Sum}
theorem look_junk {jv : Nat → Value} : ∀ {n t : Nat}, (lookL (junk jv n) t).2 = if t < n then jv t else undef
  | 0, t => by rw [if_neg (by omega)]; rfl
  | n + 1, t => by
    show (lookL ((n, undef, jv n) :: junk jv n) t).2 = _
    rw [look_cons]
    by_cases h : n = t
    · subst h; rw [if_pos rfl, if_pos (by omega)]
    · rw [if_neg h, look_junk]
      by_cases h2 : t < n
      · rw [if_pos h2, if_pos (by omega)]
      · rw [if_neg h2, if_neg (by omega)]
theorem look_K {f : Nat → Value} {r : List (Nat × Value × Value)} {t : Nat} (hr : (lookL r t).2 = f t) : ∀ K : List (Nat × Value × Value), (∀ x ∈ K, f x.1 = x.2.2) → (lookL (K ++ r) t).2 = f t
  | [], _ => hr
  | x :: K, h => by
    obtain ⟨d, v⟩ := x
    show (lookL ((d, v) :: (K ++ r)) t).2 = _
    rw [look_cons]
    by_cases hd : d = t
    · subst hd; rw [if_pos rfl]; exact (h _ (List.mem_cons_self ..)).symm
    · rw [if_neg hd]; exact look_K hr K fun x hx => h x (List.mem_cons_of_mem _ hx)
theorem frOk_body {a : Act} {n : Nat} (hs : a.tmps.size = n) (hd : a.defers = []) {K : List (Nat × Value × Value)} (hK : ∀ x ∈ K, a.tmps.getD x.1 undef = x.2.2) : FrOk ⟨n, K ++ junk (fun t => a.tmps.getD t undef) n, []⟩ a := by
  refine ⟨hs, fun t => (look_K (f := fun t => a.tmps.getD t undef) ?_ K hK).symm, hd⟩
  rw [look_junk]
  by_cases h : t < n
  · rw [if_pos h]
  · rw [if_neg h, Array.getD_eq_getD_getElem?, Array.getElem?_eq_none (by omega)]; rfl
theorem mem_zipH {x : Nat × Value × Value} : ∀ {ts : List Nat} {hs vs : List Value}, x ∈ zipH ts hs vs → ∃ i : Nat, ts[i]? = some x.1 ∧ vs[i]? = some x.2.2
  | [], _, _, h => by cases h
  | _ :: _, [], _, h => by cases h
  | _ :: _, _ :: _, [], h => by cases h
  | t :: ts, a :: hs, v :: vs, h => by
    rcases List.mem_cons.1 h with rfl | h
    · exact ⟨0, rfl, rfl⟩
    · obtain ⟨i, h1, h2⟩ := mem_zipH h
      exact ⟨i + 1, h1, h2⟩
theorem getD_map {ts : List Nat} {f : Nat → Value} {vs : List Value} (h : ts.map f = vs) {i t : Nat} {v : Value} (h1 : ts[i]? = some t) (h2 : vs[i]? = some v) : f t = v := by
  subst h
  simp only [List.getElem?_map, h1, Option.map_some, Option.some.injEq] at h2
  exact h2
/-- those blocks hold that -/
def CsOk (w : World) : List CD → List (List Value) → Prop
  | [], [] => True
  | d :: ds, l :: ls => w.heap[d.2.1]? = some (.cells l.toArray d.2.2) ∧ CsOk w ds ls
  | _, _ => False
theorem mem_cEnts {w : World} {e : Ent} : ∀ {ds : List CD} {cs : List (List Value)}, CsOk w ds cs → e ∈ cEnts ds cs → ∃ d ∈ ds, ∃ l, e = cEnt d l ∧ w.heap[d.2.1]? = some (.cells l.toArray d.2.2)
  | [], [], _, h => by cases h
  | d :: ds, l :: ls, hc, h => by
    rcases List.mem_cons.1 h with rfl | h
    · exact ⟨d, List.mem_cons_self .., l, rfl, hc.1⟩
    · obtain ⟨d', h1, l', h2⟩ := mem_cEnts hc.2 h
      exact ⟨d', List.mem_cons_of_mem _ h1, l', h2⟩
  | [], _ :: _, hc, _ => hc.elim
  | _ :: _, [], hc, _ => hc.elim
theorem csOk_mono {w w' : World} : ∀ {ds : List CD} {cs : List (List Value)}, CsOk w ds cs → (∀ d ∈ ds, w'.heap[d.2.1]? = w.heap[d.2.1]?) → CsOk w' ds cs
  | [], [], _, _ => trivial
  | d :: ds, l :: ls, hc, h => ⟨by rw [h d (List.mem_cons_self ..)]; exact hc.1, csOk_mono hc.2 fun d hd => h d (List.mem_cons_of_mem _ hd)⟩
  | [], _ :: _, hc, _ => hc.elim
  | _ :: _, [], hc, _ => hc.elim
end
end Ev
end Go.Proofs.Ytbpnmjjmllgehaa
