/- Slices of structs of numbers that come in: rows of the evaluator. -/
import Derived.Test.YtbpnmjjmllgehaaEvQ
import Derived.Deep.Slices
import Derived.Deep.Fields
import Derived.ChangeSame
namespace Go.Proofs.Ytbpnmjjmllgehaa
open Go Go.ChangeShapes Go.WideShapes Go.ChangeAt Go.RowKit Go.Deep
theorem open_rows {H : Type} {enc : TypeId × Value → H} {P : Program} {w : World} {base : Nat} {spare : Nat → Bool} {held : Bool} {t e : TypeId} {fs : Array Field} {K : IntKind} {fuel : Nat} {cs : List Value} {x : DataW H × List MemPlace}
    (ht : P.underlying t = some (.slice e)) (he : P.underlying e = some (.struct fs)) (hone : oneCellFields P fs = true) (hC : P.cellsOf e = fs.size) (hk : ∀ (j : Nat) (f : Field), fs[j]? = some f → P.underlying f.type = some (.int K))
    (h : DataW.trod enc P w base spare held fuel t cs = some x) :
    ∃ (a : Option Addr) (len cap : Nat) (f : Nat → Nat → Int), cs = [.slice a len cap] ∧ Ev.RowT w a fs.size len (fun j c => .int K (f j c)) ∧ ∀ j c, j < len → c < fs.size → (Lit.int K (f j c)).wf = true := by
  rcases open_slice ht h with ⟨hcs, _⟩ | ⟨a, len, cap, m, n, D, Pl, hcs, hb, hl, hm, hmm, hx, hi⟩
  · exact ⟨none, 0, 0, fun _ _ => 0, hcs, fun j c hj => absurd hj (Nat.not_lt_zero _), fun j c hj => absurd hj (Nat.not_lt_zero _)⟩
  · have cell : ∀ i j, i < len → j < fs.size → ∃ z, w.cell? (a.add (i * fs.size + j)) = some (.int K z) ∧ (Lit.int K z).wf = true := by
      intro i j hil hj
      obtain ⟨cs', hc, ht'⟩ := hi i (by rw [hmm]; split <;> omega)
      rw [hC] at hc
      obtain ⟨ys, n', hn', hy, hlen, hyl, hf⟩ := DataW.trod_struct he ht'
      obtain ⟨_, hcl, hat⟩ := World.cells?_some hc
      have hfj : fs[j]? = some fs[j] := Array.getElem?_eq_getElem hj
      obtain ⟨ho, hk'⟩ := hone_of hone j _ hfj
      have h1 := hf j _ hfj
      rw [ho, hk'] at h1
      have hcell := hat j hj
      have hv : cs'[j]? = some (cs'[j]'(by omega)) := List.getElem?_eq_getElem (by omega)
      have hone' : (cs'.drop j).take 1 = [cs'[j]'(by omega)] := by
        rw [List.drop_eq_getElem_cons (by omega)]
        rfl
      rw [hone'] at h1
      have hys : ys[j]? = some (ys[j]'(by omega)) := List.getElem?_eq_getElem (by omega)
      obtain ⟨z, ez, _, wz⟩ := DataW.trod_int (hk j _ hfj) (h1.trans hys)
      simp only [List.cons.injEq, and_true] at ez
      refine ⟨z, ?_, wz⟩
      rw [← Go.Deep.add_add, hcell, hv, ez]
    have pick : ∃ f : Nat → Nat → Int, ∀ i j, i < len → j < fs.size → w.cell? (a.add (i * fs.size + j)) = some (.int K (f i j)) ∧ (Lit.int K (f i j)).wf = true := by
      refine ⟨fun i j => if h : i < len ∧ j < fs.size then (cell i j h.1 h.2).choose else 0, fun i j h1 h2 => ?_⟩
      simp only [h1, h2, and_self, dite_true]
      exact (cell i j h1 h2).choose_spec
    obtain ⟨f, hf⟩ := pick
    refine ⟨some a, len, cap, f, hcs, fun j c hj hc => ?_, fun j c hj hc => (hf j c hj hc).2⟩
    have hsp : a.spot = none := by
      have h0 := (hf 0 0 (by omega) (by omega)).1
      cases hs : a.spot with
      | none => rfl
      | some q =>
        have : (a.add (0 * fs.size + 0)) = a := by simp [Addr.add]
        rw [this] at h0
        simp only [World.cell?] at h0
        split at h0
        · rw [hs] at h0; simp at h0
        · cases h0
    obtain ⟨xb, xo, xs⟩ := a
    simp only at hsp
    subst hsp
    refine ⟨rfl, ?_⟩
    have := (hf j c hj hc).1
    rw [Ev.add_none] at this
    simpa [Ev.getA] using this
end Go.Proofs.Ytbpnmjjmllgehaa
