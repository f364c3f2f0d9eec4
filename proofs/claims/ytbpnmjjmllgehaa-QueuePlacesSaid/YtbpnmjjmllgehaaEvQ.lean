/- The evaluator: slices as arguments of functions of which something is said. No condition. -/
import Derived.Test.YtbpnmjjmllgehaaEvP
namespace Go.Proofs.Ytbpnmjjmllgehaa
open Go Go.RowKit
namespace Ev
/-- a slice that is handed over: where it lies, how long it is, its elements, what must be the same for that -/
structure RA where
  a : Option Addr
  n : Nat
  g : Nat → Nat → Value
  ok : List (Nat × Nat)
def raR (a : Option Addr) (n k : Nat) : Option Row → Option RA
  | some R => some ⟨a, n, R.g, (n, R.n) :: (k, R.k) :: sameA a R.a⟩
  | none => none
def raL (a : Option Addr) (n k m1 off1 b : Nat) : Option (List Value) → Option RA
  | some l => some ⟨a, n, fun j c => (nthL l (j * k + c)).getD undef, (n, m1) :: sameA a (some ⟨b, off1, none⟩)⟩
  | none => none
def raE (a : Option Addr) (n k off1 m1 : Nat) : Option Nat → Option Ent → Option RA
  | some _, some e => raR a n k e.row
  | none, some e => raL a n k m1 off1 e.b (takeC e.cur off1 (m1 * k))
  | _, none => none
def rowArg (M : List Ent) (k : Nat) : Value × Value → Option RA
  | (.slice none _ _, .slice none 0 _) => some ⟨none, 0, fun _ _ => undef, []⟩
  | (.slice (some ⟨tag, off1, sp⟩) m1 _, .slice a n _) => raE a n k off1 m1 sp (find M tag)
  | _ => none
theorem rowArg_ok {N : Nat → Prop} {w0 w : World} {st : St} {k : Nat} {x : Value × Value} {A : RA} (hr : Rel N w0 st w) (h : rowArg st.M k x = some A) (hcl : ∀ y ∈ A.ok, y.1 = y.2) : (∃ c, x.2 = .slice A.a A.n c) ∧ RowT w A.a k A.n A.g := by
  unfold rowArg at h
  split at h
  · simp only [Option.some.injEq] at h
    subst h
    exact ⟨⟨_, rfl⟩, fun j c hj => by cases hj⟩
  · rename_i tag off1 sp m1 c1 a n c2
    refine ⟨?_, ?_⟩
    · unfold raE at h
      split at h
      · unfold raR at h
        split at h
        · simp only [Option.some.injEq] at h; subst h; exact ⟨_, rfl⟩
        · cases h
      · unfold raL at h
        split at h
        · simp only [Option.some.injEq] at h; subst h; exact ⟨_, rfl⟩
        · cases h
      · cases h
    · unfold raE at h
      split at h
      · rename_i q e hf
        obtain ⟨_, _, hE⟩ := hr.ent (find_mem hf)
        unfold raR at h
        split at h
        · rename_i R hrow
          simp only [Option.some.injEq] at h
          subst h
          simp only at hcl ⊢
          have c1 : n = R.n := hcl (n, R.n) (by simp)
          have c2 : k = R.k := hcl (k, R.k) (by simp)
          intro j c hj hc
          obtain ⟨h1, h2⟩ := row_cell hE hrow (j := j) (c := c) (by omega) (by omega)
          have ha := sameA_eq (a := a) (fun y hy => hcl y (List.mem_cons_of_mem _ (List.mem_cons_of_mem _ hy))) h1
          subst ha
          exact ⟨rfl, by rw [c2]; exact h2⟩
        · cases h
      · rename_i e hf
        obtain ⟨_, _, hE⟩ := hr.ent (find_mem hf)
        unfold raL at h
        split at h
        · rename_i l hl
          simp only [Option.some.injEq] at h
          subst h
          simp only at hcl ⊢
          have c1 : n = m1 := hcl (n, m1) (by simp)
          have ha := sameA_eq (a := a) (fun y hy => hcl y (List.mem_cons_of_mem _ hy)) rfl
          subst ha c1
          obtain ⟨t1, t2⟩ := takeC_get hl
          intro j c hj hc
          refine ⟨rfl, ?_⟩
          have hlt : j * k + c < l.length := by
            have h1 : (j + 1) * k ≤ n * k := Nat.mul_le_mul_right k hj
            rw [Nat.add_mul] at h1
            omega
          have := t2 (j * k + c) _ (List.getElem?_eq_getElem hlt)
          have h2 := hE.cells _ _ this
          show w.cell? ⟨e.b, off1 + (j * k + c), none⟩ = some ((nthL l (j * k + c)).getD undef)
          rw [h2, nthL_get, List.getElem?_eq_getElem hlt]
          rfl
        · cases h
      · cases h
  · cases h
def payI : Value → Int
  | .int _ z => z
  | _ => 0
def isI (kk : IntKind) : Value → Bool
  | .int k _ => Nat.beq (kn kk) (kn k)
  | _ => false
theorem isI_eq {kk : IntKind} {v : Value} (h : isI kk v = true) : v = .int kk (payI v) := by
  unfold isI at h
  split at h
  · rw [kn_inj h]; rfl
  · cases h
/-- its elements are whole numbers -/
def kindR (kk : IntKind) (g : Nat → Nat → Value) (n : Nat) : Bool := decide (∀ j, j < n → isI kk (g j 0) = true)
theorem kindR_row {kk : IntKind} {g : Nat → Nat → Value} {n : Nat} {a : Option Addr} {w : World} (h : kindR kk g n = true) (hr : RowT w a 1 n g) : RowT w a 1 n fun j _ => .int kk (payI (g j 0)) := by
  simp only [kindR, decide_eq_true_eq] at h
  intro j c hj hc
  have hc0 : c = 0 := by omega
  subst hc0
  obtain ⟨h1, h2⟩ := hr j 0 hj hc
  exact ⟨h1, by rw [h2]; exact congrArg some (isI_eq (h j hj))⟩
theorem kindR_t {kk : IntKind} {f : Nat → Int} {n : Nat} : kindR kk (fun j _ => .int kk (f j)) n = true := by
  unfold kindR
  exact decide_eq_true fun j _ => Nat.beq_refl _
theorem flatR_t {kk : IntKind} {f : Nat → Int} {n k : Nat} : flatR (fun j _ => .int kk (f j)) n k = true := by
  simp [flatR, flatV]
end Ev
end Go.Proofs.Ytbpnmjjmllgehaa
