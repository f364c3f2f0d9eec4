/- Contracts of package trickle: small functions. -/
import Derived.Test.YtfigmjkogkfkiaaDoorEvQ
import Derived.Test.YtfigmjkogkfkiaaDoorRndA
namespace Go.Proofs.YtfigmjkogkfkiaaDoor
open Go Go.ChangeShapes Go.WideShapes Go.ChangeAt Go.RowKit
set_option linter.all false
theorem isLen_T0 : True := trivial
theorem isLen_L (n : Int) (r : Ev.Sup) : ((Ev.evalF Tryd.prog Ev.noS 60 31 [undef] [.int .i64 n] [] r)).lhs = ((Ev.evalF Tryd.prog Ev.noS 60 31 [undef] [.int .i64 n] [] r)).rhs := by kernel_rfl
theorem isLen_T (n : Int) (r : Ev.Sup) : ((Ev.evalF Tryd.prog Ev.noS 60 31 [undef] [.int .i64 n] [] r)).val = (.ite (n == 1) (.leaf (.bool (true))) (.ite (n == 2) (.leaf (.bool (true))) (.ite (n == 4) (.leaf (.bool (true))) (.leaf (.bool (n == 8)))))) := by kernel_rfl
theorem within_L (n lo hi : Int) (r : Ev.Sup) : ((Ev.evalF Tryd.prog Ev.noS 60 28 [undef, undef, undef] [.int .i64 n, .int .i64 lo, .int .i64 hi] [] r)).lhs = ((Ev.evalF Tryd.prog Ev.noS 60 28 [undef, undef, undef] [.int .i64 n, .int .i64 lo, .int .i64 hi] [] r)).rhs := by kernel_rfl
theorem within_T (n lo hi : Int) (r : Ev.Sup) : ((Ev.evalF Tryd.prog Ev.noS 60 28 [undef, undef, undef] [.int .i64 n, .int .i64 lo, .int .i64 hi] [] r)).val = (.ite (decide (lo ≤ n)) (.leaf (.bool (decide (n ≤ hi)))) (.leaf (.bool (false)))) := by kernel_rfl
theorem rframe_L (n : Int) (r : Ev.Sup) : ((Ev.evalF Tryd.prog Ev.noS 60 22 [undef] [.int .i64 n] [] r)).lhs = ((Ev.evalF Tryd.prog Ev.noS 60 22 [undef] [.int .i64 n] [] r)).rhs := by kernel_rfl
theorem rframe_T (n : Int) (r : Ev.Sup) : ((Ev.evalF Tryd.prog Ev.noS 60 22 [undef] [.int .i64 n] [] r)).val = (.ite (decide (n ≥ 0)) (.leaf (.bool (decide (n ≤ 999999984)))) (.leaf (.bool (false)))) := by kernel_rfl
def lenP (n : Int) : Bool := n == 1 || n == 2 || n == 4 || n == 8
def rgP (n lo hi : Int) : Bool := decide (lo ≤ n) && decide (n ≤ hi)
/-- leaves by simplification -/
theorem isLen_c (n : Int) (w : World) : Calls Tryd.prog 31 #[.int .i64 n] w fun e w' => e = .returned (.bool (lenP n)) ∧ Below w.heap.size w w' := by
  refine Ev.contract1 Ev.noS_ok 60 (Ev.ExtOk.nil w) (isLen_L n) (isLen_T n) ?_
  simp only [Ev.Tree.good, lenP]
  simp +contextual
theorem within_c (n lo hi : Int) (w : World) : Calls Tryd.prog 28 #[.int .i64 n, .int .i64 lo, .int .i64 hi] w fun e w' => e = .returned (.bool (rgP n lo hi)) ∧ Below w.heap.size w w' := by
  refine Ev.contract1 Ev.noS_ok 60 (Ev.ExtOk.nil w) (within_L n lo hi) (within_T n lo hi) ?_
  simp only [Ev.Tree.good, rgP]
  simp +contextual
  omega
theorem rframe_c (n : Int) (w : World) : Calls Tryd.prog 22 #[.int .i64 n] w fun e w' => e = .returned (.bool (rgP n 0 999999984)) ∧ Below w.heap.size w w' := by
  refine Ev.contract1 Ev.noS_ok 60 (Ev.ExtOk.nil w) (rframe_L n) (rframe_T n) ?_
  simp only [Ev.Tree.good, rgP]
  simp +contextual
  omega
/-- what is said of the small functions -/
def sLen : List Value → Option Value
  | [x0] => match Ev.toLf x0 with
    | some (.i .i64 n) => some (.bool (lenP n))
    | _ => none
  | _ => none
theorem sLen_ok : ∀ a v, sLen a = some v → ∀ w, Calls Tryd.prog 31 a.toArray w fun e w' => e = .returned v ∧ Below w.heap.size w w' := by
  intro a v h w
  unfold sLen at h
  split at h
  · rename_i x0
    split at h
    · rename_i n h0
      have e0 := Ev.toLf_eq h0
      subst e0
      cases h
      exact isLen_c n w
    · cases h
  · cases h
def sWithin : List Value → Option Value
  | [x0, x1, x2] => match Ev.toLf x0, Ev.toLf x1, Ev.toLf x2 with
    | some (.i .i64 n), some (.i .i64 lo), some (.i .i64 hi) => some (.bool (rgP n lo hi))
    | _, _, _ => none
  | _ => none
theorem sWithin_ok : ∀ a v, sWithin a = some v → ∀ w, Calls Tryd.prog 28 a.toArray w fun e w' => e = .returned v ∧ Below w.heap.size w w' := by
  intro a v h w
  unfold sWithin at h
  split at h
  · rename_i x0 x1 x2
    split at h
    · rename_i n lo hi h0 h1 h2
      have e0 := Ev.toLf_eq h0
      have e1 := Ev.toLf_eq h1
      have e2 := Ev.toLf_eq h2
      subst e0; subst e1; subst e2
      cases h
      exact within_c n lo hi w
    · cases h
  · cases h
def sFrame : List Value → Option Value
  | [x0] => match Ev.toLf x0 with
    | some (.i .i64 n) => some (.bool (rgP n 0 999999984))
    | _ => none
  | _ => none
theorem sFrame_ok : ∀ a v, sFrame a = some v → ∀ w, Calls Tryd.prog 22 a.toArray w fun e w' => e = .returned v ∧ Below w.heap.size w w' := by
  intro a v h w
  unfold sFrame at h
  split at h
  · rename_i x0
    split at h
    · rename_i n h0
      have e0 := Ev.toLf_eq h0
      subst e0
      cases h
      exact rframe_c n w
    · cases h
  · cases h
theorem rbelow_c (s n : Int) (w : World) : Calls Tryd.prog 30 #[.int .u64 s, .int .i64 n] w fun e w' => e = .returned (.int .i64 (bel s n)) ∧ Below w.heap.size w w' :=
  (rbelow rfl w).mono fun e w' ⟨he, hw⟩ => ⟨he, by rw [hw]; exact Below.refl _ _⟩
theorem below_c (s n : Int) (w : World) (ht : Tab w) : Calls Tryd.prog 29 #[.int .u64 s, .int .i64 n] w fun e w' => e = .returned (.int .i64 (bel s n)) ∧ Below w.heap.size w w' := below rfl w ht
def sRBelow : List Value → Option Value
  | [x0, x1] => match Ev.toLf x0, Ev.toLf x1 with
    | some (.i .u64 s), some (.i .i64 n) => some (.int .i64 (bel s n))
    | _, _ => none
  | _ => none
theorem sRBelow_ok : ∀ a v, sRBelow a = some v → ∀ w, Calls Tryd.prog 30 a.toArray w fun e w' => e = .returned v ∧ Below w.heap.size w w' := by
  intro a v h w
  unfold sRBelow at h
  split at h
  · rename_i x0 x1
    split at h
    · rename_i s n h0 h1
      have e0 := Ev.toLf_eq h0
      have e1 := Ev.toLf_eq h1
      subst e0; subst e1
      cases h
      exact rbelow_c s n w
    · cases h
  · cases h
def sBelow : List Value → Option Value
  | [x0, x1] => match Ev.toLf x0, Ev.toLf x1 with
    | some (.i .u64 s), some (.i .i64 n) => some (.int .i64 (bel s n))
    | _, _ => none
  | _ => none
theorem sBelow_ok : ∀ a v, sBelow a = some v → ∀ w, Tab w → Calls Tryd.prog 29 a.toArray w fun e w' => e = .returned v ∧ Below w.heap.size w w' := by
  intro a v h w hside
  unfold sBelow at h
  split at h
  · rename_i x0 x1
    split at h
    · rename_i s n h0 h1
      have e0 := Ev.toLf_eq h0
      have e1 := Ev.toLf_eq h1
      subst e0; subst e1
      cases h
      exact below_c s n w hside
    · cases h
  · cases h
/-- the table, as a block that is known -/
def tabL : List Value := [.int .u64 30, .int .u64 13787848793156543929, .int .u64 27, .int .u64 10723151780598845931, .int .u64 31, .int .u64 1]
def tabE : Ev.Ent := Ev.tabE 0 tabL
theorem tab_ext {w : World} (h : Tab w) : Ev.ExtOk w [tabE] := Ev.tab_ext (g := 0) (x := .int .u64 30) (L := tabL.tail) h
/-- a function of values and of the table -/
def tabH (k : Value → Value) (g : List Value → Option Value) : Ev.SumF := Ev.tabH 0 tabL k g
def tabS : (List Value → Option Value) → Ev.SumF := tabH Ev.pois
theorem tabH_ok {k : Value → Value} {f : FuncId} {g : List Value → Option Value} (h : ∀ a v, g a = some v → ∀ w, Tab w → Calls Tryd.prog f a.toArray w fun e w' => e = .returned v ∧ Below w.heap.size w w') (N : Nat → Prop) (w0 : World) : Ev.SumOk1 Tryd.prog N w0 f (tabH k g) :=
  Ev.tabH_ok (n := 0) (L := tabL) (fun a v hg w ht => h a v hg w ht) N w0
theorem tabS_ok {f : FuncId} {g : List Value → Option Value} (h : ∀ a v, g a = some v → ∀ w, Tab w → Calls Tryd.prog f a.toArray w fun e w' => e = .returned v ∧ Below w.heap.size w w') (N : Nat → Prop) (w0 : World) : Ev.SumOk1 Tryd.prog N w0 f (tabS g) := tabH_ok h N w0
noncomputable def G1 : Ev.Sum := Ev.addS 31 (Ev.pureS sLen) (Ev.addS 28 (Ev.pureS sWithin) (Ev.addS 22 (Ev.pureS sFrame) (Ev.addS 30 (Ev.pureS sRBelow) (Ev.addS 29 (tabS sBelow) Ev.noS))))
theorem G1_ok : ∀ N w0, Ev.SumOk Tryd.prog N w0 G1 :=
  Ev.addS_ok (Ev.pureS_ok sLen_ok) (Ev.addS_ok (Ev.pureS_ok sWithin_ok) (Ev.addS_ok (Ev.pureS_ok sFrame_ok) (Ev.addS_ok (Ev.pureS_ok sRBelow_ok) (Ev.addS_ok (tabS_ok sBelow_ok) Ev.noS_ok))))
end Go.Proofs.YtfigmjkogkfkiaaDoor
