/- Plane: the head, Near, validity. -/
import Derived.Test.YtacadafnpnpnpaaEvQ
namespace Go.Proofs.Ytacadafnpnpnpaa
open Go Go.ChangeShapes Go.WideShapes Go.ChangeAt Go.RowKit
set_option linter.all false
theorem head_L  (r : Ev.Sup) : ((Ev.evalF Try.prog Ev.noS 60 10 [] [] [] r)).lhs = ((Ev.evalF Try.prog Ev.noS 60 10 [] [] [] r)).rhs := by kernel_rfl
theorem head_T  (r : Ev.Sup) : ((Ev.evalF Try.prog Ev.noS 60 10 [] [] [] r)).val = (.leaf (.bool (true))) := by kernel_rfl
theorem head_c (w : World) : Calls Try.prog 10 #[] w fun e w' => e = .returned (.bool true) ∧ Below w.heap.size w w' :=
  Ev.contract1 Ev.noS_ok 60 (Ev.ExtOk.nil w) head_L head_T rfl
def sHead : List Value → Option Value
  | [] => some (.bool true)
  | _ => none
theorem sHead_ok : ∀ a v, sHead a = some v → ∀ w, Calls Try.prog 10 a.toArray w fun e w' => e = .returned v ∧ Below w.heap.size w w' := by
  intro a v h w
  unfold sHead at h
  split at h
  · cases h; exact head_c w
  · cases h
theorem near_L (a b c d q : Int) (r : Ev.Sup) : ((Ev.evalF Try.prog Ev.noS 60 14 [.agg #[undef, undef], .agg #[undef, undef], undef] [.agg #[.int .i64 a, .int .i64 b], .agg #[.int .i64 c, .int .i64 d], .int .i64 q] [] r)).lhs = ((Ev.evalF Try.prog Ev.noS 60 14 [.agg #[undef, undef], .agg #[undef, undef], undef] [.agg #[.int .i64 a, .int .i64 b], .agg #[.int .i64 c, .int .i64 d], .int .i64 q] [] r)).rhs := by kernel_rfl
theorem near_T (a b c d q : Int) (r : Ev.Sup) : ((Ev.evalF Try.prog Ev.noS 60 14 [.agg #[undef, undef], .agg #[undef, undef], undef] [.agg #[.int .i64 a, .int .i64 b], .agg #[.int .i64 c, .int .i64 d], .int .i64 q] [] r)).val = (.ite (decide (0 ≤ a)) (.ite (decide (a ≤ 10000)) (.ite (decide (0 ≤ b)) (.ite (decide (b ≤ 10000)) (.ite (decide (0 ≤ c)) (.ite (decide (c ≤ 10000)) (.ite (decide (0 ≤ d)) (.ite (decide (d ≤ 10000)) (.ite (decide (0 ≤ q)) (.ite (decide (q ≤ 20000)) (.ite (a == c && (b == d && true)) (.leaf (.bool (true))) (.leaf (.bool (decide (IntKind.wrap IntKind.i64 (IntKind.wrap IntKind.i64 (IntKind.wrap IntKind.i64 (a - c) * IntKind.wrap IntKind.i64 (a - c)) + IntKind.wrap IntKind.i64 (IntKind.wrap IntKind.i64 (b - d) * IntKind.wrap IntKind.i64 (b - d))) ≤ IntKind.wrap IntKind.i64 (q * q)))))) (.leaf (.bool (false)))) (.leaf (.bool (false)))) (.leaf (.bool (false)))) (.leaf (.bool (false)))) (.leaf (.bool (false)))) (.leaf (.bool (false)))) (.leaf (.bool (false)))) (.leaf (.bool (false)))) (.leaf (.bool (false)))) (.leaf (.bool (false)))) := by kernel_rfl
theorem rval_L (a b : Int) (r : Ev.Sup) : ((Ev.evalF Try.prog Ev.noS 60 19 [.agg #[undef, undef]] [.agg #[.int .i64 a, .int .i64 b]] [] r)).lhs = ((Ev.evalF Try.prog Ev.noS 60 19 [.agg #[undef, undef]] [.agg #[.int .i64 a, .int .i64 b]] [] r)).rhs := by kernel_rfl
theorem rval_T (a b : Int) (r : Ev.Sup) : ((Ev.evalF Try.prog Ev.noS 60 19 [.agg #[undef, undef]] [.agg #[.int .i64 a, .int .i64 b]] [] r)).val = (.ite (decide (a ≥ 0)) (.ite (decide (a ≤ 10000)) (.ite (decide (b ≥ 0)) (.leaf (.bool (decide (b ≤ 10000)))) (.leaf (.bool (false)))) (.leaf (.bool (false)))) (.leaf (.bool (false)))) := by kernel_rfl
def plOk (a b : Int) : Bool := decide (0 ≤ a ∧ a ≤ 10000 ∧ 0 ≤ b ∧ b ≤ 10000)
def nearP (a b c d q : Int) : Bool := plOk a b && (plOk c d && (decide (0 ≤ q ∧ q ≤ 20000) && decide ((a - c) * (a - c) + (b - d) * (b - d) ≤ q * q)))
theorem w64 {x : Int} (h1 : -9223372036854775808 ≤ x) (h2 : x ≤ 9223372036854775807) : IntKind.wrap .i64 x = x := by
  simp only [IntKind.wrap, IntKind.bits, IntKind.signed]
  simp
  omega
theorem sq_b {x m : Int} (h1 : -m ≤ x) (h2 : x ≤ m) : 0 ≤ x * x ∧ x * x ≤ m * m := by
  have e : ((x.natAbs * x.natAbs : Nat) : Int) = x * x := by rw [Int.natAbs_mul_self]
  have e2 : ((m.natAbs * m.natAbs : Nat) : Int) = m * m := by rw [Int.natAbs_mul_self]
  have h : x.natAbs ≤ m.natAbs := by omega
  have := Nat.mul_le_mul h h
  omega
theorem near_c (a b c d q : Int) (w : World) : Calls Try.prog 14 #[.agg #[.int .i64 a, .int .i64 b], .agg #[.int .i64 c, .int .i64 d], .int .i64 q] w fun e w' => e = .returned (.bool (nearP a b c d q)) ∧ Below w.heap.size w w' := by
  refine Ev.contract1 Ev.noS_ok 60 (Ev.ExtOk.nil w) (near_L a b c d q) (near_T a b c d q) ?_
  by_cases ha : plOk a b = true
  · by_cases hc : plOk c d = true
    · by_cases hq : 0 ≤ q ∧ q ≤ 20000
      · have ha' : 0 ≤ a ∧ a ≤ 10000 ∧ 0 ≤ b ∧ b ≤ 10000 := by simpa [plOk] using ha
        have hc' : 0 ≤ c ∧ c ≤ 10000 ∧ 0 ≤ d ∧ d ≤ 10000 := by simpa [plOk] using hc
        have e1 : IntKind.wrap .i64 (a - c) = a - c := w64 (by omega) (by omega)
        have e2 : IntKind.wrap .i64 (b - d) = b - d := w64 (by omega) (by omega)
        have s1 := sq_b (x := a - c) (m := 10000) (by omega) (by omega)
        have s2 := sq_b (x := b - d) (m := 10000) (by omega) (by omega)
        have s3 := sq_b (x := q) (m := 20000) (by omega) (by omega)
        have e3 : IntKind.wrap .i64 ((a - c) * (a - c)) = (a - c) * (a - c) := w64 (by omega) (by omega)
        have e4 : IntKind.wrap .i64 ((b - d) * (b - d)) = (b - d) * (b - d) := w64 (by omega) (by omega)
        have e5 : IntKind.wrap .i64 (q * q) = q * q := w64 (by omega) (by omega)
        have e6 : IntKind.wrap .i64 ((a - c) * (a - c) + (b - d) * (b - d)) = (a - c) * (a - c) + (b - d) * (b - d) := w64 (by omega) (by omega)
        simp only [e1, e2, e3, e4, e5, e6]
        simp only [Ev.Tree.good, nearP, ha, hc, hq, ha'.1, ha'.2.1, ha'.2.2.1, ha'.2.2.2, hc'.1, hc'.2.1, hc'.2.2.1, hc'.2.2.2, and_self, decide_true, Bool.true_and, true_implies, Bool.true_eq_false, false_implies, and_true]
        refine ⟨fun h => ?_, fun _ => trivial⟩
        simp only [Bool.and_true, Bool.and_eq_true, beq_iff_eq] at h
        obtain ⟨rfl, rfl⟩ := h
        simp only [Int.sub_self, Int.mul_zero, Int.add_zero]
        rw [decide_eq_true s3.1]
      · have : nearP a b c d q = false := by simp [nearP, hq]
        rw [this]
        simp only [Ev.Tree.good, plOk, decide_eq_true_eq] at *
        simp_all
        omega
    · have : nearP a b c d q = false := by simp [nearP, hc]
      rw [this]
      simp only [Ev.Tree.good, plOk, decide_eq_true_eq] at *
      simp_all
      omega
  · have : nearP a b c d q = false := by simp [nearP, ha]
    rw [this]
    simp only [Ev.Tree.good, plOk, decide_eq_true_eq] at *
    simp_all
    omega
theorem rval_c (a b : Int) (w : World) : Calls Try.prog 19 #[.agg #[.int .i64 a, .int .i64 b]] w fun e w' => e = .returned (.bool (plOk a b)) ∧ Below w.heap.size w w' := by
  refine Ev.contract1 Ev.noS_ok 60 (Ev.ExtOk.nil w) (rval_L a b) (rval_T a b) ?_
  simp only [Ev.Tree.good, plOk]
  simp +contextual
  omega
def sNear : List Value → Option Value
  | [x0, x1, x2] => match Ev.aggLf x0, Ev.aggLf x1, Ev.toLf x2 with
    | some [.i .i64 a, .i .i64 b], some [.i .i64 c, .i .i64 d], some (.i .i64 q) => some (.bool (nearP a b c d q))
    | _, _, _ => none
  | _ => none
theorem sNear_ok : ∀ a v, sNear a = some v → ∀ w, Calls Try.prog 14 a.toArray w fun e w' => e = .returned v ∧ Below w.heap.size w w' := by
  intro a v h w
  unfold sNear at h
  split at h
  · rename_i x0 x1 x2
    split at h
    · rename_i a b c d q h0 h1 h2
      have e0 := Ev.aggLf_eq h0
      have e1 := Ev.aggLf_eq h1
      have e2 := Ev.toLf_eq h2
      subst e0; subst e1; subst e2
      cases h
      exact near_c a b c d q w
    · cases h
  · cases h
def sRVal : List Value → Option Value
  | [x0] => match Ev.aggLf x0 with
    | some [.i .i64 a, .i .i64 b] => some (.bool (plOk a b))
    | _ => none
  | _ => none
theorem sRVal_ok : ∀ a v, sRVal a = some v → ∀ w, Calls Try.prog 19 a.toArray w fun e w' => e = .returned v ∧ Below w.heap.size w w' := by
  intro a v h w
  unfold sRVal at h
  split at h
  · rename_i x0
    split at h
    · rename_i a b h0
      have e0 := Ev.aggLf_eq h0
      subst e0
      cases h
      exact rval_c a b w
    · cases h
  · cases h
noncomputable def G1 : Ev.Sum := Ev.addS 14 (Ev.pureS sNear) (Ev.addS 19 (Ev.pureS sRVal) (Ev.addS 10 (Ev.pureS sHead) Ev.noS))
theorem G1_ok : ∀ N w0, Ev.SumOk Try.prog N w0 G1 := Ev.addS_ok (Ev.pureS_ok sNear_ok) (Ev.addS_ok (Ev.pureS_ok sRVal_ok) (Ev.addS_ok (Ev.pureS_ok sHead_ok) Ev.noS_ok))
end Go.Proofs.Ytacadafnpnpnpaa
