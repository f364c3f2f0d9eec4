/- Random: Next as a function of bit vectors. -/
import Derived.Test.YtggiilfanlmeoaaDoorRdA
namespace Go.Proofs.YtggiilfanlmeoaaDoor
open Go Go.ChangeShapes Go.WideShapes Go.ChangeAt Go.RowKit
set_option linter.all false
theorem head_L  (r : Ev.Sup) : ((Ev.evalF Tryd.prog Ev.noS 60 9 [] [] [tabE] r)).lhs = ((Ev.evalF Tryd.prog Ev.noS 60 9 [] [] [tabE] r)).rhs := by kernel_rfl
theorem head_T  (r : Ev.Sup) : ((Ev.evalF Tryd.prog Ev.noS 60 9 [] [] [tabE] r)).val = (.leaf (.bool (true))) := by kernel_rfl
theorem head_c (w : World) (ht : Tab w) : Calls Tryd.prog 9 #[] w fun e w' => e = .returned (.bool true) ∧ Below w.heap.size w w' :=
  Ev.contract1 Ev.noS_ok 60 (tab_ext ht) head_L head_T rfl
def sHead : List Value → Option Value
  | [] => some (.bool true)
  | _ => none
theorem sHead_ok : ∀ a v, sHead a = some v → ∀ w, Tab w → Calls Tryd.prog 9 a.toArray w fun e w' => e = .returned v ∧ Below w.heap.size w w' := by
  intro a v h w ht
  unfold sHead at h
  split at h
  · cases h; exact head_c w ht
  · cases h
def nxB (s : BitVec 64) : BitVec 64 :=
  let x := s + BitVec.ofInt 64 11400714819323198485
  let y := (x ^^^ (x >>> 30)) * BitVec.ofInt 64 13787848793156543929
  let z := (y ^^^ (y >>> 27)) * BitVec.ofInt 64 10723151780598845931
  z ^^^ (z >>> 31)
def nx (s : Int) : Int := ((nxB (BitVec.ofInt 64 s)).toNat : Int)
theorem fd30 (x : BitVec 64) : Int.fdiv (x.toNat : Int) 1073741824 = ((x >>> 30).toNat : Int) := by
  rw [Int.fdiv_eq_ediv_of_nonneg _ (by decide), ← Bv.shr]; rfl
theorem fd27 (x : BitVec 64) : Int.fdiv (x.toNat : Int) 134217728 = ((x >>> 27).toNat : Int) := by
  rw [Int.fdiv_eq_ediv_of_nonneg _ (by decide), ← Bv.shr]; rfl
theorem fd31 (x : BitVec 64) : Int.fdiv (x.toNat : Int) 2147483648 = ((x >>> 31).toNat : Int) := by
  rw [Int.fdiv_eq_ediv_of_nonneg _ (by decide), ← Bv.shr]; rfl
theorem ofInt_add (a b : Int) : BitVec.ofInt 64 (a + b) = BitVec.ofInt 64 a + BitVec.ofInt 64 b := BitVec.ofInt_add a b
theorem next_L (s : Int) (r : Ev.Sup) : ((Ev.evalF Tryd.prog Ev.noS 60 10 [undef] [.int .u64 s] [tabE] r)).lhs = ((Ev.evalF Tryd.prog Ev.noS 60 10 [undef] [.int .u64 s] [tabE] r)).rhs := by kernel_rfl
theorem next_T (s : Int) (r : Ev.Sup) : ((Ev.evalF Tryd.prog Ev.noS 60 10 [undef] [.int .u64 s] [tabE] r)).val = (.leaf (.int .u64 (IntKind.wrap IntKind.u64 (IntKind.wrap IntKind.u64 (Int.ofNat (BitVec.toNat (BitVec.ofInt 64 (IntKind.wrap IntKind.u64 (IntKind.wrap IntKind.u64 (Int.ofNat (BitVec.toNat (BitVec.ofInt 64 (IntKind.wrap IntKind.u64 (IntKind.wrap IntKind.u64 (Int.ofNat (BitVec.toNat (BitVec.ofInt 64 (IntKind.wrap IntKind.u64 (s + 11400714819323198485)) ^^^ BitVec.ofInt 64 (Int.fdiv (IntKind.wrap IntKind.u64 (s + 11400714819323198485)) 1073741824)))) * 13787848793156543929)) ^^^ BitVec.ofInt 64 (Int.fdiv (IntKind.wrap IntKind.u64 (IntKind.wrap IntKind.u64 (Int.ofNat (BitVec.toNat (BitVec.ofInt 64 (IntKind.wrap IntKind.u64 (s + 11400714819323198485)) ^^^ BitVec.ofInt 64 (Int.fdiv (IntKind.wrap IntKind.u64 (s + 11400714819323198485)) 1073741824)))) * 13787848793156543929)) 134217728)))) * 10723151780598845931)) ^^^ BitVec.ofInt 64 (Int.fdiv (IntKind.wrap IntKind.u64 (IntKind.wrap IntKind.u64 (Int.ofNat (BitVec.toNat (BitVec.ofInt 64 (IntKind.wrap IntKind.u64 (IntKind.wrap IntKind.u64 (Int.ofNat (BitVec.toNat (BitVec.ofInt 64 (IntKind.wrap IntKind.u64 (s + 11400714819323198485)) ^^^ BitVec.ofInt 64 (Int.fdiv (IntKind.wrap IntKind.u64 (s + 11400714819323198485)) 1073741824)))) * 13787848793156543929)) ^^^ BitVec.ofInt 64 (Int.fdiv (IntKind.wrap IntKind.u64 (IntKind.wrap IntKind.u64 (Int.ofNat (BitVec.toNat (BitVec.ofInt 64 (IntKind.wrap IntKind.u64 (s + 11400714819323198485)) ^^^ BitVec.ofInt 64 (Int.fdiv (IntKind.wrap IntKind.u64 (s + 11400714819323198485)) 1073741824)))) * 13787848793156543929)) 134217728)))) * 10723151780598845931)) 2147483648)))) * 1)))) := by kernel_rfl
theorem rnext_L (s : Int) (r : Ev.Sup) : ((Ev.evalF Tryd.prog Ev.noS 60 11 [undef] [.int .u64 s] [] r)).lhs = ((Ev.evalF Tryd.prog Ev.noS 60 11 [undef] [.int .u64 s] [] r)).rhs := by kernel_rfl
theorem rnext_T (s : Int) (r : Ev.Sup) : ((Ev.evalF Tryd.prog Ev.noS 60 11 [undef] [.int .u64 s] [] r)).val = (.leaf (.int .u64 (IntKind.wrap IntKind.u64 (Int.ofNat (BitVec.toNat (BitVec.ofInt 64 (IntKind.wrap IntKind.u64 (IntKind.wrap IntKind.u64 (Int.ofNat (BitVec.toNat (BitVec.ofInt 64 (IntKind.wrap IntKind.u64 (IntKind.wrap IntKind.u64 (Int.ofNat (BitVec.toNat (BitVec.ofInt 64 (IntKind.wrap IntKind.u64 (s + 11400714819323198485)) ^^^ BitVec.ofInt 64 (Int.fdiv (IntKind.wrap IntKind.u64 (s + 11400714819323198485)) 1073741824)))) * 13787848793156543929)) ^^^ BitVec.ofInt 64 (Int.fdiv (IntKind.wrap IntKind.u64 (IntKind.wrap IntKind.u64 (Int.ofNat (BitVec.toNat (BitVec.ofInt 64 (IntKind.wrap IntKind.u64 (s + 11400714819323198485)) ^^^ BitVec.ofInt 64 (Int.fdiv (IntKind.wrap IntKind.u64 (s + 11400714819323198485)) 1073741824)))) * 13787848793156543929)) 134217728)))) * 10723151780598845931)) ^^^ BitVec.ofInt 64 (Int.fdiv (IntKind.wrap IntKind.u64 (IntKind.wrap IntKind.u64 (Int.ofNat (BitVec.toNat (BitVec.ofInt 64 (IntKind.wrap IntKind.u64 (IntKind.wrap IntKind.u64 (Int.ofNat (BitVec.toNat (BitVec.ofInt 64 (IntKind.wrap IntKind.u64 (s + 11400714819323198485)) ^^^ BitVec.ofInt 64 (Int.fdiv (IntKind.wrap IntKind.u64 (s + 11400714819323198485)) 1073741824)))) * 13787848793156543929)) ^^^ BitVec.ofInt 64 (Int.fdiv (IntKind.wrap IntKind.u64 (IntKind.wrap IntKind.u64 (Int.ofNat (BitVec.toNat (BitVec.ofInt 64 (IntKind.wrap IntKind.u64 (s + 11400714819323198485)) ^^^ BitVec.ofInt 64 (Int.fdiv (IntKind.wrap IntKind.u64 (s + 11400714819323198485)) 1073741824)))) * 13787848793156543929)) 134217728)))) * 10723151780598845931)) 2147483648))))))) := by kernel_rfl
theorem next_c (s : Int) (w : World) (ht : Tab w) : Calls Tryd.prog 10 #[.int .u64 s] w fun e w' => e = .returned (.int .u64 (nx s)) ∧ Below w.heap.size w w' := by
  refine Ev.contract1 Ev.noS_ok 60 (tab_ext ht) (next_L s) (next_T s) ?_
  simp only [Int.ofNat_eq_natCast, Bv.wrap_int (s + 11400714819323198485), ofInt_add, Bv.ofInt_toNat, fd30, fd27, fd31, Bv.wrap_toNat, Bv.wrap_mul, Int.mul_one]
  rfl
theorem rnext_c (s : Int) (w : World) : Calls Tryd.prog 11 #[.int .u64 s] w fun e w' => e = .returned (.int .u64 (nx s)) ∧ Below w.heap.size w w' := by
  refine Ev.contract1 Ev.noS_ok 60 (Ev.ExtOk.nil w) (rnext_L s) (rnext_T s) ?_
  simp only [Int.ofNat_eq_natCast, Bv.wrap_int (s + 11400714819323198485), ofInt_add, Bv.ofInt_toNat, fd30, fd27, fd31, Bv.wrap_toNat, Bv.wrap_mul, Int.mul_one]
  rfl
def sNext : List Value → Option Value
  | [x0] => match Ev.toLf x0 with
    | some (.i .u64 s) => some (.int .u64 (nx s))
    | _ => none
  | _ => none
theorem sNext_ok : ∀ a v, sNext a = some v → ∀ w, Tab w → Calls Tryd.prog 10 a.toArray w fun e w' => e = .returned v ∧ Below w.heap.size w w' := by
  intro a v h w hside
  unfold sNext at h
  split at h
  · rename_i x0
    split at h
    · rename_i s h0
      have e0 := Ev.toLf_eq h0
      subst e0
      cases h
      exact next_c s w hside
    · cases h
  · cases h
def sRNext : List Value → Option Value
  | [x0] => match Ev.toLf x0 with
    | some (.i .u64 s) => some (.int .u64 (nx s))
    | _ => none
  | _ => none
theorem sRNext_ok : ∀ a v, sRNext a = some v → ∀ w, Calls Tryd.prog 11 a.toArray w fun e w' => e = .returned v ∧ Below w.heap.size w w' := by
  intro a v h w
  unfold sRNext at h
  split at h
  · rename_i x0
    split at h
    · rename_i s h0
      have e0 := Ev.toLf_eq h0
      subst e0
      cases h
      exact rnext_c s w
    · cases h
  · cases h
noncomputable def G1 : Ev.Sum := Ev.addS 10 (tabS sNext) (Ev.addS 11 (Ev.pureS sRNext) (Ev.addS 9 (tabH id sHead) Ev.noS))
theorem G1_ok : ∀ N w0, Ev.SumOk Tryd.prog N w0 G1 := Ev.addS_ok (tabS_ok sNext_ok) (Ev.addS_ok (Ev.pureS_ok sRNext_ok) (Ev.addS_ok (tabH_ok sHead_ok) Ev.noS_ok))
theorem nx_b (s : Int) : 0 ≤ nx s ∧ nx s ≤ 18446744073709551615 := by have := Bv.lt (nxB (BitVec.ofInt 64 s)); unfold nx; omega
end Go.Proofs.YtggiilfanlmeoaaDoor
