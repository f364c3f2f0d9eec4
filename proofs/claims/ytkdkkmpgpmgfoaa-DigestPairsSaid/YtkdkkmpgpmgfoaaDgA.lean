/- Digest: Pairs. -/
import Derived.Test.YtkdkkmpgpmgfoaaEvQ
import Derived.Test.YtkdkkmpgpmgfoaaBv
namespace Go.Proofs.Ytkdkkmpgpmgfoaa
open Go Go.ChangeShapes Go.WideShapes Go.ChangeAt Go.RowKit
set_option linter.all false
theorem lpairs_L (a b c : Int) (r : Ev.Sup) : ((Ev.evalF Try.prog Ev.noS 60 8 [undef, undef, undef] [.int .u64 a, .int .u64 b, .int .u64 c] [] r)).lhs = ((Ev.evalF Try.prog Ev.noS 60 8 [undef, undef, undef] [.int .u64 a, .int .u64 b, .int .u64 c] [] r)).rhs := by kernel_rfl
theorem lpairs_T (a b c : Int) (r : Ev.Sup) : ((Ev.evalF Try.prog Ev.noS 60 8 [undef, undef, undef] [.int .u64 a, .int .u64 b, .int .u64 c] [] r)).val = (.ite (IntKind.wrap IntKind.u64 (Int.ofNat (BitVec.toNat (BitVec.ofInt 64 (IntKind.wrap IntKind.u64 (IntKind.wrap IntKind.u64 (Int.ofNat (BitVec.toNat (BitVec.ofInt 64 (IntKind.wrap IntKind.u64 (IntKind.wrap IntKind.u64 (IntKind.wrap IntKind.u64 (Int.ofNat (BitVec.toNat (BitVec.ofInt 64 (IntKind.wrap IntKind.u64 (IntKind.wrap IntKind.u64 (Int.ofNat (BitVec.toNat (BitVec.ofInt 64 3750763034362895578 ^^^ BitVec.ofInt 64 a))) * 1099511628211)) ^^^ BitVec.ofInt 64 b))) * 1099511628211) * 14886173955864302971)) ^^^ BitVec.ofInt 64 b))) * 14886173955864302971)) ^^^ BitVec.ofInt 64 3750763034362895578))) == a) (.ite (IntKind.wrap IntKind.u64 (Int.ofNat (BitVec.toNat (BitVec.ofInt 64 (IntKind.wrap IntKind.u64 (IntKind.wrap IntKind.u64 (IntKind.wrap IntKind.u64 (Int.ofNat (BitVec.toNat (BitVec.ofInt 64 (IntKind.wrap IntKind.u64 (IntKind.wrap IntKind.u64 (Int.ofNat (BitVec.toNat (BitVec.ofInt 64 3750763034362895578 ^^^ BitVec.ofInt 64 a))) * 1099511628211)) ^^^ BitVec.ofInt 64 b))) * 1099511628211) * 14886173955864302971)) ^^^ BitVec.ofInt 64 (IntKind.wrap IntKind.u64 (IntKind.wrap IntKind.u64 (Int.ofNat (BitVec.toNat (BitVec.ofInt 64 3750763034362895578 ^^^ BitVec.ofInt 64 a))) * 1099511628211))))) == b) (.ite ((IntKind.wrap IntKind.u64 (IntKind.wrap IntKind.u64 (Int.ofNat (BitVec.toNat (BitVec.ofInt 64 (IntKind.wrap IntKind.u64 (IntKind.wrap IntKind.u64 (Int.ofNat (BitVec.toNat (BitVec.ofInt 64 3750763034362895578 ^^^ BitVec.ofInt 64 c))) * 1099511628211)) ^^^ BitVec.ofInt 64 b))) * 1099511628211) == IntKind.wrap IntKind.u64 (IntKind.wrap IntKind.u64 (Int.ofNat (BitVec.toNat (BitVec.ofInt 64 (IntKind.wrap IntKind.u64 (IntKind.wrap IntKind.u64 (Int.ofNat (BitVec.toNat (BitVec.ofInt 64 3750763034362895578 ^^^ BitVec.ofInt 64 a))) * 1099511628211)) ^^^ BitVec.ofInt 64 b))) * 1099511628211)) == (a == c)) (.leaf (.bool ((IntKind.wrap IntKind.u64 (IntKind.wrap IntKind.u64 (Int.ofNat (BitVec.toNat (BitVec.ofInt 64 (IntKind.wrap IntKind.u64 (IntKind.wrap IntKind.u64 (Int.ofNat (BitVec.toNat (BitVec.ofInt 64 3750763034362895578 ^^^ BitVec.ofInt 64 a))) * 1099511628211)) ^^^ BitVec.ofInt 64 c))) * 1099511628211) == IntKind.wrap IntKind.u64 (IntKind.wrap IntKind.u64 (Int.ofNat (BitVec.toNat (BitVec.ofInt 64 (IntKind.wrap IntKind.u64 (IntKind.wrap IntKind.u64 (Int.ofNat (BitVec.toNat (BitVec.ofInt 64 3750763034362895578 ^^^ BitVec.ofInt 64 a))) * 1099511628211)) ^^^ BitVec.ofInt 64 b))) * 1099511628211)) == (b == c)))) (.leaf (.bool (false)))) (.leaf (.bool (false)))) (.leaf (.bool (false)))) := by kernel_rfl
theorem inv_ok : BitVec.ofInt 64 1099511628211 * BitVec.ofInt 64 14886173955864302971 = 1#64 := by decide +kernel
theorem pairs_c (a b c : Int) (ha : 0 ≤ a ∧ a ≤ 18446744073709551615) (hb : 0 ≤ b ∧ b ≤ 18446744073709551615) (hc : 0 ≤ c ∧ c ≤ 18446744073709551615) (w : World) :
    Calls Try.prog 8 #[.int .u64 a, .int .u64 b, .int .u64 c] w fun e w' => e = .returned (.bool true) ∧ Below w.heap.size w w' := by
  refine Ev.contract1 Ev.noS_ok 60 (Ev.ExtOk.nil w) (lpairs_L a b c) (lpairs_T a b c) ?_
  obtain ⟨a, rfl⟩ := Bv.of ha.1 ha.2
  obtain ⟨b, rfl⟩ := Bv.of hb.1 hb.2
  obtain ⟨c, rfl⟩ := Bv.of hc.1 hc.2
  simp only [Int.ofNat_eq_natCast, Bv.ofInt_toNat, Bv.wrap_toNat, Bv.wrap_mul, Bv.beq_iff]
  have hi := inv_ok
  generalize BitVec.ofInt 64 1099511628211 = p at hi ⊢
  generalize BitVec.ofInt 64 14886173955864302971 = k at hi ⊢
  generalize BitVec.ofInt 64 3750763034362895578 = s
  simp only [Bv.mul_inv hi, Bv.mul_beq hi, Bv.xor_beq, Bv.xor_beq', BitVec.xor_assoc, Bv.xor_can, beq_self_eq_true, Bool.true_and]
  simp [Ev.Tree.good, BEq.comm (a := c), Bv.mul_inv hi, BitVec.xor_assoc, Bv.xor_can]
end Go.Proofs.Ytkdkkmpgpmgfoaa
