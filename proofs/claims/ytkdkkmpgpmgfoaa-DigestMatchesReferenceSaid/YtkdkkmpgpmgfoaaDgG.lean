/- Package digest: the law against the reference. -/
import Derived.Test.YtkdkkmpgpmgfoaaDgF
namespace Go.Proofs.Ytkdkkmpgpmgfoaa
open Go Go.ChangeShapes Go.WideShapes Go.ChangeAt Go.RowKit
set_option linter.all false
theorem lmatch_L (a : Option Addr) (n ca : Nat) (f : Nat → Int) (s o : Int) (r : Ev.Sup) : ((Ev.evalFW Try.prog G1 rL 60 3 [(.slice (some ⟨600, 0, some 0⟩) 0 0), undef, undef] [.slice a n ca, .int .u64 s, .int .u64 o] [(Ev.rowA 600 a 1 n fun j _ => .int .u8 (f j))] r)).lhs = ((Ev.evalFW Try.prog G1 rL 60 3 [(.slice (some ⟨600, 0, some 0⟩) 0 0), undef, undef] [.slice a n ca, .int .u64 s, .int .u64 o] [(Ev.rowA 600 a 1 n fun j _ => .int .u8 (f j))] r)).rhs := by kernel_rfl
theorem lmatch_T (a : Option Addr) (n ca : Nat) (f : Nat → Int) (s o : Int) (r : Ev.Sup) : ((Ev.evalFW Try.prog G1 rL 60 3 [(.slice (some ⟨600, 0, some 0⟩) 0 0), undef, undef] [.slice a n ca, .int .u64 s, .int .u64 o] [(Ev.rowA 600 a 1 n fun j _ => .int .u8 (f j))] r)).val = (.ite (decide (Int.ofNat n > 5000)) (.leaf (.bool (true))) (.ite (Ev.kindR IntKind.u8 (fun j x => Value.int IntKind.u8 (f j)) n) (.ite (Nat.ble n 9223372036854775807) (.ite (Ev.kindR IntKind.u8 (fun j x => Value.int IntKind.u8 (f j)) n) (.ite (Nat.ble n 9223372036854775807) (.ite (true) (.ite (fol (fun j => f j) n 0 s == fol (fun j => f j) (n - 0) 0 s) (.ite (Ev.kindR IntKind.u8 (fun j x => Value.int IntKind.u8 (f j)) n) (.ite (Nat.ble n 9223372036854775807) (.ite (Ev.kindR IntKind.u8 (fun j x => Value.int IntKind.u8 (f j)) n) (.ite (Nat.ble n 9223372036854775807) (.ite (true) (.ite (fol (fun j => f j) n 0 14695981039346656037 == fol (fun j => f j) (n - 0) 0 14695981039346656037) (.leaf (.bool (IntKind.wrap IntKind.u64 (IntKind.wrap IntKind.u64 (Int.ofNat (BitVec.toNat (BitVec.ofInt 64 (IntKind.wrap IntKind.u64 (IntKind.wrap IntKind.u64 (Int.ofNat (BitVec.toNat (BitVec.ofInt 64 3750763034362895578 ^^^ BitVec.ofInt 64 s))) * 1099511628211)) ^^^ BitVec.ofInt 64 o))) * 1099511628211) == IntKind.wrap IntKind.u64 (IntKind.wrap IntKind.u64 (Int.ofNat (BitVec.toNat (BitVec.ofInt 64 (IntKind.wrap IntKind.u64 (IntKind.wrap IntKind.u64 (Int.ofNat (BitVec.toNat (BitVec.ofInt 64 3750763034362895578 ^^^ BitVec.ofInt 64 s))) * 1099511628211)) ^^^ BitVec.ofInt 64 o))) * 1099511628211)))) (.leaf (.bool (false)))) (.fail 92)) (.fail 92)) (.fail 92)) (.fail 92)) (.fail 92)) (.leaf (.bool (false)))) (.fail 92)) (.fail 92)) (.fail 92)) (.fail 92)) (.fail 92))) := by kernel_rfl
theorem match_c (a : Option Addr) (n ca : Nat) (f : Nat → Int) (s o : Int) (w : World) (ha : Ev.RowT w a 1 n fun j _ => .int .u8 (f j)) :
    Calls Try.prog 3 #[.slice a n ca, .int .u64 s, .int .u64 o] w fun e w' => e = .returned (.bool true) ∧ Below w.heap.size w w' := by
  refine Ev.contractW G1_ok rL_ok 60 (a1 := [(.slice (some ⟨600, 0, some 0⟩) 0 0), undef, undef]) (Ev.rowA_ext ha) (lmatch_L a n ca f s o) (lmatch_T a n ca f s o) ?_
  refine Ev.ite_good (fun _ => rfl) (fun h => ?_)
  simp only [decide_eq_false_iff_not, Int.ofNat_eq_natCast] at h
  rw [Nat.sub_zero]
  repeat (first | refine Ev.good_t Ev.kindR_t ?_ | refine Ev.good_t (Nat.ble_eq_true_of_le (by omega)) ?_ | refine Ev.good_t rfl ?_ | refine Ev.good_t (beq_self_eq_true _) ?_)
  show Value.bool _ = _
  rw [beq_self_eq_true]
end Go.Proofs.Ytkdkkmpgpmgfoaa
