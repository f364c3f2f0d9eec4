/- The laws of package timesync: Root. -/
import Derived.Test.YtbeaipngljphkaaTsY
namespace Go.Proofs.Ytbeaipngljphkaa
open Go Go.ChangeShapes Go.WideShapes Go.ChangeAt Go.RowKit
set_option linter.all false
theorem lroot_L (a : Option Addr) (n ca : Nat) (f : Nat → Nat → Int) (l : Int) (r : Ev.Sup) : ((Ev.evalFL Try.prog G8 (rlL a n) 60 10 [(.slice (some ⟨600, 0, some 0⟩) 0 0), undef] [.slice a n ca, .int .i64 l] [(Ev.rowA 600 a 5 n fun j c => .int .i64 (f j c))] r)).lhs = ((Ev.evalFL Try.prog G8 (rlL a n) 60 10 [(.slice (some ⟨600, 0, some 0⟩) 0 0), undef] [.slice a n ca, .int .i64 l] [(Ev.rowA 600 a 5 n fun j c => .int .i64 (f j c))] r)).rhs := by kernel_rfl
theorem lroot_T (a : Option Addr) (n ca : Nat) (f : Nat → Nat → Int) (l : Int) (r : Ev.Sup) : ((Ev.evalFL Try.prog G8 (rlL a n) 60 10 [(.slice (some ⟨600, 0, some 0⟩) 0 0), undef] [.slice a n ca, .int .i64 l] [(Ev.rowA 600 a 5 n fun j c => .int .i64 (f j c))] r)).val = (.ite (decide (Int.ofNat n > 40)) (.leaf (.bool (true))) (.ite (Nat.ble n 1000) (.ite (bN true 0 0 0 0 (-1) 0 l == 0) (.ite (bE true 0 0 0 0 (-1) 0 l == 0) (.ite (bE false 0 0 0 60 (-1) 0 l == 16) (.leaf (.bool (selB (tkB false 0 0 0 60 (-1) 0 l) false false == false && (sel (tkB false 0 0 0 60 (-1) 0 l) 0 0 == 0 && (sel (tkB false 0 0 0 60 (-1) 0 l) 0 0 == 0 && (sel (tkB false 0 0 0 60 (-1) 0 l) 0 0 == 0 && true)) && (sel (tkB false 0 0 0 60 (-1) 0 l) 60 60 == 60 && (sel (tkB false 0 0 0 60 (-1) 0 l) (-1) (-1) == -1 && (sel (tkB false 0 0 0 60 (-1) 0 l) 0 0 == 0 && true))))))) (.leaf (.bool (false)))) (.leaf (.bool (false)))) (.leaf (.bool (false)))) (.fail 96))) := by kernel_rfl
theorem lroot_c (a : Option Addr) (n ca : Nat) (f : Nat → Nat → Int) (l : Int) (w : World) (ha : Ev.RowT w a 5 n fun j c => .int .i64 (f j c)) : Calls Try.prog 10 #[.slice a n ca, .int .i64 l] w fun e w' => e = .returned (.bool true) ∧ Below w.heap.size w w' := by
  refine Ev.contractL1 G8_ok 60 (c := Ev.bodyOf Try.f10) Try.func10 (by kernel_rfl) (rlL_ok a n f w ha) (M := [(Ev.rowA 600 a 5 n fun j c => .int .i64 (f j c))]) (Ev.rowA_ext ha) (lroot_L a n ca f l) (lroot_T a n ca f l) ?_
  refine Ev.ite_good (fun _ => rfl) (fun hn => ?_)
  simp only [Int.ofNat_eq_natCast, decide_eq_false_iff_not] at hn
  have hb : Nat.ble n 1000 = true := Nat.ble_eq_true_of_le (by omega)
  have u : tvP false 0 0 0 60 (-1) 0 = true := by decide
  simp [Ev.Tree.good, st_b, st_k, sel, selB, bN, bE, tkB, u, st_tv]
  try omega
end Go.Proofs.Ytbeaipngljphkaa
