/- Package digest: laws States and Parts. -/
import Derived.Test.YtkdkkmpgpmgfoaaDgD
namespace Go.Proofs.Ytkdkkmpgpmgfoaa
open Go Go.ChangeShapes Go.WideShapes Go.ChangeAt Go.RowKit
set_option linter.all false
theorem states_L (x y : Int) (a : Option Addr) (n ca : Nat) (f : Nat → Int) (r : Ev.Sup) : ((Ev.evalF Try.prog G1 60 6 [undef, undef, (.slice (some ⟨600, 0, some 0⟩) 0 0)] [.int .u64 x, .int .u64 y, .slice a n ca] [(Ev.rowA 600 a 1 n fun j _ => .int .u8 (f j))] r)).lhs = ((Ev.evalF Try.prog G1 60 6 [undef, undef, (.slice (some ⟨600, 0, some 0⟩) 0 0)] [.int .u64 x, .int .u64 y, .slice a n ca] [(Ev.rowA 600 a 1 n fun j _ => .int .u8 (f j))] r)).rhs := by kernel_rfl
theorem states_T (x y : Int) (a : Option Addr) (n ca : Nat) (f : Nat → Int) (r : Ev.Sup) : ((Ev.evalF Try.prog G1 60 6 [undef, undef, (.slice (some ⟨600, 0, some 0⟩) 0 0)] [.int .u64 x, .int .u64 y, .slice a n ca] [(Ev.rowA 600 a 1 n fun j _ => .int .u8 (f j))] r)).val = (.ite (decide (Int.ofNat n > 5000)) (.leaf (.bool (true))) (.ite (Ev.kindR IntKind.u8 (fun j x => Value.int IntKind.u8 (f j)) n) (.ite (Nat.ble n 9223372036854775807) (.ite (Ev.kindR IntKind.u8 (fun j x => Value.int IntKind.u8 (f j)) n) (.ite (Nat.ble n 9223372036854775807) (.leaf (.bool ((fol (fun j => f j) n 0 x == fol (fun j => f j) n 0 y) == (x == y)))) (.fail 92)) (.fail 92)) (.fail 92)) (.fail 92))) := by kernel_rfl
theorem parts_L (a : Option Addr) (n ca : Nat) (f : Nat → Int) (b : Option Addr) (m cb : Nat) (g : Nat → Int) (s : Int) (r : Ev.Sup) : ((Ev.evalF Try.prog G1 60 4 [(.slice (some ⟨600, 0, some 0⟩) 0 0), (.slice (some ⟨601, 0, some 0⟩) 0 0), undef] [.slice a n ca, .slice b m cb, .int .u64 s] [(Ev.rowA 600 a 1 n fun j _ => .int .u8 (f j)), (Ev.rowA 601 b 1 m fun j _ => .int .u8 (g j))] r)).lhs = ((Ev.evalF Try.prog G1 60 4 [(.slice (some ⟨600, 0, some 0⟩) 0 0), (.slice (some ⟨601, 0, some 0⟩) 0 0), undef] [.slice a n ca, .slice b m cb, .int .u64 s] [(Ev.rowA 600 a 1 n fun j _ => .int .u8 (f j)), (Ev.rowA 601 b 1 m fun j _ => .int .u8 (g j))] r)).rhs := by kernel_rfl
theorem parts_T (a : Option Addr) (n ca : Nat) (f : Nat → Int) (b : Option Addr) (m cb : Nat) (g : Nat → Int) (s : Int) (r : Ev.Sup) : ((Ev.evalF Try.prog G1 60 4 [(.slice (some ⟨600, 0, some 0⟩) 0 0), (.slice (some ⟨601, 0, some 0⟩) 0 0), undef] [.slice a n ca, .slice b m cb, .int .u64 s] [(Ev.rowA 600 a 1 n fun j _ => .int .u8 (f j)), (Ev.rowA 601 b 1 m fun j _ => .int .u8 (g j))] r)).val = (.ite (decide (Int.ofNat n > 5000)) (.leaf (.bool (true))) (.ite (decide (Int.ofNat m > 5000)) (.leaf (.bool (true))) (.ite (Nat.ble ((0 + n) * 1) 140737488355328) (.ite (Ev.flatA n 1 (Ev.Ap.rw fun j x => Value.int IntKind.u8 (f j))) (.ite (Nat.ble ((0 + n + m) * 1) 140737488355328) (.ite (Ev.flatA m 1 (Ev.Ap.rw fun j x => Value.int IntKind.u8 (g j))) (.ite (Ev.kindR IntKind.u8 (fun j x => Value.int IntKind.u8 (f j)) n) (.ite (Nat.ble n 9223372036854775807) (.ite (Ev.kindR IntKind.u8 (fun j x => Value.int IntKind.u8 (g j)) m) (.ite (Nat.ble m 9223372036854775807) (.ite (Ev.kindR IntKind.u8 (Ev.apG 1 (0 + n) (Ev.Ap.rw (Ev.apG 1 0 (Ev.Ap.cl [] []) (Ev.Ap.rw fun j x => Value.int IntKind.u8 (f j)))) (Ev.Ap.rw fun j x => Value.int IntKind.u8 (g j))) (0 + n + m)) (.ite (Nat.ble (0 + n + m) 9223372036854775807) (.ite (fol (fun j => g j) m 0 (fol (fun j => f j) n 0 14695981039346656037) == fol (fun j => Ev.payI (Ev.apG 1 (0 + n) (Ev.Ap.rw (Ev.apG 1 0 (Ev.Ap.cl [] []) (Ev.Ap.rw fun j x => Value.int IntKind.u8 (f j)))) (Ev.Ap.rw fun j x => Value.int IntKind.u8 (g j)) j 0)) (0 + n + m) 0 14695981039346656037) (.ite (Ev.kindR IntKind.u8 (fun j x => Value.int IntKind.u8 (f j)) n) (.ite (Nat.ble n 9223372036854775807) (.ite (Ev.kindR IntKind.u8 (fun j x => Value.int IntKind.u8 (g j)) m) (.ite (Nat.ble m 9223372036854775807) (.ite (Ev.kindR IntKind.u8 (Ev.apG 1 (0 + n) (Ev.Ap.rw (Ev.apG 1 0 (Ev.Ap.cl [] []) (Ev.Ap.rw fun j x => Value.int IntKind.u8 (f j)))) (Ev.Ap.rw fun j x => Value.int IntKind.u8 (g j))) (0 + n + m)) (.ite (Nat.ble (0 + n + m) 9223372036854775807) (.ite (fol (fun j => g j) m 0 (fol (fun j => f j) n 0 s) == fol (fun j => Ev.payI (Ev.apG 1 (0 + n) (Ev.Ap.rw (Ev.apG 1 0 (Ev.Ap.cl [] []) (Ev.Ap.rw fun j x => Value.int IntKind.u8 (f j)))) (Ev.Ap.rw fun j x => Value.int IntKind.u8 (g j)) j 0)) (0 + n + m) 0 s) (.ite (true) (.ite (true) (.leaf (.bool (fol (fun j => Ev.payI ((fun x x_1 => Value.tuple #[]) j 0)) 0 0 s == s))) (.fail 92)) (.fail 92)) (.leaf (.bool (false)))) (.fail 92)) (.fail 92)) (.fail 92)) (.fail 92)) (.fail 92)) (.fail 92)) (.leaf (.bool (false)))) (.fail 92)) (.fail 92)) (.fail 92)) (.fail 92)) (.fail 92)) (.fail 92)) (.fail 77)) (.fail 76)) (.fail 77)) (.fail 76)))) := by kernel_rfl
theorem stp_bv (x : BitVec 64) (z : Int) : stp (x.toNat : Int) z = (((x ^^^ BitVec.ofInt 64 (IntKind.wrap .u64 z)) * BitVec.ofInt 64 1099511628211).toNat : Int) := by
  unfold stp
  rw [Bv.ofInt_toNat, Int.ofNat_eq_natCast, Bv.wrap_toNat, Bv.wrap_mul]
theorem inv_ok : BitVec.ofInt 64 1099511628211 * BitVec.ofInt 64 14886173955864302971 = 1#64 := by decide +kernel
/-- taking in the same keeps apart what is apart -/
theorem stp_inj (x y : BitVec 64) (z : Int) : (∃ x' y' : BitVec 64, stp (x.toNat : Int) z = (x'.toNat : Int) ∧ stp (y.toNat : Int) z = (y'.toNat : Int) ∧ (x' = y' ↔ x = y)) := by
  refine ⟨_, _, stp_bv x z, stp_bv y z, ?_⟩
  rw [Bv.mul_inj inv_ok, Bv.xor_inj]
theorem fol_s (f : Nat → Int) (d i : Nat) (s : Int) : fol f (d + 1) i s = fol f d (i + 1) (stp s (f i)) := rfl
theorem fol_inj (f : Nat → Int) (d : Nat) : ∀ (i : Nat) (x y : BitVec 64), ∃ x' y' : BitVec 64, fol f d i (x.toNat : Int) = (x'.toNat : Int) ∧ fol f d i (y.toNat : Int) = (y'.toNat : Int) ∧ (x' = y' ↔ x = y) := by
  induction d with
  | zero => exact fun i x y => ⟨x, y, rfl, rfl, Iff.rfl⟩
  | succ d ih =>
    intro i x y
    obtain ⟨x1, y1, h1, h2, h3⟩ := stp_inj x y (f i)
    obtain ⟨x2, y2, q1, q2, q3⟩ := ih (i + 1) x1 y1
    refine ⟨x2, y2, ?_, ?_, q3.trans h3⟩
    · rw [fol_s, h1]; exact q1
    · rw [fol_s, h2]; exact q2
theorem fol_bv (f : Nat → Int) (d i : Nat) (x : BitVec 64) : ∃ y : BitVec 64, fol f d i (x.toNat : Int) = (y.toNat : Int) := by
  obtain ⟨x', _, h, _⟩ := fol_inj f d i x x
  exact ⟨x', h⟩
theorem fol_congr {f g : Nat → Int} : ∀ {d i k : Nat} {s : Int}, (∀ j, j < d → f (i + j) = g (k + j)) → fol f d i s = fol g d k s
  | 0, _, _, _, _ => rfl
  | d + 1, i, k, s, h => by
    have h0 := h 0 (by omega)
    simp only [Nat.add_zero] at h0
    simp only [fol, h0]
    exact fol_congr fun j hj => by have := h (j + 1) (by omega); rw [Nat.add_assoc, Nat.add_comm 1 j, Nat.add_assoc, Nat.add_comm 1 j]; exact this
theorem fol_add {f : Nat → Int} : ∀ {n m i : Nat} {s : Int}, fol f (n + m) i s = fol f m (i + n) (fol f n i s)
  | 0, m, i, s => by simp only [Nat.zero_add, Nat.add_zero, fol]
  | n + 1, m, i, s => by
    rw [show n + 1 + m = (n + m) + 1 by omega]
    simp only [fol]
    rw [fol_add (n := n), show i + 1 + n = i + (n + 1) by omega]
theorem states_c (x y : Int) (a : Option Addr) (n ca : Nat) (f : Nat → Int) (w : World) (hx : 0 ≤ x ∧ x ≤ 18446744073709551615) (hy : 0 ≤ y ∧ y ≤ 18446744073709551615) (ha : Ev.RowT w a 1 n fun j _ => .int .u8 (f j)) :
    Calls Try.prog 6 #[.int .u64 x, .int .u64 y, .slice a n ca] w fun e w' => e = .returned (.bool true) ∧ Below w.heap.size w w' := by
  refine Ev.contract1 G1_ok 60 (Ev.rowA_ext ha) (states_L x y a n ca f) (states_T x y a n ca f) ?_
  refine Ev.ite_good (fun _ => rfl) (fun h => ?_)
  simp only [decide_eq_false_iff_not, Int.ofNat_eq_natCast] at h
  have hn : n ≤ 9223372036854775807 := by omega
  refine Ev.good_t Ev.kindR_t (Ev.good_t (Nat.ble_eq_true_of_le hn) (Ev.good_t Ev.kindR_t (Ev.good_t (Nat.ble_eq_true_of_le hn) ?_)))
  obtain ⟨x, rfl⟩ := Bv.of hx.1 hx.2
  obtain ⟨y, rfl⟩ := Bv.of hy.1 hy.2
  obtain ⟨x', y', h1, h2, h3⟩ := fol_inj (fun j => f j) n 0 x y
  rw [h1, h2, Bv.beq_iff, Bv.beq_iff]
  have : (x' == y') = (x == y) := by rw [Bool.eq_iff_iff]; simp only [beq_iff_eq]; exact h3
  rw [this]
  simp [Ev.Tree.good]
theorem apG_eq (k n : Nat) (a b : Ev.Ap) (j c : Nat) : Ev.apG k n a b j c = if n ≤ j then Ev.apF k b (j - n) c else Ev.apF k a j c := by
  cases n with
  | zero => simp [Ev.apG]
  | succ n =>
    show (match Nat.ble (n + 1) j with | true => Ev.apF k b (j - (n + 1)) c | false => Ev.apF k a j c) = _
    by_cases h : n + 1 ≤ j
    · rw [if_pos h, Nat.ble_eq_true_of_le h]
    · rw [if_neg h]
      have : Nat.ble (n + 1) j = false := by
        cases hb : Nat.ble (n + 1) j with
        | false => rfl
        | true => exact absurd (Nat.le_of_ble_eq_true hb) h
      rw [this]
/-- one row behind another -/
def cat (n : Nat) (f g : Nat → Int) (j : Nat) : Int := if n ≤ j then g (j - n) else f j
theorem cat_row (n : Nat) (f g : Nat → Int) : Ev.apG 1 (0 + n) (.rw (Ev.apG 1 0 (.cl [] []) (.rw fun j _ => .int .u8 (f j)))) (.rw fun j _ => .int .u8 (g j)) = fun j _ => .int .u8 (cat n f g j) := by
  funext j c
  rw [apG_eq, Nat.zero_add]
  unfold cat
  by_cases h : n ≤ j
  · rw [if_pos h, if_pos h]; rfl
  · rw [if_neg h, if_neg h]
    show Ev.apG 1 0 (.cl [] []) (.rw fun j _ => .int .u8 (f j)) j c = _
    rw [apG_eq, if_pos (Nat.zero_le _)]; rfl
theorem fol_cat (n m : Nat) (f g : Nat → Int) (s : Int) : fol (cat n f g) (n + m) 0 s = fol g m 0 (fol f n 0 s) := by
  rw [fol_add, Nat.zero_add]
  have h1 : fol (cat n f g) n 0 s = fol f n 0 s := fol_congr fun j hj => by simp only [cat, Nat.zero_add]; rw [if_neg (by omega)]
  rw [h1]
  exact fol_congr fun j hj => by simp only [cat]; rw [if_pos (by omega)]; congr 1; omega
theorem parts_c (a : Option Addr) (n ca : Nat) (f : Nat → Int) (b : Option Addr) (m cb : Nat) (g : Nat → Int) (s : Int) (w : World) (ha : Ev.RowT w a 1 n fun j _ => .int .u8 (f j)) (hb : Ev.RowT w b 1 m fun j _ => .int .u8 (g j)) :
    Calls Try.prog 4 #[.slice a n ca, .slice b m cb, .int .u64 s] w fun e w' => e = .returned (.bool true) ∧ Below w.heap.size w w' := by
  refine Ev.contract1 G1_ok 60 ((Ev.rowA_ext ha).append (Ev.rowA_ext hb)) (parts_L a n ca f b m cb g s) (parts_T a n ca f b m cb g s) ?_
  refine Ev.ite_good (fun _ => rfl) (fun h1 => Ev.ite_good (fun _ => rfl) (fun h2 => ?_))
  simp only [decide_eq_false_iff_not, Int.ofNat_eq_natCast] at h1 h2
  have hn : n ≤ 9223372036854775807 := by omega
  have hm : m ≤ 9223372036854775807 := by omega
  have fl : ∀ (k : Nat) (f : Nat → Int), Ev.flatA k 1 (.rw fun j _ => .int .u8 (f j)) = true := fun k f => Ev.flatR_t
  rw [cat_row]
  have e1 : (fun j => Ev.payI (.int .u8 (cat n f g j))) = cat n f g := rfl
  simp only [Nat.zero_add]
  refine Ev.good_t (Nat.ble_eq_true_of_le (by omega)) (Ev.good_t (fl _ _) (Ev.good_t (Nat.ble_eq_true_of_le (by omega)) (Ev.good_t (fl _ _) ?_)))
  refine Ev.good_t Ev.kindR_t (Ev.good_t (Nat.ble_eq_true_of_le hn) (Ev.good_t Ev.kindR_t (Ev.good_t (Nat.ble_eq_true_of_le hm) (Ev.good_t Ev.kindR_t (Ev.good_t (Nat.ble_eq_true_of_le (by omega)) (Ev.good_t ?_ ?_))))))
  · show (fol g m 0 (fol f n 0 _) == fol (cat n f g) (n + m) 0 _) = true
    rw [fol_cat]; simp
  refine Ev.good_t Ev.kindR_t (Ev.good_t (Nat.ble_eq_true_of_le hn) (Ev.good_t Ev.kindR_t (Ev.good_t (Nat.ble_eq_true_of_le hm) (Ev.good_t Ev.kindR_t (Ev.good_t (Nat.ble_eq_true_of_le (by omega)) (Ev.good_t ?_ (Ev.good_t rfl (Ev.good_t rfl ?_))))))))
  · show (fol g m 0 (fol f n 0 _) == fol (cat n f g) (n + m) 0 _) = true
    rw [fol_cat]; simp
  · show Value.bool (s == s) = _
    simp
end Go.Proofs.Ytkdkkmpgpmgfoaa
