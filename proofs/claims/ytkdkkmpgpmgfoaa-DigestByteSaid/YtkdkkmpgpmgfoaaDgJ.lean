/- Package digest: the law of one byte. -/
import Derived.Test.YtkdkkmpgpmgfoaaDgE
namespace Go.Proofs.Ytkdkkmpgpmgfoaa
open Go Go.ChangeShapes Go.WideShapes Go.ChangeAt Go.RowKit
set_option linter.all false
theorem byte_L (a : Option Addr) (n ca : Nat) (f : Nat → Int) (p q : Int) (r : Ev.Sup) : ((Ev.evalF Try.prog G1 60 5 [(.slice (some ⟨600, 0, some 0⟩) 0 0), undef, undef] [.slice a n ca, .int .u16 p, .int .u8 q] [(Ev.rowA 600 a 1 n fun j _ => .int .u8 (f j))] r)).lhs = ((Ev.evalF Try.prog G1 60 5 [(.slice (some ⟨600, 0, some 0⟩) 0 0), undef, undef] [.slice a n ca, .int .u16 p, .int .u8 q] [(Ev.rowA 600 a 1 n fun j _ => .int .u8 (f j))] r)).rhs := by kernel_rfl
theorem byte_T (a : Option Addr) (n ca : Nat) (f : Nat → Int) (p q : Int) (r : Ev.Sup) : ((Ev.evalF Try.prog G1 60 5 [(.slice (some ⟨600, 0, some 0⟩) 0 0), undef, undef] [.slice a n ca, .int .u16 p, .int .u8 q] [(Ev.rowA 600 a 1 n fun j _ => .int .u8 (f j))] r)).val = (.ite (Int.ofNat n == 0) (.leaf (.bool (true))) (.ite (decide (Int.ofNat n > 5000)) (.leaf (.bool (true))) (.ite (q == 0) (.leaf (.bool (true))) (.ite (Nat.ble ((0 + n) * 1) 140737488355328) (.ite (Ev.flatA n 1 (Ev.Ap.rw fun j x => Value.int IntKind.u8 (f j))) (.ite (decide (Int.ofNat (0 + n) = 0)) (.fail 70) (.ite (Ev.inB (Int.tmod (IntKind.wrap IntKind.i64 p) (Int.ofNat (0 + n))) (0 + n)) (.ite (Nat.ble (Int.toNat (Int.tmod (IntKind.wrap IntKind.i64 p) (Int.ofNat (0 + n))) + 1) (0 + n)) (.ite (Ev.inB (Int.tmod (IntKind.wrap IntKind.i64 p) (Int.ofNat (0 + n))) (0 + n)) (.ite (Nat.ble (Int.toNat (Int.tmod (IntKind.wrap IntKind.i64 p) (Int.ofNat (0 + n))) + 1) (0 + n)) (.ite (Ev.kindR IntKind.u8 (fun j x => Value.int IntKind.u8 (f j)) n) (.ite (Nat.ble n 9223372036854775807) (.ite (Ev.kindR IntKind.u8 (Ev.upG (Ev.apG 1 0 (Ev.Ap.cl [] []) (Ev.Ap.rw fun j x => Value.int IntKind.u8 (f j))) (Int.toNat (Int.tmod (IntKind.wrap IntKind.i64 p) (Int.ofNat (0 + n)))) 0 (Value.int IntKind.u8 (IntKind.wrap IntKind.u8 (Int.ofNat (BitVec.toNat (BitVec.ofInt 8 (f (Int.toNat (Int.tmod (IntKind.wrap IntKind.i64 p) (Int.ofNat (0 + n))))) ^^^ BitVec.ofInt 8 q)))))) (0 + n)) (.ite (Nat.ble (0 + n) 9223372036854775807) (.leaf (.bool (fol (fun j => f j) n 0 14695981039346656037 != fol (fun j => bif Nat.beq j (Int.toNat (Int.tmod (IntKind.wrap IntKind.i64 p) (Int.ofNat (0 + n)))) && true then IntKind.wrap IntKind.u8 (Int.ofNat (BitVec.toNat (BitVec.ofInt 8 (f (Int.toNat (Int.tmod (IntKind.wrap IntKind.i64 p) (Int.ofNat (0 + n))))) ^^^ BitVec.ofInt 8 q))) else f j) (0 + n) 0 14695981039346656037))) (.fail 92)) (.fail 92)) (.fail 92)) (.fail 92)) (.fail 82)) (.fail 71)) (.fail 72)) (.fail 71))) (.fail 77)) (.fail 76))))) := by kernel_rfl
/-- one byte is another one -/
theorem fol_other (f g : Nat → Int) (n k : Nat) (b : BitVec 64) (hk : k < n) (hg : ∀ j, j ≠ k → g j = f j) (hne : BitVec.ofInt 64 (IntKind.wrap .u64 (f k)) ≠ BitVec.ofInt 64 (IntKind.wrap .u64 (g k))) : fol f n 0 (b.toNat : Int) ≠ fol g n 0 (b.toNat : Int) := by
  obtain ⟨d, rfl⟩ : ∃ d, n = k + (d + 1) := ⟨n - (k + 1), by omega⟩
  rw [fol_add (n := k) (m := d + 1), fol_add (n := k) (m := d + 1), Nat.zero_add, fol_s, fol_s]
  have e1 : fol g k 0 (b.toNat : Int) = fol f k 0 (b.toNat : Int) := fol_congr fun j hj => hg _ (by omega)
  rw [e1]
  obtain ⟨y, hy⟩ := fol_bv f k 0 b
  rw [hy, stp_bv, stp_bv]
  have e2 : ∀ s, fol g d (k + 1) s = fol f d (k + 1) s := fun s => fol_congr fun j hj => hg _ (by omega)
  rw [e2]
  obtain ⟨x', y', h1, h2, h3⟩ := fol_inj f d (k + 1) ((y ^^^ BitVec.ofInt 64 (IntKind.wrap .u64 (f k))) * BitVec.ofInt 64 1099511628211) ((y ^^^ BitVec.ofInt 64 (IntKind.wrap .u64 (g k))) * BitVec.ofInt 64 1099511628211)
  rw [h1, h2, ne_eq, Bv.eq_iff, h3, Bv.mul_inj inv_ok, Bv.xor_inj']
  exact hne
theorem byte_ne (x q : Int) (hx : 0 ≤ x ∧ x ≤ 255) (hq : 1 ≤ q ∧ q ≤ 255) : BitVec.ofInt 64 (IntKind.wrap .u64 x) ≠ BitVec.ofInt 64 (IntKind.wrap .u64 (IntKind.wrap .u8 (Int.ofNat (BitVec.toNat (BitVec.ofInt 8 x ^^^ BitVec.ofInt 8 q))))) := by
  intro h
  have u8 : ∀ v : BitVec 8, IntKind.wrap .u8 (Int.ofNat v.toNat) = (v.toNat : Int) := fun v => by
    have := v.isLt
    simp only [IntKind.wrap, IntKind.bits, IntKind.signed, Int.ofNat_eq_natCast]
    simp
    omega
  rw [u8] at h
  have h2 := congrArg BitVec.toNat h
  have h3 : ((BitVec.ofInt 64 (IntKind.wrap .u64 x)).toNat : Int) = ((BitVec.ofInt 64 (IntKind.wrap .u64 ((BitVec.ofInt 8 x ^^^ BitVec.ofInt 8 q).toNat : Int))).toNat : Int) := by rw [h2]
  have hl := (BitVec.ofInt 8 x ^^^ BitVec.ofInt 8 q).isLt
  rw [Bv.toNat_ofInt, Bv.toNat_ofInt, Bv.wrapU, Bv.wrapU] at h3
  have h4 : x = ((BitVec.ofInt 8 x ^^^ BitVec.ofInt 8 q).toNat : Int) := by omega
  have hxx : ((BitVec.ofInt 8 x).toNat : Int) = x := by rw [BitVec.toNat_ofInt]; omega
  have h5 : (BitVec.ofInt 8 x).toNat = (BitVec.ofInt 8 x ^^^ BitVec.ofInt 8 q).toNat := by omega
  have h6 := BitVec.eq_of_toNat_eq h5
  have h7 : BitVec.ofInt 8 q = 0#8 := by
    have := congrArg (BitVec.ofInt 8 x ^^^ ·) h6
    simp only [BitVec.xor_self, ← BitVec.xor_assoc, BitVec.zero_xor] at this
    exact this.symm
  have h8 := congrArg BitVec.toNat h7
  rw [BitVec.toNat_ofInt] at h8
  simp at h8
  omega
theorem byte_c (a : Option Addr) (n ca : Nat) (f : Nat → Int) (p q : Int) (w : World) (hp : 0 ≤ p ∧ p ≤ 65535) (hq : 0 ≤ q ∧ q ≤ 255) (hf : ∀ j, j < n → 0 ≤ f j ∧ f j ≤ 255) (ha : Ev.RowT w a 1 n fun j _ => .int .u8 (f j)) :
    Calls Try.prog 5 #[.slice a n ca, .int .u16 p, .int .u8 q] w fun e w' => e = .returned (.bool true) ∧ Below w.heap.size w w' := by
  refine Ev.contract1 G1_ok 60 (Ev.rowA_ext ha) (byte_L a n ca f p q) (byte_T a n ca f p q) ?_
  refine Ev.ite_good (fun _ => rfl) (fun h1 => Ev.ite_good (fun _ => rfl) (fun h2 => Ev.ite_good (fun _ => rfl) (fun h3 => ?_)))
  simp only [decide_eq_false_iff_not, Int.ofNat_eq_natCast, Nat.zero_add, beq_eq_false_iff_ne, ne_eq] at h1 h2 h3 ⊢
  have fl : ∀ (k : Nat) (f : Nat → Int), Ev.flatA k 1 (.rw fun j _ => .int .u8 (f j)) = true := fun k f => Ev.flatR_t
  have hw : IntKind.wrap .i64 p = p := Ev.w64 (by omega) (by omega)
  have hb : 0 ≤ Int.tmod p (n : Int) ∧ Int.tmod p (n : Int) < (n : Int) := ⟨Int.tmod_nonneg _ hp.1, Int.tmod_lt_of_pos _ (by omega)⟩
  rw [hw]
  generalize Int.tmod p (n : Int) = m at hb ⊢
  obtain ⟨k, rfl⟩ : ∃ k : Nat, m = (k : Int) := ⟨m.toNat, by omega⟩
  have hk : k < n := by omega
  simp only [Int.toNat_natCast]
  refine Ev.good_t (Nat.ble_eq_true_of_le (by omega)) (Ev.good_t (fl _ _) (Ev.good_f (by simp; omega) ?_))
  refine Ev.good_t (Ev.inB_t hk) (Ev.good_t (Ev.ble_t hk) (Ev.good_t (Ev.inB_t hk) (Ev.good_t (Ev.ble_t hk) (Ev.good_t Ev.kindR_t (Ev.good_t (Nat.ble_eq_true_of_le (by omega)) (Ev.good_t ?_ (Ev.good_t (Nat.ble_eq_true_of_le (by omega)) ?_)))))))
  · have e : ∀ j c, Ev.apG 1 0 (.cl [] []) (.rw fun j _ => .int .u8 (f j)) j c = .int .u8 (f j) := fun j c => by rw [apG_eq, if_pos (Nat.zero_le _)]; rfl
    simp only [Ev.kindR, decide_eq_true_eq]
    intro j hj
    rw [Ev.upG_at]
    by_cases hjk : j = k ∧ (0 : Nat) = 0
    · rw [if_pos hjk]; rfl
    · rw [if_neg hjk, e]; rfl
  · refine congrArg Value.bool ?_
    have hne := fol_other (fun j => f j) (fun j => bif Nat.beq j k && true then IntKind.wrap IntKind.u8 (Int.ofNat (BitVec.toNat (BitVec.ofInt 8 (f k) ^^^ BitVec.ofInt 8 q))) else f j) n k 14695981039346656037#64 hk (fun j hj => by
      have : Nat.beq j k = false := by
        cases hb : Nat.beq j k with
        | false => rfl
        | true => exact absurd (Nat.eq_of_beq_eq_true hb) hj
      simp only [this, Bool.false_and, cond_false]) (by
      simp only [Nat.beq_refl, Bool.true_and, cond_true]
      exact byte_ne (f k) q (hf k hk) (by omega))
    have e14 : ((14695981039346656037#64).toNat : Int) = 14695981039346656037 := by decide
    rw [e14] at hne
    simp only [bne_iff_ne]
    exact hne
theorem rowU8 {w : World} {a : Option Addr} {len cap : Nat} {z : List Int} (h : IsRow .u8 w a len cap z) : ∀ j, j < len → 0 ≤ Ev.nthZ z j ∧ Ev.nthZ z j ≤ 255 := by
  intro j hj
  rcases h with ⟨_, h, _⟩ | ⟨x, _, h1, h2, h3, _, h5⟩
  · omega
  · have hl : j < z.length := by omega
    rw [Ev.nthZ_getD]
    have : z.getD j 0 ∈ z := by rw [List.getD_eq_getElem?_getD, List.getElem?_eq_getElem hl]; exact List.getElem_mem hl
    exact bounds_u8 (h5 _ this)
end Go.Proofs.Ytkdkkmpgpmgfoaa
