/- Package seal: two of its laws. -/
import Derived.Test.YtkiddbnpeddiiaaSeF
namespace Go.Proofs.Ytkiddbnpeddiiaa
open Go Go.ChangeShapes Go.WideShapes Go.ChangeAt Go.RowKit
set_option linter.all false
theorem lreplays_c (kd fm to an ky : Int) (a : Option Addr) (n ca : Nat) (f : Nat → Int) (r1 r2 q1 q2 asn : Int) (w : World) (ha : Ev.RowT w a 1 n fun j _ => .int .u8 (f j)) : Calls Try.prog 5 #[(.agg #[.int .i64 kd, .int .i64 fm, .int .i64 to, .int .i64 an, .int .i64 ky, .slice a n ca]), (.agg #[.int .i64 r1, .int .i64 r2]), (.agg #[.int .i64 q1, .int .i64 q2]), .int .i64 asn] w fun e w' => e = .returned (.bool true) ∧ Below w.heap.size w w' := by
  refine Ev.contract1 G2_ok 60 (Ev.rowA_ext (tag := 600) ha) (treplays_L kd fm to an ky a n ca f r1 r2 q1 q2 asn) (treplays_T kd fm to an ky a n ca f r1 r2 q1 q2 asn) ?_
  refine Ev.ite_good (fun _ => rfl) (fun hn => ?_)
  simp only [Int.ofNat_eq_natCast, decide_eq_false_iff_not] at hn
  have hb : Nat.ble (n * 1) 140737488355328 = true := Nat.ble_eq_true_of_le (by omega)
  by_cases he : an = asn
  · subst he; simp [Ev.Tree.good]
  · have he' : ¬ asn = an := fun h => he h.symm
    have e1 : (asn == an) = false := by simpa using he'
    have e2 : (an != asn) = true := by simpa using he
    simp [Ev.Tree.good, he, he', Ev.flatR_t]
    intros; omega
set_option maxHeartbeats 4000000 in
theorem lkeys_c (a b x y : Int) (w : World) : Calls Try.prog 7 #[.int .i64 a, .int .i64 b, .int .i64 x, .int .i64 y] w fun e w' => e = .returned (.bool true) ∧ Below w.heap.size w w' := by
  refine Ev.contract1 G2_ok 60 (Ev.ExtOk.nil w) (tkeys_L a b x y) (tkeys_T a b x y) ?_
  have key : ∀ z : Int, 0 ≤ z → z ≤ 1000000000 → IntKind.wrap .i64 (IntKind.wrap .i64 (Int.tdiv z 2000) + 1) = z / 2000 + 1 ∧ IntKind.wrap .i64 (Int.tdiv z 2000) = z / 2000 := fun z h1 h2 => by
    rw [Int.tdiv_eq_ediv_of_nonneg h1, w64 (x := z / 2000) (by omega) (by omega), w64 (by omega) (by omega)]; exact ⟨rfl, rfl⟩
  have own : ∀ z : Int, 0 ≤ z → z < 60 → IntKind.wrap .i64 (1000000 + z) = 1000000 + z := fun z h1 h2 => w64 (by omega) (by omega)
  have hab : (a / 2000 + 1 == b / 2000 + 1) = (a / 2000 == b / 2000) := by rw [Bool.eq_iff_iff]; simp
  have hxy : (1000000 + x == 1000000 + y) = (x == y) := by rw [Bool.eq_iff_iff]; simp
  by_cases ha : 0 ≤ a ∧ a ≤ 1000000000 <;> by_cases hb : 0 ≤ b ∧ b ≤ 1000000000 <;> by_cases hx : 0 ≤ x ∧ x < 60 <;> by_cases hy : 0 ≤ y ∧ y < 60
  all_goals
    (try rw [(key a ha.1 ha.2).1, (key a ha.1 ha.2).2])
    (try rw [(key b hb.1 hb.2).1, (key b hb.1 hb.2).2])
    (try rw [own x hx.1 hx.2])
    (try rw [own y hy.1 hy.2])
    simp only [Ev.Tree.good, hab, hxy]
    repeat' (first | (refine And.intro (fun h => ?_) (fun h => ?_)))
    all_goals first
      | rfl
      | exact trivial
      | (exfalso; simp only [decide_eq_true_eq, decide_eq_false_iff_not, Bool.not_eq_true', Bool.not_eq_false', beq_self_eq_true, reduceCtorEq, Bool.true_eq_false, Bool.false_eq_true] at *; done)
      | (exfalso; simp only [decide_eq_true_eq, decide_eq_false_iff_not, Bool.not_eq_true', Bool.not_eq_false', beq_self_eq_true, Bool.true_eq_false] at *; omega)
      | (refine congrArg Value.bool ?_; simp only [decide_eq_true_eq, decide_eq_false_iff_not, Bool.not_eq_true', Bool.not_eq_false', bne_iff_ne, ne_eq, Bool.and_eq_true, Bool.or_eq_true] at *; omega)
end Go.Proofs.Ytkiddbnpeddiiaa
