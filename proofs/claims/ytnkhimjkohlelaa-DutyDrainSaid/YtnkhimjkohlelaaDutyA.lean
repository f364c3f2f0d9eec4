import Derived.Test.YtnkhimjkohlelaaRows
import Derived.WalkKit
import Derived.ProofKit
import Derived.OpenShut
import Derived.Outline
import Derived.Handy
import Derived.Lib.Hide
namespace Go.Proofs.Ytnkhimjkohlelaa
open Go.ChangeShapes Go.WideShapes Go.ChangeAt Go.RowKit
theorem btw (lo hi : Int) (w : World) : Calls Try.prog 19 #[.int .i64 lo, .int .i64 hi] w fun e w' => e = .returned (.func (.func 20) #[] #[.pointer (some ⟨w.heap.size, 0, none⟩), .pointer (some ⟨w.heap.size + 1, 0, none⟩)]) ∧ w' = (w.alloc (.cells #[.int .i64 lo] 3)).alloc (.cells #[.int .i64 hi] 3) := by
  go_enter Try.func19, Try.ntmps19
  go_wp2
  go_ret
  exact ⟨rfl, rfl⟩
theorem ret_int {k : IntKind} {a b : Int} (h : a = b) : Ending.returned (.int k a) = .returned (.int k b) := by rw [h]
theorem ret_bool {a b : Bool} (h : a = b) : Ending.returned (.bool a) = .returned (.bool b) := by rw [h]
theorem btw1 (lo hi n : Int) (p q : Addr) (w : World) (hp : w.cell? p = some (.int .i64 lo)) (hq : w.cell? q = some (.int .i64 hi)) : Calls Try.prog 20 #[.int .i64 n, .pointer (some p), .pointer (some q)] w fun e w' => e = .returned (.int .i64 (max lo (min hi n))) ∧ w' = w := by
  go_enter Try.func20, Try.ntmps20
  go_wp2
  all_goals
    go_ret
    exact ⟨ret_int (by omega), rfl⟩
theorem wanted (n : Int) (h : 0 ≤ n) (h2 : n ≤ 1000) (w : World) : Calls Try.prog 16 #[.int .i64 n] w fun e w' => e = .returned (.int .i64 (max 0 (min 6 ((n+1) / 2)))) ∧ Below w.heap.size w w' := by
  go_enter Try.func16, Try.ntmps16
  go_wp2_with fail
  refine (btw _ _ _).mono ?_
  rintro e w' ⟨rfl, rfl⟩
  go_wp2_with fail
  refine (btw1 0 6 _ _ _ _ (by simp [go_sem]) (by simp [go_sem])).mono ?_
  rintro e w' ⟨rfl, rfl⟩
  go_wp2
  go_ret
  exact ⟨rfl, (((Below.refl _ _).alloc (Nat.le_refl _) _).alloc (by simp) _)⟩
theorem within1 (lo hi n : Int) (p q r : Addr) (w : World) (hp : w.cell? p = some (.int .i64 lo)) (hq : w.cell? q = some (.int .i64 hi)) (hr : w.cell? ⟨r.block, r.off, none⟩ = some (.int .i64 n)) : Calls Try.prog 18 #[.func (.func 20) #[] #[.pointer (some p), .pointer (some q)], .slice (some ⟨r.block, r.off, none⟩) 1 1] w fun e w' => e = .returned (.bool (decide (max lo (min hi n) = n))) ∧ w' = w := by
  by_cases h : max lo (min hi n) = n
  · have hb : ((max lo (min hi n) : Int) != n) = false := by simp [h]
    have HH := Lib.hid h; clear h
    go_enter Try.func18, Try.ntmps18
    go_wp2_with fail
    refine wp_loop_rounds 2 ?_
    rw [rounds_succ]
    go_wp2_with fail
    refine (btw1 lo hi _ _ _ _ hp hq).mono ?_
    rintro e w' ⟨rfl, rfl⟩
    go_wp2_with fail
    rw [rounds_succ]
    go_wp2_with fail
    go_ret
    exact ⟨ret_bool (by simp [HH.out]), rfl⟩
  · have hb : ((max lo (min hi n) : Int) != n) = true := by simp [h]
    have HH := Lib.hid h; clear h
    go_enter Try.func18, Try.ntmps18
    go_wp2_with fail
    refine wp_loop_rounds 2 ?_
    rw [rounds_succ]
    go_wp2_with fail
    refine (btw1 lo hi _ _ _ _ hp hq).mono ?_
    rintro e w' ⟨rfl, rfl⟩
    go_wp2_with fail
    go_ret
    exact ⟨ret_bool (by simp [HH.out]), rfl⟩
def okB (n m : Int) : Bool := decide (0 ≤ n ∧ n ≤ 16 ∧ 0 ≤ m ∧ m ≤ 24)
theorem valid (n m : Int) (w : World) : Calls Try.prog 15 #[.int .i64 n, .int .i64 m] w fun e w' => e = .returned (.bool (okB n m)) ∧ Below w.heap.size w w' := by
  go_enter Try.func15, Try.ntmps15
  go_wp2_with fail
  refine (btw _ _ _).mono ?_
  rintro e w' ⟨rfl, rfl⟩
  go_wp2_with fail
  refine (within1 0 16 n _ _ ⟨w.heap.size + 2, 0, none⟩ _ (by simp [go_sem]) (by simp [go_sem]) (by simp [go_sem])).mono ?_
  rintro e w' ⟨rfl, rfl⟩
  by_cases h : max 0 (min 16 n) = n
  · have hd : decide (max 0 (min 16 n) = n) = true := by simp [h]
    have HH := Lib.hid h; clear h
    go_wp2_with fail
    refine (btw _ _ _).mono ?_
    rintro e w' ⟨rfl, rfl⟩
    go_wp2_with fail
    refine (within1 0 24 m _ _ ⟨w.heap.size + 5, 0, none⟩ _ (by simp [go_sem]) (by simp [go_sem]) (by simp [go_sem])).mono ?_
    rintro e w' ⟨rfl, rfl⟩
    go_wp2_with fail
    go_ret
    refine ⟨ret_bool ?_, ?_⟩
    · have := HH.out; rw [okB, decide_eq_decide]; omega
    · exact (((((((Below.refl _ _).alloc (Nat.le_refl _) _).alloc (by simp) _).alloc (by simp; omega) _).alloc (by simp; omega) _).alloc (by simp; omega) _).alloc (by simp; omega) _)
  · have hd : decide (max 0 (min 16 n) = n) = false := by simp [h]
    have HH := Lib.hid h; clear h
    go_wp2_with fail
    go_ret
    refine ⟨ret_bool ?_, ?_⟩
    · have := HH.out; rw [okB, eq_comm, decide_eq_false_iff_not]; omega
    · exact (((Below.refl _ _).alloc (Nat.le_refl _) _).alloc (by simp) _).alloc (by simp; omega) _
def wantI (n : Int) : Int := max 0 (min 6 ((n + 1) / 2))
def needI (n m : Int) (full : Bool) : Int := if okB n m && !full then max 0 (wantI n - m) else 0
def spareI (n m i : Int) : Int := if okB n m && decide (4 ≤ i) then max 0 (m - wantI n) else 0
theorem okB_t {n m : Int} (h : okB n m = true) : 0 ≤ n ∧ n ≤ 16 ∧ 0 ≤ m ∧ m ≤ 24 := by simpa [okB] using h
theorem need (n m : Int) (full : Bool) (w : World) : Calls Try.prog 10 #[.int .i64 n, .int .i64 m, .bool full] w fun e w' => e = .returned (.int .i64 (needI n m full)) ∧ Below w.heap.size w w' := by
  rcases hok : okB n m with _ | _
  · have H := Lib.hid hok
    have hn : needI n m full = 0 := by simp [needI, hok]
    rw [hn]; clear hn hok
    go_enter Try.func10, Try.ntmps10
    go_wp2_with fail
    refine (valid _ _ _).mono ?_
    rintro e w' ⟨rfl, hb⟩
    rw [H.out]
    go_wp2_with fail
    go_ret
    exact ⟨rfl, hb⟩
  · have hk := okB_t hok
    rcases full with _ | _
    · have hn : needI n m false = max 0 (wantI n - m) := by simp [needI, hok]
      have H := Lib.hid hok
      rw [hn]; clear hn hok
      have hwl : 0 ≤ wantI n := by unfold wantI; omega
      have hwu : wantI n ≤ 6 := by unfold wantI; omega
      go_enter Try.func10, Try.ntmps10
      go_wp2_with fail
      refine (valid _ _ _).mono ?_
      rintro e w' ⟨rfl, hb⟩
      rw [H.out]
      go_wp2_with fail
      refine (wanted _ (by omega) (by omega) _).mono ?_
      rintro e w2 ⟨rfl, hb2⟩
      rw [show max 0 (min 6 ((n + 1) / 2)) = wantI n from rfl]
      go_wp2_with fail
      all_goals
        go_ret
        exact ⟨ret_int (by omega), hb.trans (hb2.mono hb.size)⟩
    · have hn : needI n m true = 0 := by simp [needI]
      have H := Lib.hid hok
      rw [hn]; clear hn hok
      go_enter Try.func10, Try.ntmps10
      go_wp2_with fail
      refine (valid _ _ _).mono ?_
      rintro e w' ⟨rfl, hb⟩
      rw [H.out]
      go_wp2_with fail
      go_ret
      exact ⟨rfl, hb⟩
end Go.Proofs.Ytnkhimjkohlelaa
