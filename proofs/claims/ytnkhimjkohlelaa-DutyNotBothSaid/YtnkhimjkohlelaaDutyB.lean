import Derived.Test.YtnkhimjkohlelaaDutyA
namespace Go.Proofs.Ytnkhimjkohlelaa
open Go.ChangeShapes Go.WideShapes Go.ChangeAt Go.RowKit
theorem spare (n m i : Int) (w : World) : Calls Try.prog 12 #[.int .i64 n, .int .i64 m, .int .i64 i] w fun e w' => e = .returned (.int .i64 (spareI n m i)) ∧ Below w.heap.size w w' := by
  rcases hok : okB n m with _ | _
  · have H := Lib.hid hok
    have hn : spareI n m i = 0 := by simp [spareI, hok]
    rw [hn]; clear hn hok
    go_enter Try.func12, Try.ntmps12
    go_wp2_with fail
    refine (valid _ _ _).mono ?_
    rintro e w' ⟨rfl, hb⟩
    rw [H.out]
    go_wp2_with fail
    go_ret
    exact ⟨rfl, hb⟩
  · have hk := okB_t hok
    by_cases hi : 4 ≤ i
    · have hn : spareI n m i = max 0 (m - wantI n) := by simp [spareI, hok, hi]
      have H := Lib.hid hok
      rw [hn]; clear hn hok
      have hwl : 0 ≤ wantI n := by unfold wantI; omega
      have hwu : wantI n ≤ 6 := by unfold wantI; omega
      go_enter Try.func12, Try.ntmps12
      go_wp2_with fail
      refine (valid _ _ _).mono ?_
      rintro e w' ⟨rfl, hb⟩
      rw [H.out]
      go_wp2_with fail
      refine (wanted _ (by omega) (by omega) _).mono ?_
      rintro e w2 ⟨rfl, hb2⟩
      rw [show max 0 (min 6 ((n + 1) / 2)) = wantI n from rfl]
      go_wp2_with fail
      all_goals
        go_ret
        exact ⟨ret_int (by omega), hb.trans (hb2.mono hb.size)⟩
    · have hn : spareI n m i = 0 := by simp [spareI, hi]
      have H := Lib.hid hok
      rw [hn]; clear hn hok
      go_enter Try.func12, Try.ntmps12
      go_wp2_with fail
      refine (valid _ _ _).mono ?_
      rintro e w' ⟨rfl, hb⟩
      rw [H.out]
      go_wp2_with fail
      go_ret
      exact ⟨rfl, hb⟩
theorem right (n m : Int) (w : World) : Calls Try.prog 14 #[.int .i64 n, .int .i64 m] w fun e w' => e = .returned (.bool (okB n m)) ∧ w' = w := by
  by_cases h1 : 0 ≤ n <;> by_cases h2 : n ≤ 16 <;> by_cases h3 : 0 ≤ m <;> by_cases h4 : m ≤ 24
  all_goals
    go_enter Try.func14, Try.ntmps14
    go_wp2_with fail
    go_ret
    exact ⟨ret_bool (by simp [okB, *]), rfl⟩
theorem rwanted (n : Int) (h : 0 ≤ n) (h2 : n ≤ 1000) (w : World) : Calls Try.prog 17 #[.int .i64 n] w fun e w' => e = .returned (.int .i64 (wantI n)) ∧ w' = w := by
  go_enter Try.func17, Try.ntmps17
  go_wp2_with fail
  all_goals
    go_ret
    exact ⟨ret_int (by unfold wantI; omega), rfl⟩
theorem rneed (n m : Int) (full : Bool) (w : World) : Calls Try.prog 11 #[.int .i64 n, .int .i64 m, .bool full] w fun e w' => e = .returned (.int .i64 (needI n m full)) ∧ w' = w := by
  rcases hok : okB n m with _ | _
  · have H := Lib.hid hok
    have hn : needI n m full = 0 := by simp [needI, hok]
    rw [hn]; clear hn hok
    go_enter Try.func11, Try.ntmps11
    go_wp2_with fail
    refine (right _ _ _).mono ?_
    rintro e w' ⟨rfl, rfl⟩
    rw [H.out]
    go_wp2_with fail
    go_ret
    exact ⟨rfl, rfl⟩
  · have hk := okB_t hok
    rcases full with _ | _
    · have H := Lib.hid hok
      have hwl : 0 ≤ wantI n := by unfold wantI; omega
      have hwu : wantI n ≤ 6 := by unfold wantI; omega
      by_cases hc : m > wantI n
      · have hn : needI n m false = 0 := by simp [needI, hok]; omega
        rw [hn]; clear hn hok
        go_enter Try.func11, Try.ntmps11
        go_wp2_with fail
        refine (right _ _ _).mono ?_
        rintro e w' ⟨rfl, rfl⟩
        rw [H.out]
        go_wp2_with (go_at_call 17; refine (rwanted _ (by omega) (by omega) _).mono ?_; rintro e w' ⟨rfl, rfl⟩)
        go_ret
        exact ⟨rfl, rfl⟩
      · have hn : needI n m false = wantI n - m := by simp [needI, hok]; omega
        rw [hn]; clear hn hok
        go_enter Try.func11, Try.ntmps11
        go_wp2_with fail
        refine (right _ _ _).mono ?_
        rintro e w' ⟨rfl, rfl⟩
        rw [H.out]
        go_wp2_with (go_at_call 17; refine (rwanted _ (by omega) (by omega) _).mono ?_; rintro e w' ⟨rfl, rfl⟩)
        go_ret
        exact ⟨rfl, rfl⟩
    · have hn : needI n m true = 0 := by simp [needI]
      have H := Lib.hid hok
      rw [hn]; clear hn hok
      go_enter Try.func11, Try.ntmps11
      go_wp2_with fail
      refine (right _ _ _).mono ?_
      rintro e w' ⟨rfl, rfl⟩
      rw [H.out]
      go_wp2_with fail
      go_ret
      exact ⟨rfl, rfl⟩
theorem rspare (n m i : Int) (w : World) : Calls Try.prog 13 #[.int .i64 n, .int .i64 m, .int .i64 i] w fun e w' => e = .returned (.int .i64 (spareI n m i)) ∧ w' = w := by
  rcases hok : okB n m with _ | _
  · have H := Lib.hid hok
    have hn : spareI n m i = 0 := by simp [spareI, hok]
    rw [hn]; clear hn hok
    go_enter Try.func13, Try.ntmps13
    go_wp2_with fail
    refine (right _ _ _).mono ?_
    rintro e w' ⟨rfl, rfl⟩
    rw [H.out]
    go_wp2_with fail
    go_ret
    exact ⟨rfl, rfl⟩
  · have hk := okB_t hok
    by_cases hi : 4 ≤ i
    · have H := Lib.hid hok
      have hwl : 0 ≤ wantI n := by unfold wantI; omega
      have hwu : wantI n ≤ 6 := by unfold wantI; omega
      by_cases hc : m < wantI n
      · have hn : spareI n m i = 0 := by simp [spareI, hok]; omega
        rw [hn]; clear hn hok
        go_enter Try.func13, Try.ntmps13
        go_wp2_with fail
        refine (right _ _ _).mono ?_
        rintro e w' ⟨rfl, rfl⟩
        rw [H.out]
        go_wp2_with (go_at_call 17; refine (rwanted _ (by omega) (by omega) _).mono ?_; rintro e w' ⟨rfl, rfl⟩)
        go_ret
        exact ⟨rfl, rfl⟩
      · have hn : spareI n m i = m - wantI n := by simp [spareI, hok]; omega
        rw [hn]; clear hn hok
        go_enter Try.func13, Try.ntmps13
        go_wp2_with fail
        refine (right _ _ _).mono ?_
        rintro e w' ⟨rfl, rfl⟩
        rw [H.out]
        go_wp2_with (go_at_call 17; refine (rwanted _ (by omega) (by omega) _).mono ?_; rintro e w' ⟨rfl, rfl⟩)
        go_ret
        exact ⟨rfl, rfl⟩
    · have hn : spareI n m i = 0 := by simp [spareI, hi]
      have H := Lib.hid hok
      rw [hn]; clear hn hok
      go_enter Try.func13, Try.ntmps13
      go_wp2_with fail
      refine (right _ _ _).mono ?_
      rintro e w' ⟨rfl, rfl⟩
      rw [H.out]
      go_wp2_with fail
      go_ret
      exact ⟨rfl, rfl⟩
theorem need' (n m : Int) (full : Bool) {W : World} (w : World) (h : Below W.heap.size W w) : Calls Try.prog 10 #[.int .i64 n, .int .i64 m, .bool full] w fun e w' => e = .returned (.int .i64 (needI n m full)) ∧ Below W.heap.size W w' :=
  (need n m full w).mono fun _ _ ⟨a, b⟩ => ⟨a, h.trans (b.mono h.size)⟩
theorem spare' (n m i : Int) {W : World} (w : World) (h : Below W.heap.size W w) : Calls Try.prog 12 #[.int .i64 n, .int .i64 m, .int .i64 i] w fun e w' => e = .returned (.int .i64 (spareI n m i)) ∧ Below W.heap.size W w' :=
  (spare n m i w).mono fun _ _ ⟨a, b⟩ => ⟨a, h.trans (b.mono h.size)⟩
theorem head (w : World) : Calls Try.prog 9 #[] w fun e w' => e = .returned (.bool true) ∧ Below w.heap.size w w' := by
  have hF := Below.refl w.heap.size w
  have c1 : needI 5 1 false = 2 := by decide
  have c2 : needI 5 1 true = 0 := by decide
  have c3 : needI 0 3 false = 0 := by decide
  have c4 : needI 16 0 false = 6 := by decide
  have c5 : needI 17 0 false = 0 := by decide
  have c6 : spareI 0 3 4 = 3 := by decide
  have c7 : spareI 0 3 3 = 0 := by decide
  have c8 : spareI 3 2 9 = 0 := by decide
  have c9 : spareI 0 25 9 = 0 := by decide
  go_enter Try.func9, Try.ntmps9
  go_wp2_with (first
    | (go_at_call 10; refine (need' _ _ _ _ hF).mono ?_; rintro e w' ⟨rfl, hG⟩; clear hF; rename Below _ _ _ => hF)
    | (go_at_call 12; refine (spare' _ _ _ _ hF).mono ?_; rintro e w' ⟨rfl, hG⟩; clear hF; rename Below _ _ _ => hF))
  go_ret
  exact ⟨rfl, hF⟩
end Go.Proofs.Ytnkhimjkohlelaa
