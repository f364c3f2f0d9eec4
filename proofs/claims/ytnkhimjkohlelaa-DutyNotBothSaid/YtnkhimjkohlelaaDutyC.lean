import Derived.Test.YtnkhimjkohlelaaDutyB
namespace Go.Proofs.Ytnkhimjkohlelaa
open Go.ChangeShapes Go.WideShapes Go.ChangeAt Go.RowKit
theorem head' {W : World} (w : World) (h : Below W.heap.size W w) : Calls Try.prog 9 #[] w fun e w' => e = .returned (.bool true) ∧ Below W.heap.size W w' :=
  (head w).mono fun _ _ ⟨a, b⟩ => ⟨a, h.trans (b.mono h.size)⟩
theorem matchesW (n m i : Int) (full : Bool) (w : World) : Calls Try.prog 3 #[.int .i64 n, .int .i64 m, .int .i64 i, .bool full] w fun e w' => e = .returned (.bool true) ∧ Below w.heap.size w w' := by
  have hF := Below.refl w.heap.size w
  go_enter Try.func3, Try.ntmps3
  go_wp2_with (first
    | (go_at_call 9; refine (head' _ hF).mono ?_; rintro e w' ⟨rfl, hG⟩; clear hF; rename Below _ _ _ => hF)
    | (go_at_call 10; refine (need' _ _ _ _ hF).mono ?_; rintro e w' ⟨rfl, hG⟩; clear hF; rename Below _ _ _ => hF)
    | (go_at_call 12; refine (spare' _ _ _ _ hF).mono ?_; rintro e w' ⟨rfl, hG⟩; clear hF; rename Below _ _ _ => hF)
    | (go_at_call 11; refine (rneed _ _ _ _).mono ?_; rintro e w' ⟨rfl, rfl⟩)
    | (go_at_call 13; refine (rspare _ _ _ _).mono ?_; rintro e w' ⟨rfl, rfl⟩))
  go_ret
  exact ⟨rfl, hF⟩
theorem need_b (n m : Int) (f : Bool) : 0 ≤ needI n m f ∧ needI n m f ≤ 6 := by
  unfold needI
  split
  · rename_i h; simp only [Bool.and_eq_true] at h; have := okB_t h.1; unfold wantI; omega
  · omega
theorem spare_b (n m i : Int) : 0 ≤ spareI n m i ∧ spareI n m i ≤ 24 := by
  unfold spareI
  split
  · rename_i h; simp only [Bool.and_eq_true] at h; have := okB_t h.1; unfold wantI; omega
  · omega
theorem needI_ok {n m : Int} (h : okB n m = true) : needI n m false = max 0 (wantI n - m) := by simp [needI, h]
theorem spareI_ok {n m i : Int} (h : okB n m = true) (hi : 4 ≤ i) : spareI n m i = max 0 (m - wantI n) := by simp [spareI, h, hi]
theorem okB_mk {n m : Int} (h : 0 ≤ n ∧ n ≤ 16 ∧ 0 ≤ m ∧ m ≤ 24) : okB n m = true := by simpa [okB] using h
theorem enough_plain {n m i : Int} (h : okB n m = true) (hi : 4 ≤ i) : needI n (m + needI n m false - spareI n m i) false = 0 ∧ spareI n (m + needI n m false - spareI n m i) i = 0 := by
  have hk := okB_t h
  have e1 := needI_ok h
  have e2 := spareI_ok h hi
  have hw : 0 ≤ wantI n ∧ wantI n ≤ 6 := by unfold wantI; omega
  have e3 : m + needI n m false - spareI n m i = wantI n := by omega
  rw [e3]
  have h2 : okB n (wantI n) = true := okB_mk (by omega)
  rw [needI_ok h2, spareI_ok h2 hi]
  omega
theorem need_v {n m : Int} {full : Bool} {v : Int} (hv : needI n m full = v) {W : World} (w : World) (h : Below W.heap.size W w) : Calls Try.prog 10 #[.int .i64 n, .int .i64 m, .bool full] w fun e w' => e = .returned (.int .i64 v) ∧ Below W.heap.size W w' := by
  subst hv; exact need' _ _ _ _ h
theorem spare_v {n m i v : Int} (hv : spareI n m i = v) {W : World} (w : World) (h : Below W.heap.size W w) : Calls Try.prog 12 #[.int .i64 n, .int .i64 m, .int .i64 i] w fun e w' => e = .returned (.int .i64 v) ∧ Below W.heap.size W w' := by
  subst hv; exact spare' _ _ _ _ h
theorem right_v {n m : Int} {b : Bool} (hv : okB n m = b) (w : World) : Calls Try.prog 14 #[.int .i64 n, .int .i64 m] w fun e w' => e = .returned (.bool b) ∧ w' = w := by
  subst hv; exact right _ _ _
theorem enoughW (n m i : Int) (w : World) : Calls Try.prog 4 #[.int .i64 n, .int .i64 m, .int .i64 i] w fun e w' => e = .returned (.bool true) ∧ Below w.heap.size w w' := by
  have hF := Below.refl w.heap.size w
  rcases hok : okB n m with _ | _
  · have H := Lib.hid hok; clear hok
    go_enter Try.func4, Try.ntmps4
    go_wp2_with (first
      | (go_at_call 9; refine (head' _ hF).mono ?_; rintro e w' ⟨rfl, hG⟩; clear hF; rename Below _ _ _ => hF)
      | (go_at_call 14; refine (right_v H.out _).mono ?_; rintro e w' ⟨rfl, rfl⟩))
    go_ret
    exact ⟨rfl, hF⟩
  · have hk := okB_t hok
    obtain ⟨j, hj, hj4⟩ : ∃ j, max 4 i = j ∧ 4 ≤ j := ⟨_, rfl, by omega⟩
    have hn := need_b n m false
    have hs := spare_b n m j
    have he := enough_plain hok hj4
    generalize ha : needI n m false = a at *
    generalize hb : spareI n m j = s at *
    have Ha := Lib.hid ha; have Hb := Lib.hid hb; have He := Lib.hid he; have H := Lib.hid hok; have Hj := Lib.hid hj
    clear ha hb he hok hj
    obtain ⟨hn1, hn2⟩ := hn; obtain ⟨hs1, hs2⟩ := hs; obtain ⟨hk1, hk2, hk3, hk4⟩ := hk
    by_cases hi : 4 < i
    · obtain rfl : j = i := by have := Hj.out; omega
      clear Hj
      go_enter Try.func4, Try.ntmps4
      go_wp2_with fail
      refine (head' _ hF).mono ?_; rintro e w1 ⟨rfl, hG⟩
      go_wp2_with fail
      refine (right_v H.out _).mono ?_; rintro e w2 ⟨rfl, rfl⟩
      go_wp2_with fail
      refine (need_v Ha.out _ hG).mono ?_; rintro e w2 ⟨rfl, hG2⟩
      go_wp2_with fail
      refine (spare_v Hb.out _ hG2).mono ?_; rintro e w3 ⟨rfl, hG3⟩
      go_wp2_with fail
      refine (need_v He.out.1 _ hG3).mono ?_; rintro e w4 ⟨rfl, hG4⟩
      go_wp2_with fail
      refine (spare_v He.out.2 _ hG4).mono ?_; rintro e w5 ⟨rfl, hG5⟩
      go_wp2_with fail
      go_ret
      exact ⟨rfl, hG5⟩
    · obtain rfl : j = 4 := by have := Hj.out; omega
      clear Hj
      go_enter Try.func4, Try.ntmps4
      go_wp2_with fail
      refine (head' _ hF).mono ?_; rintro e w1 ⟨rfl, hG⟩
      go_wp2_with fail
      refine (right_v H.out _).mono ?_; rintro e w2 ⟨rfl, rfl⟩
      go_wp2_with fail
      refine (need_v Ha.out _ hG).mono ?_; rintro e w2 ⟨rfl, hG2⟩
      go_wp2_with fail
      refine (spare_v Hb.out _ hG2).mono ?_; rintro e w3 ⟨rfl, hG3⟩
      go_wp2_with fail
      refine (need_v He.out.1 _ hG3).mono ?_; rintro e w4 ⟨rfl, hG4⟩
      go_wp2_with fail
      refine (spare_v He.out.2 _ hG4).mono ?_; rintro e w5 ⟨rfl, hG5⟩
      go_wp2_with fail
      go_ret
      exact ⟨rfl, hG5⟩
theorem not_both (n m i : Int) (full : Bool) : needI n m full = 0 ∨ spareI n m i = 0 := by
  unfold needI spareI
  split
  · split
    · omega
    · exact .inr rfl
  · exact .inl rfl
theorem notBothW (n m i : Int) (full : Bool) (w : World) : Calls Try.prog 5 #[.int .i64 n, .int .i64 m, .int .i64 i, .bool full] w fun e w' => e = .returned (.bool true) ∧ Below w.heap.size w w' := by
  have hF := Below.refl w.heap.size w
  have hn := need_b n m full
  have hs := spare_b n m i
  rcases not_both n m i full with h | h
  all_goals
    go_enter Try.func5, Try.ntmps5
    go_wp2_with (first
      | (go_at_call 9; refine (head' _ hF).mono ?_; rintro e w' ⟨rfl, hG⟩; clear hF; rename Below _ _ _ => hF)
      | (go_at_call 10; refine (need' _ _ _ _ hF).mono ?_; rintro e w' ⟨rfl, hG⟩; clear hF; rename Below _ _ _ => hF)
      | (go_at_call 12; refine (spare' _ _ _ _ hF).mono ?_; rintro e w' ⟨rfl, hG⟩; clear hF; rename Below _ _ _ => hF))
    all_goals
      go_ret
      exact ⟨rfl, hF⟩
theorem more_plain {n m k i : Int} {full : Bool} (h : okB n m = true) (hk : 0 ≤ k) (hk2 : k ≤ 16 - n) : needI n m full ≤ needI (n + k) m full ∧ spareI (n + k) m i ≤ spareI n m i ∧ (k ≤ 1 → needI (n + k) m full - needI n m full ≤ 1 ∧ spareI n m i - spareI (n + k) m i ≤ 1) := by
  have hb := okB_t h
  have h2 : okB (n + k) m = true := okB_mk (by omega)
  have w1 : wantI n ≤ wantI (n + k) := by unfold wantI; omega
  have w2 : k ≤ 1 → wantI (n + k) - wantI n ≤ 1 := by unfold wantI; omega
  refine ⟨?_, ?_, fun hk1 => ⟨?_, ?_⟩⟩
  · cases full
    · rw [needI_ok h, needI_ok h2]; omega
    · simp [needI]
  · by_cases hi : 4 ≤ i
    · rw [spareI_ok h hi, spareI_ok h2 hi]; omega
    · simp [spareI, hi]
  · have := w2 hk1
    cases full
    · rw [needI_ok h, needI_ok h2]; omega
    · simp [needI]
  · have := w2 hk1
    by_cases hi : 4 ≤ i
    · rw [spareI_ok h hi, spareI_ok h2 hi]; omega
    · simp [spareI, hi]
theorem moreW (n m i k : Int) (full : Bool) (w : World) (wn : -9223372036854775808 ≤ n ∧ n ≤ 9223372036854775807) : Calls Try.prog 6 #[.int .i64 n, .int .i64 m, .int .i64 i, .int .i64 k, .bool full] w fun e w' => e = .returned (.bool true) ∧ Below w.heap.size w w' := by
  have hF := Below.refl w.heap.size w
  rcases hok : okB n m with _ | _
  · have H := Lib.hid hok; clear hok
    go_enter Try.func6, Try.ntmps6
    go_wp2_with (first
      | (go_at_call 9; refine (head' _ hF).mono ?_; rintro e w' ⟨rfl, hG⟩; clear hF; rename Below _ _ _ => hF)
      | (go_at_call 14; refine (right_v H.out _).mono ?_; rintro e w' ⟨rfl, rfl⟩))
    go_ret
    exact ⟨rfl, hF⟩
  · have hk := okB_t hok
    have H := Lib.hid hok
    by_cases hk0 : 0 ≤ k ∧ k ≤ 16 - n
    · obtain ⟨h0, h1⟩ := hk0
      have hp := @more_plain n m k i full hok h0 h1
      have hn := need_b n m full
      have hn' := need_b (n + k) m full
      have hs := spare_b n m i
      have hs' := spare_b (n + k) m i
      generalize ha : needI n m full = a at *
      generalize hb : needI (n + k) m full = b at *
      generalize hc : spareI n m i = c at *
      generalize hd : spareI (n + k) m i = d at *
      have Ha := Lib.hid ha; have Hb := Lib.hid hb; have Hc := Lib.hid hc; have Hd := Lib.hid hd
      clear ha hb hc hd hok
      obtain ⟨hp1, hp2, hp3⟩ := hp
      by_cases k1 : 1 < k
      · clear hp3
        go_enter Try.func6, Try.ntmps6
        go_wp2_with fail
        refine (head' _ hF).mono ?_; rintro e w1 ⟨rfl, hG⟩
        go_wp2_with fail
        refine (right_v H.out _).mono ?_; rintro e w2 ⟨rfl, rfl⟩
        go_wp2_with fail
        refine (need_v Ha.out _ hG).mono ?_; rintro e w2 ⟨rfl, hG2⟩
        go_wp2_with fail
        refine (need_v Hb.out _ hG2).mono ?_; rintro e w3 ⟨rfl, hG3⟩
        go_wp2_with fail
        refine (spare_v Hc.out _ hG3).mono ?_; rintro e w4 ⟨rfl, hG4⟩
        go_wp2_with fail
        refine (spare_v Hd.out _ hG4).mono ?_; rintro e w5 ⟨rfl, hG5⟩
        go_wp2_with fail
        go_ret
        exact ⟨rfl, hG5⟩
      · obtain ⟨hp3, hp4⟩ := hp3 (by omega)
        go_enter Try.func6, Try.ntmps6
        go_wp2_with fail
        refine (head' _ hF).mono ?_; rintro e w1 ⟨rfl, hG⟩
        go_wp2_with fail
        refine (right_v H.out _).mono ?_; rintro e w2 ⟨rfl, rfl⟩
        go_wp2_with fail
        refine (need_v Ha.out _ hG).mono ?_; rintro e w2 ⟨rfl, hG2⟩
        go_wp2_with fail
        refine (need_v Hb.out _ hG2).mono ?_; rintro e w3 ⟨rfl, hG3⟩
        go_wp2_with fail
        refine (spare_v Hc.out _ hG3).mono ?_; rintro e w4 ⟨rfl, hG4⟩
        go_wp2_with fail
        refine (spare_v Hd.out _ hG4).mono ?_; rintro e w5 ⟨rfl, hG5⟩
        go_wp2_with fail
        go_ret
        exact ⟨rfl, hG5⟩
    · by_cases h0 : 0 ≤ k
      · have h1 : 16 - n < k := by omega
        clear hok hk0
        go_enter Try.func6, Try.ntmps6
        go_wp2_with (first
          | (go_at_call 9; refine (head' _ hF).mono ?_; rintro e w' ⟨rfl, hG⟩; clear hF; rename Below _ _ _ => hF)
          | (go_at_call 14; refine (right_v H.out _).mono ?_; rintro e w' ⟨rfl, rfl⟩))
        go_ret
        exact ⟨rfl, hF⟩
      · clear hok hk0
        go_enter Try.func6, Try.ntmps6
        go_wp2_with (first
          | (go_at_call 9; refine (head' _ hF).mono ?_; rintro e w' ⟨rfl, hG⟩; clear hF; rename Below _ _ _ => hF)
          | (go_at_call 14; refine (right_v H.out _).mono ?_; rintro e w' ⟨rfl, rfl⟩))
        go_ret
        exact ⟨rfl, hF⟩
theorem bounds_plain {n m i : Int} (h : okB n m = true) : (needI n m false = 0 ∨ m + needI n m false ≤ 6) ∧ spareI n m i ≤ m ∧ (4 ≤ i ∨ spareI n m i = 0) := by
  have hb := okB_t h
  have hw : 0 ≤ wantI n ∧ wantI n ≤ 6 := by unfold wantI; omega
  rw [needI_ok h]
  refine ⟨by omega, ?_, ?_⟩
  · by_cases hi : 4 ≤ i
    · rw [spareI_ok h hi]; omega
    · simp [spareI, hi]; omega
  · by_cases hi : 4 ≤ i
    · exact .inl hi
    · right; simp [spareI, hi]
theorem boundsW (n m i : Int) (w : World) : Calls Try.prog 7 #[.int .i64 n, .int .i64 m, .int .i64 i] w fun e w' => e = .returned (.bool true) ∧ Below w.heap.size w w' := by
  have hF := Below.refl w.heap.size w
  rcases hok : okB n m with _ | _
  · have H := Lib.hid hok; clear hok
    go_enter Try.func7, Try.ntmps7
    go_wp2_with (first
      | (go_at_call 9; refine (head' _ hF).mono ?_; rintro e w' ⟨rfl, hG⟩; clear hF; rename Below _ _ _ => hF)
      | (go_at_call 14; refine (right_v H.out _).mono ?_; rintro e w' ⟨rfl, rfl⟩))
    go_ret
    exact ⟨rfl, hF⟩
  · have hk := okB_t hok
    have H := Lib.hid hok
    have hp := @bounds_plain n m i hok
    have hn := need_b n m false
    have hs := spare_b n m i
    generalize ha : needI n m false = a at *
    generalize hc : spareI n m i = c at *
    have Ha := Lib.hid ha; have Hc := Lib.hid hc
    clear ha hc hok
    obtain ⟨hp1, hp2, hp3⟩ := hp
    by_cases a0 : a = 0 <;> by_cases i4 : 4 ≤ i
    · subst a0; clear hp1 hp3
      go_enter Try.func7, Try.ntmps7
      go_wp2_with fail
      refine (head' _ hF).mono ?_; rintro e w1 ⟨rfl, hG⟩
      go_wp2_with fail
      refine (right_v H.out _).mono ?_; rintro e w2 ⟨rfl, rfl⟩
      go_wp2_with fail
      refine (need_v Ha.out _ hG).mono ?_; rintro e w2 ⟨rfl, hG2⟩
      go_wp2_with fail
      refine (spare_v Hc.out _ hG2).mono ?_; rintro e w4 ⟨rfl, hG4⟩
      go_wp2_with fail
      go_ret
      exact ⟨rfl, hG4⟩
    · obtain rfl : c = 0 := by omega
      subst a0; clear hp1 hp3
      go_enter Try.func7, Try.ntmps7
      go_wp2_with fail
      refine (head' _ hF).mono ?_; rintro e w1 ⟨rfl, hG⟩
      go_wp2_with fail
      refine (right_v H.out _).mono ?_; rintro e w2 ⟨rfl, rfl⟩
      go_wp2_with fail
      refine (need_v Ha.out _ hG).mono ?_; rintro e w2 ⟨rfl, hG2⟩
      go_wp2_with fail
      refine (spare_v Hc.out _ hG2).mono ?_; rintro e w4 ⟨rfl, hG4⟩
      go_wp2_with fail
      go_ret
      exact ⟨rfl, hG4⟩
    · have hb : (a == 0) = false := by simp [a0]
      have hp1 : m + a ≤ 6 := by omega
      clear hp3 a0
      go_enter Try.func7, Try.ntmps7
      go_wp2_with fail
      refine (head' _ hF).mono ?_; rintro e w1 ⟨rfl, hG⟩
      go_wp2_with fail
      refine (right_v H.out _).mono ?_; rintro e w2 ⟨rfl, rfl⟩
      go_wp2_with fail
      refine (need_v Ha.out _ hG).mono ?_; rintro e w2 ⟨rfl, hG2⟩
      go_wp2_with fail
      refine (spare_v Hc.out _ hG2).mono ?_; rintro e w4 ⟨rfl, hG4⟩
      go_wp2_with fail
      go_ret
      exact ⟨rfl, hG4⟩
    · obtain rfl : c = 0 := by omega
      have hb : (a == 0) = false := by simp [a0]
      have hp1 : m + a ≤ 6 := by omega
      clear hp3 a0
      go_enter Try.func7, Try.ntmps7
      go_wp2_with fail
      refine (head' _ hF).mono ?_; rintro e w1 ⟨rfl, hG⟩
      go_wp2_with fail
      refine (right_v H.out _).mono ?_; rintro e w2 ⟨rfl, rfl⟩
      go_wp2_with fail
      refine (need_v Ha.out _ hG).mono ?_; rintro e w2 ⟨rfl, hG2⟩
      go_wp2_with fail
      refine (spare_v Hc.out _ hG2).mono ?_; rintro e w4 ⟨rfl, hG4⟩
      go_wp2_with fail
      go_ret
      exact ⟨rfl, hG4⟩
theorem drain_plain {n : Int} (h0 : 0 ≤ n) (h1 : n ≤ 16) : needI n 0 false = wantI n ∧ 0 ≤ wantI n ∧ wantI n ≤ 6 ∧ n ≤ 5 * wantI n ∧ ∀ x, 0 ≤ x → x ≤ n → needI x (wantI n) false = 0 := by
  have h2 : okB n 0 = true := okB_mk (by omega)
  have hw : 0 ≤ wantI n ∧ wantI n ≤ 6 := by unfold wantI; omega
  refine ⟨by rw [needI_ok h2]; omega, hw.1, hw.2, by unfold wantI; omega, fun x hx hxn => ?_⟩
  rw [needI_ok (okB_mk (by omega))]; have : wantI x ≤ wantI n := by unfold wantI; omega
  omega
theorem drainW (n : Int) (w : World) : Calls Try.prog 8 #[.int .i64 n] w fun e w' => e = .returned (.bool true) ∧ Below w.heap.size w w' := by
  have hF := Below.refl w.heap.size w
  by_cases h0 : 0 ≤ n
  · by_cases h1 : n ≤ 16
    · have hp := drain_plain h0 h1
      generalize wantI n = c at *
      obtain ⟨hp1, hp2, hp3, hp4, hp5⟩ := hp
      have Hp1 := Lib.hid hp1; have Hp5 := Lib.hid hp5; clear hp1 hp5
      go_enter Try.func8, Try.ntmps8
      go_wp2_with fail
      refine (head' _ hF).mono ?_; rintro e w1 ⟨rfl, hG⟩
      go_wp2_with fail
      go_loopw [0, 4, 5, 6, 15] (fun v c5 _ _ f wr => ∃ (k : Nat) (x y : Int), k ≤ 5 ∧ f = .int .i64 k ∧ v = .int .i64 x ∧ c5 = .int .i64 y ∧ 0 ≤ x ∧ x ≤ n ∧ (k = 0 → y = 0 ∧ x = n) ∧ (0 < k → y = c ∧ (x = 0 ∨ x = n - k * c)) ∧ Below w.heap.size w wr) (fun _ _ _ _ f _ => 5 - (intOf f).toNat)
      case atStart => exact ⟨0, n, 0, by omega, rfl, rfl, rfl, h0, by omega, fun _ => ⟨rfl, rfl⟩, fun h => by omega, hG⟩
      case round =>
        obtain ⟨k, x, y, hk5, rfl, rfl, rfl, hx0, hxn, hz, hp, hB⟩ := hrel
        clear hG hF
        by_cases hk : k < 5
        · by_cases hkz : k = 0
          · obtain ⟨rfl, rfl⟩ := hz hkz
            subst hkz
            clear hz hp
            go_wp2_with fail
            refine (need_v Hp1.out _ hB).mono ?_; rintro e w2 ⟨rfl, hG2⟩
            go_wp2_with fail
            all_goals
              go_roundw
              case rel => exact ⟨1, _, c, by omega, by go_num, rfl, by go_num, by omega, by omega, by omega, fun _ => ⟨rfl, by omega⟩, hG2⟩
              case measure => simp [intOf]
          · obtain ⟨rfl, hx⟩ := hp (by omega)
            clear hz hp
            have hkb : decide (0 < (k : Int)) = true := by simp; omega
            go_wp2_with fail
            refine (need_v (Hp5.out x hx0 hxn) _ hB).mono ?_; rintro e w2 ⟨rfl, hG2⟩
            go_wp2_with fail
            all_goals
              go_roundw
              case rel => exact ⟨k + 1, _, y, by omega, by go_num, rfl, by go_num, by omega, by omega, by omega, fun _ => ⟨rfl, by have e : ((k + 1 : Nat) : Int) * y = k * y + y := (by push_cast; rw [Int.add_mul, Int.one_mul]); omega⟩, hG2⟩
              case measure => simp [intOf]; omega
        · obtain ⟨rfl, hx⟩ := hp (by omega)
          obtain rfl : k = 5 := by omega
          obtain rfl : x = 0 := by omega
          clear hz hp
          go_wp2_with fail
          go_ret
          exact ⟨rfl, hB⟩
    · go_enter Try.func8, Try.ntmps8
      go_wp2_with (go_at_call 9; refine (head' _ hF).mono ?_; rintro e w' ⟨rfl, hG⟩; clear hF; rename Below _ _ _ => hF)
      go_ret
      exact ⟨rfl, hF⟩
  · go_enter Try.func8, Try.ntmps8
    go_wp2_with (go_at_call 9; refine (head' _ hF).mono ?_; rintro e w' ⟨rfl, hG⟩; clear hF; rename Below _ _ _ => hF)
    go_ret
    exact ⟨rfl, hF⟩
end Go.Proofs.Ytnkhimjkohlelaa
