/- Contracts of package ledger and its reference. -/
import Derived.Test.YtpjnbkgaanmelaaDoorKit
namespace Go.Proofs.YtpjnbkgaanmelaaDoor
open Go.ChangeShapes Go.WideShapes Go.ChangeAt Go.RowKit
def ok (l s : Int) : Bool := decide (0 ≤ l ∧ l ≤ 1000000000 ∧ 0 ≤ s ∧ s ≤ 1000000000 - l)
theorem ok_t {l s : Int} (h : ok l s = true) : 0 ≤ l ∧ l ≤ 1000000000 ∧ 0 ≤ s ∧ s ≤ 1000000000 - l := by simpa [ok] using h
set_option maxHeartbeats 2000000 in
theorem valid (l s : Int) (w : World) : Calls Tryd.prog 18 #[.agg #[.int .i64 l, .int .i64 s]] w fun e w' => e = .returned (.bool (ok l s)) ∧ w' = w.alloc (.cells #[.int .i64 l, .int .i64 s] 37) := by
  by_cases h1 : 0 ≤ l
  · by_cases h2 : l ≤ 1000000000
    · by_cases h3 : 0 ≤ s
      · by_cases h4 : s ≤ 1000000000 - l
        all_goals
          go_enter Tryd.func18, Tryd.ntmps18
          go_wp2_with fail
          go_ret
          exact ⟨ret_bool (by unfold ok; first | exact bt (by omega) | exact bf (by omega)), rfl⟩
      · go_enter Tryd.func18, Tryd.ntmps18
        go_wp2_with fail
        go_ret
        exact ⟨ret_bool (by unfold ok; exact bf (by omega)), rfl⟩
    · go_enter Tryd.func18, Tryd.ntmps18
      go_wp2_with fail
      go_ret
      exact ⟨ret_bool (by unfold ok; exact bf (by omega)), rfl⟩
  · go_enter Tryd.func18, Tryd.ntmps18
    go_wp2_with fail
    go_ret
    exact ⟨ret_bool (by unfold ok; exact bf (by omega)), rfl⟩
set_option maxHeartbeats 2000000 in
theorem rvalid (l s : Int) (w : World) : Calls Tryd.prog 16 #[.agg #[.int .i64 l, .int .i64 s]] w fun e w' => e = .returned (.bool (ok l s)) ∧ w' = w.alloc (.cells #[.int .i64 l, .int .i64 s] 23) := by
  by_cases h1 : 0 ≤ l
  · by_cases h2 : l ≤ 1000000000
    · by_cases h3 : 0 ≤ s
      · by_cases h4 : s ≤ 1000000000 - l
        all_goals
          go_enter Tryd.func16, Tryd.ntmps16
          go_wp2_with fail
          go_ret
          exact ⟨ret_bool (by unfold ok; first | exact bt (by omega) | exact bf (by omega)), rfl⟩
      · go_enter Tryd.func16, Tryd.ntmps16
        go_wp2_with fail
        go_ret
        exact ⟨ret_bool (by unfold ok; exact bf (by omega)), rfl⟩
    · go_enter Tryd.func16, Tryd.ntmps16
      go_wp2_with fail
      go_ret
      exact ⟨ret_bool (by unfold ok; exact bf (by omega)), rfl⟩
  · go_enter Tryd.func16, Tryd.ntmps16
    go_wp2_with fail
    go_ret
    exact ⟨ret_bool (by unfold ok; exact bf (by omega)), rfl⟩
/-- what is spent: the ledger afterwards and the error -/
def spL (l s c : Int) : Int := if ok l s = true ∧ 0 ≤ c ∧ c ≤ l then l - c else l
def spS (l s c : Int) : Int := if ok l s = true ∧ 0 ≤ c ∧ c ≤ l then s + c else s
def spE (l s c : Int) : Int := if ok l s = true ∧ 0 ≤ c then (if c ≤ l then 0 else 15) else 1
def spV (l s c : Int) : Value := .tuple #[.agg #[.int .i64 (spL l s c), .int .i64 (spS l s c)], .int .i64 (spE l s c)]
theorem spV_bad {l s c : Int} (h : ok l s = false ∨ ¬ 0 ≤ c) : spV l s c = .tuple #[.agg #[.int .i64 l, .int .i64 s], .int .i64 1] := by
  rcases h with h | h <;> simp [spV, spL, spS, spE, h]
theorem spV_short {l s c : Int} (h : ok l s = true) (h0 : 0 ≤ c) (h1 : l < c) : spV l s c = .tuple #[.agg #[.int .i64 l, .int .i64 s], .int .i64 15] := by
  have : ¬ c ≤ l := by omega
  simp [spV, spL, spS, spE, h, h0, this]
theorem spV_ok {l s c : Int} (h : ok l s = true) (h0 : 0 ≤ c) (h1 : c ≤ l) : spV l s c = .tuple #[.agg #[.int .i64 (l - c), .int .i64 (s + c)], .int .i64 0] := by
  simp [spV, spL, spS, spE, h, h0, h1]
set_option maxHeartbeats 1000000 in
theorem spend0 (l s c : Int) (w : World) : Calls Tryd.prog 17 #[.agg #[.int .i64 l, .int .i64 s], .int .i64 c] w fun e w' => e = .returned (spV l s c) ∧ Below w.heap.size w w' := by
  rcases hok : ok l s with _ | _
  · rw [spV_bad (.inl hok)]
    have H := Lib.hid hok; clear hok
    go_enter Tryd.func17, Tryd.ntmps17
    go_wp2_with fail
    refine (valid _ _ _).mono ?_
    rintro e w1 ⟨rfl, rfl⟩
    rw [H.out]
    go_wp2_with fail
    refine bodyPost_ret (v := .tuple #[.agg #[.int .i64 l, .int .i64 s], .int .i64 1]) (by simp [results, Tryd.results17, go_sem]) rfl ⟨rfl, ?_⟩
    go_grown
  · have hk := ok_t hok
    by_cases h0 : 0 ≤ c
    · by_cases h1 : c ≤ l
      · rw [spV_ok hok h0 h1]
        have H := Lib.hid hok; clear hok
        go_enter Tryd.func17, Tryd.ntmps17
        go_wp2_with fail
        refine (valid _ _ _).mono ?_
        rintro e w1 ⟨rfl, rfl⟩
        rw [H.out]
        go_wp2_with fail
        refine bodyPost_ret (v := .tuple #[.agg #[.int .i64 (l - c), .int .i64 (s + c)], .int .i64 0]) (by simp [results, Tryd.results17, go_sem]) rfl ⟨rfl, ?_⟩
        go_grown
      · rw [spV_short hok h0 (by omega)]
        have H := Lib.hid hok; clear hok
        go_enter Tryd.func17, Tryd.ntmps17
        go_wp2_with fail
        refine (valid _ _ _).mono ?_
        rintro e w1 ⟨rfl, rfl⟩
        rw [H.out]
        go_wp2_with fail
        refine bodyPost_ret (v := .tuple #[.agg #[.int .i64 l, .int .i64 s], .int .i64 15]) (by simp [results, Tryd.results17, go_sem]) rfl ⟨rfl, ?_⟩
        go_grown
    · rw [spV_bad (.inr h0)]
      have H := Lib.hid hok; clear hok
      go_enter Tryd.func17, Tryd.ntmps17
      go_wp2_with fail
      refine (valid _ _ _).mono ?_
      rintro e w1 ⟨rfl, rfl⟩
      rw [H.out]
      go_wp2_with fail
      refine bodyPost_ret (v := .tuple #[.agg #[.int .i64 l, .int .i64 s], .int .i64 1]) (by simp [results, Tryd.results17, go_sem]) rfl ⟨rfl, ?_⟩
      go_grown
set_option maxHeartbeats 1000000 in
theorem rspend (l s c : Int) (w : World) : Calls Tryd.prog 11 #[.agg #[.int .i64 l, .int .i64 s], .int .i64 c] w fun e w' => e = .returned (spV l s c) ∧ Below w.heap.size w w' := by
  rcases hok : ok l s with _ | _
  · rw [spV_bad (.inl hok)]
    have H := Lib.hid hok; clear hok
    go_enter Tryd.func11, Tryd.ntmps11
    go_wp2_with fail
    refine (rvalid _ _ _).mono ?_
    rintro e w1 ⟨rfl, rfl⟩
    rw [H.out]
    go_wp2_with fail
    refine bodyPost_ret (v := .tuple #[.agg #[.int .i64 l, .int .i64 s], .int .i64 1]) (by simp [results, Tryd.results11, go_sem]) rfl ⟨rfl, ?_⟩
    go_grown
  · have hk := ok_t hok
    by_cases h0 : 0 ≤ c
    · by_cases h1 : c ≤ l
      · rw [spV_ok hok h0 h1]
        have H := Lib.hid hok; clear hok
        go_enter Tryd.func11, Tryd.ntmps11
        go_wp2_with fail
        refine (rvalid _ _ _).mono ?_
        rintro e w1 ⟨rfl, rfl⟩
        rw [H.out]
        go_wp2_with fail
        refine bodyPost_ret (v := .tuple #[.agg #[.int .i64 (l - c), .int .i64 (s + c)], .int .i64 0]) (by simp [results, Tryd.results11, go_sem]) rfl ⟨rfl, ?_⟩
        go_grown
      · rw [spV_short hok h0 (by omega)]
        have H := Lib.hid hok; clear hok
        go_enter Tryd.func11, Tryd.ntmps11
        go_wp2_with fail
        refine (rvalid _ _ _).mono ?_
        rintro e w1 ⟨rfl, rfl⟩
        rw [H.out]
        go_wp2_with fail
        refine bodyPost_ret (v := .tuple #[.agg #[.int .i64 l, .int .i64 s], .int .i64 15]) (by simp [results, Tryd.results11, go_sem]) rfl ⟨rfl, ?_⟩
        go_grown
    · rw [spV_bad (.inr h0)]
      have H := Lib.hid hok; clear hok
      go_enter Tryd.func11, Tryd.ntmps11
      go_wp2_with fail
      refine (rvalid _ _ _).mono ?_
      rintro e w1 ⟨rfl, rfl⟩
      rw [H.out]
      go_wp2_with fail
      refine bodyPost_ret (v := .tuple #[.agg #[.int .i64 l, .int .i64 s], .int .i64 1]) (by simp [results, Tryd.results11, go_sem]) rfl ⟨rfl, ?_⟩
      go_grown
theorem spend (l s c : Int) (w : World) : Calls Tryd.prog 10 #[.agg #[.int .i64 l, .int .i64 s], .int .i64 c] w fun e w' => e = .returned (spV l s c) ∧ Below w.heap.size w w' := by
  unfold spV
  generalize hx : spL l s c = x; generalize hy : spS l s c = y; generalize hz : spE l s c = z
  have HX : spV l s c = .tuple #[.agg #[.int .i64 x, .int .i64 y], .int .i64 z] := by simp [spV, hx, hy, hz]
  have H := Lib.hid HX; clear HX hx hy hz
  go_enter Tryd.func10, Tryd.ntmps10
  go_wp2_with fail
  refine (spend0 _ _ _ _).mono ?_
  rintro e w1 ⟨rfl, hb⟩
  rw [H.out]
  obtain ⟨hc, hf⟩ := bcell hb
  have hz : w.heap.size + 1 < w1.heap.size := by have := hb.size; simp at this; omega
  go_wp2_with fail
  refine bodyPost_ret (v := .tuple #[.agg #[.int .i64 x, .int .i64 y], .int .i64 z]) (by simp [results, Tryd.results10, go_sem, hc, hz]) rfl ⟨rfl, ?_⟩
  have hb' : Below w.heap.size w w1 := Below.trans (((Below.refl _ _).alloc (Nat.le_refl _) _).alloc (by simp) _) (hb.mono (by simp; omega))
  go_grown
end Go.Proofs.YtpjnbkgaanmelaaDoor
