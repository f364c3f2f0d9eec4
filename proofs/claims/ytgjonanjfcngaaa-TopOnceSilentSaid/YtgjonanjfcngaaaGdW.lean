/- Once silent: the law. -/
import Derived.Test.YtgjonanjfcngaaaGdT
import Derived.Test.YtgjonanjfcngaaaGdV
namespace Go.Proofs.Ytgjonanjfcngaaa
open Go Go.ChangeShapes Go.WideShapes Go.ChangeAt Go.RowKit
set_option linter.all false
/-- who can begin a later slot can begin an earlier one -/
theorem b_mono {sy : Bool} {lo hi at0 ho so he l l' : Int} (h : bE sy lo hi at0 ho so he l' = 0) (hl : l ≤ l') (he' : ho = 0 ∨ at0 ≤ l) : bE sy lo hi at0 ho so he l = 0 := by
  obtain ⟨t1, t2, b3⟩ := bE_ok h
  unfold bE at h ⊢
  rw [if_pos t1, if_pos t2] at h ⊢
  by_cases hz : ho = 0
  · rw [if_pos hz]
  rw [if_neg hz] at h ⊢
  have ha : at0 ≤ l := he'.resolve_left hz
  by_cases hg : gE lo hi at0 l' = 0
  · rw [if_pos hg] at h
    by_cases hh : half lo hi at0 l' > 2000
    · rw [if_pos hh] at h; cases h
    obtain ⟨g1, g2, g3, g4⟩ := gE_spec hg
    obtain ⟨q1, q2, _⟩ := gE_ok hg
    rw [q1, q2] at g4
    have s1 := sp_iff.1 g1
    have s4 := sp_iff.1 g4
    have hm := more_mono (x := l - at0) (y := l' - at0) (by omega)
    have hp : 1 ≤ more (l - at0) := by unfold more; omega
    have hq : gE lo hi at0 l = 0 := by
      have w1 : (spP lo hi at0 && decide (at0 ≤ l) && decide (l ≤ 20000000000000)) = true := by
        rw [g1, decide_eq_true ha, decide_eq_true (show l ≤ 20000000000000 by omega)]; rfl
      have w2 : spP (lo - more (l - at0)) (hi + more (l - at0)) l = true := sp_iff.2 ⟨by omega, by omega, by omega, by omega, by omega⟩
      unfold gE
      rw [if_pos w1, if_pos w2]
    obtain ⟨r1, r2, _⟩ := gE_ok hq
    rw [if_pos hq]
    have : ¬ half lo hi at0 l > 2000 := by
      unfold half at hh ⊢
      rw [r1, r2]
      rw [q1, q2] at hh
      omega
    rw [if_neg this]
  · rw [if_neg hg] at h; exact absurd h hg
theorem st_mono {sy : Bool} {lo hi at0 ho so he o d n m : Int} (h : stE sy lo hi at0 ho so he o d (n + m) = 0) (h0 : 0 ≤ n) (hm : 0 ≤ m) (hq : ho = 0 ∨ ¬ roR ho lo hi n < at0) : stE sy lo hi at0 ho so he o d n = 0 := by
  obtain ⟨k1, k2, k3, k4, k5, k6, k7, k8, k9, _⟩ := start_ok h
  obtain ⟨q1, q2, q3, q4, q5⟩ := ow_eq (n := n) k3 k4 h0 (by omega)
  have hle : ow ho lo hi n ≤ ow ho lo hi (n + m) := by unfold ow; split <;> omega
  have hf := fst_mono k1 hle
  rw [st_of k1 h0 (by omega) k3 k4, b_mono k5 hle (by rcases hq with e | e; exact .inl e; exact .inr (by omega)), if_pos rfl, if_pos (by omega)]
theorem st_early {sy : Bool} {lo hi at0 ho so he o d n m : Int} (h : stE sy lo hi at0 ho so he o d (n + m) = 0) (h0 : 0 ≤ n) (hm : 0 ≤ m) (hz : ho ≠ 0) (hq : roR ho lo hi n < at0) : stE sy lo hi at0 ho so he o d n = 1 := by
  obtain ⟨k1, k2, k3, k4, k5, k6, k7, k8, k9, _⟩ := start_ok h
  obtain ⟨q1, q2, q3, q4, q5⟩ := ow_eq (n := n) k3 k4 h0 (by omega)
  have hg : gE lo hi at0 (ow ho lo hi n) = 1 := by
    unfold gE
    rw [decide_eq_false (show ¬ at0 ≤ ow ho lo hi n by omega), Bool.and_false, Bool.false_and, if_neg (by decide)]
  have hb : bE sy lo hi at0 ho so he (ow ho lo hi n) = 1 := by
    unfold bE
    rw [if_pos k3, if_pos k4, if_neg hz, hg]
    rfl
  rw [st_of k1 h0 (by omega) k3 k4, hb]
  rfl
theorem lsilent_c (sy : Bool) (lo hi at0 ho so he o d : Int) (n m : Int) (w : World) : Calls Try.prog 3 #[(.agg #[.bool sy, .int .i64 lo, .int .i64 hi, .int .i64 at0, .int .i64 ho, .int .i64 so, .int .i64 he]), (.agg #[.int .i64 o, .int .i64 d]), .int .i64 n, .int .i64 m] w fun e w' => e = .returned (.bool true) ∧ Below w.heap.size w w' := by
  refine Ev.contract1 G11_ok 60 (Ev.ExtOk.nil w) (lsilent_L sy lo hi at0 ho so he o d n m) (lsilent_T sy lo hi at0 ho so he o d n m) ?_
  refine Ev.ite_good (fun _ => rfl) (fun a1 => ?_)
  refine Ev.ite_good (fun _ => rfl) (fun a2 => ?_)
  refine Ev.ite_good (fun _ => rfl) (fun a3 => ?_)
  refine Ev.ite_good (fun _ => rfl) (fun a4 => ?_)
  simp only [decide_eq_false_iff_not] at a1 a2 a3 a4
  rw [w64 (x := 1000000000 - n) (by omega) (by omega)] at a4
  rw [w64 (x := n + m) (by omega) (by omega)]
  by_cases hz : stE sy lo hi at0 ho so he o d (n + m) = 0
  · have hv : stE sy lo hi at0 ho so he o d n = 0 ∨ (ho > 0 ∧ roR ho lo hi n < at0 ∧ stE sy lo hi at0 ho so he o d n = 1) := by
      by_cases hq : ho = 0 ∨ ¬ roR ho lo hi n < at0
      · exact .inl (st_mono hz (by omega) (by omega) hq)
      · have p1 : ho ≠ 0 := fun e => hq (.inl e)
        have p2 : roR ho lo hi n < at0 := by
          rcases Int.lt_or_le (roR ho lo hi n) at0 with e | e
          · exact e
          · exact absurd (.inr (by omega)) hq
        refine .inr ⟨?_, p2, st_early hz (by omega) (by omega) p1 p2⟩
        obtain ⟨_, _, k3, k4, _⟩ := start_ok hz
        rcases (tv_iff.1 k3).2 with ⟨e, _⟩ | ⟨_, e | e⟩
        · rw [k4] at e; cases e
        · exact absurd e p1
        · omega
    rcases hv with e | ⟨e1, e2, e3⟩
    · rw [e, hz]
      refine Ev.good_f rfl ?_
      refine Ev.ite_good (fun _ => ?_) (fun _ => ?_)
      · refine Ev.good_f rfl ?_
        exact Ev.ite_good (fun _ => rfl) (fun _ => rfl)
      · exact Ev.good_f rfl rfl
    · rw [e3, hz]
      refine Ev.good_f rfl ?_
      refine Ev.good_t (decide_eq_true e1) ?_
      refine Ev.good_f rfl ?_
      exact Ev.good_t (decide_eq_true e2) rfl
  · have hn : (stE sy lo hi at0 ho so he o d (n + m) != 0) = true := by simpa using hz
    rw [hn]
    refine Ev.ite_good (fun _ => ?_) (fun _ => ?_)
    · refine Ev.ite_good (fun _ => ?_) (fun _ => ?_)
      · exact Ev.good_t rfl (Ev.good_t rfl rfl)
      · exact Ev.good_t rfl (Ev.good_t rfl rfl)
    · refine Ev.ite_good (fun _ => ?_) (fun _ => ?_)
      · exact Ev.good_t rfl rfl
      · exact Ev.good_t rfl rfl
end Go.Proofs.Ytgjonanjfcngaaa
