/- Guard: the laws Slots, Root. -/
import Derived.Test.YtcgjfgahhpmcpaaGdP
namespace Go.Proofs.Ytcgjfgahhpmcpaa
open Go Go.ChangeShapes Go.WideShapes Go.ChangeAt Go.RowKit
set_option linter.all false
theorem lslots_c (sy : Bool) (lo hi at0 ho so he o d : Int) (n : Int) (w : World) : Calls Try.prog 9 #[(.agg #[.bool sy, .int .i64 lo, .int .i64 hi, .int .i64 at0, .int .i64 ho, .int .i64 so, .int .i64 he]), (.agg #[.int .i64 o, .int .i64 d]), .int .i64 n] w fun e w' => e = .returned (.bool true) ∧ Below w.heap.size w w' := by
  refine Ev.contract1 G11_ok 60 (Ev.ExtOk.nil w) (lslots_L sy lo hi at0 ho so he o d n) (lslots_T sy lo hi at0 ho so he o d n) ?_
  refine Ev.ite_good (fun _ => rfl) (fun h1 => ?_)
  refine Ev.ite_good (fun _ => rfl) (fun h2 => ?_)
  simp only [decide_eq_false_iff_not] at h1 h2
  rw [w64 (x := n + 1) (by omega) (by omega), w64 (x := 0 - n) (by omega) (by omega), w64 (x := (0 - n) * 10000) (by omega) (by omega)]
  refine Ev.ite_good (fun _ => rfl) (fun h3 => ?_)
  refine Ev.ite_good (fun _ => rfl) (fun h4 => ?_)
  refine Ev.ite_good (fun _ => rfl) (fun h5 => ?_)
  have s1 : stE sy lo hi at0 ho so he o d n = 0 := by simpa using h3
  have s2 : stE sy lo hi at0 ho so he o d (n + 1) = 0 := by simpa using h4
  have h5' : snN sy lo hi at0 ho so he o d n ≠ (0 - n) * 10000 := by simpa using h5
  obtain ⟨k1, k2, k3, k4, k5, k6, k7, k8, k9, _⟩ := start_ok s1
  obtain ⟨j1, j2, j3, j4, j5, j6, j7, j8, j9, _⟩ := start_ok s2
  have e : ow ho lo hi (n + 1) = ow ho lo hi n + 10000 := by unfold ow; split <;> omega
  rw [e] at j8 j9
  rw [k9] at h5' ⊢
  rw [j9]
  have hb1 := (fst_b o d (ow ho lo hi n)).1
  have hmo := fst_mono k1 (show ow ho lo hi n ≤ ow ho lo hi n + 10000 by omega)
  obtain ⟨n1, n2⟩ := first_near k1 (show 0 < fst o d (ow ho lo hi n) by omega) k8
  obtain ⟨n3, n4⟩ := first_near k1 (show 0 < fst o d (ow ho lo hi n + 10000) by omega) j8
  have hs := sh_step k1 hmo
  have key : 9998 ≤ fst o d (ow ho lo hi n + 10000) - fst o d (ow ho lo hi n) ∧ fst o d (ow ho lo hi n + 10000) - fst o d (ow ho lo hi n) ≤ 10002 := by
    unfold sh at n1 n2 n3 n4
    generalize ow ho lo hi n = l at *
    generalize fst o d l = F at *
    generalize fst o d (l + 10000) = G at *
    generalize d * F = p at *
    generalize d * G = q at *
    omega
  rw [w64 (x := fst o d (ow ho lo hi n + 10000) - 10000 * (n + 1) + 10000) (by omega) (by omega), w64 (x := fst o d (ow ho lo hi n + 10000) - 10000 * (n + 1) + 10000 - (fst o d (ow ho lo hi n) - 10000 * n)) (by omega) (by omega)]
  refine Ev.good_t (decide_eq_true (by omega)) ?_
  simp only [Ev.Tree.good, Value.bool.injEq, decide_eq_true_eq]
  omega
theorem root_b (l : Int) : bE true 0 0 0 0 (-1) 0 l = 0 := by
  have : tvP true 0 0 0 0 (-1) 0 = true := by decide
  simp [bE, this]
theorem root_sh (t : Int) : sh 0 0 t = t := by simp [sh]
theorem root_fst {s : Int} (h0 : 0 ≤ s) (h1 : s ≤ 10000000000001) : fst 0 0 s = s := by
  unfold fst
  have : -(1000000 * (0 - s) / (1000000 + 0)) = s := by omega
  rw [this]
  omega
theorem root_st {n : Int} (h0 : 0 ≤ n) (h1 : n < 1000000000) : stE true 0 0 0 0 (-1) 0 0 0 n = 0 := by
  have hk : okc 0 0 = true := by decide
  have ht : tvP true 0 0 0 0 (-1) 0 = true := by decide
  obtain ⟨q1, _, _, _, _⟩ := ow_eq (n := n) ht rfl h0 h1
  have e : ow 0 0 0 n = 10000 * n := by simp [ow]
  have hb : boE true 0 0 0 0 (-1) 0 0 0 n = 0 := by
    unfold boE
    rw [hk, decide_eq_false (show ¬ n < 0 by omega), decide_eq_false (show ¬ n ≥ 1000000000 by omega)]
    simp only [Bool.not_true, sel]
    exact root_b _
  unfold stE
  rw [hb, q1, e]
  show fsE 0 0 (10000 * n) = 0
  obtain ⟨s1, s2⟩ := sh_ok (o := 0) (d := 0) (t := 0) hk (by omega) (by omega)
  obtain ⟨m1, m2⟩ := sh_ok (o := 0) (d := 0) (t := 10000000000000) hk (by omega) (by omega)
  unfold fsE
  rw [s1, s2, m1, m2, root_sh, root_sh, w64 (x := 10000 * n + 1) (by omega) (by omega)]
  have z0 : ((0 : Int) != 0) = false := rfl
  simp only [z0, sel]
  rw [decide_eq_false (show ¬ (10000000000000 : Int) < 10000 * n by omega)]
  have w0 : wE 0 0 (10000 * n) = 0 := by
    unfold wE
    rw [hk, root_fst (by omega) (by omega), root_fst (by omega) (by omega)]
    have : (10000 * n == 10000 * n + 1) = false := by simp; omega
    rw [this]; rfl
  rw [w0]
  simp only [z0]
  cases decide ((0 : Int) ≥ 10000 * n) <;> rfl
theorem root_no {n : Int} (h : n < 0 ∨ n ≥ 1000000000) : stE true 0 0 0 0 (-1) 0 0 0 n = 1 := by
  have hb : boE true 0 0 0 0 (-1) 0 0 0 n = 1 := by
    unfold boE
    have hk : okc 0 0 = true := by decide
    rw [hk]
    simp only [Bool.not_true, sel]
    rcases h with h | h
    · rw [decide_eq_true h]
    · cases decide (n < 0)
      · rw [decide_eq_true h]
      · rfl
  unfold stE
  rw [hb]
  rfl
theorem lroot_c (n : Int) (w : World) : Calls Try.prog 8 #[.int .i64 n] w fun e w' => e = .returned (.bool true) ∧ Below w.heap.size w w' := by
  refine Ev.contract1 G11_ok 60 (Ev.ExtOk.nil w) (lroot_L n) (lroot_T n) ?_
  refine Ev.ite_good (fun h1 => ?_) (fun h1 => ?_)
  · rw [root_no (.inl (by simpa using h1))]
    exact Ev.good_t rfl rfl
  refine Ev.ite_good (fun h2 => ?_) (fun h2 => ?_)
  · rw [root_no (.inr (by simpa using h2))]
    exact Ev.good_t rfl rfl
  simp only [decide_eq_false_iff_not] at h1 h2
  have s1 := root_st (n := n) (by omega) (by omega)
  obtain ⟨k1, k2, k3, k4, k5, k6, k7, k8, k9, _⟩ := start_ok s1
  obtain ⟨w1, w2, w3, w4, w5⟩ := win s1
  have e : ow 0 0 0 n = 10000 * n := by simp [ow]
  have hn : snN true 0 0 0 0 (-1) 0 0 0 n = 0 := by
    rw [k9, e, root_fst (by omega) (by omega)]; omega
  have hb : bN true 0 0 0 0 (-1) 0 (ow 0 0 0 n) = 0 := by simp [bN, sel]
  refine Ev.good_t (by rw [s1]; rfl) (Ev.good_t (by rw [s1]; rfl) (Ev.good_t (by rw [hn]; rfl) ?_))
  rw [w4, w5, hn, hb]
  rfl
end Go.Proofs.Ytcgjfgahhpmcpaa
