/- The laws of package timesync: the loop of Root. -/
import Derived.Test.YtbeaipngljphkaaTsX
namespace Go.Proofs.Ytbeaipngljphkaa
open Go Go.ChangeShapes Go.WideShapes Go.ChangeAt Go.RowKit
set_option linter.all false
def isST : List Value → Bool
  | [.bool true, .int .i64 x1, .int .i64 x2, .int .i64 x3, .int .i64 x4, .int .i64 x5, .int .i64 x6] => decide (x1 = 0 ∧ x2 = 0 ∧ x3 = 0 ∧ x4 = 0 ∧ x5 = -1 ∧ x6 = 0)
  | _ => false
theorem isST_eq {l : List Value} (h : isST l = true) : l = [.bool true, .int .i64 0, .int .i64 0, .int .i64 0, .int .i64 0, .int .i64 (-1), .int .i64 0] := by
  unfold isST at h
  split at h
  · obtain ⟨rfl, rfl, rfl, rfl, rfl, rfl⟩ := of_decide_eq_true h
    rfl
  · cases h
def rlO (n : Nat) : Ev.Tree Ev.Outc := .ite (Nat.ble n 1000) (.leaf ⟨.normal, [.int .i64 (n : Int), .bool false], [[.bool true, .int .i64 0, .int .i64 0, .int .i64 0, .int .i64 0, .int .i64 (-1), .int .i64 0]]⟩) (.fail 96)
def rlQ (m i n nn : Nat) (a : Option Addr) (p : Option Addr × Nat × Nat) (q : Ev.PB) : Bool → Bool → Option Ev.Parsed
  | false, true => some ((m, 77) :: (i, 0) :: (nn, n) :: (p.2.1, n) :: (q.b', q.b) :: (q.T, 25) :: Ev.eqA p.1 a, rlO n, [(q.tag, 25)])
  | _, _ => none
noncomputable def rlP (a : Option Addr) (n : Nat) : Ev.Parse := fun fr st =>
  (Ev.natAt .i64 23 fr).bind fun i => (Ev.boolAt 4 fr).bind fun v => (Ev.slcAt 21 fr).bind fun p => (Ev.natAt .i64 22 fr).bind fun nn => (Ev.ptrAt 6 fr st).bind fun q => (Ev.intAt .i64 1 fr).bind fun _ => rlQ fr.n i n nn a p q v (isST q.l)
theorem st_tv : tvP true 0 0 0 0 (-1) 0 = true := by decide
theorem st_rK (hf hh hb ha hl : Int) : rK true 0 0 0 0 (-1) 0 hf hh hb ha hl = false := by simp [rK, takes]
theorem st_b (l : Int) : bE true 0 0 0 0 (-1) 0 l = 0 := by simp [bE, st_tv]
theorem st_k (l : Int) : tkB true 0 0 0 0 (-1) 0 l = false := by simp [tkB, st_b]
theorem rl_step (a : Option Addr) (n ca : Nat) (f : Nat → Nat → Int) (b : Nat) (l : Int) (i : Nat) (hi : i ≤ n) (Qo : Ev.Outc → Prop) (h : (rlO n).good Qo) :
    (rlp_T a n ca f b l i).good (Ev.StepOk (fun i : Nat => i ≤ n) (fun i => n - i) (fun i => [.int .i64 (i : Int), .bool false]) (fun _ => [[.bool true, .int .i64 0, .int .i64 0, .int .i64 0, .int .i64 0, .int .i64 (-1), .int .i64 0]]) (fun _ => rlO n) 0 i Qo) := by
  have h' := h
  obtain ⟨hn, h⟩ := Ev.ble_true h
  unfold rlp_T
  simp only [Int.ofNat_eq_natCast, Int.toNat_natCast, Nat.zero_add, Nat.reduceAdd]
  by_cases hlt : i < n
  · refine Ev.good_t (Ev.lt_t hlt) (Ev.good_t (Ev.inB_t hlt) (Ev.good_t (Ev.ble_t hlt) ?_))
    obtain ⟨q1, q2, q3, q4, q5, q6, q7⟩ := rK_f (st_rK (f i 0) (f i 1) (f i 2) (f i 3) (f i 4))
    rw [q1, q2, q3, q4, q5, q6, q7]
    simp only [st_k, sel, selB]
    rw [w64 (by omega) (by omega)]
    have key : Ev.StepOk (fun i : Nat => i ≤ n) (fun i => n - i) (fun i => [.int .i64 (i : Int), .bool false]) (fun _ => [[.bool true, .int .i64 0, .int .i64 0, .int .i64 0, .int .i64 0, .int .i64 (-1), .int .i64 0]]) (fun _ => rlO n) 0 i Qo ⟨.normal, [.int .i64 ((i : Int) + 1), .bool false], [[.bool true, .int .i64 0, .int .i64 0, .int .i64 0, .int .i64 0, .int .i64 (-1), .int .i64 0]]⟩ :=
      ⟨i + 1, hlt, by simp only; omega, by simp, rfl, h'⟩
    simpa [Ev.Tree.good] using key
  · refine Ev.good_f (Ev.lt_f hlt) ?_
    have hin : i = n := by omega
    subst hin
    exact h
theorem rl_ok (a : Option Addr) (n : Nat) (f : Nat → Nat → Int) (w : World) (ha : Ev.RowT w a 5 n fun j c => .int .i64 (f j c)) :
    Ev.CodeOk Try.prog (· < w.heap.size) w (.block 0 (.loop (Ev.loopOf 0 (Ev.bodyOf Try.f10)))) (Ev.loopS [23, 4] [8, 9, 10, 24, 25, 26, 27, 28, 29, 30, 31, 32, 33, 34, 35, 36, 37, 38, 39, 40, 41, 42, 43, 44] (rlP a n)) := by
  refine Ev.loopS_ok (n := 77) (m := 60) (nj := [0, 1, 2, 3, 5, 6, 7, 11, 12, 13, 14, 15, 16, 17, 18, 19, 20, 21, 22, 45, 46, 47, 48, 49, 50, 51, 52, 53, 54, 55, 56, 57, 58, 59, 60, 61, 62, 63, 64, 65, 66, 67, 68, 69, 70, 71, 72, 73, 74, 75, 76]) G8_ok (· < w.heap.size) w (by decide +kernel) ?_
  intro fr st cl Ot tds hp hcl
  simp only [rlP, Option.bind_eq_some_iff] at hp
  obtain ⟨i, hi, v, hv, p, hp, nn, hnn, q, hq, l, hl, hx⟩ := hp
  have ei := Ev.natAt_eq hi
  have ev := Ev.boolAt_eq hv
  have ep := Ev.slcAt_eq hp
  have en := Ev.natAt_eq hnn
  obtain ⟨eq, e, p1, p2, p3, p4, p5⟩ := Ev.ptrAt_eq hq
  have el := Ev.intAt_eq hl
  generalize hst : isST q.l = vv at hx
  unfold rlQ at hx
  split at hx
  · simp only [Option.some.injEq, Prod.mk.injEq] at hx
    obtain ⟨rfl, rfl, rfl⟩ := hx
    have hq' := isST_eq hst
    have c0 : fr.n = 77 := hcl (fr.n, 77) (by simp)
    have ci : i = 0 := hcl (i, 0) (by simp)
    have cn : nn = n := hcl (nn, n) (by simp)
    have c1 : p.2.1 = n := hcl (p.2.1, n) (by simp)
    have c2 : q.b' = q.b := hcl (q.b', q.b) (by simp)
    have c5 : q.T = 25 := hcl (q.T, 25) (by simp)
    have c3 : p.1 = a := Ev.eqA_eq fun y hy => hcl y (by simp [hy])
    refine ⟨{ σ := Nat, ds := [(506, q.b, 25)], kh := [undef, .bool false], pk := [(21, (.slice (some ⟨600, 0, some 0⟩) 0 0), .slice a n p.2.2), (22, undef, .int .i64 (n : Int)), (6, .pointer (some ⟨506, 0, none⟩), .pointer (some ⟨q.b, 0, none⟩)), (1, undef, .int .i64 l)], V := [(Ev.rowA 600 a 5 n fun j c => .int .i64 (f j c))], Inv := fun i => i ≤ n, μ := fun i => n - i, kv := fun i => [.int .i64 (i : Int), .bool false], cv := fun _ => [[.bool true, .int .i64 0, .int .i64 0, .int .i64 0, .int .i64 0, .int .i64 (-1), .int .i64 0]], O := fun _ => rlO n, T := fun i => rlp_T a n p.2.2 f q.b l i, s0 := 0, hO := rfl, h0 := Nat.zero_le _, hn := c0, hv := ?_, hpk := ?_, hF := ?_, hV := ?_, hT1 := fun i jv r _ => rlp_1 a n p.2.2 f q.b l i jv r, hT2 := fun i jv r _ => rlp_2 a n p.2.2 f q.b l i jv r, hstep := fun i Qo hI h => rl_step a n p.2.2 f q.b l i hI Qo h }⟩
    · simp only [List.map_cons, List.map_nil, ei, ev, ci]
    · intro x hx
      simp only [List.mem_cons, List.not_mem_nil, or_false] at hx
      rcases hx with rfl | rfl | rfl | rfl
      · exact ⟨by simp, by rw [ep, c1, c3]⟩
      · exact ⟨by simp, by rw [en, cn]⟩
      · exact ⟨by simp, by rw [eq, c2]⟩
      · exact ⟨by simp, el⟩
    · exact ⟨⟨e, p1, p2, p3, by rw [p4, c5, hq'], p5, rfl⟩, fun x hx => (by cases hx), trivial⟩
    · intro w1 hr x hx
      rcases List.mem_singleton.1 hx with rfl
      exact Ev.rowA_in ha hr
  · cases hx
noncomputable def rlL (a : Option Addr) (n : Nat) : Ev.LT := Ev.oneL 0 (Ev.loopS [23, 4] [8, 9, 10, 24, 25, 26, 27, 28, 29, 30, 31, 32, 33, 34, 35, 36, 37, 38, 39, 40, 41, 42, 43, 44] (rlP a n)) Ev.noL
theorem rlL_ok (a : Option Addr) (n : Nat) (f : Nat → Nat → Int) (w : World) (ha : Ev.RowT w a 5 n fun j c => .int .i64 (f j c)) : Ev.LOk Try.prog (· < w.heap.size) w (rlL a n) (Ev.bodyOf Try.f10) :=
  Ev.oneL_ok (by kernel_rfl) (rl_ok a n f w ha) (Ev.noL_ok _ _ _ _)
end Go.Proofs.Ytbeaipngljphkaa
