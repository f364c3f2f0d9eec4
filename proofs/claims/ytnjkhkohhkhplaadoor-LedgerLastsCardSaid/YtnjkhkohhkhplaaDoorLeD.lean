/- Package ledger: the loop of Lasts. -/
import Derived.Test.YtnjkhkohhkhplaaDoorLeC
namespace Go.Proofs.YtnjkhkohhkhplaaDoor
open Go Go.ChangeShapes Go.WideShapes Go.ChangeAt Go.RowKit
set_option linter.all false
/-- what the loop comes to -/
def lpC (n c i l s : Int) : Bool := decide (okL l s = true ∧ 0 ≤ i ∧ i ≤ n ∧ n ≤ 2000 ∧ 0 ≤ c ∧ (n - i) * c ≤ l)
def lpO (n c i l s : Int) : Ev.Tree Ev.Outc := .ite (lpC n c i l s) (.leaf ⟨.normal, [.int .i64 n, .bool false], [[.int .i64 (l - (n - i) * c), .int .i64 (s + (n - i) * c)]]⟩) (.fail 95)
def lpQ (m : Nat) (i : Int) (p : Ev.PB) (d n : Int) (t : Nat) : Bool → List Value → Option Ev.Parsed
  | false, [.int .i64 l, .int .i64 s] => some ([(m, 53), (p.b', p.b), (p.T, 23), (t, 0)], lpO n (ctI d) i l s, [(p.tag, 23)])
  | _, _ => none
noncomputable def lpP : Ev.Parse := fun fr st =>
  (Ev.intAt .i64 28 fr).bind fun i => (Ev.boolAt 4 fr).bind fun v => (Ev.ptrAt 2 fr st).bind fun p => (Ev.intAt .i64 6 fr).bind fun d => (Ev.intAt .i64 27 fr).bind fun n => (Ev.tabAt 0 (([1, 40, 60] : List Int).map (Value.int .i64)) st).bind fun t => lpQ fr.n i p d n t v p.l
theorem lp_step (b : Nat) (d n : Int) (x : Int × Int × Int) (Qo : Ev.Outc → Prop) (h : (lpO n (ctI d) x.1 x.2.1 x.2.2).good Qo) :
    (lp_T b x.1 x.2.1 x.2.2 d n).good (Ev.StepOk (fun _ => True) (fun x : Int × Int × Int => (n - x.1).toNat) (fun x => [.int .i64 x.1, .bool false]) (fun x => [[.int .i64 x.2.1, .int .i64 x.2.2]]) (fun x => lpO n (ctI d) x.1 x.2.1 x.2.2) 0 x Qo) := by
  obtain ⟨i, l, s⟩ := x
  simp only at h ⊢
  obtain ⟨hc, hQ⟩ := Ev.ite_true h
  obtain ⟨h1, h2, h3, h4, h5, h6⟩ := hc
  have hk := ok_iff.1 h1
  generalize hcc : ctI d = c at *
  unfold lp_T
  rw [hcc]
  refine Ev.ite_good (fun hlt => ?_) (fun hge => ?_)
  · simp only [decide_eq_true_eq] at hlt
    have e1 : (n - i) * c = (n - (i + 1)) * c + c := by
      rw [show n - i = n - (i + 1) + 1 by omega, Int.add_mul, Int.one_mul]
    have q1 : 0 ≤ (n - (i + 1)) * c := Int.mul_nonneg (by omega) h5
    have e0 : spE l s c = 0 := by unfold spE; rw [if_pos ⟨h1, by omega⟩, if_pos (by omega)]
    refine Ev.ite_good (fun he => ?_) (fun _ => ?_)
    · simp [e0] at he
    · have eL : spL l s c = l - c := by simp [spL, e0, sel]
      have eS : spS l s c = s + c := by simp [spS, e0, sel]
      rw [w64 (by omega) (by omega), eL, eS]
      refine ⟨(i + 1, l - c, s + c), trivial, by simp only; omega, rfl, rfl, ?_⟩
      refine ⟨fun _ => ?_, fun hf => ?_⟩
      · have e2 : l - c - (n - (i + 1)) * c = l - (n - i) * c := by omega
        have e3 : s + c + (n - (i + 1)) * c = s + (n - i) * c := by omega
        simp only [e2, e3]
        exact hQ
      · simp only [lpC, decide_eq_false_iff_not] at hf
        exact hf ⟨ok_iff.2 (by omega), by omega, by omega, h4, h5, by omega⟩
  · simp only [decide_eq_false_iff_not] at hge
    have e : n = i := by omega
    subst e
    have hQ' : Qo ⟨.normal, [.int .i64 n, .bool false], [[.int .i64 (l - (n - n) * c), .int .i64 (s + (n - n) * c)]]⟩ := hQ
    rw [show n - n = 0 by omega, Int.zero_mul, Int.sub_zero, Int.add_zero] at hQ'
    exact hQ'
theorem lp_ok (N : Nat → Prop) (w0 : World) : Ev.CodeOk Tryd.prog N w0 (.block 0 (.loop (Ev.loopOf 0 (Ev.bodyOf Tryd.f5)))) (Ev.loopS [28, 4] [8, 9, 29, 30, 31, 32, 33, 34, 35, 36, 37, 38, 39, 40] lpP) := by
  refine Ev.loopS_ok (n := 53) (m := 60) (nj := [0, 1, 2, 3, 5, 6, 7, 10, 11, 12, 13, 14, 15, 16, 17, 18, 19, 20, 21, 22, 23, 24, 25, 26, 27, 41, 42, 43, 44, 45, 46, 47, 48, 49, 50, 51, 52]) G2_ok (by decide +kernel) ?_ N w0
  intro fr st cl Ot tds hp hcl
  simp only [lpP, Option.bind_eq_some_iff] at hp
  obtain ⟨i, hi, v, hv, p, hpp, d, hd, n, hn, t, ht, hq⟩ := hp
  have ei := Ev.intAt_eq hi
  have ev := Ev.boolAt_eq hv
  obtain ⟨ep, e, p1, p2, p3, p4, p5⟩ := Ev.ptrAt_eq hpp
  have ed := Ev.intAt_eq hd
  have en := Ev.intAt_eq hn
  obtain ⟨e0, t1, t2, t3, t4, t5⟩ := Ev.tabAt_eq ht
  generalize hpl : p.l = pl at hq p4
  unfold lpQ at hq
  split at hq
  · rename_i l s
    simp only [Option.some.injEq, Prod.mk.injEq] at hq
    obtain ⟨rfl, rfl, rfl⟩ := hq
    have c0 : fr.n = 53 := hcl (fr.n, 53) (by simp)
    have c1 : p.b' = p.b := hcl (p.b', p.b) (by simp)
    have c2 : p.T = 23 := hcl (p.T, 23) (by simp)
    have c3 : t = 0 := hcl (t, 0) (by simp)
    refine ⟨{ σ := Int × Int × Int, ds := [(502, p.b, 23)], kh := [undef, .bool false], pk := [(2, .pointer (some ⟨502, 0, none⟩), .pointer (some ⟨p.b, 0, none⟩)), (6, undef, .int .i64 d), (27, undef, .int .i64 n)], V := [Ev.tabI .i64 0 [1, 40, 60]], Inv := fun _ => True, μ := fun x => (n - x.1).toNat, kv := fun x => [.int .i64 x.1, .bool false], cv := fun x => [[.int .i64 x.2.1, .int .i64 x.2.2]], O := fun x => lpO n (ctI d) x.1 x.2.1 x.2.2, T := fun x => lp_T p.b x.1 x.2.1 x.2.2 d n, s0 := (i, l, s), hO := rfl, h0 := trivial, hn := c0, hv := ?_, hpk := ?_, hF := ?_, hV := ?_, hT1 := fun x jv r _ => lp_1 p.b x.1 x.2.1 x.2.2 d n jv r, hT2 := fun x jv r _ => lp_2 p.b x.1 x.2.1 x.2.2 d n jv r, hstep := fun x Qo _ h => lp_step p.b d n x Qo h }⟩
    · simp only [List.map_cons, List.map_nil, ei, ev]
    · intro x hx
      simp only [List.mem_cons, List.not_mem_nil, or_false] at hx
      rcases hx with rfl | rfl | rfl
      · exact ⟨by simp, by rw [ep, c1]⟩
      · exact ⟨by simp, ed⟩
      · exact ⟨by simp, en⟩
    · exact ⟨⟨e, p1, p2, p3, by rw [p4, c2], p5, rfl⟩, fun x hx => (by cases hx), trivial⟩
    · intro x hx
      rcases List.mem_singleton.1 hx with rfl
      exact ⟨rfl, rfl, e0, t1, by rw [t4, c3]; rfl, t2, Ev.tabI_has t5⟩
  · cases hq
def sHead : List Value → Option Value
  | [] => some (.bool true)
  | _ => none
theorem sHead_ok : ∀ a v, sHead a = some v → ∀ w, Ev.TabW 0 (([1, 40, 60] : List Int).map (Value.int .i64)) w → Calls Tryd.prog 9 a.toArray w fun e w' => e = .returned v ∧ Below w.heap.size w w' := by
  intro a v h w ht
  unfold sHead at h
  split at h
  · cases h; exact head_c w ht
  · cases h
noncomputable def G3 : Ev.Sum := Ev.addS 9 (Ev.tabH 0 (([1, 40, 60] : List Int).map (Value.int .i64)) id sHead) G2
theorem G3_ok : ∀ N w0, Ev.SumOk Tryd.prog N w0 G3 := Ev.addS_ok (Ev.tabH_ok sHead_ok) G2_ok
noncomputable def L1 : Ev.LT := Ev.oneL 0 (Ev.loopS [28, 4] [8, 9, 29, 30, 31, 32, 33, 34, 35, 36, 37, 38, 39, 40] lpP) Ev.noL
theorem L1_ok : Ev.LOk Tryd.prog L1 (Ev.bodyOf Tryd.f5) := Ev.oneL_ok (by kernel_rfl) lp_ok (Ev.noL_ok _ _)
end Go.Proofs.YtnjkhkohhkhplaaDoor
