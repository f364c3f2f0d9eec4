/- Equality of byte strings in the reference. -/
import Derived.Test.YtkiddbnpeddiiaaSeA
namespace Go.Proofs.Ytkiddbnpeddiiaa
open Go Go.ChangeShapes Go.WideShapes Go.ChangeAt Go.RowKit
set_option linter.all false
theorem w64 {x : Int} (h1 : -9223372036854775808 ≤ x) (h2 : x ≤ 9223372036854775807) : IntKind.wrap .i64 x = x := by
  simp only [IntKind.wrap, IntKind.bits, IntKind.signed]
  simp
  omega
/-- the same from a place on -/
def sameB (f g : Nat → Int) : Nat → Nat → Bool
  | 0, _ => true
  | d + 1, i => f i == g i && sameB f g d (i + 1)
def misB (f g : Nat → Int) : Nat → Nat → Nat
  | 0, i => i
  | d + 1, i => match f i == g i with
    | true => misB f g d (i + 1)
    | false => i
def slO (f g : Nat → Int) (n i : Nat) : Ev.Tree Ev.Outc := .ite (sameB f g (n - i) i) (.leaf ⟨.normal, [.int .i64 (n : Int), .bool false], []⟩) (.leaf ⟨.ret, [.int .i64 (misB f g (n - i) i : Int), .bool false], []⟩)
def slO2 (m : Nat) (f g : Nat → Int) (n i : Nat) : Ev.Tree Ev.Outc := .ite (Nat.ble n 9223372036854775807) (.ite (Nat.ble n m) (slO f g n i) (.fail 96)) (.fail 96)
noncomputable def slP (a b : Option Addr) (n m : Nat) (f g : Nat → Int) : Ev.Parse := fun fr _ =>
  (Ev.natAt .i64 5 fr).bind fun i => (Ev.boolAt 4 fr).bind fun v => (Ev.slcAt 0 fr).bind fun p => (Ev.slcAt 1 fr).bind fun q => match v with
    | false => some ((fr.n, 26) :: (i, 0) :: (p.2.1, n) :: (q.2.1, m) :: (Ev.eqA p.1 a ++ Ev.eqA q.1 b), slO2 m f g n 0, [])
    | true => none
theorem sl_step (a b : Option Addr) (n m ca cb : Nat) (f g : Nat → Int) (i : Nat) (hi : i ≤ n) (Qo : Ev.Outc → Prop) (h : (slO2 m f g n i).good Qo) :
    (slp_T a b n m ca cb f g i).good (Ev.StepOk (fun i : Nat => i ≤ n) (fun i => n - i) (fun i => [.int .i64 (i : Int), .bool false]) (fun _ => []) (fun i => slO2 m f g n i) 0 i Qo) := by
  obtain ⟨hn, h⟩ := Ev.ble_true h
  obtain ⟨hm, h⟩ := Ev.ble_true h
  unfold slp_T
  simp only [Int.ofNat_eq_natCast, Int.toNat_natCast]
  by_cases hlt : i < n
  · refine Ev.good_t (Ev.lt_t hlt) (Ev.good_t (Ev.inB_t hlt) (Ev.good_t (Ev.ble_t hlt) (Ev.good_t (Ev.inB_t (by omega)) (Ev.good_t (Ev.ble_t (by omega)) ?_))))
    rw [w64 (by omega) (by omega)]
    have e : n - i = (n - (i + 1)) + 1 := by omega
    unfold slO at h
    rw [e] at h
    simp only [sameB, misB] at h
    cases hfg : f i == g i with
    | true =>
      refine Ev.good_f (by rw [bne, hfg]; rfl) ⟨i + 1, hlt, by simp only; omega, by simp, rfl, ?_⟩
      rw [hfg, Bool.true_and] at h
      exact Ev.good_t (Nat.ble_eq_true_of_le hn) (Ev.good_t (Nat.ble_eq_true_of_le hm) h)
    | false =>
      refine Ev.good_t (by rw [bne, hfg]; rfl) ?_
      rw [hfg, Bool.false_and] at h
      exact h.2 rfl
  · refine Ev.good_f (Ev.lt_f hlt) ?_
    have hin : i = n := by omega
    subst hin
    unfold slO at h
    rw [Nat.sub_self] at h
    exact h.1 rfl
theorem sl_ok (a b : Option Addr) (n m : Nat) (f g : Nat → Int) (w : World) (ha : Ev.RowT w a 1 n fun j _ => .int .u8 (f j)) (hb : Ev.RowT w b 1 m fun j _ => .int .u8 (g j)) :
    Ev.CodeOk Try.prog (· < w.heap.size) w (.block 0 (.loop (Ev.loopOf 0 (Ev.bodyOf Try.f28)))) (Ev.loopS [5, 4] [11, 12, 13, 14, 15, 16, 17, 18, 19, 20, 21, 22, 23, 24, 25] (slP a b n m f g)) := by
  refine Ev.loopS_ok (n := 26) (m := 60) (nj := [0, 1, 2, 3, 6, 7, 8, 9, 10]) Ev.noS_ok (· < w.heap.size) w (by decide +kernel) ?_
  intro fr st cl Ot tds hp hcl
  simp only [slP, Option.bind_eq_some_iff] at hp
  obtain ⟨i, hi, v, hv, p, hp, q, hq, hx⟩ := hp
  have ei := Ev.natAt_eq hi
  have ev := Ev.boolAt_eq hv
  have ep := Ev.slcAt_eq hp
  have eq := Ev.slcAt_eq hq
  split at hx
  · simp only [Option.some.injEq, Prod.mk.injEq] at hx
    obtain ⟨rfl, rfl, rfl⟩ := hx
    have c0 : fr.n = 26 := hcl (fr.n, 26) (by simp)
    have ci : i = 0 := hcl (i, 0) (by simp)
    have c1 : p.2.1 = n := hcl (p.2.1, n) (by simp)
    have c2 : q.2.1 = m := hcl (q.2.1, m) (by simp)
    have c3 : p.1 = a := Ev.eqA_eq fun y hy => hcl y (by simp [hy])
    have c4 : q.1 = b := Ev.eqA_eq fun y hy => hcl y (by simp [hy])
    refine ⟨{ σ := Nat, ds := [], kh := [undef, .bool false], pk := [(0, (.slice (some ⟨600, 0, some 0⟩) 0 0), .slice a n p.2.2), (1, (.slice (some ⟨601, 0, some 0⟩) 0 0), .slice b m q.2.2)], V := [(Ev.rowA 600 a 1 n fun j _ => .int .u8 (f j)), (Ev.rowA 601 b 1 m fun j _ => .int .u8 (g j))], Inv := fun i => i ≤ n, μ := fun i => n - i, kv := fun i => [.int .i64 (i : Int), .bool false], cv := fun _ => [], O := fun i => slO2 m f g n i, T := fun i => slp_T a b n m p.2.2 q.2.2 f g i, s0 := 0, hO := rfl, h0 := Nat.zero_le _, hn := c0, hv := ?_, hpk := ?_, hF := trivial, hV := ?_, hT1 := fun i jv r _ => slp_1 a b n m p.2.2 q.2.2 f g i jv r, hT2 := fun i jv r _ => slp_2 a b n m p.2.2 q.2.2 f g i jv r, hstep := fun i Qo hI h => sl_step a b n m p.2.2 q.2.2 f g i hI Qo h }⟩
    · simp only [List.map_cons, List.map_nil, ei, ev, ci]
    · intro x hx
      simp only [List.mem_cons, List.not_mem_nil, or_false] at hx
      rcases hx with rfl | rfl
      · exact ⟨by simp, by rw [ep, c1, c3]⟩
      · exact ⟨by simp, by rw [eq, c2, c4]⟩
    · intro w1 hr x hx
      simp only [List.mem_cons, List.not_mem_nil, or_false] at hx
      rcases hx with rfl | rfl
      · exact Ev.rowA_in ha hr
      · exact Ev.rowA_in hb hr
  · cases hx
noncomputable def slL (a b : Option Addr) (n m : Nat) (f g : Nat → Int) : Ev.LT := Ev.oneL 0 (Ev.loopS [5, 4] [11, 12, 13, 14, 15, 16, 17, 18, 19, 20, 21, 22, 23, 24, 25] (slP a b n m f g)) Ev.noL
theorem slL_ok (a b : Option Addr) (n m : Nat) (f g : Nat → Int) (w : World) (ha : Ev.RowT w a 1 n fun j _ => .int .u8 (f j)) (hb : Ev.RowT w b 1 m fun j _ => .int .u8 (g j)) : Ev.LOk Try.prog (· < w.heap.size) w (slL a b n m f g) (Ev.bodyOf Try.f28) :=
  Ev.oneL_ok (by kernel_rfl) (sl_ok a b n m f g w ha hb) (Ev.noL_ok _ _ _ _)
end Go.Proofs.Ytkiddbnpeddiiaa
