/- RankOrder: for every input the law returns true, and its arguments read as before. No condition. -/
import Derived.Test.YtlomengofcjicaaRkC
import Derived.Test.YtlomengofcjicaaFlat
import Derived.WalkKit
import Derived.ProofKit
import Derived.OpenShut
import Derived.ShutString
import Derived.ChangeOld
import Derived.Below
import Derived.Lib.SmallJoins
namespace Go.Proofs.Ytlomengofcjicaa.rankOrder
open Go.ChangeShapes Go.WideShapes Go.ChangeAt Go.RowKit
open Go.ChangeMaps (open_string shut_string)
theorem arr5 {α : Type} {cs : Array α} (h : cs.size = 5) : ∃ c0 c1 c2 c3 c4, cs = #[c0, c1, c2, c3, c4] := by
  obtain ⟨l⟩ := cs
  match l, h with
  | [c0, c1, c2, c3, c4], _ => exact ⟨c0, c1, c2, c3, c4, rfl⟩
theorem own : ownKnob Try.prog.godebug = none := by kernel_rfl
theorem laidOut : laidOutB Try.prog = true := by kernel_rfl
set_option maxRecDepth 100000 in
theorem lifted (os : Os) (started : os.Started) (H : Type) (enc : TypeId × Value → H) :
    ReturnsInHanded {} Try.checked os 4 .any (Rows.rankOrderSpec.pre6 enc Try.prog Try.f4 Rows.rankOrderRow.domain false) (Rows.rankOrderSpec.post enc Try.prog Try.f4 false true false false) := by
  refine returnsInHanded_of_change (C := Try.checked) own started (by kernel_rfl) Try.func4
    (ChangeSpec.witness6 (enc := enc) (C := Try.checked) false ⟨#[], #[.agg #[.int .i64 0, .int .i64 0], .agg #[.int .i64 0, .int .i64 0], .agg #[.int .i64 0, .int .i64 0], .agg #[.int .i64 0, .int .i64 0, .int .i64 0, .int .i64 0, .int .i64 0], .agg #[.int .i64 0, .int .i64 0, .int .i64 0, .int .i64 0, .int .i64 0]], []⟩ 8 (by kernel_rfl) (by kernel_rfl) (by kernel_rfl) (by kernel_rfl)) ?_
  intro W base args ds gs before hval0 hW hcnd hreach
  have hval : ∀ (j : Nat) t v, Try.f4.params[j]? = some t → args[j]? = some v → Value.okWide Try.prog W .any base t v := hval0
  have hW' := hW
  obtain ⟨p, q, hA0, hV, rfl, hfz, hnd⟩ := hW
  have hA : DataW.TrodAll enc Try.prog W 0 (fun _ => true) true Try.f4.params.toList args.toList ds p := hA0
  rw [Try.params4] at hA hval
  obtain ⟨v0, vs0, d0, ds0, p0, q0, hargs, rfl, rfl, h0, r0⟩ := trodAll_cons hA
  obtain ⟨v1, vs1, d1, ds1, p1, q1, rfl, rfl, rfl, h1, r1⟩ := trodAll_cons r0
  obtain ⟨v2, vs2, d2, ds2, p2, q2, rfl, rfl, rfl, h2, r2⟩ := trodAll_cons r1
  obtain ⟨v3, vs3, d3, ds3, p3, q3, rfl, rfl, rfl, h3, r3⟩ := trodAll_cons r2
  obtain ⟨v4, vs4, d4, ds4, p4, q4, rfl, rfl, rfl, h4, r4⟩ := trodAll_cons r3
  obtain ⟨rfl, rfl, rfl⟩ := trodAll_nil r4
  obtain rfl : args = #[v0, v1, v2, v3, v4] := by cases args; simp_all
  obtain ⟨rfl, rfl⟩ := trodVars_none hV
  have k0 := h0
  have lt0 : ∀ x ∈ p0, x.block < W.heap.size := by obtain ⟨m, hm⟩ := k0; exact DataW.trod_lt m _ _ _ hm
  have o0 := hval 0 23 v0 rfl rfl
  obtain ⟨c0_0, c0_1, y0_0, y0_1, m0, rfl, hd0, hp0, g0_0, g0_1⟩ := Go.Joins.open_agg2 Try.underlying23 (by kernel_rfl) (by kernel_rfl) o0 h0
  obtain ⟨a0_0, e0_0, _, w0_0⟩ := DataW.trod_int Try.underlying3 g0_0
  simp at e0_0; subst e0_0
  obtain ⟨a0_1, e0_1, _, w0_1⟩ := DataW.trod_int Try.underlying3 g0_1
  simp at e0_1; subst e0_1
  have k1 := h1
  have lt1 : ∀ x ∈ p1, x.block < W.heap.size := by obtain ⟨m, hm⟩ := k1; exact DataW.trod_lt m _ _ _ hm
  have o1 := hval 1 23 v1 rfl rfl
  obtain ⟨c1_0, c1_1, y1_0, y1_1, m1, rfl, hd1, hp1, g1_0, g1_1⟩ := Go.Joins.open_agg2 Try.underlying23 (by kernel_rfl) (by kernel_rfl) o1 h1
  obtain ⟨a1_0, e1_0, _, w1_0⟩ := DataW.trod_int Try.underlying3 g1_0
  simp at e1_0; subst e1_0
  obtain ⟨a1_1, e1_1, _, w1_1⟩ := DataW.trod_int Try.underlying3 g1_1
  simp at e1_1; subst e1_1
  have k2 := h2
  have lt2 : ∀ x ∈ p2, x.block < W.heap.size := by obtain ⟨m, hm⟩ := k2; exact DataW.trod_lt m _ _ _ hm
  have o2 := hval 2 23 v2 rfl rfl
  obtain ⟨c2_0, c2_1, y2_0, y2_1, m2, rfl, hd2, hp2, g2_0, g2_1⟩ := Go.Joins.open_agg2 Try.underlying23 (by kernel_rfl) (by kernel_rfl) o2 h2
  obtain ⟨a2_0, e2_0, _, w2_0⟩ := DataW.trod_int Try.underlying3 g2_0
  simp at e2_0; subst e2_0
  obtain ⟨a2_1, e2_1, _, w2_1⟩ := DataW.trod_int Try.underlying3 g2_1
  simp at e2_1; subst e2_1
  have k3 := h3
  have lt3 : ∀ x ∈ p3, x.block < W.heap.size := by obtain ⟨m, hm⟩ := k3; exact DataW.trod_lt m _ _ _ hm
  have o3 := hval 3 25 v3 rfl rfl
  obtain ⟨cs3, rfl, hz3, hc3⟩ := Flat.open_struct (ks := [some (some .i64), some (some .i64), some (some .i64), some (some .i64), some (some .i64)]) 8 Try.underlying25 (by kernel_rfl) o3 h3
  obtain ⟨c3_0, c3_1, c3_2, c3_3, c3_4, rfl⟩ := arr5 (hz3.trans (by kernel_rfl))
  obtain ⟨x3_0, e3_0, l3_0⟩ := hc3 0 _ rfl
  obtain rfl := Option.some.inj (show some c3_0 = some x3_0 from e3_0)
  obtain ⟨a3_0, rfl, w3_0⟩ := l3_0
  obtain ⟨x3_1, e3_1, l3_1⟩ := hc3 1 _ rfl
  obtain rfl := Option.some.inj (show some c3_1 = some x3_1 from e3_1)
  obtain ⟨a3_1, rfl, w3_1⟩ := l3_1
  obtain ⟨x3_2, e3_2, l3_2⟩ := hc3 2 _ rfl
  obtain rfl := Option.some.inj (show some c3_2 = some x3_2 from e3_2)
  obtain ⟨a3_2, rfl, w3_2⟩ := l3_2
  obtain ⟨x3_3, e3_3, l3_3⟩ := hc3 3 _ rfl
  obtain rfl := Option.some.inj (show some c3_3 = some x3_3 from e3_3)
  obtain ⟨a3_3, rfl, w3_3⟩ := l3_3
  obtain ⟨x3_4, e3_4, l3_4⟩ := hc3 4 _ rfl
  obtain rfl := Option.some.inj (show some c3_4 = some x3_4 from e3_4)
  obtain ⟨a3_4, rfl, w3_4⟩ := l3_4
  have k4 := h4
  have lt4 : ∀ x ∈ p4, x.block < W.heap.size := by obtain ⟨m, hm⟩ := k4; exact DataW.trod_lt m _ _ _ hm
  have o4 := hval 4 25 v4 rfl rfl
  obtain ⟨cs4, rfl, hz4, hc4⟩ := Flat.open_struct (ks := [some (some .i64), some (some .i64), some (some .i64), some (some .i64), some (some .i64)]) 8 Try.underlying25 (by kernel_rfl) o4 h4
  obtain ⟨c4_0, c4_1, c4_2, c4_3, c4_4, rfl⟩ := arr5 (hz4.trans (by kernel_rfl))
  obtain ⟨x4_0, e4_0, l4_0⟩ := hc4 0 _ rfl
  obtain rfl := Option.some.inj (show some c4_0 = some x4_0 from e4_0)
  obtain ⟨a4_0, rfl, w4_0⟩ := l4_0
  obtain ⟨x4_1, e4_1, l4_1⟩ := hc4 1 _ rfl
  obtain rfl := Option.some.inj (show some c4_1 = some x4_1 from e4_1)
  obtain ⟨a4_1, rfl, w4_1⟩ := l4_1
  obtain ⟨x4_2, e4_2, l4_2⟩ := hc4 2 _ rfl
  obtain rfl := Option.some.inj (show some c4_2 = some x4_2 from e4_2)
  obtain ⟨a4_2, rfl, w4_2⟩ := l4_2
  obtain ⟨x4_3, e4_3, l4_3⟩ := hc4 3 _ rfl
  obtain rfl := Option.some.inj (show some c4_3 = some x4_3 from e4_3)
  obtain ⟨a4_3, rfl, w4_3⟩ := l4_3
  obtain ⟨x4_4, e4_4, l4_4⟩ := hc4 4 _ rfl
  obtain rfl := Option.some.inj (show some c4_4 = some x4_4 from e4_4)
  obtain ⟨a4_4, rfl, w4_4⟩ := l4_4
  refine (lord_c a0_0 a0_1 a1_0 a1_1 a2_0 a2_1 a3_0 a3_1 a3_2 a3_3 a3_4 a4_0 a4_1 a4_2 a4_3 a4_4 W).mono fun e W' ⟨he, bel⟩ => ?_
  subst he
  exact ⟨_, rfl, _, _, _, [], _, [], hW', trodAll_mk1 (shut_bool Try.underlying4 _), (trodAll_cons_mk (Below.trod laidOut (by kernel_rfl) (of_decide_eq_true (by kernel_rfl)) k0 bel lt0) (trodAll_cons_mk (Below.trod laidOut (by kernel_rfl) (of_decide_eq_true (by kernel_rfl)) k1 bel lt1) (trodAll_cons_mk (Below.trod laidOut (by kernel_rfl) (of_decide_eq_true (by kernel_rfl)) k2 bel lt2) (trodAll_cons_mk (Below.trod laidOut (by kernel_rfl) (of_decide_eq_true (by kernel_rfl)) k3 bel lt3) (trodAll_cons_mk (Below.trod laidOut (by kernel_rfl) (of_decide_eq_true (by kernel_rfl)) k4 bel lt4) trodAll_mk0))))), rfl, bel.frame _, fun h => by cases h⟩
theorem over : Rows.rankOrderRow.holds Try.pinned (OpenSpec.ofChange Rows.rankOrderSpec) :=
  OpenClaim.holds_of_wide 4 Try.f4 rfl rfl rfl rfl rfl rfl rfl ⟨rfl, rfl, rfl, rfl, rfl⟩ rfl rfl rfl rfl rfl (by kernel_rfl) Try.func4 (by kernel_rfl)
    (of_decide_eq_true (by kernel_rfl)) (by unfold Func.isWrapper; first | (rw [if_pos (by decide +kernel)]; kernel_rfl) | (rw [if_neg (by decide +kernel)]; exact ⟨rfl, rfl⟩))
    (fun os started H enc _ => lifted os started H enc)
theorem proved : Rows.RankOrderSaid := over
end Go.Proofs.Ytlomengofcjicaa.rankOrder
