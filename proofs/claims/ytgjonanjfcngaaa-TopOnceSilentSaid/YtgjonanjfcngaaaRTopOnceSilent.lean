/- TopOnceSilent: for every input the law returns true, and its arguments read as before. No condition. -/
import Derived.Test.YtgjonanjfcngaaaGdW
import Derived.Test.YtgjonanjfcngaaaFlat
import Derived.WalkKit
import Derived.ProofKit
import Derived.OpenShut
import Derived.ShutString
import Derived.ChangeOld
import Derived.Below
import Derived.Lib.SmallJoins
namespace Go.Proofs.Ytgjonanjfcngaaa.topOnceSilent
open Go.ChangeShapes Go.WideShapes Go.ChangeAt Go.RowKit
open Go.ChangeMaps (open_string shut_string)
theorem arr7 {α : Type} {cs : Array α} (h : cs.size = 7) : ∃ c0 c1 c2 c3 c4 c5 c6, cs = #[c0, c1, c2, c3, c4, c5, c6] := by
  obtain ⟨l⟩ := cs
  match l, h with
  | [c0, c1, c2, c3, c4, c5, c6], _ => exact ⟨c0, c1, c2, c3, c4, c5, c6, rfl⟩
theorem own : ownKnob Try.prog.godebug = none := by kernel_rfl
theorem laidOut : laidOutB Try.prog = true := by kernel_rfl
set_option maxRecDepth 100000 in
theorem lifted (os : Os) (started : os.Started) (H : Type) (enc : TypeId × Value → H) :
    ReturnsInHanded {} Try.checked os 3 .any (Rows.topOnceSilentSpec.pre6 enc Try.prog Try.f3 Rows.topOnceSilentRow.domain false) (Rows.topOnceSilentSpec.post enc Try.prog Try.f3 false true false false) := by
  refine returnsInHanded_of_change (C := Try.checked) own started (by kernel_rfl) Try.func3
    (ChangeSpec.witness6 (enc := enc) (C := Try.checked) false ⟨#[], #[.agg #[.bool false, .int .i64 0, .int .i64 0, .int .i64 0, .int .i64 0, .int .i64 0, .int .i64 0], .agg #[.int .i64 0, .int .i64 0], .int .i64 0, .int .i64 0], []⟩ 8 (by kernel_rfl) (by kernel_rfl) (by kernel_rfl) (by kernel_rfl)) ?_
  intro W base args ds gs before hval0 hW hcnd hreach
  have hval : ∀ (j : Nat) t v, Try.f3.params[j]? = some t → args[j]? = some v → Value.okWide Try.prog W .any base t v := hval0
  have hW' := hW
  obtain ⟨p, q, hA0, hV, rfl, hfz, hnd⟩ := hW
  have hA : DataW.TrodAll enc Try.prog W 0 (fun _ => true) true Try.f3.params.toList args.toList ds p := hA0
  rw [Try.params3] at hA hval
  obtain ⟨v0, vs0, d0, ds0, p0, q0, hargs, rfl, rfl, h0, r0⟩ := trodAll_cons hA
  obtain ⟨v1, vs1, d1, ds1, p1, q1, rfl, rfl, rfl, h1, r1⟩ := trodAll_cons r0
  obtain ⟨v2, vs2, d2, ds2, p2, q2, rfl, rfl, rfl, h2, r2⟩ := trodAll_cons r1
  obtain ⟨v3, vs3, d3, ds3, p3, q3, rfl, rfl, rfl, h3, r3⟩ := trodAll_cons r2
  obtain ⟨rfl, rfl, rfl⟩ := trodAll_nil r3
  obtain rfl : args = #[v0, v1, v2, v3] := by cases args; simp_all
  obtain ⟨rfl, rfl⟩ := trodVars_none hV
  have k0 := h0
  have lt0 : ∀ x ∈ p0, x.block < W.heap.size := by obtain ⟨m, hm⟩ := k0; exact DataW.trod_lt m _ _ _ hm
  have o0 := hval 0 25 v0 rfl rfl
  obtain ⟨cs0, rfl, hz0, hc0⟩ := Flat.open_struct (ks := [some none, some (some .i64), some (some .i64), some (some .i64), some (some .i64), some (some .i64), some (some .i64)]) 8 Try.underlying25 (by kernel_rfl) o0 h0
  obtain ⟨c0_0, c0_1, c0_2, c0_3, c0_4, c0_5, c0_6, rfl⟩ := arr7 (hz0.trans (by kernel_rfl))
  obtain ⟨x0_0, e0_0, l0_0⟩ := hc0 0 _ rfl
  obtain rfl := Option.some.inj (show some c0_0 = some x0_0 from e0_0)
  obtain ⟨a0_0, rfl⟩ := l0_0
  obtain ⟨x0_1, e0_1, l0_1⟩ := hc0 1 _ rfl
  obtain rfl := Option.some.inj (show some c0_1 = some x0_1 from e0_1)
  obtain ⟨a0_1, rfl, w0_1⟩ := l0_1
  obtain ⟨x0_2, e0_2, l0_2⟩ := hc0 2 _ rfl
  obtain rfl := Option.some.inj (show some c0_2 = some x0_2 from e0_2)
  obtain ⟨a0_2, rfl, w0_2⟩ := l0_2
  obtain ⟨x0_3, e0_3, l0_3⟩ := hc0 3 _ rfl
  obtain rfl := Option.some.inj (show some c0_3 = some x0_3 from e0_3)
  obtain ⟨a0_3, rfl, w0_3⟩ := l0_3
  obtain ⟨x0_4, e0_4, l0_4⟩ := hc0 4 _ rfl
  obtain rfl := Option.some.inj (show some c0_4 = some x0_4 from e0_4)
  obtain ⟨a0_4, rfl, w0_4⟩ := l0_4
  obtain ⟨x0_5, e0_5, l0_5⟩ := hc0 5 _ rfl
  obtain rfl := Option.some.inj (show some c0_5 = some x0_5 from e0_5)
  obtain ⟨a0_5, rfl, w0_5⟩ := l0_5
  obtain ⟨x0_6, e0_6, l0_6⟩ := hc0 6 _ rfl
  obtain rfl := Option.some.inj (show some c0_6 = some x0_6 from e0_6)
  obtain ⟨a0_6, rfl, w0_6⟩ := l0_6
  have k1 := h1
  have lt1 : ∀ x ∈ p1, x.block < W.heap.size := by obtain ⟨m, hm⟩ := k1; exact DataW.trod_lt m _ _ _ hm
  have o1 := hval 1 27 v1 rfl rfl
  obtain ⟨c1_0, c1_1, y1_0, y1_1, m1, rfl, hd1, hp1, g1_0, g1_1⟩ := Go.Joins.open_agg2 Try.underlying27 (by kernel_rfl) (by kernel_rfl) o1 h1
  obtain ⟨a1_0, e1_0, _, w1_0⟩ := DataW.trod_int Try.underlying3 g1_0
  simp at e1_0; subst e1_0
  obtain ⟨a1_1, e1_1, _, w1_1⟩ := DataW.trod_int Try.underlying3 g1_1
  simp at e1_1; subst e1_1
  obtain ⟨a2, rfl, rfl, rfl, w2⟩ := open_int Try.underlying3 (hval 2 3 v2 rfl rfl) h2
  obtain ⟨a3, rfl, rfl, rfl, w3⟩ := open_int Try.underlying3 (hval 3 3 v3 rfl rfl) h3
  refine (lsilent_c a0_0 a0_1 a0_2 a0_3 a0_4 a0_5 a0_6 a1_0 a1_1 a2 a3 W).mono fun e W' ⟨he, bel⟩ => ?_
  subst he
  exact ⟨_, rfl, _, _, _, [], _, [], hW', trodAll_mk1 (shut_bool Try.underlying4 _), (trodAll_cons_mk (Below.trod laidOut (by kernel_rfl) (of_decide_eq_true (by kernel_rfl)) k0 bel lt0) (trodAll_cons_mk (Below.trod laidOut (by kernel_rfl) (of_decide_eq_true (by kernel_rfl)) k1 bel lt1) (trodAll_cons_mk (shut_int Try.underlying3 w2) (trodAll_cons_mk (shut_int Try.underlying3 w3) trodAll_mk0)))), rfl, bel.frame _, fun h => by cases h⟩
theorem over : Rows.topOnceSilentRow.holds Try.pinned (OpenSpec.ofChange Rows.topOnceSilentSpec) :=
  OpenClaim.holds_of_wide 3 Try.f3 rfl rfl rfl rfl rfl rfl rfl ⟨rfl, rfl, rfl, rfl, rfl⟩ rfl rfl rfl rfl rfl (by kernel_rfl) Try.func3 (by kernel_rfl)
    (of_decide_eq_true (by kernel_rfl)) (by unfold Func.isWrapper; first | (rw [if_pos (by decide +kernel)]; kernel_rfl) | (rw [if_neg (by decide +kernel)]; exact ⟨rfl, rfl⟩))
    (fun os started H enc _ => lifted os started H enc)
theorem proved : Rows.TopOnceSilentSaid := over
end Go.Proofs.Ytgjonanjfcngaaa.topOnceSilent
