/- KeyringOrder: for every input the law returns true, and its arguments read as before. No condition. -/
import Derived.Test.YtabfmhkmofebnaaKeyH
import Derived.Test.YtabfmhkmofebnaaFlat
import Derived.WalkKit
import Derived.ProofKit
import Derived.OpenShut
import Derived.ShutString
import Derived.ChangeOld
import Derived.Below
import Derived.Lib.SmallJoins
namespace Go.Proofs.Ytabfmhkmofebnaa.keyringOrder
open Go.ChangeShapes Go.WideShapes Go.ChangeAt Go.RowKit
open Go.ChangeMaps (open_string shut_string)
theorem arr3 {α : Type} {cs : Array α} (h : cs.size = 3) : ∃ c0 c1 c2, cs = #[c0, c1, c2] := by
  obtain ⟨l⟩ := cs
  match l, h with
  | [c0, c1, c2], _ => exact ⟨c0, c1, c2, rfl⟩
theorem own : ownKnob Try.prog.godebug = none := by kernel_rfl
theorem laidOut : laidOutB Try.prog = true := by kernel_rfl
set_option maxRecDepth 100000 in
theorem lifted (os : Os) (started : os.Started) (H : Type) (enc : TypeId × Value → H) :
    ReturnsInHanded {} Try.checked os 7 .any (Rows.keyringOrderSpec.pre6 enc Try.prog Try.f7 Rows.keyringOrderRow.domain false) (Rows.keyringOrderSpec.post enc Try.prog Try.f7 false true false false) := by
  refine returnsInHanded_of_change (C := Try.checked) own started (by kernel_rfl) Try.func7
    (ChangeSpec.witness6 (enc := enc) (C := Try.checked) false ⟨#[], #[.int .u32 0, .agg #[.int .u8 0, .int .u8 0, .int .u8 0], .agg #[.bool false, .bool false, .bool false]], []⟩ 8 (by kernel_rfl) (by kernel_rfl) (by kernel_rfl) (by kernel_rfl)) ?_
  intro W base args ds gs before hval0 hW hcnd hreach
  have hval : ∀ (j : Nat) t v, Try.f7.params[j]? = some t → args[j]? = some v → Value.okWide Try.prog W .any base t v := hval0
  have hW' := hW
  obtain ⟨p, q, hA0, hV, rfl, hfz, hnd⟩ := hW
  have hA : DataW.TrodAll enc Try.prog W 0 (fun _ => true) true Try.f7.params.toList args.toList ds p := hA0
  rw [Try.params7] at hA hval
  obtain ⟨v0, vs0, d0, ds0, p0, q0, hargs, rfl, rfl, h0, r0⟩ := trodAll_cons hA
  obtain ⟨v1, vs1, d1, ds1, p1, q1, rfl, rfl, rfl, h1, r1⟩ := trodAll_cons r0
  obtain ⟨v2, vs2, d2, ds2, p2, q2, rfl, rfl, rfl, h2, r2⟩ := trodAll_cons r1
  obtain ⟨rfl, rfl, rfl⟩ := trodAll_nil r2
  obtain rfl : args = #[v0, v1, v2] := by cases args; simp_all
  obtain ⟨rfl, rfl⟩ := trodVars_none hV
  obtain ⟨a0, rfl, rfl, rfl, w0⟩ := open_int Try.underlying33 (hval 0 33 v0 rfl rfl) h0
  have k1 := h1
  have lt1 : ∀ x ∈ p1, x.block < W.heap.size := by obtain ⟨m, hm⟩ := k1; exact DataW.trod_lt m _ _ _ hm
  have o1 := hval 1 39 v1 rfl rfl
  obtain ⟨cs1, rfl, hz1, hc1⟩ := Flat.open_array (ks := [some (some .u8), some (some .u8), some (some .u8)]) 8 Try.underlying39 (by kernel_rfl) o1 h1
  obtain ⟨c1_0, c1_1, c1_2, rfl⟩ := arr3 (hz1.trans (by kernel_rfl))
  obtain ⟨x1_0, e1_0, l1_0⟩ := hc1 0 _ rfl
  obtain rfl := Option.some.inj (show some c1_0 = some x1_0 from e1_0)
  obtain ⟨a1_0, rfl, w1_0⟩ := l1_0
  obtain ⟨x1_1, e1_1, l1_1⟩ := hc1 1 _ rfl
  obtain rfl := Option.some.inj (show some c1_1 = some x1_1 from e1_1)
  obtain ⟨a1_1, rfl, w1_1⟩ := l1_1
  obtain ⟨x1_2, e1_2, l1_2⟩ := hc1 2 _ rfl
  obtain rfl := Option.some.inj (show some c1_2 = some x1_2 from e1_2)
  obtain ⟨a1_2, rfl, w1_2⟩ := l1_2
  have k2 := h2
  have lt2 : ∀ x ∈ p2, x.block < W.heap.size := by obtain ⟨m, hm⟩ := k2; exact DataW.trod_lt m _ _ _ hm
  have o2 := hval 2 40 v2 rfl rfl
  obtain ⟨cs2, rfl, hz2, hc2⟩ := Flat.open_array (ks := [some none, some none, some none]) 8 Try.underlying40 (by kernel_rfl) o2 h2
  obtain ⟨c2_0, c2_1, c2_2, rfl⟩ := arr3 (hz2.trans (by kernel_rfl))
  obtain ⟨x2_0, e2_0, l2_0⟩ := hc2 0 _ rfl
  obtain rfl := Option.some.inj (show some c2_0 = some x2_0 from e2_0)
  obtain ⟨a2_0, rfl⟩ := l2_0
  obtain ⟨x2_1, e2_1, l2_1⟩ := hc2 1 _ rfl
  obtain rfl := Option.some.inj (show some c2_1 = some x2_1 from e2_1)
  obtain ⟨a2_1, rfl⟩ := l2_1
  obtain ⟨x2_2, e2_2, l2_2⟩ := hc2 2 _ rfl
  obtain rfl := Option.some.inj (show some c2_2 = some x2_2 from e2_2)
  obtain ⟨a2_2, rfl⟩ := l2_2
  refine (orderW (bounds_u32 w0).1 (bounds_u32 w0).2 (bounds_u8 w1_0).1 (bounds_u8 w1_0).2 (bounds_u8 w1_1).1 (bounds_u8 w1_1).2 (bounds_u8 w1_2).1 (bounds_u8 w1_2).2 W).mono fun e W' ⟨he, bel⟩ => ?_
  subst he
  exact ⟨_, rfl, _, _, _, [], _, [], hW', trodAll_mk1 (shut_bool Try.underlying4 _), (trodAll_cons_mk (shut_int Try.underlying33 w0) (trodAll_cons_mk (Below.trod laidOut (by kernel_rfl) (of_decide_eq_true (by kernel_rfl)) k1 bel lt1) (trodAll_cons_mk (Below.trod laidOut (by kernel_rfl) (of_decide_eq_true (by kernel_rfl)) k2 bel lt2) trodAll_mk0))), rfl, bel.frame _, fun h => by cases h⟩
theorem over : Rows.keyringOrderRow.holds Try.pinned (OpenSpec.ofChange Rows.keyringOrderSpec) :=
  OpenClaim.holds_of_wide 7 Try.f7 rfl rfl rfl rfl rfl rfl rfl ⟨rfl, rfl, rfl, rfl, rfl⟩ rfl rfl rfl rfl rfl (by kernel_rfl) Try.func7 (by kernel_rfl)
    (of_decide_eq_true (by kernel_rfl)) (by unfold Func.isWrapper; first | (rw [if_pos (by decide +kernel)]; kernel_rfl) | (rw [if_neg (by decide +kernel)]; exact ⟨rfl, rfl⟩))
    (fun os started H enc _ => lifted os started H enc)
theorem proved : Rows.KeyringOrderSaid := over
end Go.Proofs.Ytabfmhkmofebnaa.keyringOrder
