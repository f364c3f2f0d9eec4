/- QueuePlaces: for every input the law returns true, and its arguments read as before. No condition. -/
import Derived.Test.YtbpnmjjmllgehaaQuJ
import Derived.Test.YtbpnmjjmllgehaaFlat
import Derived.Test.YtbpnmjjmllgehaaRowS
import Derived.Deep.Slices
import Derived.Deep.Fields
import Derived.ChangeSame
import Derived.WalkKit
import Derived.ProofKit
import Derived.OpenShut
import Derived.ShutString
import Derived.ChangeOld
import Derived.Below
import Derived.Lib.SmallJoins
namespace Go.Proofs.Ytbpnmjjmllgehaa.queuePlaces
open Go.ChangeShapes Go.WideShapes Go.ChangeAt Go.RowKit
open Go.ChangeMaps (open_string shut_string)
section
open Go.Joins Go.ChangeShapes Go.WideShapes Go.RowKit Go.Deep
variable {H : Type} {enc : TypeId × Value → H} {P : Program} {w : World} {base : Nat} {spare : Nat → Bool} {held : Bool}
theorem open_agg1 {r : Reach} {b0 : Nat} {t : TypeId} {f0 : Field} {v : Value} {d : DataW H} {p : List MemPlace} (hs : P.underlying t = some (.struct #[f0])) (hone : oneCellFields P #[f0] = true) (hC : P.cellsOf t = 1)
    (hv : Value.okWide P w r b0 t v) (h : DataW.Trod enc P w base spare held t v d p) :
    ∃ (v0 : Value) (y0 : DataW H × List MemPlace) (n : Nat), v = .agg #[v0] ∧ True ∧ True ∧
      DataW.trod enc P w base spare held n f0.type [v0] = some y0 := by
  obtain ⟨cs, rfl, hsz⟩ := okWide_struct hs hv
  obtain ⟨l⟩ := cs
  match l, hsz.trans hC with
  | [c0], _ =>
    obtain ⟨fuel, hf⟩ := h
    obtain ⟨xs, n, _, hx, _, hlen, hg⟩ := DataW.trod_struct hs hf
    obtain ⟨o0, k0⟩ := hone_of hone 0 f0 rfl
    match xs, hlen with
    | [y0], _ =>
      exact ⟨c0, y0, n, rfl, trivial, trivial, by simpa [Value.cells, o0, k0] using hg 0 f0 rfl⟩
end
theorem arr5 {α : Type} {cs : Array α} (h : cs.size = 5) : ∃ c0 c1 c2 c3 c4, cs = #[c0, c1, c2, c3, c4] := by
  obtain ⟨l⟩ := cs
  match l, h with
  | [c0, c1, c2, c3, c4], _ => exact ⟨c0, c1, c2, c3, c4, rfl⟩
theorem own : ownKnob Try.prog.godebug = none := by kernel_rfl
theorem laidOut : laidOutB Try.prog = true := by kernel_rfl
set_option maxRecDepth 100000 in
theorem lifted (os : Os) (started : os.Started) (H : Type) (enc : TypeId × Value → H) :
    ReturnsInHanded {} Try.checked os 6 .any (Rows.queuePlacesSpec.pre6 enc Try.prog Try.f6 Rows.queuePlacesRow.domain false) (Rows.queuePlacesSpec.post enc Try.prog Try.f6 false true false false) := by
  refine returnsInHanded_of_change (C := Try.checked) own started (by kernel_rfl) Try.func6
    (ChangeSpec.witness6 (enc := enc) (C := Try.checked) false ⟨#[], #[.agg #[.slice none 0 0], .agg #[.int .i64 0, .int .i64 0, .int .i64 0, .int .i64 0, .int .i64 0], .int .i64 0], []⟩ 8 (by kernel_rfl) (by kernel_rfl) (by kernel_rfl) (by kernel_rfl)) ?_
  intro W base args ds gs before hval0 hW hcnd hreach
  have hval : ∀ (j : Nat) t v, Try.f6.params[j]? = some t → args[j]? = some v → Value.okWide Try.prog W .any base t v := hval0
  have hW' := hW
  obtain ⟨p, q, hA0, hV, rfl, hfz, hnd⟩ := hW
  have hA : DataW.TrodAll enc Try.prog W 0 (fun _ => true) true Try.f6.params.toList args.toList ds p := hA0
  rw [Try.params6] at hA hval
  obtain ⟨v0, vs0, d0, ds0, p0, q0, hargs, rfl, rfl, h0, r0⟩ := trodAll_cons hA
  obtain ⟨v1, vs1, d1, ds1, p1, q1, rfl, rfl, rfl, h1, r1⟩ := trodAll_cons r0
  obtain ⟨v2, vs2, d2, ds2, p2, q2, rfl, rfl, rfl, h2, r2⟩ := trodAll_cons r1
  obtain ⟨rfl, rfl, rfl⟩ := trodAll_nil r2
  obtain rfl : args = #[v0, v1, v2] := by cases args; simp_all
  obtain ⟨rfl, rfl⟩ := trodVars_none hV
  have k0 := h0
  have lt0 : ∀ x ∈ p0, x.block < W.heap.size := by obtain ⟨m, hm⟩ := k0; exact DataW.trod_lt m _ _ _ hm
  have o0 := hval 0 24 v0 rfl rfl
  obtain ⟨c0_0, y0_0, m0, rfl, hd0, hp0, g0_0⟩ := open_agg1 Try.underlying24 (by kernel_rfl) (by kernel_rfl) o0 h0
  obtain ⟨a0_0, len0_0, cap0_0, z0_0, rfl, w0_0⟩ : ∃ (a : Option Addr) (len cap : Nat) (f : Nat → Nat → Int), c0_0 = .slice a len cap ∧ Ev.RowT W a 5 len (fun j c => .int .i64 (f j c)) := by
    obtain ⟨x, l, c, f, hcs, hr, _⟩ := open_rows (K := .i64) Try.underlying22 Try.underlying26 (by kernel_rfl) (by kernel_rfl) (fun j f hj => by
      match j, hj with
      | 0, hj => obtain rfl := Option.some.inj hj; exact Try.underlying3
      | 1, hj => obtain rfl := Option.some.inj hj; exact Try.underlying3
      | 2, hj => obtain rfl := Option.some.inj hj; exact Try.underlying3
      | 3, hj => obtain rfl := Option.some.inj hj; exact Try.underlying3
      | 4, hj => obtain rfl := Option.some.inj hj; exact Try.underlying3
      | j + 5, hj => exact absurd hj (by simp)) g0_0
    simp only [List.cons.injEq, and_true] at hcs
    exact ⟨_, _, _, f, hcs, hr⟩
  have k1 := h1
  have lt1 : ∀ x ∈ p1, x.block < W.heap.size := by obtain ⟨m, hm⟩ := k1; exact DataW.trod_lt m _ _ _ hm
  have o1 := hval 1 26 v1 rfl rfl
  obtain ⟨cs1, rfl, hz1, hc1⟩ := Flat.open_struct (ks := [some (some .i64), some (some .i64), some (some .i64), some (some .i64), some (some .i64)]) 8 Try.underlying26 (by kernel_rfl) o1 h1
  obtain ⟨c1_0, c1_1, c1_2, c1_3, c1_4, rfl⟩ := arr5 (hz1.trans (by kernel_rfl))
  obtain ⟨x1_0, e1_0, l1_0⟩ := hc1 0 _ rfl
  obtain rfl := Option.some.inj (show some c1_0 = some x1_0 from e1_0)
  obtain ⟨a1_0, rfl, w1_0⟩ := l1_0
  obtain ⟨x1_1, e1_1, l1_1⟩ := hc1 1 _ rfl
  obtain rfl := Option.some.inj (show some c1_1 = some x1_1 from e1_1)
  obtain ⟨a1_1, rfl, w1_1⟩ := l1_1
  obtain ⟨x1_2, e1_2, l1_2⟩ := hc1 2 _ rfl
  obtain rfl := Option.some.inj (show some c1_2 = some x1_2 from e1_2)
  obtain ⟨a1_2, rfl, w1_2⟩ := l1_2
  obtain ⟨x1_3, e1_3, l1_3⟩ := hc1 3 _ rfl
  obtain rfl := Option.some.inj (show some c1_3 = some x1_3 from e1_3)
  obtain ⟨a1_3, rfl, w1_3⟩ := l1_3
  obtain ⟨x1_4, e1_4, l1_4⟩ := hc1 4 _ rfl
  obtain rfl := Option.some.inj (show some c1_4 = some x1_4 from e1_4)
  obtain ⟨a1_4, rfl, w1_4⟩ := l1_4
  obtain ⟨a2, rfl, rfl, rfl, w2⟩ := open_int Try.underlying3 (hval 2 3 v2 rfl rfl) h2
  refine (places_c a0_0 len0_0 cap0_0 z0_0 a1_0 a1_1 a1_2 a1_3 a1_4 a2 W w0_0).mono fun e W' ⟨he, bel⟩ => ?_
  subst he
  exact ⟨_, rfl, _, _, _, [], _, [], hW', trodAll_mk1 (shut_bool Try.underlying4 _), (trodAll_cons_mk (Below.trod laidOut (by kernel_rfl) (of_decide_eq_true (by kernel_rfl)) k0 bel lt0) (trodAll_cons_mk (Below.trod laidOut (by kernel_rfl) (of_decide_eq_true (by kernel_rfl)) k1 bel lt1) (trodAll_cons_mk (shut_int Try.underlying3 w2) trodAll_mk0))), rfl, bel.frame _, fun h => by cases h⟩
theorem over : Rows.queuePlacesRow.holds Try.pinned (OpenSpec.ofChange Rows.queuePlacesSpec) :=
  OpenClaim.holds_of_wide 6 Try.f6 rfl rfl rfl rfl rfl rfl rfl ⟨rfl, rfl, rfl, rfl, rfl⟩ rfl rfl rfl rfl rfl (by kernel_rfl) Try.func6 (by kernel_rfl)
    (of_decide_eq_true (by kernel_rfl)) (by unfold Func.isWrapper; first | (rw [if_pos (by decide +kernel)]; kernel_rfl) | (rw [if_neg (by decide +kernel)]; exact ⟨rfl, rfl⟩))
    (fun os started H enc _ => lifted os started H enc)
theorem proved : Rows.QueuePlacesSaid := over
end Go.Proofs.Ytbpnmjjmllgehaa.queuePlaces
