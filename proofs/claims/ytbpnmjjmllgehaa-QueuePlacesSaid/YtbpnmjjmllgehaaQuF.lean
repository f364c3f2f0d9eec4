/- Package queue: validity. -/
import Derived.Test.YtbpnmjjmllgehaaQuE
namespace Go.Proofs.Ytbpnmjjmllgehaa
open Go Go.ChangeShapes Go.WideShapes Go.ChangeAt Go.RowKit
set_option linter.all false
theorem rvalid_L (a : Option Addr) (n ca : Nat) (f : Nat → Nat → Int) (r : Ev.Sup) : ((Ev.evalFW Try.prog G1 rvL 60 20 [.agg #[(.slice (some ⟨600, 0, some 0⟩) 0 0)]] [.agg #[.slice a n ca]] [(Ev.rowA 600 a 5 n fun j c => .int .i64 (f j c))] r)).lhs = ((Ev.evalFW Try.prog G1 rvL 60 20 [.agg #[(.slice (some ⟨600, 0, some 0⟩) 0 0)]] [.agg #[.slice a n ca]] [(Ev.rowA 600 a 5 n fun j c => .int .i64 (f j c))] r)).rhs := by kernel_rfl
theorem rvalid_T (a : Option Addr) (n ca : Nat) (f : Nat → Nat → Int) (r : Ev.Sup) : ((Ev.evalFW Try.prog G1 rvL 60 20 [.agg #[(.slice (some ⟨600, 0, some 0⟩) 0 0)]] [.agg #[.slice a n ca]] [(Ev.rowA 600 a 5 n fun j c => .int .i64 (f j c))] r)).val = (.ite (Ev.kindK IntKind.i64 (fun j c => Value.int IntKind.i64 (f j c)) n 5) (.ite (Nat.ble n 9223372036854775807) (.ite (true) (.ite (rAny (fun j c => f j c) n (n - 0) 0) (.leaf (.bool (false))) (.leaf (.bool (decide (Int.ofNat n ≤ 16))))) (.fail 92)) (.fail 92)) (.fail 92)) := by kernel_rfl
theorem qvalid_L (a : Option Addr) (n ca : Nat) (f : Nat → Nat → Int) (r : Ev.Sup) : ((Ev.evalFW Try.prog G1 qvL 60 24 [.agg #[(.slice (some ⟨600, 0, some 0⟩) 0 0)]] [.agg #[.slice a n ca]] [(Ev.rowA 600 a 5 n fun j c => .int .i64 (f j c))] r)).lhs = ((Ev.evalFW Try.prog G1 qvL 60 24 [.agg #[(.slice (some ⟨600, 0, some 0⟩) 0 0)]] [.agg #[.slice a n ca]] [(Ev.rowA 600 a 5 n fun j c => .int .i64 (f j c))] r)).rhs := by kernel_rfl
theorem qvalid_T (a : Option Addr) (n ca : Nat) (f : Nat → Nat → Int) (r : Ev.Sup) : ((Ev.evalFW Try.prog G1 qvL 60 24 [.agg #[(.slice (some ⟨600, 0, some 0⟩) 0 0)]] [.agg #[.slice a n ca]] [(Ev.rowA 600 a 5 n fun j c => .int .i64 (f j c))] r)).val = (.ite (decide (Int.ofNat n > 16)) (.leaf (.bool (false))) (.ite (Ev.kindK IntKind.i64 (fun j c => Value.int IntKind.i64 (f j c)) n 5) (.ite (Nat.ble n 9223372036854775807) (.ite (decide (Int.ofNat n = Int.ofNat n)) (.ite (true) (.ite (qAny (fun j c => f j c) n (n - 0) 0) (.leaf (.bool (false))) (.leaf (.bool (true)))) (.fail 92)) (.fail 92)) (.fail 92)) (.fail 92))) := by kernel_rfl
def rVal (f : Nat → Nat → Int) (n : Nat) : Bool := !rAny f n n 0 && decide (n ≤ 16)
def qVal (f : Nat → Nat → Int) (n : Nat) : Bool := !qAny f n n 0 && decide (n ≤ 16)
theorem rvalid_c (a : Option Addr) (n ca : Nat) (f : Nat → Nat → Int) (w : World) (hn : n ≤ 9223372036854775807) (ha : Ev.RowT w a 5 n fun j c => .int .i64 (f j c)) :
    Calls Try.prog 20 #[.agg #[.slice a n ca]] w fun e w' => e = .returned (.bool (rVal f n)) ∧ Below w.heap.size w w' := by
  refine Ev.contractW G1_ok rvL_ok 60 (a1 := [.agg #[(.slice (some ⟨600, 0, some 0⟩) 0 0)]]) (Ev.rowA_ext ha) (rvalid_L a n ca f) (rvalid_T a n ca f) ?_
  refine Ev.good_t Ev.kindK_t (Ev.good_t (Nat.ble_eq_true_of_le hn) (Ev.good_t rfl ?_))
  rw [Nat.sub_zero]
  unfold rVal
  refine Ev.ite_good (fun h => ?_) (fun h => ?_)
  · show Value.bool _ = _
    have h : rAny f n n 0 = true := h
    rw [h]; rfl
  · show Value.bool _ = _
    have h : rAny f n n 0 = false := h
    rw [h]; simp; omega
theorem qvalid_c (a : Option Addr) (n ca : Nat) (f : Nat → Nat → Int) (w : World) (hn : n ≤ 9223372036854775807) (ha : Ev.RowT w a 5 n fun j c => .int .i64 (f j c)) :
    Calls Try.prog 24 #[.agg #[.slice a n ca]] w fun e w' => e = .returned (.bool (qVal f n)) ∧ Below w.heap.size w w' := by
  refine Ev.contractW G1_ok qvL_ok 60 (a1 := [.agg #[(.slice (some ⟨600, 0, some 0⟩) 0 0)]]) (Ev.rowA_ext ha) (qvalid_L a n ca f) (qvalid_T a n ca f) ?_
  unfold qVal
  refine Ev.ite_good (fun h => ?_) (fun h0 => ?_)
  · simp only [Int.ofNat_eq_natCast, decide_eq_true_eq] at h
    show Value.bool _ = _
    rw [decide_eq_false (by omega), Bool.and_false]
  · simp only [Int.ofNat_eq_natCast, decide_eq_false_iff_not] at h0
    refine Ev.good_t Ev.kindK_t (Ev.good_t (Nat.ble_eq_true_of_le hn) (Ev.good_t (by simp) (Ev.good_t rfl ?_)))
    rw [Nat.sub_zero, decide_eq_true (show n ≤ 16 by omega), Bool.and_true]
    refine Ev.ite_good (fun h => ?_) (fun h => ?_)
    · show Value.bool _ = _
      have h : qAny f n n 0 = true := h
      rw [h]; rfl
    · show Value.bool _ = _
      have h : qAny f n n 0 = false := h
      rw [h]; rfl
namespace Ev
def agg1L : List Value → List Value → Option (Value × Value)
  | [a], [b] => some (a, b)
  | _, _ => none
def agg1 : Value × Value → Option (Value × Value)
  | (.agg h, .agg v) => agg1L h.toList v.toList
  | _ => none
theorem agg1_eq {x y : Value × Value} (h : agg1 x = some y) : x.2 = .agg #[y.2] := by
  unfold agg1 at h
  split at h
  · rename_i p q
    obtain ⟨p⟩ := p
    obtain ⟨q⟩ := q
    simp only at h
    unfold agg1L at h
    split at h
    · simp only [Option.some.injEq] at h
      subst h
      rfl
    · cases h
  · cases h
end Ev
def sRV (st : Ev.St) : List (Value × Value) → Option Ev.GS
  | [x0] => (Ev.agg1 x0).bind fun Y0 => (Ev.rowArg st.M 5 Y0).bind fun f => some ⟨f.ok, [Ev.kindK .i64 f.g f.n 5, Nat.ble f.n 9223372036854775807], Ev.pois (.bool (rVal (fun j c => Ev.payI (f.g j c)) f.n)), .bool (rVal (fun j c => Ev.payI (f.g j c)) f.n)⟩
  | _ => none
theorem sRV_ok : ∀ st xs s, sRV st xs = some s → (∀ x ∈ s.cl, x.1 = x.2) → (∀ b ∈ s.pre, b = true) → ∀ w N w0, Ev.Rel N w0 st w → Calls Try.prog 20 (xs.map Prod.snd).toArray w fun e w' => e = .returned s.v ∧ Below w.heap.size w w' := by
  intro st xs s h hcl hpre w N w0 hr
  unfold sRV at h
  split at h
  rotate_left
  · cases h
  rename_i x0
  simp only [Option.bind_eq_some_iff] at h
  obtain ⟨Y0, hy0, f, h0, hq⟩ := h
  obtain rfl := Option.some.inj hq
  obtain ⟨⟨c0, e0⟩, r0⟩ := Ev.rowArg_ok hr h0 (fun y hy => hcl y (by simp [hy]))
  have k0 := Ev.kindK_row (hpre (Ev.kindK .i64 f.g f.n 5) (by simp)) r0
  have e0 := (Ev.agg1_eq hy0).trans (congrArg (fun z => Value.agg #[z]) e0)
  simp only [List.map_cons, List.map_nil]
  rw [e0]
  exact rvalid_c f.a f.n c0 (fun j c => Ev.payI (f.g j c)) w (Nat.le_of_ble_eq_true (hpre (Nat.ble f.n 9223372036854775807) (by simp))) k0
def sQV (st : Ev.St) : List (Value × Value) → Option Ev.GS
  | [x0] => (Ev.agg1 x0).bind fun Y0 => (Ev.rowArg st.M 5 Y0).bind fun f => some ⟨f.ok, [Ev.kindK .i64 f.g f.n 5, Nat.ble f.n 9223372036854775807], Ev.pois (.bool (qVal (fun j c => Ev.payI (f.g j c)) f.n)), .bool (qVal (fun j c => Ev.payI (f.g j c)) f.n)⟩
  | _ => none
theorem sQV_ok : ∀ st xs s, sQV st xs = some s → (∀ x ∈ s.cl, x.1 = x.2) → (∀ b ∈ s.pre, b = true) → ∀ w N w0, Ev.Rel N w0 st w → Calls Try.prog 24 (xs.map Prod.snd).toArray w fun e w' => e = .returned s.v ∧ Below w.heap.size w w' := by
  intro st xs s h hcl hpre w N w0 hr
  unfold sQV at h
  split at h
  rotate_left
  · cases h
  rename_i x0
  simp only [Option.bind_eq_some_iff] at h
  obtain ⟨Y0, hy0, f, h0, hq⟩ := h
  obtain rfl := Option.some.inj hq
  obtain ⟨⟨c0, e0⟩, r0⟩ := Ev.rowArg_ok hr h0 (fun y hy => hcl y (by simp [hy]))
  have k0 := Ev.kindK_row (hpre (Ev.kindK .i64 f.g f.n 5) (by simp)) r0
  have e0 := (Ev.agg1_eq hy0).trans (congrArg (fun z => Value.agg #[z]) e0)
  simp only [List.map_cons, List.map_nil]
  rw [e0]
  exact qvalid_c f.a f.n c0 (fun j c => Ev.payI (f.g j c)) w (Nat.le_of_ble_eq_true (hpre (Nat.ble f.n 9223372036854775807) (by simp))) k0
noncomputable def G2 : Ev.Sum := Ev.addS 20 (Ev.genS sRV) (Ev.addS 24 (Ev.genS sQV) G1)
theorem G2_ok : ∀ N w0, Ev.SumOk Try.prog N w0 G2 := Ev.addS_ok (Ev.genS_ok sRV_ok) (Ev.addS_ok (Ev.genS_ok sQV_ok) G1_ok)
end Go.Proofs.Ytbpnmjjmllgehaa
