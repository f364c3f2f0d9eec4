/- Package queue: where a reading stands; what is well-formed. -/
import Derived.Test.YtbpnmjjmllgehaaQuB
import Derived.Test.YtbpnmjjmllgehaaQuC
namespace Go.Proofs.Ytbpnmjjmllgehaa
open Go Go.ChangeShapes Go.WideShapes Go.ChangeAt Go.RowKit
set_option linter.all false
theorem qfind_L (a : Option Addr) (n ca : Nat) (f : Nat → Nat → Int) (o m : Int) (r : Ev.Sup) : ((Ev.evalFW Try.prog Ev.noS qfL 60 27 [(.slice (some ⟨600, 0, some 0⟩) 0 0), .agg #[undef, undef]] [.slice a n ca, .agg #[.int .i64 o, .int .i64 m]] [(Ev.rowA 600 a 5 n fun j c => .int .i64 (f j c))] r)).lhs = ((Ev.evalFW Try.prog Ev.noS qfL 60 27 [(.slice (some ⟨600, 0, some 0⟩) 0 0), .agg #[undef, undef]] [.slice a n ca, .agg #[.int .i64 o, .int .i64 m]] [(Ev.rowA 600 a 5 n fun j c => .int .i64 (f j c))] r)).rhs := by kernel_rfl
theorem qfind_T (a : Option Addr) (n ca : Nat) (f : Nat → Nat → Int) (o m : Int) (r : Ev.Sup) : ((Ev.evalFW Try.prog Ev.noS qfL 60 27 [(.slice (some ⟨600, 0, some 0⟩) 0 0), .agg #[undef, undef]] [.slice a n ca, .agg #[.int .i64 o, .int .i64 m]] [(Ev.rowA 600 a 5 n fun j c => .int .i64 (f j c))] r)).val = (.ite (Ev.kindK IntKind.i64 (fun j c => Value.int IntKind.i64 (f j c)) n 5) (.ite (Nat.ble n 9223372036854775807) (.ite (decide (Int.ofNat n = Int.ofNat n)) (.ite (true) (.ite (fndB (fun j c => f j c) o m (n - 0) 0) (.leaf (.int .i64 (Int.ofNat (fnd (fun j c => f j c) o m (n - 0) 0)))) (.leaf (.int .i64 (Int.ofNat n)))) (.fail 92)) (.fail 92)) (.fail 92)) (.fail 92)) := by kernel_rfl
theorem rformed_L (o m k v t : Int) (r : Ev.Sup) : ((Ev.evalF Try.prog Ev.noS 60 21 [.agg #[undef, undef, undef, undef, undef]] [.agg #[.int .i64 o, .int .i64 m, .int .i64 k, .int .i64 v, .int .i64 t]] [] r)).lhs = ((Ev.evalF Try.prog Ev.noS 60 21 [.agg #[undef, undef, undef, undef, undef]] [.agg #[.int .i64 o, .int .i64 m, .int .i64 k, .int .i64 v, .int .i64 t]] [] r)).rhs := by kernel_rfl
theorem rformed_T (o m k v t : Int) (r : Ev.Sup) : ((Ev.evalF Try.prog Ev.noS 60 21 [.agg #[undef, undef, undef, undef, undef]] [.agg #[.int .i64 o, .int .i64 m, .int .i64 k, .int .i64 v, .int .i64 t]] [] r)).val = (.ite (decide (o ≥ 0)) (.ite (decide (o < 60)) (.ite (decide (m ≥ 1)) (.ite (decide (m ≤ 1000000000)) (.ite (k == 0) (.ite (decide (t ≥ 0)) (.leaf (.bool (decide (t ≤ 1000000000)))) (.leaf (.bool (false)))) (.ite (k == 1) (.ite (decide (t ≥ 0)) (.leaf (.bool (decide (t ≤ 1000000000)))) (.leaf (.bool (false)))) (.leaf (.bool (false))))) (.leaf (.bool (false)))) (.leaf (.bool (false)))) (.leaf (.bool (false)))) (.leaf (.bool (false)))) := by kernel_rfl
theorem wformed_L (o m k v t : Int) (r : Ev.Sup) : ((Ev.evalF Try.prog Ev.noS 60 25 [.agg #[undef, undef, undef, undef, undef]] [.agg #[.int .i64 o, .int .i64 m, .int .i64 k, .int .i64 v, .int .i64 t]] [] r)).lhs = ((Ev.evalF Try.prog Ev.noS 60 25 [.agg #[undef, undef, undef, undef, undef]] [.agg #[.int .i64 o, .int .i64 m, .int .i64 k, .int .i64 v, .int .i64 t]] [] r)).rhs := by kernel_rfl
theorem wformed_T (o m k v t : Int) (r : Ev.Sup) : ((Ev.evalF Try.prog Ev.noS 60 25 [.agg #[undef, undef, undef, undef, undef]] [.agg #[.int .i64 o, .int .i64 m, .int .i64 k, .int .i64 v, .int .i64 t]] [] r)).val = (.ite (k == 0) (.ite (decide (0 ≤ o)) (.ite (decide (o < 60)) (.ite (decide (1 ≤ m)) (.ite (decide (m ≤ 1000000000)) (.ite (decide (0 ≤ t)) (.leaf (.bool (decide (t ≤ 1000000000)))) (.leaf (.bool (false)))) (.leaf (.bool (false)))) (.leaf (.bool (false)))) (.leaf (.bool (false)))) (.leaf (.bool (false)))) (.ite (k == 1) (.ite (decide (0 ≤ o)) (.ite (decide (o < 60)) (.ite (decide (1 ≤ m)) (.ite (decide (m ≤ 1000000000)) (.ite (decide (0 ≤ t)) (.leaf (.bool (decide (t ≤ 1000000000)))) (.leaf (.bool (false)))) (.leaf (.bool (false)))) (.leaf (.bool (false)))) (.leaf (.bool (false)))) (.leaf (.bool (false)))) (.leaf (.bool (false))))) := by kernel_rfl
namespace Ev
def agg2 (k : IntKind) : Value → Option (Int × Int)
  | .agg c => two k c.toList
  | _ => none
theorem agg2_eq {k : IntKind} {v : Value} {p : Int × Int} (h : agg2 k v = some p) : v = .agg #[.int k p.1, .int k p.2] := by
  cases v <;> simp only [agg2] at h <;> first | cases h | skip
  rename_i c
  have := two_eq h
  obtain ⟨l⟩ := c
  simp only at this
  rw [this]
end Ev
/-- the place of a reading: the length where it isn't -/
def qfV (f : Nat → Nat → Int) (n : Nat) (o m : Int) : Int := if fndB f o m n 0 then (fnd f o m n 0 : Int) else (n : Int)
theorem qfind_c (a : Option Addr) (n ca : Nat) (f : Nat → Nat → Int) (o m : Int) (w : World) (hn : n ≤ 9223372036854775807) (ha : Ev.RowT w a 5 n fun j c => .int .i64 (f j c)) :
    Calls Try.prog 27 #[.slice a n ca, .agg #[.int .i64 o, .int .i64 m]] w fun e w' => e = .returned (.int .i64 (qfV f n o m)) ∧ Below w.heap.size w w' := by
  refine Ev.contractW Ev.noS_ok qfL_ok 60 (a1 := [(.slice (some ⟨600, 0, some 0⟩) 0 0), .agg #[undef, undef]]) (Ev.rowA_ext ha) (qfind_L a n ca f o m) (qfind_T a n ca f o m) ?_
  refine Ev.good_t Ev.kindK_t (Ev.good_t (Nat.ble_eq_true_of_le hn) (Ev.good_t (by simp) (Ev.good_t rfl ?_)))
  rw [Nat.sub_zero]
  unfold qfV
  refine Ev.ite_good (fun h => ?_) (fun h => ?_)
  · rw [if_pos h]; rfl
  · rw [if_neg (by rw [h]; simp)]; rfl
def sQF (st : Ev.St) : List (Value × Value) → Option Ev.GS
  | [x0, x1] => (Ev.rowArg st.M 5 x0).bind fun f => (Ev.agg2 .i64 x1.2).bind fun Z1 => some ⟨f.ok, [Ev.kindK .i64 f.g f.n 5, Nat.ble f.n 9223372036854775807], Ev.pois (.int .i64 (qfV (fun j c => Ev.payI (f.g j c)) f.n Z1.1 Z1.2)), .int .i64 (qfV (fun j c => Ev.payI (f.g j c)) f.n Z1.1 Z1.2)⟩
  | _ => none
theorem sQF_ok : ∀ st xs s, sQF st xs = some s → (∀ x ∈ s.cl, x.1 = x.2) → (∀ b ∈ s.pre, b = true) → ∀ w N w0, Ev.Rel N w0 st w → Calls Try.prog 27 (xs.map Prod.snd).toArray w fun e w' => e = .returned s.v ∧ Below w.heap.size w w' := by
  intro st xs s h hcl hpre w N w0 hr
  unfold sQF at h
  split at h
  rotate_left
  · cases h
  rename_i x0 x1
  simp only [Option.bind_eq_some_iff] at h
  obtain ⟨f, h0, Z1, h1, hq⟩ := h
  obtain rfl := Option.some.inj hq
  obtain ⟨⟨c0, e0⟩, r0⟩ := Ev.rowArg_ok hr h0 (fun y hy => hcl y (by simp [hy]))
  have k0 := Ev.kindK_row (hpre (Ev.kindK .i64 f.g f.n 5) (by simp)) r0
  have e1 := Ev.agg2_eq h1
  simp only [List.map_cons, List.map_nil]
  rw [e0, e1]
  exact qfind_c f.a f.n c0 (fun j c => Ev.payI (f.g j c)) Z1.1 Z1.2 w (Nat.le_of_ble_eq_true (hpre (Nat.ble f.n 9223372036854775807) (by simp))) k0
/-- a reading is well-formed -/
def fmd (o m k t : Int) : Bool := decide (0 ≤ o) && decide (o < 60) && decide (1 ≤ m) && decide (m ≤ 1000000000) && (k == 0 || k == 1) && decide (0 ≤ t) && decide (t ≤ 1000000000)
theorem rformed_c (o m k v t : Int) (w : World) : Calls Try.prog 21 #[.agg #[.int .i64 o, .int .i64 m, .int .i64 k, .int .i64 v, .int .i64 t]] w fun e w' => e = .returned (.bool (fmd o m k t)) ∧ Below w.heap.size w w' := by
  refine Ev.contract1 Ev.noS_ok 60 (Ev.ExtOk.nil w) (rformed_L o m k v t) (rformed_T o m k v t) ?_
  try simp only [ge_iff_le]
  unfold fmd
  repeat' refine Ev.ite_good (fun h => ?_) (fun h => ?_)
  all_goals (show Value.bool _ = _; simp_all <;> (intros; omega))
theorem wformed_c (o m k v t : Int) (w : World) : Calls Try.prog 25 #[.agg #[.int .i64 o, .int .i64 m, .int .i64 k, .int .i64 v, .int .i64 t]] w fun e w' => e = .returned (.bool (fmd o m k t)) ∧ Below w.heap.size w w' := by
  refine Ev.contract1 Ev.noS_ok 60 (Ev.ExtOk.nil w) (wformed_L o m k v t) (wformed_T o m k v t) ?_
  try simp only [ge_iff_le]
  unfold fmd
  repeat' refine Ev.ite_good (fun h => ?_) (fun h => ?_)
  all_goals (show Value.bool _ = _; simp_all <;> (intros; omega))
def sRW : List Value → Option Value
  | [x0] => match Ev.aggLf x0 with
    | some [.i .i64 o, .i .i64 m, .i .i64 k, .i .i64 v, .i .i64 t] => some (.bool (fmd o m k t))
    | _ => none
  | _ => none
theorem sRW_ok : ∀ a v, sRW a = some v → ∀ w, Calls Try.prog 21 a.toArray w fun e w' => e = .returned v ∧ Below w.heap.size w w' := by
  intro a v h w
  unfold sRW at h
  split at h
  · rename_i x0
    split at h
    · rename_i o m k v t h0
      have e0 := Ev.aggLf_eq h0
      subst e0
      cases h
      exact rformed_c o m k v t w
    · cases h
  · cases h
def sQW : List Value → Option Value
  | [x0] => match Ev.aggLf x0 with
    | some [.i .i64 o, .i .i64 m, .i .i64 k, .i .i64 v, .i .i64 t] => some (.bool (fmd o m k t))
    | _ => none
  | _ => none
theorem sQW_ok : ∀ a v, sQW a = some v → ∀ w, Calls Try.prog 25 a.toArray w fun e w' => e = .returned v ∧ Below w.heap.size w w' := by
  intro a v h w
  unfold sQW at h
  split at h
  · rename_i x0
    split at h
    · rename_i o m k v t h0
      have e0 := Ev.aggLf_eq h0
      subst e0
      cases h
      exact wformed_c o m k v t w
    · cases h
  · cases h
noncomputable def G1 : Ev.Sum := Ev.addS 22 (Ev.genS sRF) (Ev.addS 27 (Ev.genS sQF) (Ev.addS 21 (Ev.pureS sRW) (Ev.addS 25 (Ev.pureS sQW) Ev.noS)))
theorem G1_ok : ∀ N w0, Ev.SumOk Try.prog N w0 G1 := Ev.addS_ok (Ev.genS_ok sRF_ok) (Ev.addS_ok (Ev.genS_ok sQF_ok) (Ev.addS_ok (Ev.pureS_ok sRW_ok) (Ev.addS_ok (Ev.pureS_ok sQW_ok) Ev.noS_ok)))
end Go.Proofs.Ytbpnmjjmllgehaa
