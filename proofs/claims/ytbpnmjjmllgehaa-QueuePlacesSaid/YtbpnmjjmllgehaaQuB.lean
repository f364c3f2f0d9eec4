/- Package queue: the reading's summary in the reference; the package's loop. -/
import Derived.Test.YtbpnmjjmllgehaaQuA
namespace Go.Proofs.Ytbpnmjjmllgehaa
open Go Go.ChangeShapes Go.WideShapes Go.ChangeAt Go.RowKit
set_option linter.all false
theorem rfind_L (a : Option Addr) (n ca : Nat) (f : Nat → Nat → Int) (o m : Int) (r : Ev.Sup) : ((Ev.evalFW Try.prog Ev.noS rfL 60 22 [(.slice (some ⟨600, 0, some 0⟩) 0 0), undef, undef] [.slice a n ca, .int .i64 o, .int .i64 m] [(Ev.rowA 600 a 5 n fun j c => .int .i64 (f j c))] r)).lhs = ((Ev.evalFW Try.prog Ev.noS rfL 60 22 [(.slice (some ⟨600, 0, some 0⟩) 0 0), undef, undef] [.slice a n ca, .int .i64 o, .int .i64 m] [(Ev.rowA 600 a 5 n fun j c => .int .i64 (f j c))] r)).rhs := by kernel_rfl
theorem rfind_T (a : Option Addr) (n ca : Nat) (f : Nat → Nat → Int) (o m : Int) (r : Ev.Sup) : ((Ev.evalFW Try.prog Ev.noS rfL 60 22 [(.slice (some ⟨600, 0, some 0⟩) 0 0), undef, undef] [.slice a n ca, .int .i64 o, .int .i64 m] [(Ev.rowA 600 a 5 n fun j c => .int .i64 (f j c))] r)).val = (.ite (Ev.kindK IntKind.i64 (fun j c => Value.int IntKind.i64 (f j c)) n 5) (.ite (Nat.ble n 9223372036854775807) (.ite (true) (.ite (fndB (fun j c => f j c) o m (n - 0) 0) (.leaf (.int .i64 (Int.ofNat (fnd (fun j c => f j c) o m (n - 0) 0)))) (.leaf (.int .i64 (-1)))) (.fail 92)) (.fail 92)) (.fail 92)) := by kernel_rfl
/-- the place of a reading in the reference: -1 where it isn't -/
def rfV (f : Nat → Nat → Int) (n : Nat) (o m : Int) : Int := if fndB f o m n 0 then (fnd f o m n 0 : Int) else -1
theorem rfind_c (a : Option Addr) (n ca : Nat) (f : Nat → Nat → Int) (o m : Int) (w : World) (hn : n ≤ 9223372036854775807) (ha : Ev.RowT w a 5 n fun j c => .int .i64 (f j c)) :
    Calls Try.prog 22 #[.slice a n ca, .int .i64 o, .int .i64 m] w fun e w' => e = .returned (.int .i64 (rfV f n o m)) ∧ Below w.heap.size w w' := by
  refine Ev.contractW Ev.noS_ok rfL_ok 60 (a1 := [(.slice (some ⟨600, 0, some 0⟩) 0 0), undef, undef]) (Ev.rowA_ext ha) (rfind_L a n ca f o m) (rfind_T a n ca f o m) ?_
  refine Ev.good_t Ev.kindK_t (Ev.good_t (Nat.ble_eq_true_of_le hn) (Ev.good_t rfl ?_))
  rw [Nat.sub_zero]
  unfold rfV
  refine Ev.ite_good (fun h => ?_) (fun h => ?_)
  · rw [if_pos h]; rfl
  · rw [if_neg (by rw [h]; simp)]; rfl
def sRF (st : Ev.St) : List (Value × Value) → Option Ev.GS
  | [x0, x1, x2] => (Ev.rowArg st.M 5 x0).bind fun f => (Ev.asI .i64 x1.2).bind fun o => (Ev.asI .i64 x2.2).bind fun m => some ⟨f.ok, [Ev.kindK .i64 f.g f.n 5, Nat.ble f.n 9223372036854775807], Ev.pois (.int .i64 (rfV (fun j c => Ev.payI (f.g j c)) f.n o m)), .int .i64 (rfV (fun j c => Ev.payI (f.g j c)) f.n o m)⟩
  | _ => none
theorem sRF_ok : ∀ st xs s, sRF st xs = some s → (∀ x ∈ s.cl, x.1 = x.2) → (∀ b ∈ s.pre, b = true) → ∀ w N w0, Ev.Rel N w0 st w → Calls Try.prog 22 (xs.map Prod.snd).toArray w fun e w' => e = .returned s.v ∧ Below w.heap.size w w' := by
  intro st xs s h hcl hpre w N w0 hr
  unfold sRF at h
  split at h
  rotate_left
  · cases h
  rename_i x0 x1 x2
  simp only [Option.bind_eq_some_iff] at h
  obtain ⟨f, h0, o, h1, m, h2, hq⟩ := h
  obtain rfl := Option.some.inj hq
  obtain ⟨⟨c0, e0⟩, r0⟩ := Ev.rowArg_ok hr h0 (fun y hy => hcl y (by simp [hy]))
  have k0 := Ev.kindK_row (hpre (Ev.kindK .i64 f.g f.n 5) (by simp)) r0
  have e1 := Ev.asI_eq h1
  have e2 := Ev.asI_eq h2
  simp only [List.map_cons, List.map_nil]
  rw [e0, e1, e2]
  exact rfind_c f.a f.n c0 (fun j c => Ev.payI (f.g j c)) o m w (Nat.le_of_ble_eq_true (hpre (Nat.ble f.n 9223372036854775807) (by simp))) k0
end Go.Proofs.Ytbpnmjjmllgehaa
