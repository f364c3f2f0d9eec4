/- Package digest: Add and Sum. -/
import Derived.Test.YtkdkkmpgpmgfoaaDgC
namespace Go.Proofs.Ytkdkkmpgpmgfoaa
open Go Go.ChangeShapes Go.WideShapes Go.ChangeAt Go.RowKit
set_option linter.all false
theorem add_L (s : Int) (a : Option Addr) (n ca : Nat) (f : Nat → Int) (r : Ev.Sup) : ((Ev.evalFW Try.prog Ev.noS elL 60 11 [undef, (.slice (some ⟨600, 0, some 0⟩) 0 0)] [.int .u64 s, .slice a n ca] [(Ev.rowA 600 a 1 n fun j _ => .int .u8 (f j))] r)).lhs = ((Ev.evalFW Try.prog Ev.noS elL 60 11 [undef, (.slice (some ⟨600, 0, some 0⟩) 0 0)] [.int .u64 s, .slice a n ca] [(Ev.rowA 600 a 1 n fun j _ => .int .u8 (f j))] r)).rhs := by kernel_rfl
theorem add_T (s : Int) (a : Option Addr) (n ca : Nat) (f : Nat → Int) (r : Ev.Sup) : ((Ev.evalFW Try.prog Ev.noS elL 60 11 [undef, (.slice (some ⟨600, 0, some 0⟩) 0 0)] [.int .u64 s, .slice a n ca] [(Ev.rowA 600 a 1 n fun j _ => .int .u8 (f j))] r)).val = (.ite (Nat.ble n 9223372036854775807) (.ite (Ev.kindR IntKind.u8 (fun j x => Value.int IntKind.u8 (f j)) n) (.leaf (.int .u64 (fol (fun j => f j) (n - 0) 0 s))) (.fail 92)) (.fail 92)) := by kernel_rfl
theorem sum_L (a : Option Addr) (n ca : Nat) (f : Nat → Int) (r : Ev.Sup) : ((Ev.evalFW Try.prog Ev.noS elL 60 13 [(.slice (some ⟨600, 0, some 0⟩) 0 0)] [.slice a n ca] [(Ev.rowA 600 a 1 n fun j _ => .int .u8 (f j))] r)).lhs = ((Ev.evalFW Try.prog Ev.noS elL 60 13 [(.slice (some ⟨600, 0, some 0⟩) 0 0)] [.slice a n ca] [(Ev.rowA 600 a 1 n fun j _ => .int .u8 (f j))] r)).rhs := by kernel_rfl
theorem sum_T (a : Option Addr) (n ca : Nat) (f : Nat → Int) (r : Ev.Sup) : ((Ev.evalFW Try.prog Ev.noS elL 60 13 [(.slice (some ⟨600, 0, some 0⟩) 0 0)] [.slice a n ca] [(Ev.rowA 600 a 1 n fun j _ => .int .u8 (f j))] r)).val = (.ite (Nat.ble n 9223372036854775807) (.ite (Ev.kindR IntKind.u8 (fun j x => Value.int IntKind.u8 (f j)) n) (.leaf (.int .u64 (fol (fun j => f j) (n - 0) 0 14695981039346656037))) (.fail 92)) (.fail 92)) := by kernel_rfl
theorem add_c (s : Int) (a : Option Addr) (n ca : Nat) (f : Nat → Int) (w : World) (hn : n ≤ 9223372036854775807) (ha : Ev.RowT w a 1 n fun j _ => .int .u8 (f j)) :
    Calls Try.prog 11 #[.int .u64 s, .slice a n ca] w fun e w' => e = .returned (.int .u64 (fol f n 0 s)) ∧ Below w.heap.size w w' := by
  refine Ev.contractW Ev.noS_ok elL_ok 60 (a1 := [undef, (.slice (some ⟨600, 0, some 0⟩) 0 0)]) (Ev.rowA_ext ha) (add_L s a n ca f) (add_T s a n ca f) ?_
  exact Ev.good_t (Nat.ble_eq_true_of_le hn) (Ev.good_t Ev.kindR_t rfl)
theorem sum_c (a : Option Addr) (n ca : Nat) (f : Nat → Int) (w : World) (hn : n ≤ 9223372036854775807) (ha : Ev.RowT w a 1 n fun j _ => .int .u8 (f j)) :
    Calls Try.prog 13 #[.slice a n ca] w fun e w' => e = .returned (.int .u64 (fol f n 0 14695981039346656037)) ∧ Below w.heap.size w w' := by
  refine Ev.contractW Ev.noS_ok elL_ok 60 (a1 := [(.slice (some ⟨600, 0, some 0⟩) 0 0)]) (Ev.rowA_ext ha) (sum_L a n ca f) (sum_T a n ca f) ?_
  exact Ev.good_t (Nat.ble_eq_true_of_le hn) (Ev.good_t Ev.kindR_t rfl)
theorem head_L  (r : Ev.Sup) : ((Ev.evalF Try.prog Ev.noS 60 10 [] [] [] r)).lhs = ((Ev.evalF Try.prog Ev.noS 60 10 [] [] [] r)).rhs := by kernel_rfl
theorem head_T  (r : Ev.Sup) : ((Ev.evalF Try.prog Ev.noS 60 10 [] [] [] r)).val = (.leaf (.bool (true))) := by kernel_rfl
theorem head_c (w : World) : Calls Try.prog 10 #[] w fun e w' => e = .returned (.bool true) ∧ Below w.heap.size w w' :=
  Ev.contract1 Ev.noS_ok 60 (Ev.ExtOk.nil w) head_L head_T rfl
def sAdd (st : Ev.St) : List (Value × Value) → Option Ev.GS
  | [x0, x1] => (Ev.asI .u64 x0.2).bind fun s => (Ev.rowArg st.M 1 x1).bind fun f => some ⟨f.ok, [Ev.kindR .u8 f.g f.n, Nat.ble f.n 9223372036854775807], Ev.pois (.int .u64 (fol (fun j => Ev.payI (f.g j 0)) f.n 0 s)), .int .u64 (fol (fun j => Ev.payI (f.g j 0)) f.n 0 s)⟩
  | _ => none
theorem sAdd_ok : ∀ st xs s, sAdd st xs = some s → (∀ x ∈ s.cl, x.1 = x.2) → (∀ b ∈ s.pre, b = true) → ∀ w N w0, Ev.Rel N w0 st w → Calls Try.prog 11 (xs.map Prod.snd).toArray w fun e w' => e = .returned s.v ∧ Below w.heap.size w w' := by
  intro st xs s h hcl hpre w N w0 hr
  unfold sAdd at h
  split at h
  rotate_left
  · cases h
  rename_i x0 x1
  simp only [Option.bind_eq_some_iff] at h
  obtain ⟨s, h0, f, h1, hq⟩ := h
  obtain rfl := Option.some.inj hq
  have e0 := Ev.asI_eq h0
  obtain ⟨⟨c1, e1⟩, r1⟩ := Ev.rowArg_ok hr h1 (fun y hy => hcl y (by simp [hy]))
  have k1 := Ev.kindR_row (hpre (Ev.kindR .u8 f.g f.n) (by simp)) r1
  simp only [List.map_cons, List.map_nil]
  rw [e0, e1]
  exact add_c s f.a f.n c1 (fun j => Ev.payI (f.g j 0)) w (Nat.le_of_ble_eq_true (hpre (Nat.ble f.n 9223372036854775807) (by simp))) k1
def sSum (st : Ev.St) : List (Value × Value) → Option Ev.GS
  | [x0] => (Ev.rowArg st.M 1 x0).bind fun f => some ⟨f.ok, [Ev.kindR .u8 f.g f.n, Nat.ble f.n 9223372036854775807], Ev.pois (.int .u64 (fol (fun j => Ev.payI (f.g j 0)) f.n 0 14695981039346656037)), .int .u64 (fol (fun j => Ev.payI (f.g j 0)) f.n 0 14695981039346656037)⟩
  | _ => none
theorem sSum_ok : ∀ st xs s, sSum st xs = some s → (∀ x ∈ s.cl, x.1 = x.2) → (∀ b ∈ s.pre, b = true) → ∀ w N w0, Ev.Rel N w0 st w → Calls Try.prog 13 (xs.map Prod.snd).toArray w fun e w' => e = .returned s.v ∧ Below w.heap.size w w' := by
  intro st xs s h hcl hpre w N w0 hr
  unfold sSum at h
  split at h
  rotate_left
  · cases h
  rename_i x0
  simp only [Option.bind_eq_some_iff] at h
  obtain ⟨f, h0, hq⟩ := h
  obtain rfl := Option.some.inj hq
  obtain ⟨⟨c0, e0⟩, r0⟩ := Ev.rowArg_ok hr h0 (fun y hy => hcl y (by simp [hy]))
  have k0 := Ev.kindR_row (hpre (Ev.kindR .u8 f.g f.n) (by simp)) r0
  simp only [List.map_cons, List.map_nil]
  rw [e0]
  exact sum_c f.a f.n c0 (fun j => Ev.payI (f.g j 0)) w (Nat.le_of_ble_eq_true (hpre (Nat.ble f.n 9223372036854775807) (by simp))) k0
def sHead (st : Ev.St) : List (Value × Value) → Option Ev.GS
  | [] =>  some ⟨[], [], (.bool true), .bool true⟩
  | _ => none
theorem sHead_ok : ∀ st xs s, sHead st xs = some s → (∀ x ∈ s.cl, x.1 = x.2) → (∀ b ∈ s.pre, b = true) → ∀ w N w0, Ev.Rel N w0 st w → Calls Try.prog 10 (xs.map Prod.snd).toArray w fun e w' => e = .returned s.v ∧ Below w.heap.size w w' := by
  intro st xs s h hcl hpre w N w0 hr
  unfold sHead at h
  split at h
  rotate_left
  · cases h
  obtain rfl := Option.some.inj h
  exact head_c w
noncomputable def G1 : Ev.Sum := Ev.addS 11 (Ev.genS sAdd) (Ev.addS 13 (Ev.genS sSum) (Ev.addS 10 (Ev.genS sHead) Ev.noS))
theorem G1_ok : ∀ N w0, Ev.SumOk Try.prog N w0 G1 := Ev.addS_ok (Ev.genS_ok sAdd_ok) (Ev.addS_ok (Ev.genS_ok sSum_ok) (Ev.addS_ok (Ev.genS_ok sHead_ok) Ev.noS_ok))
end Go.Proofs.Ytkdkkmpgpmgfoaa
