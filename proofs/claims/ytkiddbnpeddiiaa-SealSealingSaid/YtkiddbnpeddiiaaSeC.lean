/- Equality of byte strings in the reference: what it answers. -/
import Derived.Test.YtkiddbnpeddiiaaSeB
namespace Go.Proofs.Ytkiddbnpeddiiaa
open Go Go.ChangeShapes Go.WideShapes Go.ChangeAt Go.RowKit
set_option linter.all false
theorem fsame_L (a b : Option Addr) (n m ca cb : Nat) (f g : Nat → Int) (r : Ev.Sup) : ((Ev.evalFL Try.prog Ev.noS (slL a b n m f g) 60 28 [(.slice (some ⟨600, 0, some 0⟩) 0 0), (.slice (some ⟨601, 0, some 0⟩) 0 0)] [.slice a n ca, .slice b m cb] [(Ev.rowA 600 a 1 n fun j _ => .int .u8 (f j)), (Ev.rowA 601 b 1 m fun j _ => .int .u8 (g j))] r)).lhs = ((Ev.evalFL Try.prog Ev.noS (slL a b n m f g) 60 28 [(.slice (some ⟨600, 0, some 0⟩) 0 0), (.slice (some ⟨601, 0, some 0⟩) 0 0)] [.slice a n ca, .slice b m cb] [(Ev.rowA 600 a 1 n fun j _ => .int .u8 (f j)), (Ev.rowA 601 b 1 m fun j _ => .int .u8 (g j))] r)).rhs := by kernel_rfl
theorem fsame_T (a b : Option Addr) (n m ca cb : Nat) (f g : Nat → Int) (r : Ev.Sup) : ((Ev.evalFL Try.prog Ev.noS (slL a b n m f g) 60 28 [(.slice (some ⟨600, 0, some 0⟩) 0 0), (.slice (some ⟨601, 0, some 0⟩) 0 0)] [.slice a n ca, .slice b m cb] [(Ev.rowA 600 a 1 n fun j _ => .int .u8 (f j)), (Ev.rowA 601 b 1 m fun j _ => .int .u8 (g j))] r)).val = (.ite (Int.ofNat n != Int.ofNat m) (.leaf (.bool (false))) (.ite (Nat.ble n 9223372036854775807) (.ite (Nat.ble n m) (.ite (sameB (fun a => f a) (fun a => g a) (n - 0) 0) (.leaf (.bool (true))) (.leaf (.bool (false)))) (.fail 96)) (.fail 96))) := by kernel_rfl
theorem same_c (a b : Option Addr) (n m ca cb : Nat) (f g : Nat → Int) (w : World) (hn : n ≤ 9223372036854775807) (ha : Ev.RowT w a 1 n fun j _ => .int .u8 (f j)) (hb : Ev.RowT w b 1 m fun j _ => .int .u8 (g j)) :
    Calls Try.prog 28 #[.slice a n ca, .slice b m cb] w fun e w' => e = .returned (.bool (Nat.beq n m && sameB f g n 0)) ∧ Below w.heap.size w w' := by
  refine Ev.contractL1 Ev.noS_ok 60 (c := Ev.bodyOf Try.f28) Try.func28 (by kernel_rfl) (slL_ok a b n m f g w ha hb) (M := [(Ev.rowA 600 a 1 n fun j _ => .int .u8 (f j)), (Ev.rowA 601 b 1 m fun j _ => .int .u8 (g j))]) ((Ev.rowA_ext ha).append (Ev.rowA_ext hb)) (fsame_L a b n m ca cb f g) (fsame_T a b n m ca cb f g) ?_
  by_cases h : n = m
  · subst h
    refine Ev.good_f (by simp) (Ev.good_t (Nat.ble_eq_true_of_le hn) (Ev.good_t (Nat.ble_eq_true_of_le (Nat.le_refl n)) ?_))
    rw [Nat.sub_zero, Nat.beq_refl, Bool.true_and]
    refine ⟨fun h => ?_, fun h => ?_⟩ <;> (show Value.bool _ = Value.bool _; rw [h])
  · refine Ev.good_t (by simp; omega) ?_
    have : Nat.beq n m = false := by
      cases hb : Nat.beq n m with
      | false => rfl
      | true => exact absurd (Nat.eq_of_beq_eq_true hb) h
    rw [this]
    rfl
def sameK (st : Ev.St) (r : Ev.Sup) : Option Ev.RA → Option Ev.RA → Ev.Tree Ev.VR
  | some A, some B => Ev.clm (A.ok ++ B.ok) (.ite (Nat.ble A.n 9223372036854775807) (.ite (Ev.kindR .u8 A.g A.n) (.ite (Ev.kindR .u8 B.g B.n) (.leaf (undef, .bool (Nat.beq A.n B.n && sameB (fun j => Ev.payI (A.g j 0)) (fun j => Ev.payI (B.g j 0)) A.n 0), st, r)) (.fail 79)) (.fail 79)) (.fail 79))
  | _, _ => .fail 78
def sameS : Ev.SumF := fun a1 a2 st r => match a1, a2 with
  | [x1, y1], [x2, y2] => sameK st r (Ev.rowArg st.M 1 (x1, x2)) (Ev.rowArg st.M 1 (y1, y2))
  | _, _ => .fail 45
theorem sameS_ok (N : Nat → Prop) (w0 : World) : Ev.SumOk1 Try.prog N w0 28 sameS := by
  intro a1 a2 st Q w hq hr
  unfold sameS at hq
  split at hq
  · rename_i x1 y1 x2 y2
    unfold sameK at hq
    split at hq
    · rename_i A B hA hB
      have h1 := fun r => Ev.clm_good (hq r)
      have hcl := (h1 Ev.r0).1
      obtain ⟨⟨ca, e1⟩, r1⟩ := Ev.rowArg_ok hr hA fun y hy => hcl y (List.mem_append_left _ hy)
      obtain ⟨⟨cb, e2⟩, r2⟩ := Ev.rowArg_ok hr hB fun y hy => hcl y (List.mem_append_right _ hy)
      have h2 := fun r => Ev.ble_true (h1 r).2
      have hn := (h2 Ev.r0).1
      have h3 := fun r => (h2 r).2
      cases k1 : Ev.kindR .u8 A.g A.n with
      | false => rw [k1] at h3; exact ((h3 Ev.r0).2 rfl).elim
      | true =>
        rw [k1] at h3
        have h4 := fun r => (h3 r).1 rfl
        cases k2 : Ev.kindR .u8 B.g B.n with
        | false => rw [k2] at h4; exact ((h4 Ev.r0).2 rfl).elim
        | true =>
          rw [k2] at h4
          have h5 := fun r => (h4 r).1 rfl
          have := same_c A.a B.a A.n B.n ca cb (fun j => Ev.payI (A.g j 0)) (fun j => Ev.payI (B.g j 0)) w hn (Ev.kindR_row k1 r1) (Ev.kindR_row k2 r2)
          simp only at e1 e2
          rw [e1, e2]
          exact this.mono fun e w' ⟨he, hb⟩ => ⟨_, _, st, he, h5, Ev.rel_below hr hb⟩
    · exact (hq Ev.r0).elim
  · exact (hq Ev.r0).elim
noncomputable def G1 : Ev.Sum := Ev.addS 28 sameS Ev.noS
theorem G1_ok : ∀ N w0, Ev.SumOk Try.prog N w0 G1 := Ev.addS_ok sameS_ok Ev.noS_ok
end Go.Proofs.Ytkiddbnpeddiiaa
