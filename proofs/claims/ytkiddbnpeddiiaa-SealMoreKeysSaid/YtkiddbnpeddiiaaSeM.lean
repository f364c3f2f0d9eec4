/- Package seal: equality of frames, as a summary. -/
import Derived.Test.YtkiddbnpeddiiaaSeK
namespace Go.Proofs.Ytkiddbnpeddiiaa
open Go Go.ChangeShapes Go.WideShapes Go.ChangeAt Go.RowKit
set_option linter.all false
abbrev Five := Int × Int × Int × Int × Int
def eq5 (x y : Five) : Bool := x.1 == y.1 && (x.2.1 == y.2.1 && (x.2.2.1 == y.2.2.1 && (x.2.2.2.1 == y.2.2.2.1 && x.2.2.2.2 == y.2.2.2.2)))
theorem eq5_refl (x : Five) : eq5 x x = true := by simp [eq5]
theorem sf_c (kd fm to an ky kd2 fm2 to2 an2 ky2 : Int) (a b : Option Addr) (n m ca cb : Nat) (f g : Nat → Int) (w : World) (hn : n ≤ 9223372036854775807) (ha : Ev.RowT w a 1 n fun j _ => .int .u8 (f j)) (hb : Ev.RowT w b 1 m fun j _ => .int .u8 (g j)) :
    Calls Try.prog 16 #[(.agg #[.int .i64 kd, .int .i64 fm, .int .i64 to, .int .i64 an, .int .i64 ky, .slice a n ca]), (.agg #[.int .i64 kd2, .int .i64 fm2, .int .i64 to2, .int .i64 an2, .int .i64 ky2, .slice b m cb])] w fun e w' => e = .returned (.bool ((Nat.beq n m && sameB f g n 0) && eq5 (kd, fm, to, an, ky) (kd2, fm2, to2, an2, ky2))) ∧ Below w.heap.size w w' := by
  refine Ev.contract1 G3_ok 60 ((Ev.rowA_ext (tag := 600) ha).append (Ev.rowA_ext (tag := 601) hb)) (tsf_L kd fm to an ky kd2 fm2 to2 an2 ky2 a b n m ca cb f g) (tsf_T kd fm to an ky kd2 fm2 to2 an2 ky2 a b n m ca cb f g) ?_
  refine Ev.good_t (Nat.ble_eq_true_of_le hn) (Ev.good_t Ev.kindR_t (Ev.good_t Ev.kindR_t ?_))
  unfold eq5
  simp only
  generalize (Nat.beq n m && sameB (fun j => f j) (fun j => g j) n 0) = c1
  generalize (kd == kd2) = c2
  generalize (fm == fm2) = c3
  generalize (to == to2) = c4
  generalize (an == an2) = c5
  generalize (ky == ky2) = c6
  cases c1 <;> cases c2 <;> cases c3 <;> cases c4 <;> cases c5 <;> cases c6 <;> simp [Ev.Tree.good]
def frM5 (b : Value) : Option Ev.Lf → Option Ev.Lf → Option Ev.Lf → Option Ev.Lf → Option Ev.Lf → Option (Five × Value)
  | some (.i .i64 k), some (.i .i64 f), some (.i .i64 t), some (.i .i64 a), some (.i .i64 y) => some ((k, f, t, a, y), b)
  | _, _, _, _, _ => none
def frC5 : List Value → Option (Five × Value)
  | [k, f, t, a, y, b] => frM5 b (Ev.toLf k) (Ev.toLf f) (Ev.toLf t) (Ev.toLf a) (Ev.toLf y)
  | _ => none
def fr5 : Value → Option (Five × Value)
  | .agg c => frC5 c.toList
  | _ => none
theorem fr5_eq {x : Value} {p : Five} {b : Value} (h : fr5 x = some (p, b)) : x = .agg #[.int .i64 p.1, .int .i64 p.2.1, .int .i64 p.2.2.1, .int .i64 p.2.2.2.1, .int .i64 p.2.2.2.2, b] := by
  unfold fr5 at h
  split at h
  · rename_i c
    obtain ⟨l⟩ := c
    simp only at h
    unfold frC5 at h
    split at h
    · unfold frM5 at h
      split at h
      · rename_i h1 h2 h3 h4 h5
        simp only [Option.some.injEq, Prod.mk.injEq] at h
        obtain ⟨rfl, rfl⟩ := h
        rw [Ev.toLf_eq h1, Ev.toLf_eq h2, Ev.toLf_eq h3, Ev.toLf_eq h4, Ev.toLf_eq h5]
        rfl
      · cases h
    · cases h
  · cases h
def bodC : List Value → Value
  | [_, _, _, _, _, b] => b
  | _ => undef
def bod : Value → Value
  | .agg c => bodC c.toList
  | _ => undef
def sfK (st : Ev.St) (r : Ev.Sup) (x y : Five) : Option Ev.RA → Option Ev.RA → Ev.Tree Ev.VR
  | some A, some B => Ev.clm (A.ok ++ B.ok) (.ite (Nat.ble A.n 9223372036854775807) (.ite (Ev.kindR .u8 A.g A.n) (.ite (Ev.kindR .u8 B.g B.n) (.leaf (undef, .bool ((Nat.beq A.n B.n && sameB (fun j => Ev.payI (A.g j 0)) (fun j => Ev.payI (B.g j 0)) A.n 0) && eq5 x y), st, r)) (.fail 79)) (.fail 79)) (.fail 79))
  | _, _ => .fail 78
def sfP (st : Ev.St) (r : Ev.Sup) (h1 h2 : Value) : Option (Five × Value) → Option (Five × Value) → Ev.Tree Ev.VR
  | some (x, b), some (y, c) => sfK st r x y (Ev.rowArg st.M 1 (h1, b)) (Ev.rowArg st.M 1 (h2, c))
  | _, _ => .fail 77
def sfS : Ev.SumF := fun a1 a2 st r => match a1, a2 with
  | [h1, h2], [v1, v2] => sfP st r (bod h1) (bod h2) (fr5 v1) (fr5 v2)
  | _, _ => .fail 45
theorem sfS_ok (N : Nat → Prop) (w0 : World) : Ev.SumOk1 Try.prog N w0 16 sfS := by
  intro a1 a2 st Q w hq hr
  unfold sfS at hq
  split at hq
  · rename_i h1 h2 v1 v2
    generalize hf1 : fr5 v1 = p1 at hq
    generalize hf2 : fr5 v2 = p2 at hq
    unfold sfP at hq
    split at hq
    · rename_i x b y c
      have e1 := fr5_eq hf1
      have e2 := fr5_eq hf2
      subst e1; subst e2
      unfold sfK at hq
      split at hq
      · rename_i A B hA hB
        have h1 := fun r => Ev.clm_good (hq r)
        have hcl := (h1 Ev.r0).1
        obtain ⟨⟨ca, e1⟩, r1⟩ := Ev.rowArg_ok hr hA fun y hy => hcl y (List.mem_append_left _ hy)
        obtain ⟨⟨cb, e2⟩, r2⟩ := Ev.rowArg_ok hr hB fun y hy => hcl y (List.mem_append_right _ hy)
        have h2 := fun r => Ev.ble_true (h1 r).2
        have hn := (h2 Ev.r0).1
        have h3 := fun r => (h2 r).2
        cases k1 : Ev.kindR .u8 A.g A.n with
        | false => rw [k1] at h3; exact ((h3 Ev.r0).2 rfl).elim
        | true =>
          rw [k1] at h3
          have h4 := fun r => (h3 r).1 rfl
          cases k2 : Ev.kindR .u8 B.g B.n with
          | false => rw [k2] at h4; exact ((h4 Ev.r0).2 rfl).elim
          | true =>
            rw [k2] at h4
            have h5 := fun r => (h4 r).1 rfl
            have := sf_c x.1 x.2.1 x.2.2.1 x.2.2.2.1 x.2.2.2.2 y.1 y.2.1 y.2.2.1 y.2.2.2.1 y.2.2.2.2 A.a B.a A.n B.n ca cb (fun j => Ev.payI (A.g j 0)) (fun j => Ev.payI (B.g j 0)) w hn (Ev.kindR_row k1 r1) (Ev.kindR_row k2 r2)
            simp only at e1 e2
            rw [e1, e2]
            exact this.mono fun e w' ⟨he, hb⟩ => ⟨_, _, st, he, h5, Ev.rel_below hr hb⟩
      · exact (hq Ev.r0).elim
    · exact (hq Ev.r0).elim
  · exact (hq Ev.r0).elim
noncomputable def G4 : Ev.Sum := Ev.addS 16 sfS G3
theorem G4_ok : ∀ N w0, Ev.SumOk Try.prog N w0 G4 := Ev.addS_ok sfS_ok G3_ok
end Go.Proofs.Ytkiddbnpeddiiaa
