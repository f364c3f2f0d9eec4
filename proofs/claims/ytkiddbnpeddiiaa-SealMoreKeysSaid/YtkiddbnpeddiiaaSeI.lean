/- Package seal: contracts of its small functions. -/
import Derived.Test.YtkiddbnpeddiiaaSeH
namespace Go.Proofs.Ytkiddbnpeddiiaa
open Go Go.ChangeShapes Go.WideShapes Go.ChangeAt Go.RowKit
set_option linter.all false
def slotB (a : Int) : Bool := decide (0 ≤ a ∧ a ≤ 1000000000)
def nodeB (a : Int) : Bool := decide (0 ≤ a ∧ a < 60)
def kn (r1 r2 e : Int) : Bool := decide (r1 ≤ e ∧ e < r2)
def epR (a : Int) : Int := IntKind.wrap .i64 (Int.tdiv (IntKind.wrap .i64 (a - Int.tmod a 2000)) 2000)
def openV (an ky r1 r2 asn : Int) : Int := if slotB asn = true then (if an = asn then (if ky = asn / 2000 + 1 ∧ kn r1 r2 (asn / 2000) = true then 0 else 13) else 14) else 1
def keyV (a : Int) : Int := if slotB a = true then a / 2000 + 1 else 0
def keyE (a : Int) : Int := if slotB a = true then 0 else 1
def ownV (a : Int) : Int := if nodeB a = true then 1000000 + a else 0
def ownE (a : Int) : Int := if nodeB a = true then 0 else 1
theorem epP (z : Int) (h1 : 0 ≤ z) (h2 : z ≤ 1000000000) : IntKind.wrap .i64 (IntKind.wrap .i64 (Int.tdiv z 2000) + 1) = z / 2000 + 1 ∧ IntKind.wrap .i64 (Int.tdiv z 2000) = z / 2000 := by
  rw [Int.tdiv_eq_ediv_of_nonneg h1, w64 (x := z / 2000) (by omega) (by omega), w64 (by omega) (by omega)]; exact ⟨rfl, rfl⟩
theorem epR_eq (z : Int) (h1 : 0 ≤ z) (h2 : z ≤ 1000000000) : epR z = z / 2000 := by
  unfold epR
  rw [Int.tmod_eq_emod_of_nonneg h1, w64 (x := z - z % 2000) (by omega) (by omega), Int.tdiv_eq_ediv_of_nonneg (by omega), w64 (by omega) (by omega)]
  omega
theorem open_c (kd fm to bv : Value) (an ky r1 r2 asn : Int) (w : World) : Calls Try.prog 17 #[.agg #[kd, fm, to, .int .i64 an, .int .i64 ky, bv], .agg #[.int .i64 r1, .int .i64 r2], .int .i64 asn] w fun e w' => e = .returned (.int .i64 (openV an ky r1 r2 asn)) ∧ Below w.heap.size w w' := by
  refine Ev.contract1 G2_ok 60 (Ev.ExtOk.nil w) (topen_L kd fm to bv an ky r1 r2 asn) (topen_T kd fm to bv an ky r1 r2 asn) ?_
  by_cases h : 0 ≤ asn ∧ asn ≤ 1000000000
  · have e := epR_eq asn h.1 h.2
    unfold epR at e
    rw [(epP asn h.1 h.2).1, (epP asn h.1 h.2).2]
    by_cases h1 : an = asn <;> by_cases h2 : ky = asn / 2000 + 1 <;> by_cases h3 : r1 ≤ asn / 2000 <;> by_cases h4 : asn / 2000 < r2 <;> simp [Ev.Tree.good, openV, slotB, kn, h.1, h.2, h1, h2, h3, h4]
  · by_cases h1 : 0 ≤ asn
    · have h2 : ¬ asn ≤ 1000000000 := fun h2 => h ⟨h1, h2⟩
      simp [Ev.Tree.good, openV, slotB, h1, h2]
    · simp [Ev.Tree.good, openV, slotB, h1]
theorem ropen_c (kd fm to bv : Value) (an ky r1 r2 asn : Int) (w : World) : Calls Try.prog 18 #[.agg #[kd, fm, to, .int .i64 an, .int .i64 ky, bv], .agg #[.int .i64 r1, .int .i64 r2], .int .i64 asn] w fun e w' => e = .returned (.int .i64 (openV an ky r1 r2 asn)) ∧ Below w.heap.size w w' := by
  refine Ev.contract1 G2_ok 60 (Ev.ExtOk.nil w) (tropen_L kd fm to bv an ky r1 r2 asn) (tropen_T kd fm to bv an ky r1 r2 asn) ?_
  by_cases h : 0 ≤ asn ∧ asn ≤ 1000000000
  · have e := epR_eq asn h.1 h.2
    unfold epR at e
    rw [e, w64 (x := asn / 2000 + 1) (by omega) (by omega)]
    by_cases h1 : an = asn <;> by_cases h2 : ky = asn / 2000 + 1 <;> by_cases h3 : r1 ≤ asn / 2000 <;> by_cases h4 : asn / 2000 < r2 <;> simp [Ev.Tree.good, openV, slotB, kn, h.1, h.2, h1, h2, h3, h4]
  · by_cases h1 : 0 ≤ asn
    · have h2 : ¬ asn ≤ 1000000000 := fun h2 => h ⟨h1, h2⟩
      simp [Ev.Tree.good, openV, slotB, h1, h2]
    · simp [Ev.Tree.good, openV, slotB, h1]
theorem key_c (a : Int) (w : World) : Calls Try.prog 10 #[.int .i64 a] w fun e w' => e = .returned (.tuple #[.int .i64 (keyV a), .int .i64 (keyE a)]) ∧ Below w.heap.size w w' := by
  refine Ev.contract1 G2_ok 60 (Ev.ExtOk.nil w) (tkey_L a) (tkey_T a) ?_
  by_cases h : 0 ≤ a ∧ a ≤ 1000000000
  · have e := epR_eq a h.1 h.2
    unfold epR at e
    rw [(epP a h.1 h.2).1]
    simp [Ev.Tree.good, keyV, keyE, slotB, h.1, h.2]
  · by_cases h1 : 0 ≤ a
    · have h2 : ¬ a ≤ 1000000000 := fun h2 => h ⟨h1, h2⟩
      simp [Ev.Tree.good, keyV, keyE, slotB, h1, h2]
    · simp [Ev.Tree.good, keyV, keyE, slotB, h1]
theorem rkey_c (a : Int) (w : World) : Calls Try.prog 11 #[.int .i64 a] w fun e w' => e = .returned (.tuple #[.int .i64 (keyV a), .int .i64 (keyE a)]) ∧ Below w.heap.size w w' := by
  refine Ev.contract1 G2_ok 60 (Ev.ExtOk.nil w) (trkey_L a) (trkey_T a) ?_
  by_cases h : 0 ≤ a ∧ a ≤ 1000000000
  · have e := epR_eq a h.1 h.2
    unfold epR at e
    rw [e, w64 (x := a / 2000 + 1) (by omega) (by omega)]
    simp [Ev.Tree.good, keyV, keyE, slotB, h.1, h.2]
  · by_cases h1 : 0 ≤ a
    · have h2 : ¬ a ≤ 1000000000 := fun h2 => h ⟨h1, h2⟩
      simp [Ev.Tree.good, keyV, keyE, slotB, h1, h2]
    · simp [Ev.Tree.good, keyV, keyE, slotB, h1]
theorem own_c (a : Int) (w : World) : Calls Try.prog 12 #[.int .i64 a] w fun e w' => e = .returned (.tuple #[.int .i64 (ownV a), .int .i64 (ownE a)]) ∧ Below w.heap.size w w' := by
  refine Ev.contract1 G2_ok 60 (Ev.ExtOk.nil w) (town_L a) (town_T a) ?_
  by_cases h : 0 ≤ a ∧ a < 60
  · have h1 : ¬ a < 0 := by omega
    have h2 : ¬ a ≥ 60 := by omega
    have h3 : ¬ a > 59 := by omega
    have h4 : ¬ 60 ≤ a := by omega
    have h5 : ¬ 59 < a := by omega
    rw [w64 (by omega) (by omega)]
    simp [Ev.Tree.good, ownV, ownE, nodeB, h.1, h.2, h1, h4, h5]
  · by_cases h1 : a < 0
    · have h2 : ¬ 0 ≤ a := by omega
      simp [Ev.Tree.good, ownV, ownE, nodeB, h1, h2]
    · have h2 : a ≥ 60 := by omega
      have h3 : ¬ a < 60 := by omega
      have h4 : 59 < a := by omega
      simp [Ev.Tree.good, ownV, ownE, nodeB, h1, h2, h3, h4]
theorem rown_c (a : Int) (w : World) : Calls Try.prog 13 #[.int .i64 a] w fun e w' => e = .returned (.tuple #[.int .i64 (ownV a), .int .i64 (ownE a)]) ∧ Below w.heap.size w w' := by
  refine Ev.contract1 G2_ok 60 (Ev.ExtOk.nil w) (trown_L a) (trown_T a) ?_
  by_cases h : 0 ≤ a ∧ a < 60
  · have h1 : ¬ a < 0 := by omega
    have h2 : ¬ a ≥ 60 := by omega
    have h3 : ¬ a > 59 := by omega
    have h4 : ¬ 60 ≤ a := by omega
    have h5 : ¬ 59 < a := by omega
    rw [w64 (by omega) (by omega)]
    simp [Ev.Tree.good, ownV, ownE, nodeB, h.1, h.2, h1, h4, h5]
  · by_cases h1 : a < 0
    · have h2 : ¬ 0 ≤ a := by omega
      simp [Ev.Tree.good, ownV, ownE, nodeB, h1, h2]
    · have h2 : a ≥ 60 := by omega
      have h3 : ¬ a < 60 := by omega
      have h4 : 59 < a := by omega
      simp [Ev.Tree.good, ownV, ownE, nodeB, h1, h2, h3, h4]
theorem rslot_c (a : Int) (w : World) : Calls Try.prog 25 #[.int .i64 a] w fun e w' => e = .returned (.bool (slotB a)) ∧ Below w.heap.size w w' := by
  refine Ev.contract1 G2_ok 60 (Ev.ExtOk.nil w) (trslot_L a) (trslot_T a) ?_
  by_cases h1 : 0 ≤ a <;> by_cases h2 : a ≤ 1000000000 <;> simp [Ev.Tree.good, slotB, h1, h2]
theorem isslot_c (a : Int) (w : World) : Calls Try.prog 22 #[.int .i64 a] w fun e w' => e = .returned (.bool (slotB a)) ∧ Below w.heap.size w w' := by
  refine Ev.contract1 G2_ok 60 (Ev.ExtOk.nil w) (tisslot_L a) (tisslot_T a) ?_
  by_cases h1 : 0 ≤ a <;> by_cases h2 : a ≤ 1000000000 <;> simp [Ev.Tree.good, slotB, h1, h2]
theorem repoch_c (a : Int) (w : World) : Calls Try.prog 20 #[.int .i64 a] w fun e w' => e = .returned (.int .i64 (epR a)) ∧ Below w.heap.size w w' := by
  refine Ev.contract1 G2_ok 60 (Ev.ExtOk.nil w) (trepoch_L a) (trepoch_T a) ?_
  rfl
theorem rknows_c (r1 r2 a : Int) (w : World) : Calls Try.prog 19 #[.agg #[.int .i64 r1, .int .i64 r2], .int .i64 a] w fun e w' => e = .returned (.bool (kn r1 r2 a)) ∧ Below w.heap.size w w' := by
  refine Ev.contract1 G2_ok 60 (Ev.ExtOk.nil w) (trknows_L r1 r2 a) (trknows_T r1 r2 a) ?_
  by_cases h1 : r1 ≤ a <;> by_cases h2 : a < r2 <;> simp [Ev.Tree.good, kn, h1, h2]
def frM (k f t b : Value) : Option Ev.Lf → Option Ev.Lf → Option (Value × Value × Value × Int × Int × Value)
  | some (.i .i64 an), some (.i .i64 ky) => some (k, f, t, an, ky, b)
  | _, _ => none
def frC : List Value → Option (Value × Value × Value × Int × Int × Value)
  | [k, f, t, a, y, b] => frM k f t b (Ev.toLf a) (Ev.toLf y)
  | _ => none
def frL : Value → Option (Value × Value × Value × Int × Int × Value)
  | .agg c => frC c.toList
  | _ => none
theorem frL_eq {x : Value} {k f t : Value} {an ky : Int} {b : Value} (h : frL x = some (k, f, t, an, ky, b)) : x = .agg #[k, f, t, .int .i64 an, .int .i64 ky, b] := by
  unfold frL at h
  split at h
  · rename_i c
    obtain ⟨l⟩ := c
    simp only at h
    unfold frC at h
    split at h
    · unfold frM at h
      split at h
      · rename_i h1 h2
        simp only [Option.some.injEq, Prod.mk.injEq] at h
        obtain ⟨rfl, rfl, rfl, rfl, rfl, rfl⟩ := h
        rw [Ev.toLf_eq h1, Ev.toLf_eq h2]
        rfl
      · cases h
    · cases h
  · cases h
def sOpen : List Value → Option Value
  | [x0, x1, x2] => match frL x0, Ev.aggLf x1, Ev.toLf x2 with
    | some (_, _, _, an, ky, _), some [.i .i64 r1, .i .i64 r2], some (.i .i64 asn) => some (.int .i64 (openV an ky r1 r2 asn))
    | _, _, _ => none
  | _ => none
theorem sOpen_ok : ∀ a v, sOpen a = some v → ∀ w, Calls Try.prog 17 a.toArray w fun e w' => e = .returned v ∧ Below w.heap.size w w' := by
  intro a v h w
  unfold sOpen at h
  split at h
  · rename_i x0 x1 x2
    split at h
    · rename_i k f t an ky b r1 r2 asn h0 h1 h2
      have e0 := frL_eq h0
      have e1 := Ev.aggLf_eq h1
      have e2 := Ev.toLf_eq h2
      subst e0; subst e1; subst e2
      cases h
      exact open_c k f t b an ky r1 r2 asn w
    · cases h
  · cases h
def sROpen : List Value → Option Value
  | [x0, x1, x2] => match frL x0, Ev.aggLf x1, Ev.toLf x2 with
    | some (_, _, _, an, ky, _), some [.i .i64 r1, .i .i64 r2], some (.i .i64 asn) => some (.int .i64 (openV an ky r1 r2 asn))
    | _, _, _ => none
  | _ => none
theorem sROpen_ok : ∀ a v, sROpen a = some v → ∀ w, Calls Try.prog 18 a.toArray w fun e w' => e = .returned v ∧ Below w.heap.size w w' := by
  intro a v h w
  unfold sROpen at h
  split at h
  · rename_i x0 x1 x2
    split at h
    · rename_i k f t an ky b r1 r2 asn h0 h1 h2
      have e0 := frL_eq h0
      have e1 := Ev.aggLf_eq h1
      have e2 := Ev.toLf_eq h2
      subst e0; subst e1; subst e2
      cases h
      exact ropen_c k f t b an ky r1 r2 asn w
    · cases h
  · cases h
def sKey : List Value → Option Value
  | [x0] => match Ev.toLf x0 with
    | some (.i .i64 a) => some (.tuple #[.int .i64 (keyV a), .int .i64 (keyE a)])
    | _ => none
  | _ => none
theorem sKey_ok : ∀ a v, sKey a = some v → ∀ w, Calls Try.prog 10 a.toArray w fun e w' => e = .returned v ∧ Below w.heap.size w w' := by
  intro a v h w
  unfold sKey at h
  split at h
  · rename_i x0
    split at h
    · rename_i a h0
      have e0 := Ev.toLf_eq h0
      subst e0
      cases h
      exact key_c a w
    · cases h
  · cases h
def sRKey : List Value → Option Value
  | [x0] => match Ev.toLf x0 with
    | some (.i .i64 a) => some (.tuple #[.int .i64 (keyV a), .int .i64 (keyE a)])
    | _ => none
  | _ => none
theorem sRKey_ok : ∀ a v, sRKey a = some v → ∀ w, Calls Try.prog 11 a.toArray w fun e w' => e = .returned v ∧ Below w.heap.size w w' := by
  intro a v h w
  unfold sRKey at h
  split at h
  · rename_i x0
    split at h
    · rename_i a h0
      have e0 := Ev.toLf_eq h0
      subst e0
      cases h
      exact rkey_c a w
    · cases h
  · cases h
def sOwn : List Value → Option Value
  | [x0] => match Ev.toLf x0 with
    | some (.i .i64 a) => some (.tuple #[.int .i64 (ownV a), .int .i64 (ownE a)])
    | _ => none
  | _ => none
theorem sOwn_ok : ∀ a v, sOwn a = some v → ∀ w, Calls Try.prog 12 a.toArray w fun e w' => e = .returned v ∧ Below w.heap.size w w' := by
  intro a v h w
  unfold sOwn at h
  split at h
  · rename_i x0
    split at h
    · rename_i a h0
      have e0 := Ev.toLf_eq h0
      subst e0
      cases h
      exact own_c a w
    · cases h
  · cases h
def sROwn : List Value → Option Value
  | [x0] => match Ev.toLf x0 with
    | some (.i .i64 a) => some (.tuple #[.int .i64 (ownV a), .int .i64 (ownE a)])
    | _ => none
  | _ => none
theorem sROwn_ok : ∀ a v, sROwn a = some v → ∀ w, Calls Try.prog 13 a.toArray w fun e w' => e = .returned v ∧ Below w.heap.size w w' := by
  intro a v h w
  unfold sROwn at h
  split at h
  · rename_i x0
    split at h
    · rename_i a h0
      have e0 := Ev.toLf_eq h0
      subst e0
      cases h
      exact rown_c a w
    · cases h
  · cases h
def sRSlot : List Value → Option Value
  | [x0] => match Ev.toLf x0 with
    | some (.i .i64 a) => some (.bool (slotB a))
    | _ => none
  | _ => none
theorem sRSlot_ok : ∀ a v, sRSlot a = some v → ∀ w, Calls Try.prog 25 a.toArray w fun e w' => e = .returned v ∧ Below w.heap.size w w' := by
  intro a v h w
  unfold sRSlot at h
  split at h
  · rename_i x0
    split at h
    · rename_i a h0
      have e0 := Ev.toLf_eq h0
      subst e0
      cases h
      exact rslot_c a w
    · cases h
  · cases h
def sIsSlot : List Value → Option Value
  | [x0] => match Ev.toLf x0 with
    | some (.i .i64 a) => some (.bool (slotB a))
    | _ => none
  | _ => none
theorem sIsSlot_ok : ∀ a v, sIsSlot a = some v → ∀ w, Calls Try.prog 22 a.toArray w fun e w' => e = .returned v ∧ Below w.heap.size w w' := by
  intro a v h w
  unfold sIsSlot at h
  split at h
  · rename_i x0
    split at h
    · rename_i a h0
      have e0 := Ev.toLf_eq h0
      subst e0
      cases h
      exact isslot_c a w
    · cases h
  · cases h
def sREpoch : List Value → Option Value
  | [x0] => match Ev.toLf x0 with
    | some (.i .i64 a) => some (.int .i64 (epR a))
    | _ => none
  | _ => none
theorem sREpoch_ok : ∀ a v, sREpoch a = some v → ∀ w, Calls Try.prog 20 a.toArray w fun e w' => e = .returned v ∧ Below w.heap.size w w' := by
  intro a v h w
  unfold sREpoch at h
  split at h
  · rename_i x0
    split at h
    · rename_i a h0
      have e0 := Ev.toLf_eq h0
      subst e0
      cases h
      exact repoch_c a w
    · cases h
  · cases h
def sRKnows : List Value → Option Value
  | [x0, x1] => match Ev.aggLf x0, Ev.toLf x1 with
    | some [.i .i64 r1, .i .i64 r2], some (.i .i64 a) => some (.bool (kn r1 r2 a))
    | _, _ => none
  | _ => none
theorem sRKnows_ok : ∀ a v, sRKnows a = some v → ∀ w, Calls Try.prog 19 a.toArray w fun e w' => e = .returned v ∧ Below w.heap.size w w' := by
  intro a v h w
  unfold sRKnows at h
  split at h
  · rename_i x0 x1
    split at h
    · rename_i r1 r2 a h0 h1
      have e0 := Ev.aggLf_eq h0
      have e1 := Ev.toLf_eq h1
      subst e0; subst e1
      cases h
      exact rknows_c r1 r2 a w
    · cases h
  · cases h
noncomputable def G3 : Ev.Sum := (Ev.addS 19 (Ev.pureS sRKnows) (Ev.addS 20 (Ev.pureS sREpoch) (Ev.addS 22 (Ev.pureS sIsSlot) (Ev.addS 25 (Ev.pureS sRSlot) (Ev.addS 13 (Ev.pureS sROwn) (Ev.addS 12 (Ev.pureS sOwn) (Ev.addS 11 (Ev.pureS sRKey) (Ev.addS 10 (Ev.pureS sKey) (Ev.addS 18 (Ev.pureS sROpen) (Ev.addS 17 (Ev.pureS sOpen) G2))))))))))
theorem G3_ok : ∀ N w0, Ev.SumOk Try.prog N w0 G3 := (Ev.addS_ok (Ev.pureS_ok sRKnows_ok) (Ev.addS_ok (Ev.pureS_ok sREpoch_ok) (Ev.addS_ok (Ev.pureS_ok sIsSlot_ok) (Ev.addS_ok (Ev.pureS_ok sRSlot_ok) (Ev.addS_ok (Ev.pureS_ok sROwn_ok) (Ev.addS_ok (Ev.pureS_ok sOwn_ok) (Ev.addS_ok (Ev.pureS_ok sRKey_ok) (Ev.addS_ok (Ev.pureS_ok sKey_ok) (Ev.addS_ok (Ev.pureS_ok sROpen_ok) (Ev.addS_ok (Ev.pureS_ok sOpen_ok) G2_ok))))))))))
end Go.Proofs.Ytkiddbnpeddiiaa
