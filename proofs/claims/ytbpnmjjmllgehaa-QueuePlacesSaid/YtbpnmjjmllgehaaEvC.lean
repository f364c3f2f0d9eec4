/- The evaluator answers what the program does: statements, calls, functions. No condition. -/
import Derived.Test.YtbpnmjjmllgehaaEvO
namespace Go.Proofs.Ytbpnmjjmllgehaa
open Go Go.RowKit
namespace Ev
section
variable {P : Program} {N : Nat → Prop} {w0 w : World} {call : CallE} {fr : Fr} {st : St} {a : Act} {Q : VQ} {Qx : Exit → Act → World → Prop} {next : Act → World → Prop} {o : Oper} {ops : Array Oper} {K : PK} {rd : Option Nat} {dk : Bool}
/-- an operation, if its guard asks for it -/
def GuardWp (rd : Option Nat) (P : Program) (ops : Array Oper) (o : Oper) (a : Act) (w : World) (next : Act → World → Prop) (Qx : Exit → Act → World → Prop) : Prop :=
  if Region.wanted o (yielded ops a.tmps) then o.wpIn (FW rd) 0 P a w next Qx else next (a.put o.dst undef) w
theorem yield_bool {d : Nat} {j : Nat} {b : Bool} (hf : FrOk fr a) (hj : (ops[j]?).bind (·.dst) = some d) (hb : (lookL fr.l d).2 = .bool b) : yielded ops a.tmps j = some b := by
  have hg := hf.get d
  rw [hb] at hg
  unfold yielded
  rw [hj]
  simp only [Option.bind_some]
  cases hd : a.tmps[d]? with
  | none => rw [Array.getD_eq_getD_getElem?, hd] at hg; cases hg
  | some v =>
    rw [Array.getD_eq_getD_getElem?, hd] at hg
    simp only [Option.getD_some] at hg
    rw [hg]
theorem yield_not {d : Nat} {j : Nat} (hf : FrOk fr a) (hj : (ops[j]?).bind (·.dst) = some d) (hb : ∀ b, (lookL fr.l d).2 ≠ .bool b) : yielded ops a.tmps j = none := by
  have hg := hf.get d
  unfold yielded
  rw [hj]
  simp only [Option.bind_some]
  cases hd : a.tmps[d]? with
  | none => rfl
  | some v =>
    rw [Array.getD_eq_getD_getElem?, hd] at hg
    simp only [Option.getD_some] at hg
    rw [← hg] at hb
    cases v <;> first | rfl | exact absurd rfl (hb _)
theorem setD_n (fr : Fr) (x : Dec) : (setD fr x).n = fr.n := by
  cases x with
  | none => rfl
  | some db => rfl
theorem setD_df (fr : Fr) (x : Dec) : (setD fr x).df = fr.df := by
  cases x with
  | none => rfl
  | some db => rfl
theorem setD_look {fr : Fr} {x : Dec} (h : ∀ d b, x = some (d, b) → (lookL fr.l d).2 = .bool b) (t : Nat) : (lookL (setD fr x).l t).2 = (lookL fr.l t).2 := by
  cases x with
  | none => rfl
  | some db =>
    obtain ⟨d, b⟩ := db
    show (lookL ((d, .bool b, .bool b) :: fr.l) t).2 = _
    rw [look_cons]
    by_cases hd : d = t
    · rw [if_pos hd, ← hd, h d b rfl]
    · rw [if_neg hd]
theorem setD_ok {x : Dec} (hf : FrOk fr a) (h : ∀ d b, x = some (d, b) → (lookL fr.l d).2 = .bool b) : FrOk (setD fr x) a :=
  ⟨by rw [setD_n]; exact hf.size, fun t => by rw [setD_look h]; exact hf.get t, by rw [setD_df]; exact hf.defers⟩
/-- the split at a guard: what is known afterwards is so, and the operation is wanted or not -/
theorem gsplit_good {Q : Dec × Bool → Prop} (hf : FrOk fr a) (h : (gsplit ops o fr).good Q K) : ∃ x, Q (x, Region.wanted o (yielded ops a.tmps)) ∧ ∀ d b, x = some (d, b) → (lookL fr.l d).2 = .bool b := by
  unfold gsplit at h
  cases hg : o.guard with
  | none =>
    rw [hg] at h
    exact ⟨none, by simpa [Region.wanted, hg, gsO, Tree.good] using h, fun d b e => by cases e⟩
  | some jw =>
    obtain ⟨j, want⟩ := jw
    rw [hg] at h
    simp only [gsO] at h
    simp only [Region.wanted, hg]
    cases hj : (ops[j]?).bind (·.dst) with
    | none =>
      rw [hj] at h
      have hy : yielded ops a.tmps j = none := by unfold yielded; rw [hj]; rfl
      rw [hy]
      exact ⟨none, h, fun d b e => by cases e⟩
    | some d =>
      rw [hj] at h
      simp only [gsJ] at h
      cases hl : lookL fr.l d with
      | mk l1 l2 =>
      rw [hl] at h
      have h2 : (lookL fr.l d).2 = l2 := by rw [hl]
      unfold gsD at h
      split at h
      · rename_i b1 b hp
        simp only [Prod.mk.injEq] at hp
        obtain ⟨_, rfl⟩ := hp
        rw [yield_bool hf hj h2]
        exact ⟨none, h, fun d b e => by cases e⟩
      · rename_i x b n hp
        simp only [Prod.mk.injEq] at hp
        obtain ⟨_, rfl⟩ := hp
        rw [yield_bool hf hj h2]
        cases b with
        | true => exact ⟨some (d, true), h.1 rfl, fun d' b' e => by simp only [Option.some.injEq, Prod.mk.injEq] at e; obtain ⟨rfl, rfl⟩ := e; exact h2⟩
        | false => exact ⟨some (d, false), h.2 rfl, fun d' b' e => by simp only [Option.some.injEq, Prod.mk.injEq] at e; obtain ⟨rfl, rfl⟩ := e; exact h2⟩
      · rename_i n1 n2
        have hy : yielded ops a.tmps j = none := yield_not hf hj (by
          intro b hb
          rw [h2] at hb
          subst hb
          cases l1 <;> first | exact n2 _ _ rfl | exact n1 _ _ rfl)
        rw [hy]
        exact ⟨none, h, fun d b e => by cases e⟩
abbrev GQ := GR → Prop
theorem good_all {R : Type} {Q : Sup → R → Prop} {K : PK} {t : Tree R} (h : ∀ r, t.good (Q r) K) : t.good (fun x => ∀ r, Q r x) K := by
  induction t with
  | leaf x => exact h
  | ite b t e iht ihe => exact ⟨fun hb => iht fun r => (h r).1 hb, fun hb => ihe fun r => (h r).2 hb⟩
  | claim x y t ih => exact ⟨(h r0).1, ih fun r => (h r).2⟩
  | fail n => exact h r0
  | stop _ _ _ _ => exact h r0
theorem guarded_sound {Q : GQ} (hc : CallOk P N w0 call) (hf : FrOk fr a) (h : ∀ r, (guarded P call ops o fr st r).good Q K) (hr : Rel N w0 st w)
    (hn : ∀ x v1 v2 st' w', (∀ r, Q (x, v1, v2, st', r)) → FrOk (setD fr x) a → Rel N w0 st' w' → next (a.put o.dst v2) w')
    (hp : ∀ v1 v2 st' w', (∀ r, K v1 v2 st' r) → Rel N w0 st' w' → Qx (.panic [{ v := v2, recovered := false }]) a w') : GuardWp rd P ops o a w next Qx := by
  have h2 : ∀ r, (gsplit ops o fr).good (fun x => (gRun P call o fr st r x).good Q K) K := fun r => (good_bind _ _).1 (h r)
  obtain ⟨x, hq, hx⟩ := gsplit_good hf (good_all h2)
  have hf' := setD_ok hf hx
  unfold GuardWp
  cases hw : Region.wanted o (yielded ops a.tmps) with
  | true =>
    rw [hw] at hq
    simp only [gRun, gRunB] at hq
    rw [if_pos rfl]
    exact evalOp_sound hc hf' (fun r => (good_bind _ _).1 (hq r)) hr ⟨fun v1 v2 st' w' hq' hr' => hn x v1 v2 st' w' hq' hf' hr', hp⟩
  | false =>
    rw [hw] at hq
    simp only [gRun, gRunB] at hq
    rw [if_neg (by simp)]
    exact hn x undef undef st w hq hf' hr
abbrev CQ := CR → Prop
def Ex.to : Ex → Exit
  | .normal => .normal
  | .exit id => .exit id
  | .ret => .ret
  | .pan _ v => .panic [{ v, recovered := false }]
theorem evalOps_sound (hc : CallOk P N w0 call) (hdk : dk = true → rd = none) {Qx : Exit → Act → World → Prop} {Q : CQ} (hn : ∀ ex fr st a w, (∀ r, Q (ex, fr, st, r)) → FrOk fr a → Rel N w0 st w → Qx ex.to a w) :
    ∀ (l : List Oper) (fr : Fr) (st : St) (a : Act) (w : World), (∀ r, (evalOps P call dk ops l fr st r).good Q K) → FrOk fr a → Rel N w0 st w → wpListIn (FW rd) 0 P ops Qx l a w
  | [], fr, st, a, w, h, hf, hr => hn .normal fr st a w h hf hr
  | o :: l, fr, st, a, w, h, hf, hr => by
    have h' : ∀ r, (opsStep P call dk ops o (evalOps P call dk ops l) fr st r).good Q K := h
    have put : ∀ (fr : Fr) (v1 v2 : Value) (a : Act) (st' : St) (w' : World), (∀ r, (putF (evalOps P call dk ops l) fr v1 v2 st' r o.dst).good Q K) → (o.dst = none ∨ True) → FrOk fr a → Rel N w0 st' w' → wpListIn (FW rd) 0 P ops Qx l (a.put o.dst v2) w' := by
      intro fr v1 v2 a st' w' hq _ hf' hr'
      cases hd : o.dst with
      | none =>
        simp only [putF, hd] at hq
        exact evalOps_sound hc hdk hn l _ st' a w' hq hf' hr'
      | some d =>
        simp only [putF, hd] at hq
        cases hb : Nat.ble (d + 1) fr.n with
        | false => simp only [hb, putB] at hq; exact (hq r0).elim
        | true =>
          simp only [hb, putB] at hq
          exact evalOps_sound hc hdk hn l _ st' _ w' hq (hf'.put (Nat.le_of_ble_eq_true hb) v1 v2) hr'
    unfold opsStep at h'
    split at h'
    · rename_i c hop
      unfold dfStep at h'
      split at h'
      · rename_i hg
        have hrd := hdk rfl
        obtain ⟨x1, x, st', w', hrun, hrel, hq⟩ := runS_soundR _ _ _ _ _ (fun r => (good_bind _ _).1 (h' r)) hr
        simp only [dfK2] at hq
        unfold dfK3 at hq
        split at hq
        · rename_i d1 d2
          rw [← hf.eval] at hrun
          have hw : Region.wanted o (yielded ops a.tmps) = true := by simp [Region.wanted, hg]
          unfold wpListIn
          rw [if_pos hw]
          refine ⟨fun _ _ => trivial, ?_⟩
          subst hrd
          rw [Oper.semAt_none, hrun]
          refine put _ undef undef { a with defers := d2 :: a.defers } st' w' hq (.inr trivial) ⟨hf.size, hf.get, ?_⟩ hrel
          show d2 :: a.defers = _
          rw [hf.defers]
          rfl
        · exact (hq r0).elim
      · exact (h' r0).elim
    · have h2 : ∀ r, (guarded P call ops o fr st r).good (fun x => (opsK o.dst fr (evalOps P call dk ops l) x).good Q K) (fun v1 v2 st r => Q (.pan v1 v2, fr, st, r)) := fun r => (good_catch _ _ _).1 (h' r)
      have key : GuardWp rd P ops o a w (wpListIn (FW rd) 0 P ops Qx l) Qx := by
        refine guarded_sound hc hf h2 hr ?_ ?_
        · intro x v1 v2 st' w' hq hf' hr'
          exact put _ v1 v2 a st' w' hq (.inr trivial) hf' hr'
        · intro v1 v2 st' w' hq hr'
          exact hn (.pan v1 v2) fr st' a w' hq hf hr'
      unfold wpListIn
      unfold GuardWp at key
      split
      · rename_i hw; rw [if_pos hw] at key; exact key
      · rename_i hw; rw [if_neg hw] at key; exact ⟨fun _ _ => trivial, key⟩
/-- a piece of code is what the evaluator says -/
def CodeOk (rd : Option Nat) (P : Program) (N : Nat → Prop) (w0 : World) (c : Code) (e : EC) : Prop :=
  ∀ (fr : Fr) (st : St) (a : Act) (w : World) (Q : CQ) (K : PK) (Qx : Exit → Act → World → Prop), (∀ r, (e fr st r).good Q K) → FrOk fr a → Rel N w0 st w →
    (∀ ex fr st a w, (∀ r, Q (ex, fr, st, r)) → FrOk fr a → Rel N w0 st w → Qx ex.to a w) → c.wpIn (FW rd) 0 P Qx a w
theorem run_results {fn : Func} {tmps : Array Value} : (results fn tmps).run P w = ((fn.results.toList.mapM (m := Sem) fun
    | .tmp t => pure (tmps.getD t undef)
    | .cell a t => do loadVar t (← asAddr (tmps.getD a undef))).run P w).andThen fun vs w' => .ok (mkRes vs) w' := by
  unfold results
  rw [Array.mapM_eq_mapM_toList]
  simp only [bind_map_left, Sem.run_bind]
  generalize Sem.run P (List.mapM _ _) w = x
  cases x with
  | halt h w => rfl
  | ok vs w' =>
    simp only [Result.andThen_ok, Sem.run_pure]
    congr 1
    match vs with
    | [] => rfl
    | [v] => rfl
    | x :: y :: l => simp [mkRes]
theorem rsAll_sound (hf : FrOk fr a) (hr : Rel N w0 st w) : ∀ (l : List ResultVar) (Q : RsR → Prop), (∀ r, (rsAll P fr l st r).good Q K) →
    ∃ l1 l2, (l.mapM (m := Sem) fun
      | .tmp t => pure (a.tmps.getD t undef)
      | .cell x t => do loadVar t (← asAddr (a.tmps.getD x undef))).run P w = .ok l2 w ∧ ∀ r, Q (l1, l2, st, r)
  | [], Q, h => ⟨[], [], by simp, h⟩
  | .tmp t :: l, Q, h => by
    have h' : ∀ r, ((rsAll P fr l st r).bind (rsCons (lookL fr.l t))).good Q K := h
    obtain ⟨l1, l2, hrun, hq⟩ := rsAll_sound hf hr l _ (fun r => (good_bind _ _).1 (h' r))
    refine ⟨_, (lookL fr.l t).2 :: l2, ?_, hq⟩
    simp only [List.mapM_cons, Sem.run_bind, Sem.run_pure, Result.andThen_ok, hrun, hf.get t]
  | .cell x t :: l, Q, h => by
    have h' : ∀ r, ((loadO (fun _ _ => .fail 64) st r (lookL fr.l x) (shapeT P t)).bind (rsPut (rsAll P fr l))).good Q K := h
    have hg := hf.get x
    generalize lookL fr.l x = p at h' hg
    rcases loadO_sound (fun r => (good_bind _ _).1 (h' r)) hr with h2 | ⟨v1, v2, ad, hx, hrun, hq⟩
    · exact (h2 r0).elim
    · have hq' : ∀ r, ((rsAll P fr l st r).bind (rsCons (v1, v2))).good Q K := hq
      obtain ⟨l1, l2, hrun2, hq2⟩ := rsAll_sound hf hr l _ (fun r => (good_bind _ _).1 (hq' r))
      refine ⟨_, v2 :: l2, ?_, hq2⟩
      rw [List.mapM_cons]
      have hp : asAddr (.pointer (some ad)) = pure ad := rfl
      simp only [Sem.run_bind, hg, hx, hp, Sem.run_pure, Result.andThen_ok, hrun, hrun2]
theorem args0_look : ∀ (i : Nat) (l m : List Value) (t : Nat), l.length = m.length → (lookL (args0 i l m) t).2 = if i ≤ t ∧ t < i + m.length then m.getD (t - i) undef else undef
  | i, [], [], t, _ => by rw [if_neg (by simp)]; rfl
  | i, x :: l, y :: m, t, h => by
    show (lookL ((i, x, y) :: args0 (i + 1) l m) t).2 = _
    rw [look_cons]
    by_cases hi : i = t
    · subst hi
      rw [if_pos rfl, if_pos ⟨Nat.le_refl _, by simp⟩]
      simp
    · rw [if_neg hi, args0_look (i + 1) l m t (by simpa using h)]
      by_cases hc : i + 1 ≤ t ∧ t < i + 1 + m.length
      · rw [if_pos hc, if_pos (by simp; omega), show t - i = (t - (i + 1)) + 1 by omega]
        simp
      · rw [if_neg hc, if_neg (by simp; omega)]
  | _, [], _ :: _, _, h => by simp at h
  | _, _ :: _, [], _, h => by simp at h
theorem frOk_args {n : Nat} {a1 a2 : List Value} (h1 : a1.length = a2.length) (h2 : a2.length ≤ n) : FrOk ⟨n, args0 0 a1 a2, []⟩ { tmps := a2.toArray ++ Array.replicate (n - a2.toArray.size) undef, defers := [] } := by
  refine ⟨by simp; omega, fun t => ?_, rfl⟩
  rw [args0_look 0 a1 a2 t h1]
  simp only [Array.getD_eq_getD_getElem?, Array.getElem?_append, List.size_toArray, Nat.zero_add, Nat.zero_le, true_and, Nat.sub_zero]
  by_cases ht : t < a2.length
  · rw [if_pos ht, if_pos ht]; simp
  · rw [if_neg ht, if_neg ht]
    simp only [Array.getElem?_replicate]
    split <;> rfl
/-- a call of one function is what is said of it -/
def SumOk1 (P : Program) (N : Nat → Prop) (w0 : World) (f : FuncId) (s : SumF) : Prop :=
  ∀ (a1 a2 : List Value) (st : St) (Q : VQ) (K : PK) (w : World), (∀ r, (s a1 a2 st r).good Q K) → Rel N w0 st w → Calls P f a2.toArray w (RetOk N w0 Q K)
/-- what is said of functions beforehand -/
def SumOk (P : Program) (N : Nat → Prop) (w0 : World) (G : Sum) : Prop := ∀ f s, G f = some s → SumOk1 P N w0 f s
theorem region_seq {ops : Array Oper} (hc : CallOk P N w0 call) (hdk : dk = true → rd = none) (id : Nat) : CodeOk rd P N w0 (.region id ops false) fun fr st r => (evalOps P call dk ops ops.toList fr st r).bind regK := by
  intro fr st a w Q K Qx h hf hr hn
  refine wpIn_region_list ?_
  exact evalOps_sound (Qx := Qx) hc hdk hn ops.toList fr st a w (fun r => (good_bind _ _).1 (h r)) hf hr
theorem code_end (c : Code) (x : Ex) (hw : ∀ (Q : Exit → Act → World → Prop) a w, Q x.to a w → c.wpIn (FW rd) 0 P Q a w) : CodeOk rd P N w0 c (cEnd x) := by
  intro fr st a w Q K Qx h hf hr hn
  exact hw _ _ _ (hn x fr st a w h hf hr)
theorem code_fail (c : Code) (n : Nat) : CodeOk rd P N w0 c (cFail n) := by
  intro fr st a w Q K Qx h hf hr hn
  exact (h r0).elim
theorem code_seq {x y : Code} {ex ey : EC} (hx : CodeOk rd P N w0 x ex) (hy : CodeOk rd P N w0 y ey) : CodeOk rd P N w0 (.seq x y) (cSeq ex ey) := by
  intro fr st a w Q K Qx h hf hr hn
  refine wpIn_seq ?_
  refine hx fr st a w _ K _ (fun r => (good_bind _ _).1 (h r)) hf hr ?_
  intro e fr st a w hq hf hr
  cases e with
  | normal => exact hy fr st a w Q K Qx hq hf hr hn
  | exit id => exact hn (.exit id) fr st a w hq hf hr
  | ret => exact hn .ret fr st a w hq hf hr
  | pan v1 v2 => exact hn (.pan v1 v2) fr st a w hq hf hr
theorem decC_ok {c : Operand} {v : Bool} (h : (evP fr c).2 = .bool v) : ∀ d b, decC v c = some (d, b) → (lookL fr.l d).2 = .bool b := by
  intro d b hd
  cases c with
  | tmp t =>
    simp only [decC, Option.some.injEq, Prod.mk.injEq] at hd
    obtain ⟨rfl, rfl⟩ := hd
    exact h
  | _ => cases hd
theorem code_cond {c : Operand} {x y : Code} {ex ey : EC} (hx : CodeOk rd P N w0 x ex) (hy : CodeOk rd P N w0 y ey) : CodeOk rd P N w0 (.cond c x y) (cCond c ex ey) := by
  intro fr st a w Q K Qx h hf hr hn
  have hv : a.eval c = (evP fr c).2 := by rw [hf.eval]; rfl
  have h' : ∀ r, (condK c ex ey fr st r (evP fr c)).good Q K := h
  have hd : ∀ v, (evP fr c).2 = .bool v → FrOk (setD fr (decC v c)) a := fun v h => setD_ok hf (decC_ok h)
  generalize evP fr c = p at h' hv hd
  unfold condK at h'
  split at h'
  · rename_i b v
    cases v with
    | true => exact wpIn_cond_true hv (hx fr st a w Q K Qx h' hf hr hn)
    | false => exact wpIn_cond_false hv (hy fr st a w Q K Qx h' hf hr hn)
  · rename_i v _
    cases v with
    | true => exact wpIn_cond_true hv (hx _ st a w Q K Qx (fun r => (h' r).1 rfl) (hd true rfl) hr hn)
    | false => exact wpIn_cond_false hv (hy _ st a w Q K Qx (fun r => (h' r).2 rfl) (hd false rfl) hr hn)
  · exact (h' r0).elim
theorem code_block {id : Nat} {x : Code} {ex : EC} (hx : CodeOk rd P N w0 x ex) : CodeOk rd P N w0 (.block id x) (cBlock id ex) := by
  intro fr st a w Q K Qx h hf hr hn
  refine wpIn_block ?_
  refine hx fr st a w _ K _ (fun r => (good_bind _ _).1 (h r)) hf hr ?_
  intro e fr st a w hq hf hr
  cases e with
  | normal => exact hn .normal fr st a w hq hf hr
  | ret => exact hn .ret fr st a w hq hf hr
  | pan v1 v2 => exact hn (.pan v1 v2) fr st a w hq hf hr
  | exit id' =>
    have hq' : ∀ r, (blockB id' (fr, st, r) (Nat.beq id' id)).good Q K := hq
    show Exit.inBlock id Qx (.exit id') a w
    simp only [Exit.inBlock]
    cases hb : Nat.beq id' id with
    | true =>
      simp only [hb, blockB] at hq'
      rw [if_pos (Nat.eq_of_beq_eq_true hb)]
      exact hn .normal fr st a w hq' hf hr
    | false =>
      simp only [hb, blockB] at hq'
      rw [if_neg (fun e => by subst e; rw [Nat.beq_refl] at hb; cases hb)]
      exact hn (.exit id') fr st a w hq' hf hr
end
end Ev
end Go.Proofs.Ytbpnmjjmllgehaa
