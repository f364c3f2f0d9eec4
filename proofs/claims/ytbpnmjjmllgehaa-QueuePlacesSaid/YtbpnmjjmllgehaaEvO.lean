/- The evaluator answers what the program does: one operation. No condition. -/
import Derived.Test.YtbpnmjjmllgehaaEvA
import Derived.Laws.StructEq
import Derived.ChangeKeysEq
import Derived.Lib.AppendZeros
namespace Go.Proofs.Ytbpnmjjmllgehaa
open Go Go.RowKit
namespace Ev
structure FrOk (fr : Fr) (a : Act) : Prop where
  size : a.tmps.size = fr.n
  get : ∀ t, a.tmps.getD t undef = (lookL fr.l t).2
  defers : a.defers = fr.df.map Prod.snd
theorem FrOk.eval {fr : Fr} {a : Act} (h : FrOk fr a) : a.eval = ev2 fr := by
  funext x
  cases x with
  | tmp t => exact h.get t
  | _ => rfl
theorem look_cons (d : Nat) (x : Value × Value) (l : List (Nat × Value × Value)) (t : Nat) : lookL ((d, x) :: l) t = if d = t then x else lookL l t := by
  show lookB x (lookL l t) (Nat.beq d t) = _
  by_cases h : d = t
  · subst h; rw [if_pos rfl, Nat.beq_refl]; rfl
  · rw [if_neg h]
    cases hb : Nat.beq d t with
    | false => rfl
    | true => exact absurd (Nat.eq_of_beq_eq_true hb) h
theorem FrOk.put {fr : Fr} {a : Act} (h : FrOk fr a) {d : Nat} (hd : d < fr.n) (v1 v2 : Value) : FrOk ⟨fr.n, (d, v1, v2) :: fr.l, fr.df⟩ (a.put (some d) v2) := by
  refine ⟨by simp [Act.put, h.size], fun t => ?_, h.defers⟩
  rw [look_cons]
  have hs := h.size
  have hg := h.get t
  by_cases htd : d = t
  · subst htd
    rw [if_pos rfl]
    simp [Act.put, hs, hd]
  · rw [if_neg htd, ← hg]
    simp [Act.put, Array.getD_eq_getD_getElem?, Array.getElem?_setIfInBounds_ne htd]
/-- how a call ends -/
def RetOk (N : Nat → Prop) (w0 : World) (Q : VQ) (K : PK) (e : Ending) (w' : World) : Prop :=
  (∃ v1 v2 st', e = .returned v2 ∧ (∀ r, Q (v1, v2, st', r)) ∧ Rel N w0 st' w') ∨ ∃ v1 v2 st', e = .panicked [{ v := v2, recovered := false }] ∧ (∀ r, K v1 v2 st' r) ∧ Rel N w0 st' w'
/-- a call of a function, or a round -/
def RunsT (P : Program) (w : World) (R : Ending → World → Prop) (a : List Value) : CallT → Prop
  | .fn f => Calls P f a.toArray w R
  | .rnd _ l assign body => ∀ f, RoundIn Fence.wide 0 P l f a.toArray assign body w R
/-- a call is what the evaluator says -/
def CallOk (P : Program) (N : Nat → Prop) (w0 : World) (call : CallE) : Prop :=
  ∀ (t : CallT) (a1 a2 : List Value) (st : St) (Q : VQ) (K : PK) (w : World), (∀ r, (call t a1 a2 st r).good Q K) → Rel N w0 st w → RunsT P w (RetOk N w0 Q K) a2 t
/-- any fence that lets all in: of functions' frames, or of a round's -/
abbrev FW (rd : Option Nat) : Fence := { Fence.wide with round := rd }
theorem semAt_run {P : Program} {o : Oper} {ρ : Operand → Value} {rd : Option Nat} {w w' : World} {n : Next} (h : (execOp ρ o).run P w = .ok n w') (hn : ∀ d, n ≠ .defer d) : (o.semAt rd ρ).run P w = .ok n w' := by
  by_cases hd : ∃ c, o.op = .defer c
  · obtain ⟨c, hc⟩ := hd
    exfalso
    simp only [execOp, hc, Sem.run_bind] at h
    cases hr : (resolve ρ c o.type).run P w with
    | ok d w1 =>
      rw [hr] at h
      simp only [Result.andThen_ok, Sem.run_pure, Result.ok.injEq] at h
      exact hn d h.1.symm
    | halt x w1 => rw [hr] at h; cases h
  · rw [Oper.semAt_eq rd ρ o fun c hc => hd ⟨c, hc⟩]; exact h
section
variable {P : Program} {N : Nat → Prop} {w0 w : World} {call : CallE} {fr : Fr} {st : St} {a : Act} {Q : VQ} {Qx : Exit → Act → World → Prop} {next : Act → World → Prop} {o : Oper} {K : PK} {rd : Option Nat}
structure Then (N : Nat → Prop) (w0 : World) (a : Act) (d : Option Tmp) (Q : VQ) (K : PK) (next : Act → World → Prop) (Qx : Exit → Act → World → Prop) : Prop where
  val : ∀ v1 v2 st' w', (∀ r, Q (v1, v2, st', r)) → Rel N w0 st' w' → next (a.put d v2) w'
  pan : ∀ v1 v2 st' w', (∀ r, K v1 v2 st' r) → Rel N w0 st' w' → Qx (.panic [{ v := v2, recovered := false }]) a w'
theorem upon_value {v1 v : Value} {st' : St} {w' : World} (hrun : (execOp a.eval o).run P w = .ok (.value v) w') (hq : ∀ r, Q (v1, v, st', r)) (hr : Rel N w0 st' w') (hn : Then N w0 a o.dst Q K next Qx) : o.wpIn (FW rd) 0 P a w next Qx := by
  refine ⟨fun _ _ => trivial, ?_⟩
  rw [semAt_run hrun (fun _ h => by cases h)]
  exact hn.val _ _ _ _ hq hr
theorem upon_skip {st' : St} {w' : World} (hrun : (execOp a.eval o).run P w = .ok .skip w') (hq : ∀ r, Q (undef, undef, st', r)) (hr : Rel N w0 st' w') (hn : Then N w0 a o.dst Q K next Qx) : o.wpIn (FW rd) 0 P a w next Qx := by
  refine ⟨fun _ _ => trivial, ?_⟩
  rw [semAt_run hrun (fun _ h => by cases h)]
  exact hn.val _ _ _ _ hq hr
theorem upon_ret {e : Ending} {w' : World} (hn : Then N w0 a o.dst Q K next Qx) (h : RetOk N w0 Q K e w') : (match e, w' with
      | .returned v, w'' => next (a.put o.dst v) w''
      | .panicked chain, w'' => Qx (.panic chain) a w''
      | .outgrown, _ => LetsOut Qx) := by
  rcases h with ⟨v1, v2, st', rfl, hq, hr'⟩ | ⟨v1, v2, st', rfl, hq, hr'⟩
  · exact hn.val _ _ _ _ hq hr'
  · exact hn.pan _ _ _ _ hq hr'
theorem upon_enter {f : FuncId} {a1 : List Value} {a2 : Array Value} {st' : St} {w' : World} (hc : CallOk P N w0 call) (hrun : (execOp a.eval o).run P w = .ok (.enter f a2) w') (h : ∀ r, (call (.fn f) a1 a2.toList st' r).good Q K) (hr : Rel N w0 st' w') (hn : Then N w0 a o.dst Q K next Qx) : o.wpIn (FW rd) 0 P a w next Qx := by
  refine ⟨fun _ _ => trivial, ?_⟩
  rw [semAt_run hrun (fun _ h => by cases h)]
  have := hc (.fn f) a1 a2.toList st' Q K w' h hr
  simp only [RunsT, Array.toArray_toList] at this
  refine ⟨fun h => (by cases h), ?_⟩
  exact (callsIn_wide (n := 0)).2 (this.mono fun e w' h => by
    have := upon_ret hn h
    cases e <;> exact this)
theorem upon_round {l l1 : Nat} {f : FuncId} {a1 : List Value} {a2 : Array Value} {assign body : Code} {st' : St} {w' : World} (hc : CallOk P N w0 call) (hrun : (execOp a.eval o).run P w = .ok (.round l f a2 assign body) w') (h : ∀ r, (call (.rnd l1 l assign body) a1 a2.toList st' r).good Q K) (hr : Rel N w0 st' w') (hn : Then N w0 a o.dst Q K next Qx) : o.wpIn (FW rd) 0 P a w next Qx := by
  refine ⟨fun _ _ => trivial, ?_⟩
  rw [semAt_run hrun (fun _ h => by cases h)]
  have := hc (.rnd l1 l assign body) a1 a2.toList st' Q K w' h hr f
  simp only [Array.toArray_toList] at this
  refine ⟨fun h => (by cases h), ?_⟩
  exact RoundIn.mono this fun e w' h => by
    have := upon_ret hn h
    cases e <;> exact this
theorem upon_panic {v1 v : Value} {st' : St} {w' : World} (hrun : (execOp a.eval o).run P w = .halt (.panic v) w') (hd : ∀ c, o.op ≠ .defer c) (hq : ∀ r, K v1 v st' r) (hr : Rel N w0 st' w') (hn : Then N w0 a o.dst Q K next Qx) : o.wpIn (FW rd) 0 P a w next Qx := by
  refine ⟨fun _ _ => trivial, ?_⟩
  rw [Oper.semAt_eq rd a.eval o hd, hrun]
  exact hn.pan _ _ _ _ hq hr
theorem slow_sound (hc : CallOk P N w0 call) (hf : FrOk fr a) (h : ∀ r, (slowOp P call o fr st r).good Q K) (hr : Rel N w0 st w) (hn : Then N w0 a o.dst Q K next Qx) : o.wpIn (FW rd) 0 P a w next Qx := by
  have h' : ∀ r, (runS P (execOp (ev2 fr) o) (some (execOp (ev1 fr) o)) st r).good (fun x => (opK call x).good Q K) K := fun r => (good_bind _ _).1 (h r)
  obtain ⟨x1, x, st', w', hrun, hrel, hq⟩ := runS_soundR _ _ _ _ _ h' hr
  rw [← hf.eval] at hrun
  cases x with
  | value v => exact upon_value hrun hq hrel hn
  | skip =>
    refine ⟨fun _ _ => trivial, ?_⟩
    rw [semAt_run hrun (fun _ h => by cases h)]
    exact hn.val undef undef st' w' hq hrel
  | enter f args => exact upon_enter hc hrun hq hrel hn
  | round l f tmps assign body => exact upon_round hc hrun hq hrel hn
  | _ => exact (hq r0).elim
theorem run_underlying' {t : TypeId} {d : TypeDesc} (h : P.underlying t = some d) : (underlying t).run P w = .ok d w := by
  simp [underlying, program, Sem.run, h]
theorem run_typeInfo' {t : TypeId} {i : TypeInfo} (h : P.info? t = some i) : (typeInfo t).run P w = .ok i w := by
  simp [typeInfo, program, Sem.run, h]
theorem run_sizeOf' {t : TypeId} {i : TypeInfo} (h : P.info? t = some i) : (sizeOf t).run P w = .ok i.size w := by
  simp [sizeOf, run_typeInfo' h]
theorem shapeT_spec {t : TypeId} {b : Bool} {n : Nat} (h : shapeT P t = some (b, n)) : (isAgg t).run P w = .ok b w ∧ (sizeOf t).run P w = .ok n w := by
  unfold shapeT at h
  split at h
  · rename_i fs i h1 h2
    simp only [Option.some.injEq, Prod.mk.injEq] at h
    obtain ⟨rfl, rfl⟩ := h
    exact ⟨by simp [isAgg, run_underlying' h1], run_sizeOf' h2⟩
  · rename_i m e i h1 h2
    simp only [Option.some.injEq, Prod.mk.injEq] at h
    obtain ⟨rfl, rfl⟩ := h
    exact ⟨by simp [isAgg, run_underlying' h1], run_sizeOf' h2⟩
  · rename_i d i n1 n2 h1 h2
    simp only [Option.some.injEq, Prod.mk.injEq] at h
    obtain ⟨rfl, rfl⟩ := h
    refine ⟨?_, run_sizeOf' h2⟩
    cases d <;> simp [isAgg, run_underlying' h1] <;> first | exact n1 _ rfl | exact n2 _ _ rfl | skip
  · cases h
theorem run_loadCells {b : Nat} {c : Obj} {off : Nat} (hc : ∀ i v, cellAt c i = some v → w.cell? ⟨b, i, none⟩ = some v) : ∀ (n i : Nat) (l : List Value) (acc : Array Value), takeC c (off + i) n = some l →
    (loadCellsFrom ⟨b, off, none⟩ i n acc).run P w = .ok (acc ++ l.toArray) w
  | 0, i, l, acc, h => by
    simp only [takeC, Option.some.injEq] at h
    subst h
    simp [loadCellsFrom]
  | n + 1, i, l, acc, h => by
    simp only [takeC] at h
    split at h
    · rename_i v l' h1 h2
      simp only [Option.some.injEq] at h
      subst h
      have ih := run_loadCells hc n (i + 1) l' (acc.push v) (by rw [← Nat.add_assoc]; exact h2)
      have hv := hc _ _ h1
      simp only [loadCellsFrom, Sem.run_bind, add_none, run_load, hv, Result.andThen_ok]
      rw [ih]
      simp
    · cases h
theorem run_loadRow {b off j : Nat} {R : Row} (hc : ∀ c, c < R.k → w.cell? ⟨b, (getA R.a).off + (j * R.k + c), none⟩ = some (R.g j c)) : ∀ (n i c : Nat) (acc : Array Value), off + i = (getA R.a).off + (j * R.k + c) → c + n ≤ R.k →
    (loadCellsFrom ⟨b, off, none⟩ i n acc).run P w = .ok (acc ++ (cellsR R j c n).toArray) w
  | 0, i, c, acc, _, _ => by simp [loadCellsFrom, cellsR]
  | n + 1, i, c, acc, ho, hk => by
    have ih := run_loadRow (off := off) hc n (i + 1) (c + 1) (acc.push (R.g j c)) (by omega) (by omega)
    have hv := hc c (by omega)
    simp only [loadCellsFrom, Sem.run_bind, add_none, run_load, ho, hv, Result.andThen_ok]
    rw [ih]
    simp [cellsR]
theorem loadO_sound {t : TypeId} {x : Value × Value} {slow : KE} (h : ∀ r, (loadO slow st r x (shapeT P t)).good Q K) (hr : Rel N w0 st w) : (∀ r, (slow st r).good Q K) ∨
    ∃ v1 v2 ad, x.2 = .pointer (some ad) ∧ (loadVar t ad).run P w = .ok v2 w ∧ ∀ r, Q (v1, v2, st, r) := by
  cases hs : shapeT P t with
  | none => simp only [hs, loadO] at h; exact .inl h
  | some sh =>
    simp only [hs, loadO] at h
    obtain ⟨isA, n⟩ := sh
    obtain ⟨hA, hS⟩ := shapeT_spec (w := w) hs
    unfold loadV at h
    split at h
    · rename_i a1 b off
      cases hsp : a1.spot with
      | some j =>
        simp only [hsp, loadW] at h
        cases hfi : find st.M a1.block with
        | none => simp only [hfi, loadR] at h; exact (h r0).elim
        | some e =>
          simp only [hfi, loadR] at h
          cases hrow : e.row with
          | none => simp only [hrow, loadRR] at h; exact (h r0).elim
          | some R =>
            simp only [hrow, loadRR] at h
            have hblk : b = (getA R.a).block := (h r0).1
            have hoff : off = (getA R.a).off + (j * R.k + a1.off) := (h r0).2.1
            have h3 := fun r => ble_true (h r).2.2
            have hj : j < R.n := (h3 r0).1
            have h4 := fun r => (h3 r).2
            obtain ⟨_, _, hE⟩ := hr.ent (find_mem hfi)
            cases hkb : Nat.ble (a1.off + needR (isA, n)) R.k with
            | false => simp only [hkb, loadRB] at h4; exact (h4 r0).elim
            | true =>
              simp only [hkb, loadRB] at h4
              have hk := Nat.le_of_ble_eq_true hkb
              have hcb : ∀ c, c < R.k → w.cell? ⟨b, (getA R.a).off + (j * R.k + c), none⟩ = some (R.g j c) := fun c hc => by
                obtain ⟨q1, q2⟩ := row_cell hE hrow hj hc
                rw [hblk, q1]; exact q2
              cases isA with
              | true =>
                have := run_loadRow (P := P) (w := w) (b := b) (off := off) (j := j) (R := R) hcb n 0 a1.off #[] (by omega) hk
                exact .inr ⟨_, _, _, rfl, by simp [loadVar, hA, hS, loadCells, this], h4⟩
              | false =>
                have := hcb a1.off (show a1.off < R.k from by simp only [needR] at hk; omega)
                rw [← hoff] at this
                exact .inr ⟨_, _, _, rfl, by simp [loadVar, hA, this], h4⟩
      | none =>
      simp only [hsp, loadW] at h
      cases hfi : find st.M a1.block with
      | none => simp only [hfi, loadE] at h; exact (h r0).elim
      | some e =>
        simp only [hfi, loadE] at h
        have hb : b = e.b := (h r0).1
        have h2 := fun r => (h r).2
        subst hb
        have hcell : ∀ off v, cellAt e.cur off = some v → w.cell? ⟨e.b, off, none⟩ = some v := fun off v h => let ⟨_, _, hE⟩ := hr.ent (find_mem hfi); hE.cells off v h
        cases isA with
        | true =>
          simp only [loadS, loadA] at h2
          split at h2
          · rename_i l1 l2 h3 h4
            have := run_loadCells (P := P) (w := w) (b := e.b) (c := e.cur) (off := off) hcell n 0 l2 #[] h4
            exact .inr ⟨_, _, _, rfl, by simp [loadVar, hA, hS, loadCells, this], h2⟩
          · exact (h2 r0).elim
        | false =>
          simp only [loadS, loadC] at h2
          split at h2
          · rename_i v1 v2 h3 h4
            exact .inr ⟨_, _, _, rfl, by simp [loadVar, hA, hcell _ _ h4], h2⟩
          · exact (h2 r0).elim
    · exact .inl h
theorem load_sound {t : TypeId} {x : Operand} (ho : o.op = .load t x) (hc : CallOk P N w0 call) (hf : FrOk fr a) (h : ∀ r, (loadO (slowOp P call o fr) st r (evP fr x) (shapeT P t)).good Q K) (hr : Rel N w0 st w) (hn : Then N w0 a o.dst Q K next Qx) : o.wpIn (FW rd) 0 P a w next Qx := by
  have hev : ev2 fr x = (evP fr x).2 := rfl
  generalize evP fr x = p at h hev
  rcases loadO_sound h hr with h | ⟨v1, v2, ad, hx, hrun, hq⟩
  · exact slow_sound hc hf h hr hn
  · refine upon_value ?_ hq hr hn
    have hex : execOp a.eval o = (do pure (.value (← Instr.loadAt t (ev2 fr x)))) := by simp only [execOp, ho, hf.eval]
    rw [hex, hev, hx]
    simp [Instr.loadAt, Instr.sureAddr, hrun]
theorem box_sound {t : TypeId} {x : Value × Value} (hrun : (execOp a.eval o).run P w = .ok (.value (.pointer (some ⟨w.heap.size, 0, none⟩))) { w with heap := w.heap.push (.cells x.2.cells t) })
    (h : ∀ r, (boxN t st r x).good Q K) (hr : Rel N w0 st w) (hn : Then N w0 a o.dst Q K next Qx) : o.wpIn (FW rd) 0 P a w next Qx :=
  upon_value (v1 := .pointer (some ⟨st.nt, 0, none⟩)) hrun (fun r => h (Sup.cons w.heap.size r)) (hr.new (o := .cells x.2.cells t) (o1 := .cells x.1.cells t)) hn
theorem fieldO_spec {s : TypeId} {f off : Nat} (h : fieldO P s f = some off) : ∃ fs x i, P.underlying s = some (.struct fs) ∧ fs[f]? = some x ∧ P.info? x.type = some i ∧ i.size ≠ 0 ∧ x.offset = off := by
  unfold fieldO at h
  split at h
  · rename_i fs h1
    split at h
    · rename_i x h2
      split at h
      · rename_i i h3
        split at h
        · cases h
        · rename_i n h4
          simp only [Option.some.injEq] at h
          exact ⟨fs, x, i, h1, h2, h3, h4, h⟩
      · cases h
    · cases h
  · cases h
theorem run_part {t : TypeId} {cs : Array Value} {off : Nat} {v : Value} (h : partV P t cs off = some v) : (part t cs off).run P w = .ok v w := by
  unfold partV at h
  split at h
  · rename_i n hs
    obtain ⟨h1, h2⟩ := shapeT_spec (w := w) hs
    simp only [Option.some.injEq] at h
    subst h
    simp [part, h1, h2]
  · rename_i n hs
    obtain ⟨h1, h2⟩ := shapeT_spec (w := w) hs
    simp [part, h1, h]
  · cases h
theorem eqF_run {d : Nat} {go : TypeId → Value → Value → Option Bool} (hgo : ∀ t x y b, go t x y = some b → (Op.equalIn d t x y).run P w = .ok b w) {xs ys : Array Value} : ∀ (fs : List Field) (b : Bool), eqF P go xs ys fs = some b → (Op.eqFields d xs ys fs).run P w = .ok b w
  | [], b, h => by
    simp only [eqF, Option.some.injEq] at h
    subst h
    simp [Op.eqFields]
  | f :: fs, b, h => by
    simp only [eqF] at h
    cases hn : f.name == "_" with
    | true =>
      simp only [hn] at h
      have : f.name = "_" := by simpa using hn
      simp only [Op.eqFields, this, ne_eq, not_true_eq_false, if_false]
      exact eqF_run hgo fs b h
    | false =>
      simp only [hn] at h
      have hne : f.name ≠ "_" := by simpa using hn
      split at h
      · rename_i x y h1 h2
        split at h
        · rename_i p q h3 h4
          simp only [Option.some.injEq] at h
          subst h
          have ih := eqF_run hgo fs q h4
          simp only [Op.eqFields, hne, ne_eq, not_false_eq_true, if_true, Sem.run_bind, run_part h1, run_part h2, Result.andThen_ok, hgo _ _ _ _ h3]
          cases p
          · simp
          · simpa using ih
        · cases h
      · cases h
theorem eqI_run {d : Nat} {go : TypeId → Value → Value → Option Bool} (hgo : ∀ t x y b, go t x y = some b → (Op.equalIn d t x y).run P w = .ok b w) {e : TypeId} {k : Nat} {xs ys : Array Value} : ∀ (is : List Nat) (b : Bool), eqI P go e k xs ys is = some b → (Op.eqItems d e k xs ys is).run P w = .ok b w
  | [], b, h => by
    simp only [eqI, Option.some.injEq] at h
    subst h
    simp [Op.eqItems]
  | j :: js, b, h => by
    simp only [eqI] at h
    split at h
    · rename_i x y h1 h2
      split at h
      · rename_i p q h3 h4
        simp only [Option.some.injEq] at h
        subst h
        have ih := eqI_run hgo js q h4
        simp only [Op.eqItems, Sem.run_bind, run_part h1, run_part h2, Result.andThen_ok, hgo _ _ _ _ h3]
        cases p
        · simp
        · simpa using ih
      · cases h
    · cases h
theorem eqV_run : ∀ (n d : Nat) (t : TypeId) (x y : Value) (b : Bool), n ≤ d → eqV P n t x y = some b → (Op.equalIn d t x y).run P w = .ok b w
  | 0, _, _, _, _, _, _, h => by cases h
  | n + 1, d, t, x, y, b, hd, h => by
    obtain ⟨e, rfl⟩ : ∃ e, d = e + 1 := ⟨d - 1, by omega⟩
    simp only [eqV] at h
    split at h
    · rename_i i j hu
      simp only [Option.some.injEq] at h
      subst h
      exact run_equalIn_bool' w e t _ _ hu
    · rename_i k0 k a k' c hu
      cases hk : Nat.beq (kn k) (kn k') with
      | false => rw [hk] at h; cases h
      | true =>
        have hkk : k = k' := by cases k <;> cases k' <;> first | rfl | cases hk
        subst hkk
        simp only [hk, Option.some.injEq] at h
        subst h
        exact run_equalIn_int w e t k _ a c hu
    · rename_i a c hu
      simp only [Option.some.injEq] at h
      subst h
      exact run_equalIn_string w e t a c hu
    · rename_i fs xs ys hu
      cases hp : P.stoodInHeld t with
      | true => simp only [hp] at h; cases h
      | false =>
        simp only [hp] at h
        have hf : P.fieldsOf t = fs := by unfold Program.fieldsOf; rw [hu]
        rw [run_equalIn_struct w e t xs ys (by rw [hf]; exact hu) hp, hf]
        exact eqF_run (fun t x y b h => eqV_run n e t x y b (by omega) h) _ _ h
    · rename_i m el xs ys hu
      cases hi : P.info? el with
      | none => simp only [hi, eqAr] at h; cases h
      | some i =>
        simp only [hi, eqAr] at h
        rw [run_equalIn_array w e xs ys hu hi]
        exact eqI_run (fun t x y b h => eqV_run n e t x y b (by omega) h) _ _ h
    · cases h
theorem div_sound {slow : KE} {v1 y1 : Value} {d : Option (Bool × Value)} (h : ∀ r, (divK slow v1 y1 st r d).good Q K) (hsl : (∀ r, (slow st r).good Q K) → o.wpIn (FW rd) 0 P a w next Qx)
    (hok : ∀ v, d = some (false, v) → (∀ r, Q (v1, v, st, r)) → o.wpIn (FW rd) 0 P a w next Qx) : o.wpIn (FW rd) 0 P a w next Qx := by
  cases d with
  | none => exact hsl h
  | some x =>
    obtain ⟨bad, v⟩ := x
    simp only [divK] at h
    unfold divS at h
    split at h
    · cases bad with
      | true => exact hsl h
      | false => exact hok v rfl h
    · cases bad with
      | true => exact ((h r0).1 rfl).elim
      | false => exact hok v rfl fun r => (h r).2 rfl
theorem run_arith {op : BinOp} {t : TypeId} {x y : Operand} {k : IntKind} {i j : Int} {v : Value} (h : arith k i j op = some v) : (do let v ← (do eqGuard op t x y (.int k i) (.int k j); binOp op t (.int k i) (.int k j)); pure (Next.value v) : Sem Next).run P w = .ok (.value v) w := by
  cases op <;> simp only [arith, Option.some.injEq] at h <;> first | (subst h; simp [eqGuard, binOp, Op.intArith, Op.intCmp, Op.intBits]) | cases h
theorem arith_shift {op : BinOp} {k : IntKind} {i j : Int} (h : shiftB op = true) : arith k i j op = none := by
  cases op <;> first | rfl | cases h
theorem run_arithD {op : BinOp} {t : TypeId} {x y : Operand} {k k' : IntKind} {i j : Int} {v : Value} (hk : shiftB op = true ∨ k = k') (h : arithD k i j op = some (false, v)) : (do let v ← (do eqGuard op t x y (.int k i) (.int k' j); binOp op t (.int k i) (.int k' j)); pure (Next.value v) : Sem Next).run P w = .ok (.value v) w := by
  cases op
  case quo =>
    simp only [arithD, Option.some.injEq, Prod.mk.injEq, decide_eq_false_iff_not] at h
    obtain ⟨hb, rfl⟩ := h
    rcases hk with hs | rfl
    · cases hs
    · simp [eqGuard, binOp, Op.intDiv, hb]
  case rem =>
    simp only [arithD, Option.some.injEq, Prod.mk.injEq, decide_eq_false_iff_not] at h
    obtain ⟨hb, rfl⟩ := h
    rcases hk with hs | rfl
    · cases hs
    · simp [eqGuard, binOp, Op.intDiv, hb]
  case shl =>
    simp only [arithD, Option.some.injEq, Prod.mk.injEq, decide_eq_false_iff_not] at h
    obtain ⟨hb, rfl⟩ := h
    simp [eqGuard, binOp, Op.shift, hb]
  case shr =>
    simp only [arithD, Option.some.injEq, Prod.mk.injEq, decide_eq_false_iff_not] at h
    obtain ⟨hb, rfl⟩ := h
    simp [eqGuard, binOp, Op.shift, hb]
  all_goals cases h
theorem bin_sound {op : BinOp} {t u : TypeId} {x y : Operand} (ho : o.op = .binOp op t x y u) (hc : CallOk P N w0 call) (hf : FrOk fr a) (h : ∀ r, (binP P (slowOp P call o fr) op t st r (evP fr x) (evP fr y)).good Q K) (hr : Rel N w0 st w) (hn : Then N w0 a o.dst Q K next Qx) : o.wpIn (FW rd) 0 P a w next Qx := by
  have hx : ev2 fr x = (evP fr x).2 := rfl
  have hy : ev2 fr y = (evP fr y).2 := rfl
  generalize evP fr x = p at h hx
  generalize evP fr y = q at h hy
  obtain ⟨x1, x2⟩ := p
  obtain ⟨y1, y2⟩ := q
  simp only [binP] at h
  have hex : execOp a.eval o = (do let v ← (do eqGuard op t x y (ev2 fr x) (ev2 fr y); binOp op t (ev2 fr x) (ev2 fr y)); pure (.value v)) := by simp only [execOp, ho, hf.eval]
  unfold binV at h
  split at h
  · rename_i k i k' j
    cases hk : (Nat.beq (kn k) (kn k') || shiftB op) with
    | false => simp only [hk, binE] at h; exact slow_sound hc hf h hr hn
    | true =>
      simp only [hk, binE] at h
      have hkk : shiftB op = true ∨ k = k' := by
        rcases Bool.or_eq_true_iff.1 hk with h | h
        · right; cases k <;> cases k' <;> first | rfl | cases h
        · exact .inl h
      cases ha : arith k i j op with
      | none =>
        simp only [ha, binE2] at h
        refine div_sound h (fun h => slow_sound hc hf h hr hn) fun v hd hq => upon_value ?_ hq hr hn
        rw [hex, hx, hy]
        exact run_arithD hkk hd
      | some v =>
        simp only [ha, binE2] at h
        refine upon_value ?_ h hr hn
        rw [hex, hx, hy]
        have hkk' : k = k' := by
          rcases hkk with hs | hs
          · rw [arith_shift hs] at ha; cases ha
          · exact hs
        subst hkk'
        exact run_arith ha
  · rename_i xs ys
    unfold eqO at h
    split at h
    · cases hg : P.eqGuardType P.depth t with
      | true => simp only [hg, eqK] at h; exact slow_sound hc hf h hr hn
      | false =>
        simp only [hg, eqK] at h
        cases hv : eqV P 6 t (.agg xs) (.agg ys) with
        | none => simp only [hv, eqR] at h; exact slow_sound hc hf h hr hn
        | some b =>
          simp only [hv, eqR] at h
          refine upon_value ?_ h hr hn
          rw [hex, hx, hy]
          have := eqV_run (w := w) 6 Op.maxDepth t _ _ b (by decide) hv
          simp [eqGuard, binOp, Op.equal, program, Sem.run, hg, this]
    · cases hg : P.eqGuardType P.depth t with
      | true => simp only [hg, eqK] at h; exact slow_sound hc hf h hr hn
      | false =>
        simp only [hg, eqK] at h
        cases hv : eqV P 6 t (.agg xs) (.agg ys) with
        | none => simp only [hv, eqR] at h; exact slow_sound hc hf h hr hn
        | some b =>
          simp only [hv, eqR] at h
          refine upon_value ?_ h hr hn
          rw [hex, hx, hy]
          have := eqV_run (w := w) 6 Op.maxDepth t _ _ b (by decide) hv
          simp [eqGuard, binOp, Op.equal, program, Sem.run, hg, this]
    · exact slow_sound hc hf h hr hn
  · rename_i a0 n0 c0 n1 c1
    have hrun : ∀ e, P.underlying t = some (.slice e) → (Op.equal t (.slice a0 n0 c0) (.slice none n1 c1)).run P w = .ok (isNilA a0) w := fun e hu => by
      show (Op.equalIn (9999 + 1) t (.slice a0 n0 c0) (.slice none n1 c1)).run P w = _
      generalize 9999 = d
      cases a0 <;> simp [Op.equalIn, run_underlying' hu, isNilA]
    unfold nilC at h
    split at h
    · rename_i e hu
      refine upon_value ?_ h hr hn
      rw [hex, hx, hy]
      simp [eqGuard, binOp, hrun e hu]
    · rename_i e hu
      refine upon_value ?_ h hr hn
      rw [hex, hx, hy]
      simp [eqGuard, binOp, hrun e hu]
    · exact slow_sound hc hf h hr hn
  · exact slow_sound hc hf h hr hn
theorem plainF_spec {f : FuncId} (h : plainF P f = true) : ∃ fn, P.funcs[f]? = some fn ∧ (fn.name == "runtime.NumGoroutine") = false ∧ fn.body.isNone = false := by
  unfold plainF at h
  split at h
  · rename_i fn h1
    simp only [Bool.and_eq_true, Bool.not_eq_true'] at h
    refine ⟨fn, h1, h.1, ?_⟩
    cases hb : fn.body with
    | none => rw [hb] at h; cases h.2
    | some _ => rfl
  · cases h
theorem zrL_eq (z : Array Value) : ∀ n, (Builtin.zeroCells z n).toList = zrL z.toList n
  | 0 => by simp [Builtin.zeroCells, zrL]
  | n + 1 => by
    have ih := zrL_eq z n
    simp only [Builtin.zeroCells, Array.toList_map, Array.toList_range] at ih ⊢
    rw [Nat.succ_mul, Nat.add_comm (n * z.size), List.range_add, List.map_append, List.map_map, zrL, ← ih]
    congr 1
    · apply List.ext_getElem?
      intro i
      by_cases hi : i < z.size
      · simp [hi, Nat.mod_eq_of_lt hi]
      · simp [hi]
    · refine List.map_congr_left fun i _ => ?_
      simp [Function.comp]
theorem run_zeros_any {t t' ty : TypeId} {e k bytes : Nat} {z : Array Value} {kn : IntKind} (hz : zelT P t = some (e, z, k, bytes)) (ht' : P.underlying t' = some (.int kn)) (n : Nat) (h0 : 0 < n) (h48 : n * bytes ≤ 281474976710656) (h63 : n ≤ 9223372036854775807) :
    (Builtin.append_ #[t, t'] ty #[.slice none 0 0, .int .i64 (n : Int)]).run P w = .ok (.slice (some ⟨w.heap.size, 0, none⟩) n (grownCap w n 0 e)) (w.drew.alloc (.cells (Builtin.zeroCells z n ++ Builtin.zeroCells z (grownCap w n 0 e - n)) e)) ∧ z.size = k ∧ 0 < k := by
  unfold zelT at hz
  split at hz
  · rename_i e' hu
    split at hz
    · rename_i i hi
      split at hz
      · rename_i zz hzz
        split at hz
        · rename_i hB
          simp only [Option.some.injEq, Prod.mk.injEq] at hz
          obtain ⟨rfl, rfl, rfl, rfl⟩ := hz
          simp only [Bool.and_eq_true] at hB
          have hk := Nat.le_of_ble_eq_true hB.2
          exact ⟨Lib.run_append_nil_zeros w t t' ty e' i zz .i64 kn hu ht' hi hzz n h0 hk (by omega) h48, Nat.eq_of_beq_eq_true hB.1, hk⟩
        · cases hz
      · cases hz
    · cases hz
  · cases hz
theorem zr_sound {c : Call} {so xo : Operand} {t t' : TypeId} (ho : o.op = .call c) (hcal : c.callee = .builtin .append) (hargs : c.args.toList = [so, xo]) (htys : c.argTypes.toList = [t, t']) (hc : CallOk P N w0 call) (hf : FrOk fr a) (h : ∀ r, (zrO (slowOp P call o fr) (evP fr so) (evP fr xo) st r (intT (P.underlying t')) (zelT P t)).good Q K) (hr : Rel N w0 st w) (hn : Then N w0 a o.dst Q K next Qx) : o.wpIn (FW rd) 0 P a w next Qx := by
  have hsl : (∀ r, (slowOp P call o fr st r).good Q K) → o.wpIn (FW rd) 0 P a w next Qx := fun h => slow_sound hc hf h hr hn
  have hs : ev2 fr so = (evP fr so).2 := rfl
  have hx : ev2 fr xo = (evP fr xo).2 := rfl
  have hex : execOp a.eval o = (do let d ← resolve (ev2 fr) c o.type; invoke d.target d.args) := by simp only [execOp, ho, hf.eval]
  generalize slowOp P call o fr = slow at h hsl
  generalize evP fr so = ps at h hs
  generalize evP fr xo = px at h hx
  unfold zrO at h
  split at h
  · rename_i e z k bytes hint hz
    unfold zrV at h
    split at h
    · rename_i n1 m
      unfold zrC at h
      split at h
      · rename_i hb
        have hm : m.toNat = n1 := (h r0).1
        have h2 := fun r => (h r).2
        simp only [Bool.and_eq_true] at hb
        have g1 := Nat.le_of_ble_eq_true hb.1
        have g2 := Nat.le_of_ble_eq_true hb.2.1
        have g3 := Nat.le_of_ble_eq_true hb.2.2
        obtain rfl : m = (n1 : Int) := by omega
        obtain ⟨kn, hkn⟩ : ∃ kn, P.underlying t' = some (.int kn) := by
          unfold intT at hint
          split at hint
          · rename_i kn hu; exact ⟨kn, hu⟩
          · cases hint
        obtain ⟨hrun, hk, hk0⟩ := run_zeros_any (w := w) (ty := o.type) hz hkn n1 g1 g2 g3
        have hge := grownCap_ge w n1 0 e
        have hcm : grownCap w n1 0 e ≤ maxLen := grownCap_le_maxLen w n1 0 e (by unfold maxLen; omega)
        generalize hC : grownCap w n1 0 e = C at hrun hge hcm
        generalize hcur : Builtin.zeroCells z n1 ++ Builtin.zeroCells z (C - n1) = cur at hrun
        have hsz : cur.size = C * k := by
          rw [← hcur]
          simp only [Array.size_append, size_zeroCells, hk, ← Nat.add_mul]
          congr 1
          omega
        have hgr : w.grownBy (w.drew.alloc (.cells cur e)) none := ⟨rfl, rfl, rfl, by simp, fun j hj _ => heap_alloc_old w.drew _ hj⟩
        have hfit : (⟨st.nt, w.heap.size, .cells (zrL z.toList n1).toArray e, .cells cur e, true, true, none, some (C, k)⟩ : Ent).Fit := by
          refine ⟨fun R hR => (by cases hR), fun cp k' hc => ?_, fun R _ hR => (by cases hR)⟩
          simp only [Option.some.injEq, Prod.mk.injEq] at hc
          obtain ⟨rfl, rfl⟩ := hc
          exact ⟨cur, e, rfl, hsz, hcm⟩
        have hcur2 : (zrL z.toList n1 ++ (arV (.agg (Builtin.zeroCells z (C - n1)))).toList).toArray = cur := by
          rw [← hcur, ← zrL_eq]
          simp [arV]
        have hq : ∀ r, Q (.slice (some ⟨st.nt, 0, none⟩) n1 0, .slice (some ⟨w.heap.size, 0, none⟩) n1 C, ⟨⟨st.nt, w.heap.size, .cells (zrL z.toList n1).toArray e, .cells cur e, true, true, none, some (C, k)⟩ :: st.M, st.nt + 1⟩, r) := fun r => by
          have := h2 (sup2 w.heap.size (.agg (Builtin.zeroCells z (C - n1))) C r)
          rw [← hcur2]
          exact this
        obtain ⟨F, hs', hB, hkk⟩ := hr
        refine upon_value ?_ hq (.close hs' hkk (new_rel (rm := none) (v := .slice none 0 0) (nt := st.nt + 1) hB (.inl rfl) hgr (.inr rfl) (heap_alloc_new w.drew _) hfit)) hn
        have ha' : c.args = #[so, xo] := by rw [← Array.toList_inj, hargs]
        have ht' : c.argTypes = #[t, t'] := by rw [← Array.toList_inj, htys]
        rw [hex]
        simp only [resolve, hcal, ha', ht', invoke, builtin, Sem.run_bind, Sem.run_pure, Result.andThen_ok, List.map_toArray, List.map_cons, List.map_nil, hs, hx, hrun]
      · exact (h r0).elim
    · exact hsl h
  · exact hsl h
theorem call_sound {c : Call} (ho : o.op = .call c) (hc : CallOk P N w0 call) (hf : FrOk fr a) (h : ∀ r, (callO P (slowOp P call o fr) call c.args c.argTypes fr st r c.callee).good Q K) (hr : Rel N w0 st w) (hn : Then N w0 a o.dst Q K next Qx) : o.wpIn (FW rd) 0 P a w next Qx := by
  unfold callO at h
  split at h
  · rename_i f hcal
    cases hp : plainF P f with
    | false => simp only [hp, callB1] at h; exact slow_sound hc hf h hr hn
    | true =>
      simp only [hp, callB1] at h
      obtain ⟨fn, h1, h2, h3⟩ := plainF_spec hp
      have hargs : c.args.toList.map (ev2 fr) = (c.args.map (ev2 fr)).toList := by simp
      rw [hargs] at h
      refine upon_enter hc ?_ h hr hn
      have hex : execOp a.eval o = (do let d ← resolve (ev2 fr) c o.type; invoke d.target d.args) := by simp only [execOp, ho, hf.eval]
      rw [hex]
      have h2' : ¬ fn.name = "runtime.NumGoroutine" := by simpa using h2
      have h3' : ¬ fn.body = none := by
        intro hb; rw [hb] at h3; cases h3
      simp [resolve, hcal, ev2, evP, Deferred.ofValue, invoke, callFunc, program, Sem.run, h1, h2', h3']
  · rename_i hcal
    unfold appO at h
    split at h
    · rename_i so xo t t' hargs htys
      cases htt : Nat.beq t t' with
      | false =>
        rw [htt] at h
        simp only [appI] at h
        exact zr_sound ho hcal hargs htys hc hf h hr hn
      | true =>
      rw [htt] at h
      simp only [appI] at h
      have htt' : t = t' := Nat.eq_of_beq_eq_true htt
      subst htt'
      unfold appT at h
      split at h
      · rename_i e k bytes _ he
        unfold appK at h
        split at h
        · rename_i sa xa hsa hxa
          have h2 := fun r => clm_good (h r)
          have hcl := (h2 r0).1
          obtain ⟨v1, v', st', w', hrun, hrel, hq⟩ := app_soundR (ty := o.type) hr he hsa hxa (fun y hy => hcl y (List.mem_append_left _ hy)) (fun y hy => hcl y (List.mem_append_right _ hy)) (fun r => (h2 r).2)
          refine upon_value ?_ hq hrel hn
          have hex : execOp a.eval o = (do let d ← resolve (ev2 fr) c o.type; invoke d.target d.args) := by simp only [execOp, ho, hf.eval]
          have ha' : c.args = #[so, xo] := by rw [← Array.toList_inj, hargs]
          have ht' : c.argTypes = #[t, t] := by rw [← Array.toList_inj, htys]
          rw [hex]
          simp only [resolve, hcal, ha', ht', invoke, builtin, Sem.run_bind, Sem.run_pure, Result.andThen_ok, List.map_toArray, List.map_cons, List.map_nil]
          have hrun' : (Builtin.append_ #[t, t] o.type #[ev2 fr so, ev2 fr xo]).run P w = .ok v' w' := hrun
          simp only [hrun', Result.andThen_ok]
        · exact slow_sound hc hf h hr hn
      · exact slow_sound hc hf h hr hn
    · exact slow_sound hc hf h hr hn
  · rename_i hcal
    unfold lenO at h
    split at h
    · rename_i xo t hargs htys
      have hx : ev2 fr xo = (evP fr xo).2 := rfl
      generalize evP fr xo = px at h hx
      unfold lenU at h
      split at h
      · rename_i e hu
        unfold lenV at h
        split at h
        · rename_i x1 a0 n c0
          refine upon_value ?_ h hr hn
          have hex : execOp a.eval o = (do let d ← resolve (ev2 fr) c o.type; invoke d.target d.args) := by simp only [execOp, ho, hf.eval]
          have ha' : c.args = #[xo] := by rw [← Array.toList_inj, hargs]
          have ht' : c.argTypes = #[t] := by rw [← Array.toList_inj, htys]
          rw [hex]
          simp [resolve, hcal, ha', ht', invoke, builtin, hx, Builtin.len_, run_underlying' hu, goInt]
        · exact slow_sound hc hf h hr hn
      · exact slow_sound hc hf h hr hn
    · exact slow_sound hc hf h hr hn
  · rename_i hcal
    unfold panO at h
    split at h
    · rename_i xo hargs
      have hx : ev2 fr xo = (evP fr xo).2 := rfl
      generalize evP fr xo = px at h hx
      unfold panV at h
      split at h
      · rename_i v1 t v
        have ha' : c.args = #[xo] := by rw [← Array.toList_inj, hargs]
        refine upon_panic (v := .iface t v) ?_ (fun c hc => by rw [ho] at hc; cases hc) h hr hn
        have hex : execOp a.eval o = (do let d ← resolve (ev2 fr) c o.type; invoke d.target d.args) := by simp only [execOp, ho, hf.eval]
        rw [hex]
        simp [resolve, hcal, ha', invoke, builtin, hx, Instr.panic, goPanic, Sem.run]
      · exact slow_sound hc hf h hr hn
    · exact slow_sound hc hf h hr hn
  · exact slow_sound hc hf h hr hn
theorem pick_sound {c x y : Operand} (ho : o.op = .pick c x y) (hc : CallOk P N w0 call) (hf : FrOk fr a) (h : ∀ r, (pickV (slowOp P call o fr) (evP fr x) (evP fr y) st r (evP fr c)).good Q K) (hr : Rel N w0 st w) (hn : Then N w0 a o.dst Q K next Qx) : o.wpIn (FW rd) 0 P a w next Qx := by
  have hx : ev2 fr x = (evP fr x).2 := rfl
  have hy : ev2 fr y = (evP fr y).2 := rfl
  have hcc : ev2 fr c = (evP fr c).2 := rfl
  generalize evP fr x = p at h hx
  generalize evP fr y = q at h hy
  generalize evP fr c = s at h hcc
  obtain ⟨x1, x2⟩ := p
  obtain ⟨y1, y2⟩ := q
  have hrun : ∀ v, s.2 = .bool v → (execOp a.eval o).run P w = .ok (.value (if v then x2 else y2)) w := by
    intro v hv
    have hex : execOp a.eval o = (do pure (.value (if ← asBool (ev2 fr c) then ev2 fr x else ev2 fr y))) := by simp only [execOp, ho, hf.eval]
    rw [hex, hx, hy, hcc, hv]
    simp [asBool]
  unfold pickV at h
  split at h
  · rename_i b v
    have := hrun v rfl
    cases v <;> exact upon_value (by simpa using this) h hr hn
  · rename_i v _
    have hv := hrun v rfl
    simp only at h
    unfold pickS at h
    split at h
    · rename_i i j
      refine upon_value (v := .bool (cond v i j)) ?_ h hr hn
      rw [hv]
      cases v <;> rfl
    · cases v with
      | true => exact upon_value (by simpa using hv) (fun r => (h r).1 rfl) hr hn
      | false => exact upon_value (by simpa using hv) (fun r => (h r).2 rfl) hr hn
  · exact slow_sound hc hf h hr hn
theorem run_zero' {t : TypeId} {z : Value} (h : zeroT P t = some z) : (zeroValue t).run P w = .ok z w := by
  unfold zeroT at h
  cases hi : P.info? t with
  | none => rw [hi] at h; cases h
  | some i =>
    rw [hi] at h
    have hz' : i.zero = some z := h
    simp [zeroValue, run_typeInfo' hi, hz']
theorem least_some {s : String} {l : List String} : ∃ m, Instr.least (s :: l) = some m := ⟨_, rfl⟩
theorem missing_none {want : Array (String × TypeId)} {got : Array Method} (h : missL want got = []) : Instr.missingMethod want got = none := by
  unfold missL at h
  unfold Instr.missingMethod
  rw [h]
  rfl
theorem missing_some {want : Array (String × TypeId)} {got : Array Method} {x : String × TypeId} {l : List (String × TypeId)} (h : missL want got = x :: l) : ∃ m, Instr.missingMethod want got = some m := by
  unfold missL at h
  unfold Instr.missingMethod
  rw [h]
  simp only [List.map_cons, List.partition_eq_filter_filter]
  cases hx : x.1.contains '.' with
  | true =>
    cases h1 : Instr.least (List.filter (not ∘ fun y => y.contains '.') (x.1 :: l.map (·.1))) with
    | some m => exact ⟨m, rfl⟩
    | none =>
      simp only [List.filter_cons, hx, if_true, List.map_cons]
      exact ⟨_, rfl⟩
  | false =>
    have : List.filter (not ∘ fun y => y.contains '.') (x.1 :: l.map (·.1)) = x.1 :: List.filter (not ∘ fun y => y.contains '.') (l.map (·.1)) :=
      List.filter_cons_of_pos (by show (!x.1.contains '.') = true; rw [hx]; rfl)
    rw [this]
    exact ⟨_, rfl⟩
theorem ta_sound {x : Operand} {t asserted : TypeId} {ok : Bool} (ho : o.op = .typeAssert x t asserted ok) (hc : CallOk P N w0 call) (hf : FrOk fr a) (h : ∀ r, (taO P (slowOp P call o fr) asserted (evP fr x) st r ok).good Q K) (hr : Rel N w0 st w) (hn : Then N w0 a o.dst Q K next Qx) : o.wpIn (FW rd) 0 P a w next Qx := by
  have hx : ev2 fr x = (evP fr x).2 := rfl
  generalize evP fr x = p at h hx
  have hsl : (∀ r, (slowOp P call o fr st r).good Q K) → o.wpIn (FW rd) 0 P a w next Qx := fun h => slow_sound hc hf h hr hn
  have hex : execOp a.eval o = (do let v ← Instr.typeAssert (ev2 fr x) t asserted ok; pure (.value v)) := by simp only [execOp, ho, hf.eval]
  unfold taO at h
  split at h
  · unfold taU at h
    split at h
    · rename_i want hu
      unfold taV at h
      split at h
      · rename_i ty v hp
        cases hi : P.info? ty with
        | none => rw [hi] at h; exact hsl h
        | some i =>
          rw [hi] at h
          simp only [taI] at h
          cases hm : missL want i.methods with
          | nil =>
            rw [hm] at h
            simp only [taM] at h
            refine upon_value ?_ h hr hn
            rw [hex, hx, hp]
            simp [Instr.typeAssert, run_underlying' hu, run_typeInfo' hi, missing_none hm]
          | cons y l =>
            rw [hm] at h
            simp only [taM] at h
            cases hz : zeroT P asserted with
            | none => rw [hz] at h; exact hsl h
            | some z =>
              rw [hz] at h
              simp only [taZ] at h
              obtain ⟨m, hmm⟩ := missing_some hm
              refine upon_value ?_ h hr hn
              rw [hex, hx, hp]
              simp [Instr.typeAssert, run_underlying' hu, run_typeInfo' hi, hmm, run_zero' hz]
      · exact hsl h
    · exact hsl h
  · exact hsl h
theorem idx_sound {t : TypeId} {x i : Operand} (ho : o.op = .indexAddr t x i) (hc : CallOk P N w0 call) (hf : FrOk fr a) (h : ∀ r, (idxO (slowOp P call o fr) (evP fr x) (evP fr i) st r (idxT P t)).good Q K) (hr : Rel N w0 st w) (hn : Then N w0 a o.dst Q K next Qx) : o.wpIn (FW rd) 0 P a w next Qx := by
  have hx : ev2 fr x = (evP fr x).2 := rfl
  have hi : ev2 fr i = (evP fr i).2 := rfl
  have hex : execOp a.eval o = (do pure (.value (← Instr.indexAt t (ev2 fr x) (ev2 fr i)))) := by simp only [execOp, ho, hf.eval]
  have hsl : (∀ r, (slowOp P call o fr st r).good Q K) → o.wpIn (FW rd) 0 P a w next Qx := fun h => slow_sound hc hf h hr hn
  generalize slowOp P call o fr = slow at h hsl
  generalize evP fr x = px at h hx
  generalize evP fr i = pi at h hi
  unfold idxT at h
  split at h
  · rename_i e hu
    cases hin : P.info? e with
    | none => simp only [hin, idxO] at h; exact hsl h
    | some inf =>
      simp only [hin, idxO] at h
      unfold idxS at h
      split at h
      · rename_i tag off1 sp l1 c1 a0 len cp hi1 kk z
        cases hfi : find st.M tag with
        | none => simp only [hfi, idxE] at h; exact (h r0).elim
        | some en =>
          simp only [hfi, idxE] at h
          unfold idxR at h
          split at h
          · rename_i R hk1 hrow
            have h1 := fun r => clm_good (h r)
            have h2 := fun r => ite_true (h1 r).2
            have hz := (h2 r0).1
            have hcl := (h1 r0).1
            have c1 : len = R.n := hcl (len, R.n) (by simp)
            have c2 : inf.size = R.k := hcl (inf.size, R.k) (by simp)
            have hk0 := Nat.le_of_ble_eq_true hk1
            obtain ⟨_, _, hE⟩ := hr.ent (find_mem hfi)
            obtain ⟨q1, _⟩ := row_cell hE hrow (j := 0) (c := 0) (by omega) (by omega)
            have ha := sameA_eq (a := a0) (fun y hy => hcl y (List.mem_cons_of_mem _ (List.mem_cons_of_mem _ hy))) q1
            refine upon_value ?_ (fun r => (h2 r).2) hr hn
            rw [hex, hx, hi, ha]
            simp [Instr.indexAt, asIntOf, run_underlying' hu, run_sizeOf' hin, hz, add_none, getA]
          · exact (h r0).elim
      · exact hsl h
  · rename_i n e hu
    cases hin : P.info? e with
    | none => simp only [hin, idxO] at h; exact hsl h
    | some inf =>
      simp only [hin, idxO] at h
      unfold idxA at h
      split at h
      · exact hsl h
      · rename_i tag off1 sp b off hi1 kk z _
        have h2 := fun r => ite_true (h r)
        have hz := (h2 r0).1
        refine upon_value ?_ (fun r => (h2 r).2) hr hn
        rw [hex, hx, hi]
        simp [Instr.indexAt, asIntOf, run_underlying' hu, run_sizeOf' hin, hz, add_none, Instr.sureAddr]
      · exact hsl h
  · exact hsl h
theorem mixV_eq (q : Bool) (x y : Value) : mixV q x y = cond q x y := by
  unfold mixV
  split
  · rename_i k a k' b
    unfold mixI
    cases hb : Nat.beq (kn k) (kn k') with
    | true =>
      have : k = k' := by cases k <;> cases k' <;> first | rfl | (exact absurd hb (by decide))
      subst this
      cases q <;> rfl
    | false => rfl
  · cases q <;> rfl
  · rfl
theorem upG_at (g : Nat → Nat → Value) (j c : Nat) (v : Value) (j' c' : Nat) : upG g j c v j' c' = if j' = j ∧ c' = c then v else g j' c' := by
  unfold upG
  rw [mixV_eq]
  by_cases h : j' = j ∧ c' = c
  · rw [if_pos h, h.1, h.2, Nat.beq_refl, Nat.beq_refl]; rfl
  · rw [if_neg h]
    have : (Nat.beq j' j && Nat.beq c' c) = false := by
      cases hb : (Nat.beq j' j && Nat.beq c' c) with
      | false => rfl
      | true =>
        simp only [Bool.and_eq_true] at hb
        exact absurd ⟨Nat.eq_of_beq_eq_true hb.1, Nat.eq_of_beq_eq_true hb.2⟩ h
    rw [this]; rfl
theorem upL_at : ∀ (vs : List Value) (g : Nat → Nat → Value) (j c j' c' : Nat), upL g j c vs j' c' = if j' = j ∧ c ≤ c' ∧ c' < c + vs.length then vs.getD (c' - c) undef else g j' c'
  | [], g, j, c, j', c' => by
    rw [if_neg (by simp only [List.length_nil]; omega)]; rfl
  | v :: l, g, j, c, j', c' => by
    show upL (upG g j c v) j (c + 1) l j' c' = _
    rw [upL_at l, upG_at]
    by_cases h : j' = j ∧ c + 1 ≤ c' ∧ c' < c + 1 + l.length
    · rw [if_pos h, if_pos (by simp only [List.length_cons]; omega), show c' - c = (c' - (c + 1)) + 1 by omega, List.getD_cons_succ]
    · rw [if_neg h]
      by_cases h2 : j' = j ∧ c' = c
      · rw [if_pos h2, if_pos (by simp only [List.length_cons]; omega), h2.2, Nat.sub_self]; rfl
      · rw [if_neg h2, if_neg (by simp only [List.length_cons]; omega)]
theorem find_splitR : ∀ {M : List Ent} {t : Nat} {e : Ent}, find M t = some e → ∃ pre post, M = pre ++ e :: post ∧ ∀ c R, setR M t c R = pre ++ { e with cur := c, row := some R } :: post
  | [], _, _, h => by simp [find] at h
  | x :: M, t, e, h => by
    simp only [find] at h
    cases hb : Nat.beq x.tag t with
    | true =>
      rw [hb] at h
      simp only [Option.some.injEq] at h
      subst h
      exact ⟨[], M, rfl, fun l c => by simp [setR, hb]⟩
    | false =>
      rw [hb] at h
      obtain ⟨pre, post, rfl, hs⟩ := find_splitR (M := M) h
      exact ⟨x :: pre, post, rfl, fun l c => by simp [setR, hb, hs l c]⟩
theorem upA_get {A : Array Value} {o : Nat} {vs : List Value} (h : o + vs.length ≤ A.size) (p : Nat) : (upA A o vs).toList[p]? = if o ≤ p ∧ p < o + vs.length then some (vs.getD (p - o) undef) else A.toList[p]? := by
  unfold upA
  have hlen : (A.toList.take o).length = o := by rw [List.length_take]; simp; omega
  by_cases h1 : p < o
  · rw [if_neg (by omega), List.append_assoc, List.getElem?_append_left (by rw [hlen]; exact h1), List.getElem?_take_of_lt h1]
  · by_cases h2 : p < o + vs.length
    · rw [if_pos ⟨by omega, h2⟩, List.append_assoc, List.getElem?_append_right (by rw [hlen]; omega), hlen, List.getElem?_append_left (by omega), List.getD_eq_getElem?_getD]
      have : p - o < vs.length := by omega
      rw [List.getElem?_eq_getElem this]; rfl
    · rw [if_neg (by omega), List.append_assoc, List.getElem?_append_right (by rw [hlen]; omega), hlen, List.getElem?_append_right (by omega), List.getElem?_drop]
      congr 1; omega
theorem upA_size {A : Array Value} {o : Nat} {vs : List Value} (h : o + vs.length ≤ A.size) : (upA A o vs).size = A.size := by
  unfold upA
  simp only [List.size_toArray, List.length_append, List.length_take, List.length_drop, Array.length_toList]
  omega
theorem bN_t {b : Bool} (h : bN b = 1) : b = true := by cases b <;> simp [bN] at h ⊢
theorem bN_f {b : Bool} (h : bN b = 0) : b = false := by cases b <;> simp [bN] at h ⊢
/-- a store into an element of a row of its own -/
theorem store_rowB {Q : VQ} {tag c j b off : Nat} {vs : List Value} {en : Ent} (hf : find st.M tag = some en) (h : ∀ r, (stRO tag c j b off vs en st r en.row en.cap en.cur).good Q K) (hr : RelB N w0 st w) :
    ∃ st' w', (storeCells ⟨b, off, none⟩ vs).run P w = .ok () w' ∧ RelB N w0 st' w' ∧ ∀ r, Q (undef, undef, st', r) := by
  have hE := hr.ent en (find_mem hf)
  generalize hrow : en.row = ro at h
  generalize hcp : en.cap = cp at h
  generalize hcur : en.cur = cu at h
  unfold stRO at h
  split at h
  · rename_i R cc k' A T
    have h1 := fun r => clm_good (h r)
    have hcl := (h1 r0).1
    have c1 : bN en.rw = bN (isS R.a) := hcl (bN en.rw, bN (isS R.a)) (by simp)
    have c2 : bN en.own = bN (isS R.a) := hcl (bN en.own, bN (isS R.a)) (by simp)
    have c3 : b = (getA R.a).block := hcl (b, (getA R.a).block) (by simp)
    have c4 : off = (getA R.a).off + (j * R.k + c) := hcl (off, (getA R.a).off + (j * R.k + c)) (by simp)
    have c5 : k' = R.k := hcl (k', R.k) (by simp)
    have h2 := fun r => ble_true (h1 r).2
    have hj : j < R.n := (h2 r0).1
    cases hB : (Nat.ble (c + vs.length) R.k && (Nat.ble 1 vs.length && vs.all flatV)) with
    | false => rw [hB] at h2; exact ((h2 r0).2).elim
    | true =>
      rw [hB] at h2
      have h3 : ∀ r, Q (undef, undef, ⟨setR st.M tag (.cells (upA A (j * R.k + c) vs) T) ⟨R.a, R.k, R.n, upL R.g j c vs⟩, st.nt⟩, r) := fun r => (h2 r).2
      simp only [Bool.and_eq_true, List.all_eq_true] at hB
      have hck : c + vs.length ≤ R.k := Nat.le_of_ble_eq_true hB.1
      have hv1 : 1 ≤ vs.length := Nat.le_of_ble_eq_true hB.2.1
      cases hRa : R.a with
      | none =>
        rw [hRa] at c2
        have hown := bN_f c2
        have := (hE.row hown R hrow j 0 hj (by omega)).1
        rw [hRa] at this; cases this
      | some x =>
        rw [hRa] at c1 c2
        have hrw := bN_t c1
        obtain ⟨hN, hown⟩ := hE.rw hrw
        obtain ⟨hh, hF⟩ := hE.own hown
        have hRa' := hF.2.2 R _ hrow hcp
        rw [hRa'] at c3 c4
        have c3' : b = en.b := c3
        have c4' : off = j * R.k + c := by rw [c4]; show 0 + _ = _; omega
        subst c3' c4'
        obtain ⟨A', T', hA, hsz, hmx⟩ := hF.2.1 cc k' hcp
        rw [hcur] at hA
        cases hA
        rw [hcur] at hh
        have hcell : ∀ j' c', j' < R.n → c' < R.k → A.toList[j' * R.k + c']? = some (R.g j' c') := fun j' c' hj' hc' => by
          have := (hF.1 R hrow j' c' hj' hc').2
          rw [hcur, hRa'] at this
          simpa [getA, cellAt, nthL_get] using this
        have hfit : j * R.k + c + vs.length ≤ A.size := by
          have h9 := (List.getElem?_eq_some_iff.1 (hcell j (c + vs.length - 1) hj (by omega))).1
          simp only [Array.length_toList] at h9
          omega
        obtain ⟨pre, post, hM, hset⟩ := find_splitR hf
        have hrun := run_storeCells_at P en.b (j * R.k + c) T vs 0 A w hh (by omega) (fun v hv => flat_one (hB.2.2 v hv))
        have hnew : (A.toList.take (j * R.k + c + 0) ++ vs ++ A.toList.drop (j * R.k + c + 0 + vs.length)).toArray = upA A (j * R.k + c) vs := rfl
        rw [hnew] at hrun
        have hblk : en.b < w.heap.size := heap_lt hh
        refine ⟨_, _, hrun, ?_, h3⟩
        rw [hset]
        have hr' : RelB N w0 ⟨pre ++ en :: post, st.nt⟩ w := by rw [← hM]; exact hr
        refine hr'.updE hrw rfl hrw hown ⟨fun R' hR' j' c' hj' hc' => ?_, fun cp k hk => ?_, fun R' cp hR' _ => by simp only [Option.some.injEq] at hR'; subst hR'; exact hRa'⟩ (setRow_heap w en.b A _ T _ hh) (fun k hk => ?_) (by simp [World.setRow]) rfl rfl rfl
        · simp only [Option.some.injEq] at hR'
          subst hR'
          simp only at hj' hc' ⊢
          refine ⟨by rw [hRa']; rfl, ?_⟩
          rw [hRa']
          show nthL (upA A (j * R.k + c) vs).toList (0 + (j' * R.k + c')) = _
          rw [Nat.zero_add, nthL_get, upA_get hfit, upL_at, hcell j' c' hj' hc']
          have key : (j * R.k + c ≤ j' * R.k + c' ∧ j' * R.k + c' < j * R.k + c + vs.length) ↔ (j' = j ∧ c ≤ c' ∧ c' < c + vs.length) := by
            rcases Nat.lt_trichotomy j' j with h | h | h
            · have := Nat.mul_le_mul_right R.k (show j' + 1 ≤ j from h)
              rw [Nat.add_mul, Nat.one_mul] at this
              constructor <;> intro h' <;> omega
            · subst h
              constructor <;> intro h' <;> omega
            · have := Nat.mul_le_mul_right R.k (show j + 1 ≤ j' from h)
              rw [Nat.add_mul, Nat.one_mul] at this
              constructor <;> intro h' <;> omega
          by_cases hq : j' = j ∧ c ≤ c' ∧ c' < c + vs.length
          · rw [if_pos (key.2 hq), if_pos hq, hq.1]
            congr 2; omega
          · rw [if_neg (fun h => hq (key.1 h)), if_neg hq]
        · have hk' : en.cap = some (cp, k) := hk
          rw [hcp] at hk'
          simp only [Option.some.injEq, Prod.mk.injEq] at hk'
          obtain ⟨rfl, rfl⟩ := hk'
          exact ⟨_, _, rfl, by rw [upA_size hfit]; exact hsz, hmx⟩
        · simp only [World.setRow, Array.getElem?_modify]
          rw [if_neg (fun h => hk h.symm)]
  · exact (h r0).elim
theorem store_row {Q : VQ} {tag c j b off : Nat} {vs : List Value} {en : Ent} (hf : find st.M tag = some en) (h : ∀ r, (stRO tag c j b off vs en st r en.row en.cap en.cur).good Q K) (hr : Rel N w0 st w) :
    ∃ st' w', (storeCells ⟨b, off, none⟩ vs).run P w = .ok () w' ∧ Rel N w0 st' w' ∧ ∀ r, Q (undef, undef, st', r) := by
  obtain ⟨F, hs, hB, hk⟩ := hr
  obtain ⟨st', w', h1, h2, h3⟩ := store_rowB (P := P) hf h hB
  exact ⟨st', w', h1, .close hs hk h2, h3⟩
theorem sto_sound {t : TypeId} {x y : Operand} (ho : o.op = .store t x y) (hc : CallOk P N w0 call) (hf : FrOk fr a) (h : ∀ r, (stoO (slowOp P call o fr) (ev2 fr y) st r (evP fr x) (shapeT P t)).good Q K) (hr : Rel N w0 st w) (hn : Then N w0 a o.dst Q K next Qx) : o.wpIn (FW rd) 0 P a w next Qx := by
  have hx : ev2 fr x = (evP fr x).2 := rfl
  have hex : execOp a.eval o = (do Instr.storeAt t (ev2 fr x) (ev2 fr y); pure .skip) := by simp only [execOp, ho, hf.eval]
  have hsl : (∀ r, (slowOp P call o fr st r).good Q K) → o.wpIn (FW rd) 0 P a w next Qx := fun h => slow_sound hc hf h hr hn
  generalize slowOp P call o fr = slow at h hsl
  generalize evP fr x = px at h hx
  generalize ev2 fr y = v at h hex
  cases hs : shapeT P t with
  | none => simp only [hs, stoO] at h; exact hsl h
  | some bn =>
    obtain ⟨ag, n⟩ := bn
    simp only [hs, stoO] at h
    obtain ⟨_, hsize⟩ := shapeT_spec (w := w) hs
    unfold stoV at h
    split at h
    · rename_i tag c sp b off
      unfold stoS at h
      split at h
      · rename_i j
        cases hl : Nat.beq v.cells.toList.length n with
        | false => rw [hl] at h; exact (h r0).elim
        | true =>
          rw [hl] at h
          simp only [stRN] at h
          cases hfi : find st.M tag with
          | none => rw [hfi] at h; exact (h r0).elim
          | some en =>
            rw [hfi] at h
            obtain ⟨st', w', hrun, hrel, hq⟩ := store_row (P := P) hfi h hr
            refine upon_skip ?_ hq hrel hn
            rw [hex, hx]
            have hsz : v.cells.size = n := by have := Nat.eq_of_beq_eq_true hl; simpa using this
            simp [Instr.storeAt, Instr.sureAddr, storeVar, hsize, hsz, hrun]
      · exact hsl h
    · exact hsl h
theorem run_make_any {t : TypeId} {e k bytes : Nat} {z : Array Value} (hz : zelT P t = some (e, z, k, bytes)) (n : Nat) (hb : bytes * n ≤ 281474976710656) (h63 : n ≤ 9223372036854775807) :
    ∃ w', (Instr.makeSlice t (.int .i64 (n : Int)) (.int .i64 (n : Int))).run P w = .ok (.slice (some ⟨w.heap.size, 0, none⟩) n n) w' ∧ w'.ownsRow 0 e k (.slice (some ⟨w.heap.size, 0, none⟩) n n) n (madeCells z (n * k)).toList ∧ w.grownBy w' none ∧ z.size = k ∧ 0 < k := by
  unfold zelT at hz
  split at hz
  · rename_i e' hu
    split at hz
    · rename_i i hi
      split at hz
      · rename_i zz hzz
        split at hz
        · rename_i hB
          simp only [Option.some.injEq, Prod.mk.injEq] at hz
          obtain ⟨rfl, rfl, rfl, rfl⟩ := hz
          simp only [Bool.and_eq_true] at hB
          obtain ⟨w', r1, r2, r3⟩ := run_make_full (P := P) w 0 t e' i zz i.size hu hi hzz rfl .i64 .i64 n hb (by unfold maxLen; omega) (Nat.zero_le _)
          exact ⟨w', r1, r2, r3, Nat.eq_of_beq_eq_true hB.1, Nat.le_of_ble_eq_true hB.2⟩
        · cases hz
      · cases hz
    · cases hz
  · cases hz
theorem made_get {z : Array Value} {k n j c : Nat} (hz : z.size = k) (hj : j < n) (hc : c < k) : (madeCells z (n * k)).toList[j * k + c]? = some (mkZ z j c) := by
  have hlt : j * k + c < n * k := by
    have := Nat.mul_le_mul_right k (show j + 1 ≤ n from hj)
    rw [Nat.add_mul, Nat.one_mul] at this
    omega
  have hm : (j * k + c) % k = c := by rw [Nat.add_comm, Nat.add_mul_mod_self_right, Nat.mod_eq_of_lt hc]
  unfold mkZ madeCells
  rw [nthL_get]
  simp [hlt, hz, hm, hc]
theorem mk_sound {t : TypeId} {x y : Operand} (ho : o.op = .makeSlice t x y) (hc : CallOk P N w0 call) (hf : FrOk fr a) (h : ∀ r, (mkO (slowOp P call o fr) st r (evP fr x) (evP fr y) (zelT P t)).good Q K) (hr : Rel N w0 st w) (hn : Then N w0 a o.dst Q K next Qx) : o.wpIn (FW rd) 0 P a w next Qx := by
  have hx : ev2 fr x = (evP fr x).2 := rfl
  have hy : ev2 fr y = (evP fr y).2 := rfl
  have hex : execOp a.eval o = (do pure (.value (← Instr.makeSlice t (ev2 fr x) (ev2 fr y)))) := by simp only [execOp, ho, hf.eval]
  have hsl : (∀ r, (slowOp P call o fr st r).good Q K) → o.wpIn (FW rd) 0 P a w next Qx := fun h => slow_sound hc hf h hr hn
  generalize slowOp P call o fr = slow at h hsl
  generalize evP fr x = px at h hx
  generalize evP fr y = py at h hy
  cases hz : zelT P t with
  | none => rw [hz] at h; exact hsl h
  | some q =>
    obtain ⟨e, z, k, bytes⟩ := q
    rw [hz] at h
    simp only [mkO] at h
    unfold mkI at h
    split at h
    · exact hsl h
    · rename_i u1 k1 n u2 k2 m _
      have h1 := fun r => ite_true (h r)
      have hnm := (h1 r0).1
      subst hnm
      have h2 := fun r => (h1 r).2
      cases hk : (Nat.beq (kn k1) 3 && Nat.beq (kn k2) 3) with
      | false => rw [hk] at h2; exact ((h2 r0).2 rfl).elim
      | true =>
        rw [hk] at h2
        have h3 := fun r => (h2 r).1 rfl
        simp only [Bool.and_eq_true] at hk
        have e1 : k1 = .i64 := by have := hk.1; cases k1 <;> first | rfl | exact absurd this (by decide)
        have e2 : k2 = .i64 := by have := hk.2; cases k2 <;> first | rfl | exact absurd this (by decide)
        subst e1 e2
        have h4 := fun r => ite_true (h3 r)
        obtain ⟨g1, g2, g3⟩ := (h4 r0).1
        simp only at g2
        have hnn : n = (n.toNat : Int) := by omega
        obtain ⟨w', r1, r2, r3, r4, r5⟩ := run_make_any (w := w) hz n.toNat (by have : ((bytes * n.toNat : Nat) : Int) = bytes * n := by rw [Int.natCast_mul, ← hnn]
                                                                                omega) (by omega)
        obtain ⟨hl', hrow⟩ := r2
        rcases hrow with ⟨hv, _⟩ | ⟨g, cap, cur, hv, _, hheap, hle, hcm, hsz, htake⟩
        · cases hv
        · simp only [Value.slice.injEq, Option.some.injEq, Addr.mk.injEq, and_true, true_and] at hv
          obtain ⟨rfl, rfl⟩ := hv
          have hfit := row_fit (g := w.heap.size) (e := e) (nt := st.nt) (gg := mkZ z) hle hcm hsz htake (fun j c hj hc => made_get r4 hj hc) (.cells #[] e)
          have hq : ∀ r, Q (.slice (some ⟨st.nt, 0, some 0⟩) 0 0, .slice (some ⟨w.heap.size, 0, none⟩) n.toNat n.toNat, ⟨⟨st.nt, w.heap.size, .cells #[] e, .cells cur e, true, true, some ⟨some ⟨w.heap.size, 0, none⟩, k, n.toNat, mkZ z⟩, some (n.toNat, k)⟩ :: st.M, st.nt + 1⟩, r) := fun r => (h4 (Sup.consV w.heap.size (.agg cur) r)).2
          obtain ⟨F, hs, hB, hkk⟩ := hr
          refine upon_value ?_ hq (.close hs hkk (new_rel (rm := none) (v := .slice none 0 0) (nt := st.nt + 1) hB (.inl rfl) r3 (.inr rfl) hheap hfit)) hn
          rw [hex, hx, hy]
          rw [← hnn] at r1
          simp [r1]
    · exact hsl h
theorem bd_spec {x : Option (Value × Value)} {i : Option Int} (h : bdK x = some i) : (x = none ∧ i = none) ∨ ∃ u z, x = some (u, .int .i64 z) ∧ i = some z := by
  unfold bdK at h
  split at h
  · cases h; exact .inl ⟨rfl, rfl⟩
  · cases h; exact .inr ⟨_, _, rfl, rfl⟩
  · cases h
theorem run_bound {z : Int} {y : Nat} {code : BoundsCode} (h0 : 0 ≤ z) (h1 : z ≤ (y : Int)) : (Instr.sliceBound (.int .i64 z) y code).run P w = .ok z.toNat w := by
  simp [Instr.sliceBound, asIntOf, h0, h1]
theorem slcQ_t {len cap : Nat} {l h : Int} {cp : Option (Nat × Nat)} {mx : Option Int} (hq : slcQ len cap l h cp mx = true) (hc : ∀ x, cp = some x → len ≤ cap) : 0 ≤ l ∧ l ≤ h ∧ h ≤ (len : Int) ∧ h ≤ mx.getD cap ∧ mx.getD cap ≤ (cap : Int) := by
  unfold slcQ at hq
  split at hq
  · simp only [decide_eq_true_eq] at hq; simpa using hq
  · simp only [decide_eq_true_eq] at hq
    simp only [Option.getD_none]
    omega
  · simp only [decide_eq_true_eq] at hq
    have := hc _ rfl
    simp only [Option.getD_some]
    omega
  · simp only [decide_eq_true_eq] at hq
    have := hc _ rfl
    simp only [Option.getD_none]
    omega
theorem slcF_soundB {Q : VQ} {k tag len cap : Nat} {a0 : Option Addr} {l h : Int} {mx : Option Int} (hk : 0 < k) (hg : ∀ r, (slcF k a0 len cap l h mx st r (find st.M tag)).good Q K) (hr : RelB N w0 st w) :
    (0 ≤ l ∧ l ≤ h ∧ h ≤ (len : Int) ∧ h ≤ mx.getD cap ∧ mx.getD cap ≤ (cap : Int)) ∧ ∃ v1 st', (∀ r, Q (v1, .slice (adC (decide ((mx.getD cap).toNat = l.toNat)) a0 (l.toNat * k)) (h.toNat - l.toNat) ((mx.getD cap).toNat - l.toNat), st', r)) ∧ RelB N w0 st' w := by
  cases hf : find st.M tag with
  | none => rw [hf] at hg; exact (hg r0).elim
  | some en =>
    rw [hf] at hg
    simp only [slcF] at hg
    have hE := hr.ent en (find_mem hf)
    generalize hrw : en.rw = rwb at hg
    generalize how : en.own = owb at hg
    generalize hrow : en.row = ro at hg
    unfold slcE at hg
    split at hg
    · rename_i R
      have h1 := fun r => clm_good (hg r)
      have hcl := (h1 r0).1
      have c1 : len = R.n := hcl (len, R.n) (by simp)
      have c2 : k = R.k := hcl (k, R.k) (by simp)
      have h2 : ∀ r, slcQ len cap l h en.cap mx = true ∧ _ := fun r => ite_trueB (h1 r).2
      have hcap : ∀ x, en.cap = some x → len ≤ cap := fun x hx => by
        obtain ⟨c, q⟩ := x
        have e1 : cap = c := hcl (cap, c) (by rw [hx]; simp [slcC])
        rw [e1, c1]
        exact row_cap hE how hrow hx (by omega)
      have hb := slcQ_t (h2 r0).1 hcap
      refine ⟨hb, _, _, fun r => (h2 r).2, ?_⟩
      generalize mx.getD cap = m at hb ⊢
      generalize hd : decide (m.toNat = l.toNat) = q
      have hne : 0 < h.toNat - l.toNat → q = false := fun hp => by rw [← hd]; exact decide_eq_false (by omega)
      -- an element of the part
      have el : ∀ j c, j < h.toNat - l.toNat → c < k → adC q a0 (l.toNat * k) = some ⟨en.b, (getA (adC q a0 (l.toNat * k))).off, none⟩ ∧ w.cell? ⟨en.b, (getA (adC q a0 (l.toNat * k))).off + (j * k + c), none⟩ = some (R.g (l.toNat + j) c) := by
        intro j c hj hc
        obtain ⟨q1, q2⟩ := row_cell hE hrow (j := l.toNat + j) (c := c) (by omega) (by omega)
        have ha := sameA_eq (a := a0) (fun y hy => hcl y (List.mem_cons_of_mem _ (List.mem_cons_of_mem _ (List.mem_append_right _ hy)))) q1
        rw [hne (by omega), ha]
        have : adC false (some ⟨en.b, (getA R.a).off, none⟩) (l.toNat * k) = some ⟨en.b, (getA R.a).off + l.toNat * k, none⟩ := by
          show some (Addr.add _ _) = _
          rw [add_none]
        rw [this]
        refine ⟨rfl, ?_⟩
        rw [← c2] at q2
        rw [← q2]
        congr 2
        show (getA R.a).off + l.toNat * k + (j * k + c) = _
        rw [Nat.add_mul]; omega
      refine ⟨fun e he => ?_, List.pairwise_cons.2 ⟨fun f _ hfr => (by cases hfr), hr.dist⟩, hr.low, hr.size⟩
      rcases List.mem_cons.1 he with rfl | he
      · have hol : (⟨st.nt, en.b, .cells #[] 0, .cells #[] 0, false, false, some ⟨adC q a0 (l.toNat * k), k, h.toNat - l.toNat, fun j c => R.g (l.toNat + j) c⟩, some (m.toNat - l.toNat, k)⟩ : Ent).Holds w := by
          refine ⟨fun ho => (by cases ho), fun off v hv => (by simp [cellAt, nthL] at hv), fun _ R' hR' j c hj hc => ?_⟩
          simp only [Option.some.injEq] at hR'
          subst hR'
          obtain ⟨e1, e2⟩ := el j c hj hc
          refine ⟨e1, e2, fun cp q hcp => ?_⟩
          simp only [Option.some.injEq, Prod.mk.injEq] at hcp
          obtain ⟨rfl, rfl⟩ := hcp
          simp only
          omega
        refine ⟨hol, fun hx => (by cases hx), fun _ => ?_⟩
        rcases hE.ro hrw with hN | hv
        · exact .inl hN
        · refine .inr ⟨rfl, fun off v hv => (by simp [cellAt, nthL] at hv), fun R' hR' j c hj hc => ?_⟩
          simp only [Option.some.injEq] at hR'
          subst hR'
          simp only at hj hc
          exact hv.2.2 R hrow (l.toNat + j) c (by omega) (by omega)
      · exact hr.ent e he
    · exact (hg r0).elim
theorem slcF_sound {Q : VQ} {k tag len cap : Nat} {a0 : Option Addr} {l h : Int} {mx : Option Int} (hk0 : 0 < k) (hg : ∀ r, (slcF k a0 len cap l h mx st r (find st.M tag)).good Q K) (hr : Rel N w0 st w) :
    (0 ≤ l ∧ l ≤ h ∧ h ≤ (len : Int) ∧ h ≤ mx.getD cap ∧ mx.getD cap ≤ (cap : Int)) ∧ ∃ v1 st', (∀ r, Q (v1, .slice (adC (decide ((mx.getD cap).toNat = l.toNat)) a0 (l.toNat * k)) (h.toNat - l.toNat) ((mx.getD cap).toNat - l.toNat), st', r)) ∧ Rel N w0 st' w := by
  obtain ⟨F, hs, hB, hk⟩ := hr
  obtain ⟨h1, v1, st', h2, h3⟩ := slcF_soundB hk0 hg hB
  exact ⟨h1, v1, st', h2, .close hs hk h3⟩
theorem slc_sound {t : TypeId} {x : Operand} {lo hi mx : Option Operand} (ho : o.op = .slice t x lo hi mx) (hc : CallOk P N w0 call) (hf : FrOk fr a) (h : ∀ r, (slcO (slowOp P call o fr) (evP fr x) (lo.map (evP fr)) (hi.map (evP fr)) (mx.map (evP fr)) st r (idxT P t)).good Q K) (hr : Rel N w0 st w) (hn : Then N w0 a o.dst Q K next Qx) : o.wpIn (FW rd) 0 P a w next Qx := by
  have hx : ev2 fr x = (evP fr x).2 := rfl
  have hm2 : ∀ y : Option Operand, y.map (ev2 fr) = (y.map (evP fr)).map Prod.snd := fun y => by cases y <;> rfl
  have hex : execOp a.eval o = (do pure (.value (← Instr.sliceAt t (ev2 fr x) ((lo.map (evP fr)).map Prod.snd) ((hi.map (evP fr)).map Prod.snd) ((mx.map (evP fr)).map Prod.snd)))) := by simp only [execOp, ho, hf.eval, hm2]
  have hsl : (∀ r, (slowOp P call o fr st r).good Q K) → o.wpIn (FW rd) 0 P a w next Qx := fun h => slow_sound hc hf h hr hn
  generalize slowOp P call o fr = slow at h hsl
  generalize evP fr x = px at h hx
  generalize lo.map (evP fr) = plo at h hex
  generalize hi.map (evP fr) = phi at h hex
  generalize mx.map (evP fr) = pmx at h hex
  unfold idxT at h
  split at h
  · rename_i e hu
    cases hin : P.info? e with
    | none => simp only [hin, slcO] at h; exact hsl h
    | some inf =>
      simp only [hin, slcO] at h
      cases hsz0 : Nat.ble 1 inf.size with
      | false => rw [hsz0] at h; exact hsl h
      | true =>
      rw [hsz0] at h
      have hsz : 0 < inf.size := Nat.le_of_ble_eq_true hsz0
      replace h : ∀ r, (slcV slow inf.size plo phi pmx st r px).good Q K := h
      unfold slcV at h
      split at h
      · rename_i tag o1 s1 l1 cc1 a0 len cap
        have fin : ∀ (l h' : Int) (mx : Option Int), (∀ r, (slcF inf.size a0 len cap l h' mx st r (find st.M tag)).good Q K) →
            ((0 ≤ l ∧ l ≤ h' ∧ h' ≤ (len : Int) ∧ h' ≤ mx.getD cap ∧ mx.getD cap ≤ (cap : Int)) → (Instr.sliceBounds true len cap (plo.map Prod.snd) (phi.map Prod.snd) (pmx.map Prod.snd)).run P w = .ok (l.toNat, h'.toNat, (mx.getD cap).toNat) w) → o.wpIn (FW rd) 0 P a w next Qx := by
          intro l h' mx hg hb
          obtain ⟨hB, v1, st', hq, hrel⟩ := slcF_sound hsz hg hr
          generalize mx.getD cap = m at hB hb hq
          refine upon_value ?_ hq hrel hn
          rw [hex, hx]
          have e1 : (if m.toNat = l.toNat then a0 else a0.map (·.add (l.toNat * inf.size))) = adC (decide (m.toNat = l.toNat)) a0 (l.toNat * inf.size) := by
            unfold adC
            by_cases hq : m.toNat = l.toNat
            · rw [if_pos hq, decide_eq_true hq]; rfl
            · rw [if_neg hq, decide_eq_false hq]; rfl
          simp [Instr.sliceAt, Instr.slice, run_underlying' hu, run_sizeOf' hin, hb hB, e1]
        unfold slcB at h
        split at h
        · rename_i lo' h' mx' q1 q2 q3
          refine fin (lo'.getD 0) h' mx' h fun hB => ?_
          obtain ⟨b1, b2, b3, b4, b5⟩ := hB
          rcases bd_spec q2 with ⟨_, q⟩ | ⟨u2, z2, e2, q⟩
          · cases q
          · cases q
            subst e2
            rcases bd_spec q1 with ⟨rfl, rfl⟩ | ⟨u1, z1, rfl, rfl⟩ <;> rcases bd_spec q3 with ⟨rfl, rfl⟩ | ⟨u3, z3, rfl, rfl⟩
            · simp only [Option.getD_none] at b1 b2 b4 b5
              have r2 := fun code => run_bound (P := P) (w := w) (z := h') (y := cap) (code := code) (by omega) (by omega)
              simp [Instr.sliceBounds, r2]
            · simp only [Option.getD_none, Option.getD_some] at b1 b2 b4 b5
              have r3 := fun code => run_bound (P := P) (w := w) (z := z3) (y := cap) (code := code) (by omega) (by omega)
              have r2 := fun code => run_bound (P := P) (w := w) (z := h') (y := z3.toNat) (code := code) (by omega) (by omega)
              simp [Instr.sliceBounds, r2, r3]
            · simp only [Option.getD_none, Option.getD_some] at b1 b2 b4 b5
              have r2 := fun code => run_bound (P := P) (w := w) (z := h') (y := cap) (code := code) (by omega) (by omega)
              have r1 := fun code => run_bound (P := P) (w := w) (z := z1) (y := h'.toNat) (code := code) (by omega) (by omega)
              simp [Instr.sliceBounds, r1, r2]
            · simp only [Option.getD_some] at b1 b2 b4 b5
              have r3 := fun code => run_bound (P := P) (w := w) (z := z3) (y := cap) (code := code) (by omega) (by omega)
              have r2 := fun code => run_bound (P := P) (w := w) (z := h') (y := z3.toNat) (code := code) (by omega) (by omega)
              have r1 := fun code => run_bound (P := P) (w := w) (z := z1) (y := h'.toNat) (code := code) (by omega) (by omega)
              simp [Instr.sliceBounds, r1, r2, r3]
        · rename_i lo' q1 q2 q3
          refine fin (lo'.getD 0) len none h fun hB => ?_
          obtain ⟨b1, b2, b3, b4, b5⟩ := hB
          simp only [Option.getD_none] at b4 b5 ⊢
          rcases bd_spec q2 with ⟨rfl, _⟩ | ⟨u2, z2, e2, q⟩
          · rcases bd_spec q3 with ⟨rfl, _⟩ | ⟨u3, z3, e3, q⟩
            · rcases bd_spec q1 with ⟨rfl, rfl⟩ | ⟨u1, z1, rfl, rfl⟩
              · simp [Instr.sliceBounds]
              · simp only [Option.getD_some] at b1 b2 b4 b5
                have r1 := fun code => run_bound (P := P) (w := w) (z := z1) (y := len) (code := code) (by omega) (by omega)
                simp [Instr.sliceBounds, r1]
            · cases q
          · cases q
        · exact hsl h
      · rename_i tag n1 c1 v
        unfold prtB at h
        split at h
        · rename_i pm
          unfold prtV at h
          split at h
          · rename_i b n cap
            unfold prtH at h
            split at h
            · rename_i x y z hx1 hy1 hz1
              cases hf' : find st.M tag with
              | none => rw [hf'] at h; exact hsl h
              | some en =>
                rw [hf'] at h
                simp only [prtE] at h
                obtain ⟨F, hE⟩ : ∃ F, EntOk F w en := let ⟨F, _, hE⟩ := hr.ent (find_mem hf'); ⟨F, hE⟩
                generalize hrw : en.own = q1 at h
                generalize hcp : en.cap = q2 at h
                generalize hrow : en.row = q3 at h
                generalize hcur : en.cur = q4 at h
                unfold prtO at h
                split at h
                · rename_i cp k' cc t
                  have hk' : k' = inf.size := (h r0).1
                  have h2 := fun r => (h r).2
                  generalize htk : takeC (.cells cc t (0, 0)) 0 (n1 * inf.size) = tk at h2
                  unfold prtC at h2
                  split at h2
                  · rename_i l
                    have h3 := fun r => clm_good (h2 r)
                    have hcl := (h3 r0).1
                    have e1 : b = en.b := hcl (b, en.b) (by simp)
                    have e2 : n = n1 := hcl (n, n1) (by simp)
                    have e3 : cap = cp := hcl (cap, cp) (by simp)
                    have e4 : x.2.toNat = x.1 := hcl (x.2.toNat, x.1) (by simp)
                    have e5 : y.2.toNat = y.1 := hcl (y.2.toNat, y.1) (by simp)
                    have e6 : z.2.toNat = z.1 := hcl (z.2.toNat, z.1) (by simp)
                    obtain ⟨p1, p2, p3⟩ : 0 ≤ x.2 ∧ 0 ≤ y.2 ∧ 0 ≤ z.2 := of_decide_eq_true (bN_t (hcl (bN (decide (0 ≤ x.2 ∧ 0 ≤ y.2 ∧ 0 ≤ z.2)), 1) (by simp)))
                    have h4 := fun r => (h3 r).2
                    cases hle : (Nat.ble x.1 y.1 && Nat.ble y.1 z.1 && Nat.ble z.1 n1) with
                    | false => simp only [hle] at h4; exact (h4 r0).elim
                    | true =>
                      simp only [hle] at h4
                      simp only [Bool.and_eq_true] at hle
                      obtain ⟨⟨g1, g2⟩, g3⟩ := hle
                      replace g1 := Nat.le_of_ble_eq_true g1
                      replace g2 := Nat.le_of_ble_eq_true g2
                      replace g3 := Nat.le_of_ble_eq_true g3
                      obtain ⟨_, hF⟩ := hE.own hrw
                      obtain ⟨A, T, hA, hsz', _⟩ := hF.2.1 cp k' hcp
                      rw [hcur] at hA
                      cases hA
                      obtain ⟨_, hle2⟩ := takeC_take htk
                      have hnc : n1 ≤ cp := Nat.le_of_mul_le_mul_right (by rw [hk'] at hsz'; rw [← hsz']; exact hle2) hsz
                      refine upon_value ?_ h4 hr hn
                      rw [hex, hx]
                      have q1 : (plo.map Prod.snd) = none ∧ x.2 = 0 ∨ (plo.map Prod.snd) = some (.int .i64 x.2) := by
                        unfold loB at hx1
                        split at hx1
                        · simp only [Option.some.injEq] at hx1; subst hx1; exact .inl ⟨rfl, rfl⟩
                        · simp only [Option.some.injEq] at hx1; subst hx1; exact .inr rfl
                        · cases hx1
                      have q2 : (phi.map Prod.snd) = some (.int .i64 y.2) := by
                        unfold hiB at hy1
                        split at hy1
                        · simp only [Option.some.injEq] at hy1; subst hy1; rfl
                        · cases hy1
                      have q3 : ((some pm).map Prod.snd) = some (.int .i64 z.2) := by
                        unfold hiB at hz1
                        split at hz1
                        · rename_i heq; simp only [Option.some.injEq] at hz1 heq; subst hz1 heq; rfl
                        · cases hz1
                      have r3 := fun code => run_bound (P := P) (w := w) (z := z.2) (y := cap) (code := code) p3 (by omega)
                      have r2 := fun code => run_bound (P := P) (w := w) (z := y.2) (y := z.2.toNat) (code := code) p2 (by omega)
                      have r1 := fun code => run_bound (P := P) (w := w) (z := x.2) (y := y.2.toNat) (code := code) p1 (by omega)
                      have e7 : (if z.2.toNat = x.2.toNat then (some ⟨b, 0, none⟩ : Option Addr) else (some ⟨b, 0, none⟩ : Option Addr).map (·.add (x.2.toNat * inf.size))) = adC (decide (z.2.toNat = x.2.toNat)) (some ⟨b, 0, none⟩) (x.2.toNat * inf.size) := by
                        unfold adC
                        by_cases hq : z.2.toNat = x.2.toNat
                        · rw [if_pos hq, decide_eq_true hq]; rfl
                        · rw [if_neg hq, decide_eq_false hq]; rfl
                      rw [q2, q3]
                      rcases q1 with ⟨q1, q1'⟩ | q1
                      · rw [q1]
                        rw [q1'] at e7 r1 ⊢
                        simp [Instr.sliceAt, Instr.slice, Instr.sliceBounds, run_underlying' hu, run_sizeOf' hin, r2, r3]
                        first | done | (simp only [Int.toNat_zero] at e7; simpa using e7)
                      · rw [q1]
                        simp [Instr.sliceAt, Instr.slice, Instr.sliceBounds, run_underlying' hu, run_sizeOf' hin, r1, r2, r3]
                        first | done | simpa using e7
                  · exact (h2 r0).elim
                · exact hsl h
            · exact hsl h
          · exact hsl h
        · unfold pfxB at h
          split at h
          · rename_i phi0 hlo _
            unfold pfxV at h
            split at h
            · rename_i b n cap
              unfold pfxH at h
              split at h
              · rename_i h1 hh
                cases hf' : find st.M tag with
                | none => rw [hf'] at h; exact hsl h
                | some en =>
                  rw [hf'] at h
                  simp only [pfxE] at h
                  obtain ⟨F, hE⟩ : ∃ F, EntOk F w en := let ⟨F, _, hE⟩ := hr.ent (find_mem hf'); ⟨F, hE⟩
                  generalize hrw : en.rw = q1 at h
                  generalize hcp : en.cap = q2 at h
                  generalize hrow : en.row = q3 at h
                  generalize hcur : en.cur = q4 at h
                  unfold pfxO at h
                  split at h
                  · rename_i cp k' cc t
                    have hk' : k' = inf.size := (h r0).1
                    have h2 := fun r => (h r).2
                    generalize htk : takeC (.cells cc t (0, 0)) 0 (n1 * inf.size) = tk at h2
                    unfold pfxC at h2
                    split at h2
                    · rename_i l
                      have h3 := fun r => clm_good (h2 r)
                      have hcl := (h3 r0).1
                      have e1 : b = en.b := hcl (b, en.b) (by simp)
                      have e2 : n = n1 := hcl (n, n1) (by simp)
                      have e3 : cap = cp := hcl (cap, cp) (by simp)
                      have e4 : hh.toNat = h1 := hcl (hh.toNat, h1) (by simp)
                      have e5 : 0 ≤ hh := of_decide_eq_true (bN_t (hcl (bN (decide (0 ≤ hh)), 1) (by simp)))
                      have h4 := fun r => (h3 r).2
                      cases hle : Nat.ble h1 n1 with
                      | false => simp only [hle] at h4; exact (h4 r0).elim
                      | true =>
                        simp only [hle] at h4
                        obtain ⟨_, hF⟩ := hE.own (hE.rw hrw).2
                        obtain ⟨A, T, hA, hsz', _⟩ := hF.2.1 cp k' hcp
                        rw [hcur] at hA
                        cases hA
                        obtain ⟨_, hle2⟩ := takeC_take htk
                        have hle3 := Nat.le_of_ble_eq_true hle
                        have hnc : n1 ≤ cp := Nat.le_of_mul_le_mul_right (by rw [hk'] at hsz'; rw [← hsz']; exact hle2) hsz
                        refine upon_value ?_ h4 hr hn
                        rw [hex, hx]
                        have r2 := fun code => run_bound (P := P) (w := w) (z := hh) (y := cap) (code := code) e5 (by omega)
                        have hz : (plo.map Prod.snd) = none ∨ (plo.map Prod.snd) = some (.int .i64 0) := by
                          unfold zeroB at hlo
                          split at hlo
                          · exact .inl rfl
                          · exact .inr rfl
                          · cases hlo
                        have r1 := fun y code => run_bound (P := P) (w := w) (z := 0) (y := y) (code := code) (by omega) (by omega)
                        rcases hz with hz | hz <;> rw [hz] <;> simp [Instr.sliceAt, Instr.slice, Instr.sliceBounds, run_underlying' hu, run_sizeOf' hin, r1, r2, Addr.add]
                    · exact (h2 r0).elim
                  · exact hsl h
              · exact hsl h
            · exact hsl h
          · exact hsl h
      · exact hsl h
  · rename_i n e hu
    cases hin : P.info? e with
    | none => simp only [hin, slcO] at h; exact hsl h
    | some inf => simp only [hin, slcO] at h; exact hsl h
  · exact hsl h
theorem evalOp_sound (hc : CallOk P N w0 call) (hf : FrOk fr a) (h : ∀ r, (evalOp P call o fr st r).good Q K) (hr : Rel N w0 st w) (hn : Then N w0 a o.dst Q K next Qx) : o.wpIn (FW rd) 0 P a w next Qx := by
  unfold evalOp fastOp at h
  split at h
  · rename_i x ho
    exact upon_value (v := ev2 fr x) (by simp only [execOp, ho, hf.eval]; rfl) h hr hn
  · rename_i x ho
    exact upon_value (v := ev2 fr x) (by simp only [execOp, ho, hf.eval]; rfl) h hr hn
  · rename_i c x y ho
    exact pick_sound ho hc hf h hr hn
  · rename_i op t x y u ho
    exact bin_sound ho hc hf h hr hn
  · rename_i op t x ho
    have hx : ev2 fr x = (evP fr x).2 := rfl
    generalize evP fr x = p at h hx
    have hex : execOp a.eval o = (do let v ← Op.unary op (ev2 fr x); pure (.value v)) := by simp only [execOp, ho, hf.eval]
    unfold unV at h
    split at h
    · exact upon_value (by rw [hex, hx]; simp [Op.unary]) h hr hn
    · exact upon_value (by rw [hex, hx]; simp [Op.unary]) h hr hn
    · exact slow_sound hc hf h hr hn
  · rename_i x ho
    have hx : ev2 fr x = (evP fr x).2 := rfl
    generalize evP fr x = p at h hx
    unfold nilV at h
    split at h
    · refine upon_value ?_ h hr hn
      simp only [execOp, ho, hf.eval, hx]
      rfl
    · exact slow_sound hc hf h hr hn
  · rename_i t x ho
    exact load_sound ho hc hf h hr hn
  · rename_i t x ho
    refine box_sound (x := evP fr x) ?_ h hr hn
    simp only [execOp, ho, hf.eval]
    simp [Instr.box, newVar, newRow, newObj, Sem.run, ev2]
  · rename_i t ho
    cases hz : zeroT P t with
    | none => simp only [hz, allocO] at h; exact slow_sound hc hf h hr hn
    | some z =>
      simp only [hz, allocO] at h
      refine box_sound (x := (z, z)) ?_ h hr hn
      unfold zeroT at hz
      cases hi : P.info? t with
      | none => rw [hi] at hz; cases hz
      | some i =>
        rw [hi] at hz
        have hz' : i.zero = some z := hz
        simp only [execOp, ho]
        simp [Instr.alloc, zeroValue, run_typeInfo' hi, hz', newVar, newRow, newObj, Sem.run]
  · rename_i s x f ho
    have hx : ev2 fr x = (evP fr x).2 := rfl
    generalize evP fr x = p at h hx
    cases hfo : fieldO P s f with
    | none => simp only [hfo, fieldK] at h; exact slow_sound hc hf h hr hn
    | some off =>
      simp only [hfo, fieldK] at h
      obtain ⟨fs, fx, i, h1, h2, h3, h4, rfl⟩ := fieldO_spec hfo
      unfold fieldV at h
      split at h
      · refine upon_value ?_ h hr hn
        simp only [execOp, ho, hf.eval, hx]
        simp [Instr.fieldAt, run_underlying' h1, h2, Instr.sureAddr, fieldPlace, run_sizeOf' h3, h4]
      · exact slow_sound hc hf h hr hn
  · rename_i t x i ho
    exact idx_sound ho hc hf h hr hn
  · rename_i c ho
    exact call_sound ho hc hf h hr hn
  · rename_i x t asserted ok ho
    exact ta_sound ho hc hf h hr hn
  · rename_i x ho
    have hx : ev2 fr x = (evP fr x).2 := rfl
    generalize evP fr x = px at h hx
    unfold panV at h
    split at h
    · rename_i v1 t v
      refine upon_panic (v := .iface t v) ?_ (fun c hc => by rw [ho] at hc; cases hc) h hr hn
      simp only [execOp, ho, hf.eval, hx]
      simp [Instr.panic, goPanic, Sem.run]
    · exact slow_sound hc hf h hr hn
  · rename_i t x y ho
    exact sto_sound ho hc hf h hr hn
  · rename_i t x lo hi mx ho
    exact slc_sound ho hc hf h hr hn
  · rename_i t x y ho
    exact mk_sound ho hc hf h hr hn
  · exact slow_sound hc hf h hr hn
end
end Ev
end Go.Proofs.Ytbpnmjjmllgehaa
