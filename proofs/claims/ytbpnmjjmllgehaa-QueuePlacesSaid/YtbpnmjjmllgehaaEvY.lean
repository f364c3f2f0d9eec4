/- The evaluator: loops with rows, what a round leaves behind. No condition. -/
import Derived.Test.YtbpnmjjmllgehaaEvX
namespace Go.Proofs.Ytbpnmjjmllgehaa
open Go Go.RowKit
namespace Ev
section
variable {P : Program} {N : Nat → Prop} {w0 w : World} {G : Sum} {LF : LTF}
theorem pcC_good {Q : PrR → Prop} {M : List Ent} : ∀ {ds : List CD} {k : List (List Value) → Tree PrR}, (pcC M ds k).good Q → ∃ cs, (k cs).good Q ∧ ∀ {N : Nat → Prop} {w0 w : World} {nt : Nat}, RelB N w0 ⟨M, nt⟩ w → CsOk w ds cs ∧ ∀ d ∈ ds, Anch M (d.1, d.2.1)
  | [], k, h => ⟨[], h, fun _ => ⟨trivial, fun d hd => (by cases hd)⟩⟩
  | d :: ds, k, h => by
    have h' : (pcE d (fun l => pcC M ds fun ls => k (l :: ls)) (find M d.1)).good Q := h
    cases hf : find M d.1 with
    | none => rw [hf] at h'; exact h'.elim
    | some e =>
      rw [hf] at h'
      simp only [pcE] at h'
      unfold pcO at h'
      split at h'
      · rename_i c t lo hi hrw hcap hcur
        obtain ⟨h1, h2, h3, h4, h5⟩ := h'
        obtain ⟨cs, hk, hc⟩ := pcC_good h5
        refine ⟨c.toList :: cs, hk, fun hr => ⟨⟨?_, (hc hr).1⟩, fun d' hd' => ?_⟩⟩
        · have hE := hr.ent e (find_mem hf)
          have := (hE.own (hE.rw hrw).2).1
          rw [hcur, h1, h2, h3, h4] at this
          simpa using this
        · rcases List.mem_cons.1 hd' with rfl | hd'
          · exact ⟨e, hf, hrw, h1⟩
          · exact (hc hr).2 d' hd'
      · exact h'.elim
theorem poC_good {Q : PrR → Prop} {M : List Ent} : ∀ {os : List OD} {k : List Obj → Tree PrR}, (poC M os k).good Q → ∃ ol, (k ol).good Q ∧ ∀ {N : Nat → Prop} {w0 w : World} {nt : Nat}, RelB N w0 ⟨M, nt⟩ w → (ol = os.map (fun d => d.o) → OsOk w os) ∧ ∀ d ∈ os, Anch M (d.tag, d.b)
  | [], k, h => ⟨[], h, fun _ => ⟨fun _ d hd => (by cases hd), fun d hd => (by cases hd)⟩⟩
  | d :: ds, k, h => by
    have h' : (poE d (fun l => poC M ds fun ls => k (l ++ ls)) (find M d.tag)).good Q := h
    cases hf : find M d.tag with
    | none => rw [hf] at h'; exact h'.elim
    | some e =>
      rw [hf] at h'
      simp only [poE] at h'
      cases hrw : e.rw with
      | false => rw [hrw] at h'; exact h'.elim
      | true =>
        rw [hrw] at h'
        obtain ⟨h1, h5⟩ := h'
        obtain ⟨ol, hk, hc⟩ := poC_good h5
        refine ⟨e.cur :: ol, hk, fun hr => ⟨fun he d' hd' => ?_, fun d' hd' => ?_⟩⟩
        · simp only [List.map_cons, List.cons.injEq] at he
          rcases List.mem_cons.1 hd' with rfl | hd'
          · have hE := hr.ent e (find_mem hf)
            have := (hE.own (hE.rw hrw).2).1
            rw [h1, he.1] at this
            exact this
          · exact (hc hr).1 he.2 d' hd'
        · rcases List.mem_cons.1 hd' with rfl | hd'
          · exact ⟨e, hf, hrw, h1⟩
          · exact (hc hr).2 d' hd'
/-- an own row, or nil -/
theorem row_one {st : St} {d : RD} {x : Value × Value} {a : ApS} (hr : RelB N w0 st w) (hk : 0 < d.k) (h : apS st.M d.k d.e x = some a) (hcl : ∀ y ∈ a.ok, y.1 = y.2) :
    ∃ b : RB, RowOk1 w d ⟨a.n, apF d.k a.c⟩ b ∧ x.2 = rVal ⟨a.n, apF d.k a.c⟩ b ∧ ((b.o = none) ∨ ∃ tag b0, a.rm = some tag ∧ b.o = some b0 ∧ Anch st.M (tag, b0)) := by
  obtain ⟨o1, o2, _⟩ := apS_own hr hk h hcl
  have nilc : x.2 = .slice none 0 0 → a.n = 0 → ∃ b : RB, RowOk1 w d ⟨a.n, apF d.k a.c⟩ b ∧ x.2 = rVal ⟨a.n, apF d.k a.c⟩ b ∧ ((b.o = none) ∨ ∃ tag b0, a.rm = some tag ∧ b.o = some b0 ∧ Anch st.M (tag, b0)) := fun hx hn =>
    ⟨⟨none, 0, #[]⟩, ⟨fun _ => hn, fun b0 hb => (by cases hb)⟩, by rw [hx]; show _ = Value.slice none a.n 0; rw [hn], .inl rfl⟩
  rcases o2 with ⟨_, hx, hn⟩ | ⟨tag, en, cap, hrm, hx, hf, hrw⟩ | ⟨_, _, _, hx, hn, _⟩
  · exact nilc hx hn
  · obtain ⟨hl, hrow⟩ := o1
    rcases hrow with ⟨hv, _⟩ | ⟨g, cap', cur, hv, _, hheap, hle, hcm, hsz, htake⟩
    · rw [hx] at hv; cases hv
    · rw [hx] at hv
      simp only [Value.slice.injEq, Option.some.injEq, Addr.mk.injEq, and_true, true_and] at hv
      obtain ⟨rfl, rfl⟩ := hv
      refine ⟨⟨some en.b, cap, cur⟩, ⟨fun hb => (by cases hb), fun b0 hb => ?_⟩, hx, .inr ⟨tag, en.b, hrm, rfl, en, hf, hrw, rfl⟩⟩
      simp only [Option.some.injEq] at hb
      subst hb
      exact ⟨hheap, row_fit hle hcm hsz htake (fun j c hj hc => apF_get hl hj hc) _⟩
  · exact nilc hx hn
theorem prrC_good {Q : PrR → Prop} {st : St} {fr : Fr} : ∀ {rds : List RD} {k : List RV → List Nat → Tree PrR}, (∀ d ∈ rds, 0 < d.k) → (prrC st.M fr rds k).good Q → ∃ vs rms, (k vs rms).good Q ∧ ∀ {N : Nat → Prop} {w0 w : World}, RelB N w0 st w →
    ∃ (bs : List RB) (al : List (Nat × Nat)), (al.map Prod.fst).Sublist rms ∧ al.map Prod.snd = rBl bs ∧ (∀ p ∈ al, Anch st.M p) ∧ RsOk w rds vs bs ∧ (rds.map fun d => (lookL fr.l d.t).2) = List.zipWith rVal vs bs
  | [], k, _, h => ⟨[], [], h, fun _ => ⟨[], [], .slnil, rfl, fun p hp => (by cases hp), trivial, rfl⟩⟩
  | d :: ds, k, hk, h => by
    have h' : (prrE d (fun v rm => prrC st.M fr ds fun vs rs => k (v :: vs) (rm.toList ++ rs)) (apS st.M d.k d.e (lookL fr.l d.t))).good Q := h
    cases ha : apS st.M d.k d.e (lookL fr.l d.t) with
    | none => rw [ha] at h'; exact h'.elim
    | some a =>
      rw [ha] at h'
      obtain ⟨h1, h2⟩ := clm_good h'
      obtain ⟨vs, rms, h3, h4⟩ := prrC_good (fun d hd => hk d (List.mem_cons_of_mem _ hd)) h2
      refine ⟨_, _, h3, fun hr => ?_⟩
      obtain ⟨bs, al, q1, q2, q3, q4, q5⟩ := h4 hr
      obtain ⟨b, p1, p2, p3⟩ := row_one hr (hk d (List.mem_cons_self ..)) ha h1
      rcases p3 with p3 | ⟨tag, b0, p4, p5, p6⟩
      · refine ⟨b :: bs, al, q1.trans (List.sublist_append_right _ _), ?_, q3, ⟨p1, q4⟩, ?_⟩
        · rw [q2]; unfold rBl; rw [List.filterMap_cons, p3]
        · simp only [List.map_cons, List.zipWith_cons_cons, p2, q5]
      · refine ⟨b :: bs, (tag, b0) :: al, ?_, ?_, fun p hp => ?_, ⟨p1, q4⟩, ?_⟩
        · rw [p4]; exact q1.cons_cons _
        · simp only [List.map_cons, q2]; unfold rBl; rw [List.filterMap_cons, p5]
        · rcases List.mem_cons.1 hp with rfl | hp
          · exact p6
          · exact q3 p hp
        · simp only [List.map_cons, List.zipWith_cons_cons, p2, q5]
theorem anch_N {st : St} (hr : RelB N w0 st w) {p : Nat × Nat} (h : Anch st.M p) : ¬ N p.2 ∧ p.2 < w.heap.size := by
  obtain ⟨e, h1, h2, h3⟩ := h
  have hE := hr.ent e (find_mem h1)
  rw [← h3]
  exact ⟨(hE.rw h2).1, heap_lt (hE.own (hE.rw h2).2).1⟩
/-- what a round's end says -/
theorem prX_good {Q : PrR → Prop} {n : Nat} {ds : List CD} {os : List OD} {rds : List RD} {ts nj : List Nat} {x : Ex} {fr : Fr} {st : St} {r : Sup} (hk : ∀ d ∈ rds, 0 < d.k) (h : (prX n ds os rds ts nj (x, fr, st, r)).good Q) (hr : RelB N w0 st w) :
    ∃ cs rs ol bs, fr.df = [] ∧ fr.n = n ∧ Q (⟨x, ts.map fun t => (lookL fr.l t).2, cs, rs⟩, nj.map fun t => (lookL fr.l t).2, ol) ∧ CsOk w ds cs ∧ (ol = os.map (fun d => d.o) → OsOk w os) ∧ RsOk w rds rs bs ∧ (rds.map fun d => (lookL fr.l d.t).2) = List.zipWith rVal rs bs ∧
      (allB ds os bs).Nodup ∧ ∀ b ∈ allB ds os bs, ¬ N b := by
  simp only [prX] at h
  cases hd : fr.df with
  | cons _ _ => rw [hd] at h; exact h.elim
  | nil =>
    rw [hd] at h
    obtain ⟨cs, h1, c1⟩ := pcC_good h
    obtain ⟨ol, h2, c2⟩ := poC_good h1
    obtain ⟨rs, rms, h3, c3⟩ := prrC_good hk h2
    obtain ⟨c1a, c1b⟩ := c1 hr
    obtain ⟨c2a, c2b⟩ := c2 hr
    obtain ⟨bs, al, a1, a2, a3, a4, a5⟩ := c3 hr
    cases hn : nodupT (ds.map (fun d => d.1) ++ (os.map (fun d => d.tag) ++ rms)) with
    | false => rw [hn] at h3; exact h3.elim
    | true =>
      rw [hn] at h3
      have hnd := nodupT_nodup hn
      have hall : ∀ p ∈ ds.map (fun d => (d.1, d.2.1)) ++ (os.map (fun d => (d.tag, d.b)) ++ al), Anch st.M p := by
        intro p hp
        rcases List.mem_append.1 hp with hp | hp
        · obtain ⟨d, hd, rfl⟩ := List.mem_map.1 hp; exact c1b d hd
        rcases List.mem_append.1 hp with hp | hp
        · obtain ⟨d, hd, rfl⟩ := List.mem_map.1 hp; exact c2b d hd
        · exact a3 p hp
      have hb : allB ds os bs = (ds.map (fun d => (d.1, d.2.1)) ++ (os.map (fun d => (d.tag, d.b)) ++ al)).map Prod.snd := by
        simp only [allB, List.map_append, List.map_map, a2]
        rfl
      refine ⟨cs, rs, ol, bs, rfl, h3.1, h3.2, c1a, c2a, a4, a5, ?_, fun b hbm => ?_⟩
      · rw [hb]
        refine anch_nodup hr hall (List.Nodup.sublist ?_ hnd)
        simp only [List.map_append, List.map_map]
        exact (List.Sublist.refl _).append ((List.Sublist.refl _).append a1)
      · rw [hb] at hbm
        obtain ⟨p, hp, rfl⟩ := List.mem_map.1 hbm
        exact (anch_N hr (hall p hp)).1
/-- where a loop stands -/
structure AtX (a : Act) (w : World) (ts nj : List Nat) (ds : List CD) (os : List OD) (rds : List RD) (B0 : List Nat) (vs : List Value) (cs : List (List Value)) (rs : List RV) (bs : List RB) (a' : Act) (w' : World) : Prop where
  size : a'.tmps.size = a.tmps.size
  defers : a'.defers = []
  vals : (ts.map fun t => a'.tmps.getD t undef) = vs
  rest : ∀ t ∈ nj, a'.tmps.getD t undef = a.tmps.getD t undef
  rows : (rds.map fun d => a'.tmps.getD d.t undef) = List.zipWith rVal rs bs
  keep : Keep (fun k => k < w.heap.size ∧ k ∉ B0) w w'
  hcs : CsOk w' ds cs
  hos : OsOk w' os
  hrs : RsOk w' rds rs bs
  nodup : (allB ds os bs).Nodup
  fresh : ∀ b ∈ allB ds os bs, b ∈ B0 ∨ w.heap.size ≤ b
/-- rows that are the same as far as they go -/
def RvEq : List RD → List RV → List RV → Prop
  | [], [], [] => True
  | d :: ds, v :: vs, u :: us => (v.n = u.n ∧ ∀ j c, j < v.n → c < d.k → v.g j c = u.g j c) ∧ RvEq ds vs us
  | _, _, _ => False
theorem RvEq.refl : ∀ {rds : List RD} {vs : List RV}, rds.length = vs.length → RvEq rds vs vs
  | [], [], _ => trivial
  | _ :: _, _ :: _, h => ⟨⟨rfl, fun _ _ _ _ => rfl⟩, RvEq.refl (by simpa using h)⟩
  | [], _ :: _, h => by simp at h
  | _ :: _, [], h => by simp at h
theorem RvEq.ok {w : World} : ∀ {rds : List RD} {vs us : List RV} {bs : List RB}, RvEq rds vs us → RsOk w rds us bs → RsOk w rds vs bs ∧ List.zipWith rVal us bs = List.zipWith rVal vs bs
  | [], [], [], [], _, _ => ⟨trivial, rfl⟩
  | d :: ds, ⟨vn, vg⟩ :: vs, ⟨un, ug⟩ :: us, b :: bs, h, h2 => by
    obtain ⟨⟨h1, h3⟩, h4⟩ := h
    simp only at h1 h3
    subst h1
    obtain ⟨i1, i2⟩ := RvEq.ok h4 h2.2
    refine ⟨⟨⟨fun ho => h2.1.1 ho, fun b0 hb => ?_⟩, i1⟩, ?_⟩
    · obtain ⟨q1, q2⟩ := h2.1.2 b0 hb
      refine ⟨q1, fun R hR j c hj hc => ?_, q2.2.1, fun R cp hR hcp => ?_⟩
      · simp only [rEnt, naE, Option.some.injEq] at hR
        subst hR
        have := q2.1 _ rfl j c hj hc
        simp only at this ⊢
        rw [h3 j c hj hc]
        exact this
      · simp only [rEnt, naE, Option.some.injEq] at hR
        subst hR
        exact q2.2.2 ⟨adO b.o, d.k, vn, ug⟩ cp rfl hcp
    · simp only [List.zipWith_cons_cons, i2]
      rfl
  | [], [], [], _ :: _, _, h2 => h2.elim
  | [], [], _ :: _, _, h, _ => h.elim
  | [], _ :: _, _, _, h, _ => h.elim
  | _ :: _, [], _, _, h, _ => h.elim
  | _ :: _, _ :: _, [], _, h, _ => h.elim
  | _ :: _, _ :: _, _ :: _, [], _, h2 => h2.elim
def outX2 (id : Nat) (o : Out2) : Out2 := match o.x with
  | .exit i => (match Nat.beq i id with
    | true => { o with x := .normal }
    | false => o)
  | _ => o
/-- what a round must come to -/
def StepX {σ : Type} (rds : List RD) (Inv : σ → Prop) (μ : σ → Nat) (kv : σ → List Value) (cv : σ → List (List Value)) (rv : σ → List RV) (O : σ → Tree Out2) (id : Nat) (s : σ) (Qo : Out2 → Prop) (o : Out2) : Prop := match o.x with
  | .normal => ∃ s', Inv s' ∧ μ s' < μ s ∧ kv s' = o.vs ∧ cv s' = o.cs ∧ RvEq rds (rv s') o.rs ∧ (O s').good Qo
  | _ => ∃ rs, RvEq rds rs o.rs ∧ Qo { outX2 id o with rs := rs }
theorem rslots_eq {f : Nat → Value} : ∀ {rds : List RD} {rs : List RV} {bs : List RB}, (rds.map fun d => f d.t) = List.zipWith rVal rs bs → ∀ x ∈ rSlots rds rs bs, f x.1 = x.2.2
  | d :: ds, v :: vs, b :: bs, h, x, hx => by
    simp only [List.map_cons, List.zipWith_cons_cons, List.cons.injEq] at h
    rcases List.mem_cons.1 hx with rfl | hx
    · exact h.1
    · exact rslots_eq h.2 x hx
  | [], _, _, _, x, hx => by cases hx
  | _ :: _, [], _, _, x, hx => by cases hx
  | _ :: _, _ :: _, [], _, x, hx => by cases hx
/-- **a loop, out of its rounds** -/
theorem loop_coreX (hG : ∀ N w0, SumOk P N w0 G) (hLF : LFOk P LF) {L : LT} {c0 : Code} (hL : ∀ N w0, LOk P N w0 L c0) {id n m : Nat} {body : Code} (hb0 : ∀ x ∈ blocks body, x ∈ blocks c0) {ts nj : List Nat} {ds : List CD} {os : List OD} {rds : List RD} (hkk : ∀ d ∈ rds, 0 < d.k) {kh : List Value} {pk : List (Nat × Value × Value)} {V : List Ent} {B0 : List Nat}
    {σ : Type} {Inv : σ → Prop} {μ : σ → Nat} {kv : σ → List Value} {cv : σ → List (List Value)} {rv : σ → List RV} {O T : σ → Tree Out2} {a : Act} {w : World} {Qo : Out2 → Prop} {Qx : Exit → Act → World → Prop}
    (hT1 : ∀ s bs jv r, Inv s → RsOk w rds (rv s) bs ∨ bs.length = rds.length → (bodyX P G LF L m body n (zipH ts kh (kv s) ++ pk) ds (cv s) os rds (rv s) bs V ts nj jv r).lhs = (bodyX P G LF L m body n (zipH ts kh (kv s) ++ pk) ds (cv s) os rds (rv s) bs V ts nj jv r).rhs)
    (hT2 : ∀ s bs jv r, Inv s → RsOk w rds (rv s) bs ∨ bs.length = rds.length → (bodyX P G LF L m body n (zipH ts kh (kv s) ++ pk) ds (cv s) os rds (rv s) bs V ts nj jv r).noC = (T s).mapT fun o => (o, nj.map fun t => (lookL (zipH ts kh (kv s) ++ pk ++ (rSlots rds (rv s) bs ++ junk jv n)) t).2, os.map fun d => d.o))
    (hstep : ∀ s, Inv s → (O s).good Qo → (T s).good (StepX rds Inv μ kv cv rv O id s Qo))
    (hn : a.tmps.size = n) (hpk : ∀ x ∈ pk, x.1 ∈ nj ∧ a.tmps.getD x.1 undef = x.2.2) (hV : VOk2 w B0 V)
    (s0 : σ) (bs0 : List RB) (h0 : Inv s0) (hA : AtX a w ts nj ds os rds B0 (kv s0) (cv s0) (rv s0) bs0 a w) (hO : (O s0).good Qo) (hfin : ∀ o bs a' w', Qo o → AtX a w ts nj ds os rds B0 o.vs o.cs o.rs bs a' w' → Qx o.x.to a' w') : (Code.block id (.loop body)).wpIn Fence.wide 0 P Qx a w := by
  refine wpIn_block (wpIn_loop_rounds (μ s0 + 1) ?_)
  have len3 : ∀ {w : World} {rds : List RD} {rs : List RV} {bs : List RB}, RsOk w rds rs bs → bs.length = rds.length := by
    intro w rds
    induction rds with
    | nil => intro rs bs h; cases rs <;> cases bs <;> first | rfl | exact h.elim
    | cons d ds ih => intro rs bs h; cases rs <;> cases bs <;> first | exact h.elim | (simp only [List.length_cons]; rw [ih h.2])
  have key : ∀ k s bs a' w', Inv s → μ s < k → AtX a w ts nj ds os rds B0 (kv s) (cv s) (rv s) bs a' w' → (O s).good Qo → Code.roundsIn Fence.wide 0 P body (Exit.inBlock id Qx) k a' w' := by
    intro k
    induction k with
    | zero => intro s bs a' w' _ h; omega
    | succ k ih =>
      intro s bs a' w' hI hlt hAt hOs
      rw [roundsIn_succ]
      have hlen := len3 hAt.hrs
      have hrs : ∀ x ∈ rSlots rds (rv s) bs, a'.tmps.getD x.1 undef = x.2.2 := rslots_eq (f := fun t => a'.tmps.getD t undef) hAt.rows
      have hK : ∀ x ∈ zipH ts kh (kv s) ++ pk ++ rSlots rds (rv s) bs, a'.tmps.getD x.1 undef = x.2.2 := by
        intro x hx
        rcases List.mem_append.1 hx with hx | hx
        · rcases List.mem_append.1 hx with hx | hx
          · obtain ⟨i, h1, h2⟩ := mem_zipH hx
            exact getD_map hAt.vals h1 h2
          · rw [hAt.rest _ (hpk x hx).1]; exact (hpk x hx).2
        · exact hrs x hx
      have hf := frOk_body (hAt.size.trans hn) hAt.defers hK
      rw [List.append_assoc] at hf
      have hV' : VOk2 w' (allB ds os bs) V := fun e he => by
        obtain ⟨q1, q2⟩ := hV e he
        rcases q2 with ⟨q2, q3⟩ | q2
        · refine ⟨q1, .inl ⟨⟨Nat.lt_of_lt_of_le q2.1 hAt.keep.size, fun hm => ?_⟩, q3.same (hAt.keep.block _ q2)⟩⟩
          rcases hAt.fresh _ hm with h | h
          · exact q2.2 h
          · omega
        · exact ⟨q1, .inr q2⟩
      have hr := rel_bodyX hAt.hcs hAt.hos hAt.hrs hAt.nodup hV' 1000000
      have hgood : ∀ r, (evalW P G LF m L none body ⟨n, zipH ts kh (kv s) ++ pk ++ (rSlots rds (rv s) bs ++ junk (fun t => a'.tmps.getD t undef) n), []⟩ ⟨cEnts ds (cv s) ++ (oEnts os ++ (rEnts rds (rv s) bs ++ V)), 1000000⟩ r).good fun x => (prX n ds os rds ts nj x).good fun y => StepX rds Inv μ kv cv rv O id s Qo y.1 ∧ y.2 = (nj.map fun t => (lookL (zipH ts kh (kv s) ++ pk ++ (rSlots rds (rv s) bs ++ junk (fun t => a'.tmps.getD t undef) n)) t).2, os.map fun d => d.o) := by
        intro r
        have h1 : (bodyX P G LF L m body n (zipH ts kh (kv s) ++ pk) ds (cv s) os rds (rv s) bs V ts nj (fun t => a'.tmps.getD t undef) r).good fun y => StepX rds Inv μ kv cv rv O id s Qo y.1 ∧ y.2 = (nj.map fun t => (lookL (zipH ts kh (kv s) ++ pk ++ (rSlots rds (rv s) bs ++ junk (fun t => a'.tmps.getD t undef) n)) t).2, os.map fun d => d.o) := by
          refine noC_good _ (hT1 s bs (fun t => a'.tmps.getD t undef) r hI (.inr hlen)) ?_
          rw [hT2 s bs (fun t => a'.tmps.getD t undef) r hI (.inr hlen), mapT_good]
          exact good_mono (fun o h => ⟨h, rfl⟩) _ (hstep s hI hOs)
        exact (good_bind _ _).1 h1
      refine (evalW_sound hG hLF m _ w' L none c0 (.inl ⟨rfl, hL _ _⟩)).1 body hb0 _ _ a' w' _ noK _ hgood hf (.of hr) ?_
      intro ex fr2 st2 a2 w2 hq hf2 ⟨FF, hs2, hB2, hlow2⟩
      obtain ⟨cs, rs, ol, bs2, hdf, hn2, ⟨hstp, hy⟩, k1, k2, k3, k4, k5, k6⟩ := prX_good hkk (hq r0) hB2
      simp only [Prod.mk.injEq] at hy
      obtain ⟨hnj, hol⟩ := hy
      have mk : ∀ rs', RvEq rds rs' rs → AtX a w ts nj ds os rds B0 (ts.map fun t => (lookL fr2.l t).2) cs rs' bs2 a2 w2 := by
        intro rs' heq
        obtain ⟨e1, e2⟩ := heq.ok k3
        refine ⟨by rw [hf2.size, hn2, hn], by rw [hf2.defers, hdf]; rfl, List.map_congr_left fun t _ => hf2.get t, fun t ht => ?_, ?_, ?_, k1, k2 hol, e1, k5, fun b hb => ?_⟩
        · rw [hf2.get t]
          have := List.map_inj_left.1 hnj t ht
          rw [this, ← hf.get t]
          exact hAt.rest t ht
        · rw [← e2, ← k4]
          exact List.map_congr_left fun d _ => hf2.get d.t
        · refine ⟨hlow2.os.trans hAt.keep.os, hlow2.tape.trans hAt.keep.tape, hlow2.output.trans hAt.keep.output, Nat.le_trans hAt.keep.size hlow2.size, fun b hb => ?_⟩
          rw [hlow2.block b ⟨Nat.lt_of_lt_of_le hb.1 hAt.keep.size, fun hm => ?_⟩]
          · exact hAt.keep.block b hb
          · rcases hAt.fresh _ hm with h | h
            · exact hb.2 h
            · exact absurd hb.1 (by omega)
        · by_cases hbw : b < w'.heap.size
          · by_cases hba : b ∈ allB ds os bs
            · exact hAt.fresh b hba
            · exact absurd (hs2 _ ⟨hbw, hba⟩) (k6 b hb)
          · right
            have := hAt.keep.size
            omega
      cases ex with
      | normal =>
        obtain ⟨s', i1, i2, i3, i4, i5, i6⟩ := hstp
        exact ih s' bs2 a2 w2 i1 (by omega) (by rw [i3, i4]; exact mk _ i5) i6
      | ret =>
        obtain ⟨rs', e1, e2⟩ := hstp
        have := hfin _ bs2 a2 w2 e2 (mk _ e1)
        exact this
      | pan v1 v2 =>
        obtain ⟨rs', e1, e2⟩ := hstp
        have := hfin _ bs2 a2 w2 e2 (mk _ e1)
        exact this
      | exit i =>
        show Exit.inBlock id Qx (.exit i) a2 w2
        simp only [Exit.inBlock]
        obtain ⟨rs', e1, hs⟩ := hstp
        unfold outX2 at hs
        simp only at hs
        cases hb : Nat.beq i id with
        | true =>
          rw [hb] at hs
          rw [if_pos (Nat.eq_of_beq_eq_true hb)]
          exact hfin _ bs2 a2 w2 hs (mk _ e1)
        | false =>
          rw [hb] at hs
          rw [if_neg (fun e => by subst e; rw [Nat.beq_refl] at hb; cases hb)]
          exact hfin _ bs2 a2 w2 hs (mk _ e1)
  exact key _ s0 bs0 a w h0 (by omega) hA hO
end
end Ev
end Go.Proofs.Ytbpnmjjmllgehaa
