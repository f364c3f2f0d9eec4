/- The evaluator: what a loop does, out of what its body does. No condition. -/
import Derived.Test.YtkdkkmpgpmgfoaaEvL
namespace Go.Proofs.Ytkdkkmpgpmgfoaa
open Go Go.RowKit
namespace Ev
/-- how a loop is left, the values of slots, and the contents of the blocks that it changes -/
structure Outc where
  x : Ex
  vs : List Value
  cs : List (List Value)
/-- slots of which nothing is known but their values -/
def junk (jv : Nat → Value) : Nat → List (Nat × Value × Value)
  | 0 => []
  | t + 1 => (t, undef, jv t) :: junk jv t
/-- a block that a loop changes: its tag, its number, the type of its cells -/
abbrev CD := Nat × Nat × Nat
def cEnt (d : CD) (l : List Value) : Ent := ⟨d.1, d.2.1, .cells (l.map fun _ => undef).toArray d.2.2, .cells l.toArray d.2.2, true, true, none, none⟩
def cEnts : List CD → List (List Value) → List Ent
  | d :: ds, l :: ls => cEnt d l :: cEnts ds ls
  | _, _ => []
def prO (d : CD) (b : Nat) (k : List Value → Tree (Outc × List Value)) : Bool → Obj → Tree (Outc × List Value)
  | true, .cells c t (lo, hi) => .claim b d.2.1 (.claim t d.2.2 (.claim lo 0 (.claim hi 0 (k c.toList))))
  | _, _ => .fail 94
def prE (d : CD) (k : List Value → Tree (Outc × List Value)) : Option Ent → Tree (Outc × List Value)
  | some e => prO d e.b k e.rw e.cur
  | none => .fail 93
def prC (M : List Ent) : List CD → (List (List Value) → Tree (Outc × List Value)) → Tree (Outc × List Value)
  | [], k => k []
  | d :: ds, k => prE d (fun l => prC M ds fun ls => k (l :: ls)) (find M d.1)
def prD (t : Tree (Outc × List Value)) : List (Deferred × Deferred) → Tree (Outc × List Value)
  | [] => t
  | _ => .fail 95
noncomputable def prL (n : Nat) (ds : List CD) (ts nj : List Nat) : CR → Tree (Outc × List Value)
  | (x, fr, st, _) => prD (prC st.M ds fun cs => .claim fr.n n (.leaf (⟨x, ts.map fun t => (lookL fr.l t).2, cs⟩, nj.map fun t => (lookL fr.l t).2))) fr.df
def zipH : List Nat → List Value → List Value → List (Nat × Value × Value)
  | t :: ts, h :: hs, v :: vs => (t, h, v) :: zipH ts hs vs
  | _, _, _ => []
/-- a round, from those slots and blocks on -/
noncomputable def bodyL (P : Program) (G : Sum) (m : Nat) (body : Code) (n : Nat) (K : List (Nat × Value × Value)) (ds : List CD) (cs : List (List Value)) (V : List Ent) (ts nj : List Nat) (jv : Nat → Value) (r : Sup) : Tree (Outc × List Value) :=
  (evalC P G m body ⟨n, K ++ junk jv n, []⟩ ⟨cEnts ds cs ++ V, 1000000⟩ r).bind (prL n ds ts nj)
section
variable {P : Program} {N : Nat → Prop} {w0 w : World} {G : Sum}
theorem look_junk {jv : Nat → Value} : ∀ {n t : Nat}, (lookL (junk jv n) t).2 = if t < n then jv t else undef
  | 0, t => by rw [if_neg (by omega)]; rfl
  | n + 1, t => by
    show (lookL ((n, undef, jv n) :: junk jv n) t).2 = _
    rw [look_cons]
    by_cases h : n = t
    · subst h; rw [if_pos rfl, if_pos (by omega)]
    · rw [if_neg h, look_junk]
      by_cases h2 : t < n
      · rw [if_pos h2, if_pos (by omega)]
      · rw [if_neg h2, if_neg (by omega)]
theorem look_K {f : Nat → Value} {r : List (Nat × Value × Value)} {t : Nat} (hr : (lookL r t).2 = f t) : ∀ K : List (Nat × Value × Value), (∀ x ∈ K, f x.1 = x.2.2) → (lookL (K ++ r) t).2 = f t
  | [], _ => hr
  | x :: K, h => by
    obtain ⟨d, v⟩ := x
    show (lookL ((d, v) :: (K ++ r)) t).2 = _
    rw [look_cons]
    by_cases hd : d = t
    · subst hd; rw [if_pos rfl]; exact (h _ (List.mem_cons_self ..)).symm
    · rw [if_neg hd]; exact look_K hr K fun x hx => h x (List.mem_cons_of_mem _ hx)
theorem frOk_body {a : Act} {n : Nat} (hs : a.tmps.size = n) (hd : a.defers = []) {K : List (Nat × Value × Value)} (hK : ∀ x ∈ K, a.tmps.getD x.1 undef = x.2.2) : FrOk ⟨n, K ++ junk (fun t => a.tmps.getD t undef) n, []⟩ a := by
  refine ⟨hs, fun t => (look_K (f := fun t => a.tmps.getD t undef) ?_ K hK).symm, hd⟩
  rw [look_junk]
  by_cases h : t < n
  · rw [if_pos h]
  · rw [if_neg h, Array.getD_eq_getD_getElem?, Array.getElem?_eq_none (by omega)]; rfl
theorem mem_zipH {x : Nat × Value × Value} : ∀ {ts : List Nat} {hs vs : List Value}, x ∈ zipH ts hs vs → ∃ i : Nat, ts[i]? = some x.1 ∧ vs[i]? = some x.2.2
  | [], _, _, h => by cases h
  | _ :: _, [], _, h => by cases h
  | _ :: _, _ :: _, [], h => by cases h
  | t :: ts, a :: hs, v :: vs, h => by
    rcases List.mem_cons.1 h with rfl | h
    · exact ⟨0, rfl, rfl⟩
    · obtain ⟨i, h1, h2⟩ := mem_zipH h
      exact ⟨i + 1, h1, h2⟩
theorem getD_map {ts : List Nat} {f : Nat → Value} {vs : List Value} (h : ts.map f = vs) {i t : Nat} {v : Value} (h1 : ts[i]? = some t) (h2 : vs[i]? = some v) : f t = v := by
  subst h
  simp only [List.getElem?_map, h1, Option.map_some, Option.some.injEq] at h2
  exact h2
/-- those blocks hold that -/
def CsOk (w : World) : List CD → List (List Value) → Prop
  | [], [] => True
  | d :: ds, l :: ls => w.heap[d.2.1]? = some (.cells l.toArray d.2.2) ∧ CsOk w ds ls
  | _, _ => False
theorem mem_cEnts {w : World} {e : Ent} : ∀ {ds : List CD} {cs : List (List Value)}, CsOk w ds cs → e ∈ cEnts ds cs → ∃ d ∈ ds, ∃ l, e = cEnt d l ∧ w.heap[d.2.1]? = some (.cells l.toArray d.2.2)
  | [], [], _, h => by cases h
  | d :: ds, l :: ls, hc, h => by
    rcases List.mem_cons.1 h with rfl | h
    · exact ⟨d, List.mem_cons_self .., l, rfl, hc.1⟩
    · obtain ⟨d', h1, l', h2⟩ := mem_cEnts hc.2 h
      exact ⟨d', List.mem_cons_of_mem _ h1, l', h2⟩
  | [], _ :: _, hc, _ => hc.elim
  | _ :: _, [], hc, _ => hc.elim
theorem csOk_mono {w w' : World} : ∀ {ds : List CD} {cs : List (List Value)}, CsOk w ds cs → (∀ d ∈ ds, w'.heap[d.2.1]? = w.heap[d.2.1]?) → CsOk w' ds cs
  | [], [], _, _ => trivial
  | d :: ds, l :: ls, hc, h => ⟨by rw [h d (List.mem_cons_self ..)]; exact hc.1, csOk_mono hc.2 fun d hd => h d (List.mem_cons_of_mem _ hd)⟩
  | [], _ :: _, hc, _ => hc.elim
  | _ :: _, [], hc, _ => hc.elim
/-- what stands outside of the loop -/
def VOk (w : World) (ds : List CD) (V : List Ent) : Prop := ∀ e ∈ V, e.rw = false ∧ (((e.b < w.heap.size ∧ ∀ d ∈ ds, d.2.1 ≠ e.b) ∧ e.Holds w) ∨ e.Void)
theorem rel_body {w : World} {ds : List CD} {cs : List (List Value)} {V : List Ent} (hc : CsOk w ds cs) (hd : ds.Pairwise fun d e => d.2.1 ≠ e.2.1) (hV : VOk w ds V) (nt : Nat) :
    Rel (fun k => k < w.heap.size ∧ ∀ d ∈ ds, d.2.1 ≠ k) w ⟨cEnts ds cs ++ V, nt⟩ w := by
  refine ⟨fun e he => ?_, ?_, Keep.refl _ _, fun k hk => hk.1⟩
  · rcases List.mem_append.1 he with he | he
    · obtain ⟨d, hd', l, rfl, hh⟩ := mem_cEnts hc he
      exact ⟨own_holds rfl ⟨hh, fun R hR => (by cases hR), fun cp k hk => (by cases hk), fun R _ hR => (by cases hR)⟩, fun _ => ⟨fun hN => hN.2 d hd' rfl, rfl⟩, fun hr => (by cases hr)⟩
    · obtain ⟨h1, h2⟩ := hV e he
      rcases h2 with ⟨h2, h3⟩ | h2
      · exact ⟨h3, fun hr => (by rw [h1] at hr; cases hr), fun _ => .inl h2⟩
      · exact ⟨h2.holds w, fun hr => (by rw [h1] at hr; cases hr), fun _ => .inr h2⟩
  · rw [List.pairwise_append]
    refine ⟨?_, List.pairwise_of_forall_mem_list fun e he f _ hr => (by rw [(hV e he).1] at hr; cases hr), fun e _ f hf _ hr => (by rw [(hV f hf).1] at hr; cases hr)⟩
    clear hV
    revert hc hd
    induction ds generalizing cs with
    | nil => intro hc _; cases cs with
      | nil => exact List.Pairwise.nil
      | cons _ _ => exact hc.elim
    | cons d ds ih =>
      intro hc hd
      cases cs with
      | nil => exact hc.elim
      | cons l ls =>
        rw [List.pairwise_cons] at hd
        refine List.pairwise_cons.2 ⟨fun f hf _ _ => ?_, ih hc.2 hd.2⟩
        obtain ⟨d', h1, l', rfl, _⟩ := mem_cEnts hc.2 hf
        exact hd.1 d' h1
theorem prC_good {Q : Outc × List Value → Prop} {M : List Ent} : ∀ {ds : List CD} {k : List (List Value) → Tree (Outc × List Value)}, (prC M ds k).good Q → ∃ cs, (k cs).good Q ∧ ∀ {N : Nat → Prop} {w0 w : World} {nt : Nat}, Rel N w0 ⟨M, nt⟩ w → CsOk w ds cs
  | [], k, h => ⟨[], h, fun _ => trivial⟩
  | d :: ds, k, h => by
    have h' : (prE d (fun l => prC M ds fun ls => k (l :: ls)) (find M d.1)).good Q := h
    cases hf : find M d.1 with
    | none => rw [hf] at h'; exact h'.elim
    | some e =>
      rw [hf] at h'
      simp only [prE] at h'
      unfold prO at h'
      split at h'
      · rename_i c t lo hi hrw hcur
        obtain ⟨h1, h2, h3, h4, h5⟩ := h'
        obtain ⟨cs, hk, hc⟩ := prC_good h5
        refine ⟨c.toList :: cs, hk, fun hr => ⟨?_, hc hr⟩⟩
        have hE := hr.ent e (find_mem hf)
        have := (hE.own (hE.rw hrw).2).1
        rw [hcur, h1, h2, h3, h4] at this
        simpa using this
      · exact h'.elim
theorem prD_good {Q : Outc × List Value → Prop} {t : Tree (Outc × List Value)} {df : List (Deferred × Deferred)} (h : (prD t df).good Q) : df = [] ∧ t.good Q := by
  cases df with
  | nil => exact ⟨rfl, h⟩
  | cons _ _ => exact h.elim
/-- where a loop stands -/
structure At (a : Act) (w : World) (ts nj : List Nat) (ds : List CD) (vs : List Value) (cs : List (List Value)) (a' : Act) (w' : World) : Prop where
  size : a'.tmps.size = a.tmps.size
  defers : a'.defers = []
  vals : (ts.map fun t => a'.tmps.getD t undef) = vs
  rest : ∀ t ∈ nj, a'.tmps.getD t undef = a.tmps.getD t undef
  keep : Keep (fun k => k < w.heap.size ∧ ∀ d ∈ ds, d.2.1 ≠ k) w w'
  cs : CsOk w' ds cs
def outX (id : Nat) (o : Outc) : Outc := match o.x with
  | .exit i => (match Nat.beq i id with
    | true => { o with x := .normal }
    | false => o)
  | _ => o
/-- what a round must come to -/
def StepOk {σ : Type} (Inv : σ → Prop) (μ : σ → Nat) (kv : σ → List Value) (cv : σ → List (List Value)) (O : σ → Tree Outc) (id : Nat) (s : σ) (Qo : Outc → Prop) (o : Outc) : Prop := match o.x with
  | .normal => ∃ s', Inv s' ∧ μ s' < μ s ∧ kv s' = o.vs ∧ cv s' = o.cs ∧ (O s').good Qo
  | _ => Qo (outX id o)
/-- **a loop, out of its rounds** -/
theorem loop_core (hG : ∀ N w0, SumOk P N w0 G) {id n m : Nat} {body : Code} {ts nj : List Nat} {ds : List CD} {kh : List Value} {pk : List (Nat × Value × Value)} {V : List Ent}
    {σ : Type} {Inv : σ → Prop} {μ : σ → Nat} {kv : σ → List Value} {cv : σ → List (List Value)} {O T : σ → Tree Outc} {a : Act} {w : World} {Qo : Outc → Prop} {Qx : Exit → Act → World → Prop}
    (hT1 : ∀ s jv r, Inv s → (bodyL P G m body n (zipH ts kh (kv s) ++ pk) ds (cv s) V ts nj jv r).lhs = (bodyL P G m body n (zipH ts kh (kv s) ++ pk) ds (cv s) V ts nj jv r).rhs)
    (hT2 : ∀ s jv r, Inv s → (bodyL P G m body n (zipH ts kh (kv s) ++ pk) ds (cv s) V ts nj jv r).noC = (T s).mapT fun o => (o, nj.map fun t => (lookL (zipH ts kh (kv s) ++ pk ++ junk jv n) t).2))
    (hstep : ∀ s, Inv s → (O s).good Qo → (T s).good (StepOk Inv μ kv cv O id s Qo))
    (hn : a.tmps.size = n) (hpk : ∀ x ∈ pk, x.1 ∈ nj ∧ a.tmps.getD x.1 undef = x.2.2) (hd : ds.Pairwise fun d e => d.2.1 ≠ e.2.1) (hV : VOk w ds V)
    (s0 : σ) (h0 : Inv s0) (hA : At a w ts nj ds (kv s0) (cv s0) a w) (hO : (O s0).good Qo) (hfin : ∀ o a' w', Qo o → At a w ts nj ds o.vs o.cs a' w' → Qx o.x.to a' w') : (Code.block id (.loop body)).wpIn Fence.wide 0 P Qx a w := by
  refine wpIn_block (wpIn_loop_rounds (μ s0 + 1) ?_)
  have key : ∀ k s a' w', Inv s → μ s < k → At a w ts nj ds (kv s) (cv s) a' w' → (O s).good Qo → Code.roundsIn Fence.wide 0 P body (Exit.inBlock id Qx) k a' w' := by
    intro k
    induction k with
    | zero => intro s a' w' _ h; omega
    | succ k ih =>
      intro s a' w' hI hlt hAt hOs
      rw [roundsIn_succ]
      have hK : ∀ x ∈ zipH ts kh (kv s) ++ pk, a'.tmps.getD x.1 undef = x.2.2 := by
        intro x hx
        rcases List.mem_append.1 hx with hx | hx
        · obtain ⟨i, h1, h2⟩ := mem_zipH hx
          exact getD_map hAt.vals h1 h2
        · rw [hAt.rest _ (hpk x hx).1]; exact (hpk x hx).2
      have hf := frOk_body (hAt.size.trans hn) hAt.defers hK
      have hV' : VOk w' ds V := fun e he => by
        obtain ⟨q1, q2⟩ := hV e he
        rcases q2 with ⟨q2, q3⟩ | q2
        · exact ⟨q1, .inl ⟨⟨Nat.lt_of_lt_of_le q2.1 hAt.keep.size, q2.2⟩, q3.same (hAt.keep.block _ q2)⟩⟩
        · exact ⟨q1, .inr q2⟩
      have hr := rel_body hAt.cs hd hV' 1000000
      have hgood : ∀ r, (evalC P G m body ⟨n, zipH ts kh (kv s) ++ pk ++ junk (fun t => a'.tmps.getD t undef) n, []⟩ ⟨cEnts ds (cv s) ++ V, 1000000⟩ r).good fun x => (prL n ds ts nj x).good fun y => StepOk Inv μ kv cv O id s Qo y.1 ∧ y.2 = nj.map fun t => (lookL (zipH ts kh (kv s) ++ pk ++ junk (fun t => a'.tmps.getD t undef) n) t).2 := by
        intro r
        have h1 : (bodyL P G m body n (zipH ts kh (kv s) ++ pk) ds (cv s) V ts nj (fun t => a'.tmps.getD t undef) r).good fun y => StepOk Inv μ kv cv O id s Qo y.1 ∧ y.2 = nj.map fun t => (lookL (zipH ts kh (kv s) ++ pk ++ junk (fun t => a'.tmps.getD t undef) n) t).2 := by
          refine noC_good _ (hT1 s (fun t => a'.tmps.getD t undef) r hI) ?_
          rw [hT2 s (fun t => a'.tmps.getD t undef) r hI, mapT_good]
          exact good_mono (fun o h => ⟨h, rfl⟩) _ (hstep s hI hOs)
        exact (good_bind _ _).1 h1
      refine evalC_sound hG m _ w' body _ _ a' w' _ noK _ hgood hf hr ?_
      intro ex fr2 st2 a2 w2 hq hf2 hr2
      obtain ⟨hdf, hq1⟩ := prD_good (hq r0)
      obtain ⟨cs, hk, hcs⟩ := prC_good hq1
      obtain ⟨hn2, hstp, hnj⟩ := hk
      have hAt2 : At a w ts nj ds (ts.map fun t => (lookL fr2.l t).2) cs a2 w2 := by
        refine ⟨by rw [hf2.size, hn2, hn], by rw [hf2.defers, hdf]; rfl, List.map_congr_left fun t _ => hf2.get t, fun t ht => ?_, ?_, hcs hr2⟩
        · rw [hf2.get t]
          have := List.map_inj_left.1 hnj t ht
          rw [this, ← hf.get t]
          exact hAt.rest t ht
        · refine ⟨hr2.low.os.trans hAt.keep.os, hr2.low.tape.trans hAt.keep.tape, hr2.low.output.trans hAt.keep.output, Nat.le_trans hAt.keep.size hr2.low.size, fun b hb => ?_⟩
          rw [hr2.low.block b ⟨Nat.lt_of_lt_of_le hb.1 hAt.keep.size, hb.2⟩]
          exact hAt.keep.block b hb
      cases ex with
      | normal =>
        obtain ⟨s', i1, i2, i3, i4, i5⟩ := hstp
        exact ih s' a2 w2 i1 (by omega) (by rw [i3, i4]; exact hAt2) i5
      | ret =>
        have := hfin _ a2 w2 hstp hAt2
        exact this
      | pan v1 v2 =>
        have := hfin _ a2 w2 hstp hAt2
        exact this
      | exit i =>
        show Exit.inBlock id Qx (.exit i) a2 w2
        simp only [Exit.inBlock]
        have hs : Qo (outX id ⟨.exit i, ts.map fun t => (lookL fr2.l t).2, cs⟩) := hstp
        unfold outX at hs
        simp only at hs
        cases hb : Nat.beq i id with
        | true =>
          rw [hb] at hs
          rw [if_pos (Nat.eq_of_beq_eq_true hb)]
          exact hfin _ a2 w2 hs hAt2
        | false =>
          rw [hb] at hs
          rw [if_neg (fun e => by subst e; rw [Nat.beq_refl] at hb; cases hb)]
          exact hfin _ a2 w2 hs hAt2
  exact key _ s0 a w h0 (by omega) hA hO
end
end Ev
end Go.Proofs.Ytkdkkmpgpmgfoaa
