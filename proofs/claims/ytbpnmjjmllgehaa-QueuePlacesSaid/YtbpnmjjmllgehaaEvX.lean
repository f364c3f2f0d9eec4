/- The evaluator: what a loop does, out of what its body does; rows that grow. No condition. -/
import Derived.Test.YtbpnmjjmllgehaaEvW
namespace Go.Proofs.Ytbpnmjjmllgehaa
open Go Go.RowKit
namespace Ev
/-- a row of its own that a loop changes: its tag, its slot, how many cells an element has, its type -/
structure RD where
  tag : Nat
  t : Nat
  k : Nat
  e : Nat
structure RV where
  n : Nat
  g : Nat → Nat → Value
/-- where it lies -/
structure RB where
  o : Option Nat
  c : Nat
  A : Array Value
/-- a block that is after a round what it was before -/
structure OD where
  tag : Nat
  b : Nat
  o1 : Obj
  o : Obj
structure Out2 where
  x : Ex
  vs : List Value
  cs : List (List Value)
  rs : List RV
def rHint (tag : Nat) : Value := .slice (some ⟨tag, 0, some 1⟩) 0 0
def rVal (v : RV) (b : RB) : Value := .slice (adO b.o) v.n (capN (adO b.o) b.c)
def rEnt (tag k e : Nat) (v : RV) (b : RB) : Ent := naE tag (adO b.o) k e v.n v.g b.c b.A
def rEnts : List RD → List RV → List RB → List Ent
  | d :: ds, v :: vs, b :: bs => rEnt d.tag d.k d.e v b :: rEnts ds vs bs
  | _, _, _ => []
def rSlots : List RD → List RV → List RB → List (Nat × Value × Value)
  | d :: ds, v :: vs, b :: bs => (d.t, rHint d.tag, rVal v b) :: rSlots ds vs bs
  | _, _, _ => []
def oEnts (os : List OD) : List Ent := os.map fun d => ⟨d.tag, d.b, d.o1, d.o, true, true, none, none⟩
abbrev PrR := Out2 × List Value × List Obj
def pcO (d : CD) (b : Nat) (k : List Value → Tree PrR) : Bool → Option (Nat × Nat) → Obj → Tree PrR
  | true, none, .cells c t (lo, hi) => .claim b d.2.1 (.claim t d.2.2 (.claim lo 0 (.claim hi 0 (k c.toList))))
  | _, _, _ => .fail 94
def pcE (d : CD) (k : List Value → Tree PrR) : Option Ent → Tree PrR
  | some e => pcO d e.b k e.rw e.cap e.cur
  | none => .fail 93
def pcC (M : List Ent) : List CD → (List (List Value) → Tree PrR) → Tree PrR
  | [], k => k []
  | d :: ds, k => pcE d (fun l => pcC M ds fun ls => k (l :: ls)) (find M d.1)
def poB (d : OD) (e : Ent) (k : List Obj → Tree PrR) : Bool → Tree PrR
  | true => .claim e.b d.b (k [e.cur])
  | false => .fail 99
def poE (d : OD) (k : List Obj → Tree PrR) : Option Ent → Tree PrR
  | some e => poB d e k e.rw
  | none => .fail 99
def poC (M : List Ent) : List OD → (List Obj → Tree PrR) → Tree PrR
  | [], k => k []
  | d :: ds, k => poE d (fun l => poC M ds fun ls => k (l ++ ls)) (find M d.tag)
def prrE (d : RD) (k : RV → Option Nat → Tree PrR) : Option ApS → Tree PrR
  | some a => clm a.ok (k ⟨a.n, apF d.k a.c⟩ a.rm)
  | none => .fail 97
noncomputable def prrC (M : List Ent) (fr : Fr) : List RD → (List RV → List Nat → Tree PrR) → Tree PrR
  | [], k => k [] []
  | d :: ds, k => prrE d (fun v rm => prrC M fr ds fun vs rs => k (v :: vs) (rm.toList ++ rs)) (apS M d.k d.e (lookL fr.l d.t))
def prnB (t : Tree PrR) : Bool → Tree PrR
  | true => t
  | false => .fail 98
def prdB (t : Tree PrR) : List (Deferred × Deferred) → Tree PrR
  | [] => t
  | _ => .fail 95
noncomputable def prX (n : Nat) (ds : List CD) (os : List OD) (rds : List RD) (ts nj : List Nat) : CR → Tree PrR
  | (x, fr, st, _) => prdB (pcC st.M ds fun cs => poC st.M os fun ol => prrC st.M fr rds fun rs rms => prnB (.claim fr.n n (.leaf (⟨x, ts.map fun t => (lookL fr.l t).2, cs, rs⟩, nj.map fun t => (lookL fr.l t).2, ol))) (nodupT (ds.map (fun d => d.1) ++ (os.map (fun d => d.tag) ++ rms)))) fr.df
/-- a round, from those slots and blocks on -/
noncomputable def bodyX (P : Program) (G : Sum) (LF : LTF) (L : LT) (m : Nat) (body : Code) (n : Nat) (K : List (Nat × Value × Value)) (ds : List CD) (cs : List (List Value)) (os : List OD) (rds : List RD) (rs : List RV) (bs : List RB) (V : List Ent) (ts nj : List Nat) (jv : Nat → Value) (r : Sup) : Tree PrR :=
  (evalW P G LF m L none body ⟨n, K ++ (rSlots rds rs bs ++ junk jv n), []⟩ ⟨cEnts ds cs ++ (oEnts os ++ (rEnts rds rs bs ++ V)), 1000000⟩ r).bind (prX n ds os rds ts nj)
section
variable {P : Program} {N : Nat → Prop} {w0 w : World} {G : Sum}
/-- that block number is the tag's, and may be written -/
def Anch (M : List Ent) (p : Nat × Nat) : Prop := ∃ e, find M p.1 = some e ∧ e.rw = true ∧ e.b = p.2
theorem anch_ne {st : St} (hr : RelB N w0 st w) {p q : Nat × Nat} (hp : Anch st.M p) (hq : Anch st.M q) (h : p.1 ≠ q.1) : p.2 ≠ q.2 := by
  obtain ⟨e, e1, e2, e3⟩ := hp
  obtain ⟨f, f1, f2, f3⟩ := hq
  have hne : e ≠ f := fun he => by
    have a1 := find_tag e1
    have a2 := find_tag f1
    rw [he] at a1
    exact h (a1.symm.trans a2)
  have sym : ∀ a b : Ent, (a.rw = true → b.rw = true → a.b ≠ b.b) → (b.rw = true → a.rw = true → b.b ≠ a.b) := fun a b h h1 h2 e => h h2 h1 e.symm
  rw [← e3, ← f3]
  exact pairwise_two sym hr.dist e (find_mem e1) f (find_mem f1) hne e2 f2
theorem anch_nodup {st : St} (hr : RelB N w0 st w) : ∀ {l : List (Nat × Nat)}, (∀ p ∈ l, Anch st.M p) → (l.map Prod.fst).Nodup → (l.map Prod.snd).Nodup
  | [], _, _ => List.nodup_nil
  | p :: l, h, hn => by
    simp only [List.map_cons, List.nodup_cons, List.mem_map, not_exists, not_and] at hn ⊢
    refine ⟨fun q hq hqp => ?_, anch_nodup hr (fun q hq => h q (List.mem_cons_of_mem _ hq)) hn.2⟩
    exact anch_ne hr (h q (List.mem_cons_of_mem _ hq)) (h p (List.mem_cons_self ..)) (fun e => hn.1 q hq e) hqp
def OsOk (w : World) (os : List OD) : Prop := ∀ d ∈ os, w.heap[d.b]? = some d.o
/-- a row of the program's own stands there, or is nil -/
def RowOk1 (w : World) (d : RD) (v : RV) (b : RB) : Prop := (b.o = none → v.n = 0) ∧ ∀ b0, b.o = some b0 → w.heap[b0]? = some (.cells b.A d.e (0, 0)) ∧ (rEnt d.tag d.k d.e v b).Fit
def RsOk (w : World) : List RD → List RV → List RB → Prop
  | [], [], [] => True
  | d :: ds, v :: vs, b :: bs => RowOk1 w d v b ∧ RsOk w ds vs bs
  | _, _, _ => False
def rBl (bs : List RB) : List Nat := bs.filterMap fun b => b.o
def allB (ds : List CD) (os : List OD) (bs : List RB) : List Nat := ds.map (fun d => d.2.1) ++ (os.map (fun d => d.b) ++ rBl bs)
/-- what stands outside of the loop -/
def VOk2 (w : World) (B : List Nat) (V : List Ent) : Prop := ∀ e ∈ V, e.rw = false ∧ (((e.b < w.heap.size ∧ e.b ∉ B) ∧ e.Holds w) ∨ e.Void)
theorem mem_rEnts {w : World} {e : Ent} : ∀ {ds : List RD} {vs : List RV} {bs : List RB}, RsOk w ds vs bs → e ∈ rEnts ds vs bs → ∃ d v b, e = rEnt d.tag d.k d.e v b ∧ RowOk1 w d v b ∧ b ∈ bs
  | [], [], [], _, h => by cases h
  | d :: ds, v :: vs, b :: bs, hc, h => by
    rcases List.mem_cons.1 h with rfl | h
    · exact ⟨d, v, b, rfl, hc.1, List.mem_cons_self ..⟩
    · obtain ⟨d', v', b', h1, h2, h3⟩ := mem_rEnts hc.2 h
      exact ⟨d', v', b', h1, h2, List.mem_cons_of_mem _ h3⟩
  | [], [], _ :: _, hc, _ => hc.elim
  | [], _ :: _, _, hc, _ => hc.elim
  | _ :: _, [], _, hc, _ => hc.elim
  | _ :: _, _ :: _, [], hc, _ => hc.elim
theorem rEnt_bool {tag k e : Nat} {v : RV} {b : RB} (h : (rEnt tag k e v b).rw = true) : ∃ b0, b.o = some b0 ∧ (rEnt tag k e v b).b = b0 := by
  obtain ⟨o, c, A⟩ := b
  cases o with
  | none => cases h
  | some b0 => exact ⟨b0, rfl, rfl⟩
theorem mem_rBl {b : RB} {b0 : Nat} {bs : List RB} (h : b ∈ bs) (ho : b.o = some b0) : b0 ∈ rBl bs := List.mem_filterMap.2 ⟨b, h, ho⟩
theorem rEnt_ok {d : RD} {v : RV} {b : RB} {bs : List RB} {F : Nat → Prop} (h : RowOk1 w d v b) (hb : b ∈ bs) (hB : ∀ x ∈ rBl bs, ¬ F x) : EntOk F w (rEnt d.tag d.k d.e v b) := by
  obtain ⟨o, c, A⟩ := b
  cases o with
  | none =>
    have hv : (rEnt d.tag d.k d.e v ⟨none, c, A⟩).Void := naE_void (h.1 rfl)
    exact ⟨hv.holds w, fun hr => (by cases hr), fun _ => .inr hv⟩
  | some b0 =>
    obtain ⟨h1, h2⟩ := h.2 b0 rfl
    exact ⟨own_holds rfl ⟨h1, h2⟩, fun _ => ⟨fun hF => hB b0 (mem_rBl hb rfl) hF, rfl⟩, fun hr => (by cases hr)⟩
theorem pair_rEnts {ds : List RD} {vs : List RV} {bs : List RB} (h : (rBl bs).Nodup) : (rEnts ds vs bs).Pairwise fun e f => e.rw = true → f.rw = true → e.b ≠ f.b := by
  induction ds generalizing vs bs with
  | nil => exact List.Pairwise.nil
  | cons d ds ih =>
    cases vs with
    | nil => exact List.Pairwise.nil
    | cons v vs =>
      cases bs with
      | nil => exact List.Pairwise.nil
      | cons b bs =>
        have hmem : ∀ {ds : List RD} {vs : List RV} {bs : List RB} {f : Ent}, f ∈ rEnts ds vs bs → f.rw = true → f.b ∈ rBl bs := by
          intro ds
          induction ds with
          | nil => intro vs bs f hf; cases hf
          | cons d ds ih2 =>
            intro vs bs f hf hr
            cases vs with
            | nil => cases hf
            | cons v vs =>
              cases bs with
              | nil => cases hf
              | cons b bs =>
                rcases List.mem_cons.1 hf with rfl | hf
                · obtain ⟨b0, e1, e2⟩ := rEnt_bool hr
                  rw [e2]; exact mem_rBl (List.mem_cons_self ..) e1
                · have := ih2 hf hr
                  obtain ⟨x, x1, x2⟩ := List.mem_filterMap.1 this
                  exact mem_rBl (List.mem_cons_of_mem _ x1) x2
        have hn : (rBl bs).Nodup := by
          unfold rBl at h ⊢
          rw [List.filterMap_cons] at h
          cases hb : b.o with
          | none => rw [hb] at h; exact h
          | some b0 => rw [hb] at h; exact (List.nodup_cons.1 h).2
        refine List.pairwise_cons.2 ⟨fun f hf hr hfr => ?_, ih hn⟩
        obtain ⟨b0, e1, e2⟩ := rEnt_bool hr
        have hm := hmem hf hfr
        unfold rBl at h
        rw [List.filterMap_cons, e1] at h
        have h' := (List.nodup_cons.1 h).1
        show (rEnt d.tag d.k d.e v b).b ≠ f.b
        rw [e2]
        exact fun e => h' (e ▸ hm)
theorem mem_cEnts_b {ds : List CD} {cs : List (List Value)} {e : Ent} (h : e ∈ cEnts ds cs) : e.b ∈ ds.map (fun d => d.2.1) := by
  induction ds generalizing cs with
  | nil => cases h
  | cons d ds ih =>
    cases cs with
    | nil => cases h
    | cons l ls =>
      rcases List.mem_cons.1 h with rfl | h
      · exact List.mem_cons_self ..
      · exact List.mem_cons_of_mem _ (ih h)
theorem pair_cEnts {ds : List CD} {cs : List (List Value)} (h : (ds.map fun d => d.2.1).Nodup) : (cEnts ds cs).Pairwise fun e f => e.rw = true → f.rw = true → e.b ≠ f.b := by
  induction ds generalizing cs with
  | nil => exact List.Pairwise.nil
  | cons d ds ih =>
    cases cs with
    | nil => exact List.Pairwise.nil
    | cons l ls =>
      simp only [List.map_cons, List.nodup_cons] at h
      exact List.pairwise_cons.2 ⟨fun f hf _ _ he => h.1 (by have := mem_cEnts_b hf; rw [← he] at this; exact this), ih h.2⟩
theorem pair_oEnts {os : List OD} (h : (os.map fun d => d.b).Nodup) : (oEnts os).Pairwise fun e f => e.rw = true → f.rw = true → e.b ≠ f.b := by
  induction os with
  | nil => exact List.Pairwise.nil
  | cons d ds ih =>
    simp only [List.map_cons, List.nodup_cons] at h
    refine List.pairwise_cons.2 ⟨fun f hf _ _ he => h.1 ?_, ih h.2⟩
    obtain ⟨d', h1, rfl⟩ := List.mem_map.1 hf
    exact List.mem_map.2 ⟨d', h1, he.symm⟩
theorem mem_oEnts_b {os : List OD} {e : Ent} (h : e ∈ oEnts os) : e.b ∈ os.map fun d => d.b := by
  obtain ⟨d', h1, rfl⟩ := List.mem_map.1 h
  exact List.mem_map.2 ⟨d', h1, rfl⟩
theorem mem_rEnts_b {ds : List RD} {vs : List RV} {bs : List RB} {f : Ent} (hf : f ∈ rEnts ds vs bs) (hr : f.rw = true) : f.b ∈ rBl bs := by
  induction ds generalizing vs bs with
  | nil => cases hf
  | cons d ds ih2 =>
    cases vs with
    | nil => cases hf
    | cons v vs =>
      cases bs with
      | nil => cases hf
      | cons b bs =>
        rcases List.mem_cons.1 hf with rfl | hf
        · obtain ⟨b0, e1, e2⟩ := rEnt_bool hr
          rw [e2]; exact mem_rBl (List.mem_cons_self ..) e1
        · have := ih2 hf
          obtain ⟨x, x1, x2⟩ := List.mem_filterMap.1 this
          exact mem_rBl (List.mem_cons_of_mem _ x1) x2
theorem rel_bodyX {ds : List CD} {cs : List (List Value)} {os : List OD} {rds : List RD} {rs : List RV} {bs : List RB} {V : List Ent} (hc : CsOk w ds cs) (ho : OsOk w os) (hR : RsOk w rds rs bs) (hd : (allB ds os bs).Nodup) (hV : VOk2 w (allB ds os bs) V) (nt : Nat) :
    RelB (fun k => k < w.heap.size ∧ k ∉ allB ds os bs) w ⟨cEnts ds cs ++ (oEnts os ++ (rEnts rds rs bs ++ V)), nt⟩ w := by
  unfold allB at hd
  rw [List.nodup_append, List.nodup_append] at hd
  obtain ⟨n1, ⟨n2, n3, n4⟩, n5⟩ := hd
  refine ⟨fun e he => ?_, ?_, Keep.refl _ _, fun k hk => hk.1⟩
  · rcases List.mem_append.1 he with he | he
    · obtain ⟨d, hd', l, rfl, hh⟩ := mem_cEnts hc he
      exact ⟨own_holds rfl ⟨hh, fun R hR => (by cases hR), fun cp k hk => (by cases hk), fun R _ hR => (by cases hR)⟩, fun _ => ⟨fun hN => hN.2 (List.mem_append_left _ (List.mem_map.2 ⟨d, hd', rfl⟩)), rfl⟩, fun hr => (by cases hr)⟩
    rcases List.mem_append.1 he with he | he
    · obtain ⟨d, hd', rfl⟩ := List.mem_map.1 he
      exact ⟨own_holds rfl ⟨ho d hd', fun R hR => (by cases hR), fun cp k hk => (by cases hk), fun R _ hR => (by cases hR)⟩, fun _ => ⟨fun hN => hN.2 (List.mem_append_right _ (List.mem_append_left _ (List.mem_map.2 ⟨d, hd', rfl⟩))), rfl⟩, fun hr => (by cases hr)⟩
    rcases List.mem_append.1 he with he | he
    · obtain ⟨d, v, b, rfl, h1, h2⟩ := mem_rEnts hR he
      exact rEnt_ok h1 h2 fun x hx hF => hF.2 (List.mem_append_right _ (List.mem_append_right _ hx))
    · obtain ⟨h1, h2⟩ := hV e he
      rcases h2 with ⟨h2, h3⟩ | h2
      · exact ⟨h3, fun hr => (by rw [h1] at hr; cases hr), fun _ => .inl h2⟩
      · exact ⟨h2.holds w, fun hr => (by rw [h1] at hr; cases hr), fun _ => .inr h2⟩
  · have hv : ∀ f ∈ V, f.rw = false := fun f hf => (hV f hf).1
    rw [List.pairwise_append, List.pairwise_append, List.pairwise_append]
    refine ⟨pair_cEnts n1, ⟨pair_oEnts n2, ⟨pair_rEnts n3, List.pairwise_of_forall_mem_list fun e he f _ hr => (by rw [hv e he] at hr; cases hr), fun e _ f hf _ hr => (by rw [hv f hf] at hr; cases hr)⟩, fun e he f hf hr hfr => ?_⟩, fun e he f hf hr hfr => ?_⟩
    · have e1 := mem_oEnts_b he
      rcases List.mem_append.1 hf with hf | hf
      · exact n4 _ e1 _ (mem_rEnts_b hf hfr)
      · rw [hv f hf] at hfr; cases hfr
    · have e1 := mem_cEnts_b he
      rcases List.mem_append.1 hf with hf | hf
      · exact n5 _ e1 _ (List.mem_append_left _ (mem_oEnts_b hf))
      rcases List.mem_append.1 hf with hf | hf
      · exact n5 _ e1 _ (List.mem_append_right _ (mem_rEnts_b hf hfr))
      · rw [hv f hf] at hfr; cases hfr
end
end Ev
end Go.Proofs.Ytbpnmjjmllgehaa
