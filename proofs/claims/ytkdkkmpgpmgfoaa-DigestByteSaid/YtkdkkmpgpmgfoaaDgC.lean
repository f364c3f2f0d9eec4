/- Package digest: the loop over bytes in the iterator, whose rounds take a byte into the digest. -/
import Derived.Test.YtkdkkmpgpmgfoaaDgB
namespace Go.Proofs.Ytkdkkmpgpmgfoaa
open Go Go.ChangeShapes Go.WideShapes Go.ChangeAt Go.RowKit
set_option linter.all false
theorem w64 {x : Int} (h1 : -9223372036854775808 ≤ x) (h2 : x ≤ 9223372036854775807) : IntKind.wrap .i64 x = x := by
  simp only [IntKind.wrap, IntKind.bits, IntKind.signed]
  simp
  omega
/-- a byte is taken in -/
def stp (s z : Int) : Int := IntKind.wrap .u64 (IntKind.wrap .u64 (Int.ofNat (BitVec.toNat (BitVec.ofInt 64 s ^^^ BitVec.ofInt 64 (IntKind.wrap .u64 z)))) * 1099511628211)
def fol (f : Nat → Int) : Nat → Nat → Int → Int
  | 0, _, s => s
  | d + 1, i, s => fol f d (i + 1) (stp s (f i))
def elO (n : Nat) (f : Nat → Int) (i : Nat) (s : Int) : Ev.Tree Ev.Out2 := .leaf ⟨.normal, [.int .i64 (n : Int)], [[.int .u64 (fol f (n - i) i s)]], []⟩
theorem el_step (l b fn df : Nat) (t0 t1 t3 t4 t5 t6 t7 t8 t9 t10 t11 t12 t13 : Value) (rb : Nat) (a : Option Addr) (n ca : Nat) (f : Nat → Int) (x : Nat × Int) (hn : n ≤ 9223372036854775807) (hi : x.1 ≤ n) (Qo : Ev.Out2 → Prop) (h : (elO n f x.1 x.2).good Qo) :
    (elp_T l b fn df t0 t1 t3 t4 t5 t6 t7 t8 t9 t10 t11 t12 t13 rb a n ca f x.1 x.2).good (Ev.StepX [] (fun x : Nat × Int => x.1 ≤ n) (fun x => n - x.1) (fun x => [.int .i64 (x.1 : Int)]) (fun x => [[.int .u64 x.2]]) (fun _ => []) (fun x => elO n f x.1 x.2) 2 x Qo) := by
  obtain ⟨i, s⟩ := x
  simp only at hi h ⊢
  unfold elp_T
  simp only [Int.ofNat_eq_natCast, Int.toNat_natCast]
  by_cases hlt : i < n
  · refine Ev.good_t (Ev.lt_t hlt) (Ev.good_t (Ev.inB_t hlt) (Ev.good_t (Ev.ble_t hlt) ?_))
    rw [w64 (by omega) (by omega)]
    have e : n - i = (n - (i + 1)) + 1 := by omega
    unfold elO at h
    rw [e] at h
    exact ⟨(i + 1, stp s (f i)), hlt, by simp only; omega, by simp, by simp [stp], trivial, h⟩
  · refine Ev.good_f (Ev.lt_f hlt) ?_
    obtain rfl : i = n := by omega
    unfold elO at h
    rw [Nat.sub_self] at h
    exact ⟨[], trivial, h⟩
/-- the record of a range over a function: where the digest lies, the other slots, numbers -/
structure LX where
  wb : Nat
  l : List Value
  fn : Nat
  df : Nat
def lxT (fn df : Nat) : List Value → Option LX
  | [t0, t1, .pointer (some ⟨wb, 0, none⟩), t3, t4, t5, t6, t7, t8, t9, t10, t11, t12, t13] => some ⟨wb, [t0, t1, t3, t4, t5, t6, t7, t8, t9, t10, t11, t12, t13], fn, df⟩
  | _ => none
def lxP (fn df : Nat) (t : List Value) : List Nat → Bool → Option LX
  | [8], true => lxT fn df t
  | _, _ => none
noncomputable def lxL : Loop → Option LX
  | ⟨.ready, none, fn, tmps, ps, asg, bd, df⟩ => lxP fn df tmps.toList ps.toList (Ev.codeEq asg (Ev.rangeAt (Ev.bodyOf Try.f19) 0).1 && Ev.codeEq bd (Ev.rangeAt (Ev.bodyOf Try.f19) 0).2)
  | _ => none
noncomputable def lxO : Obj → Option LX
  | .loop x => lxL x
  | _ => none
def hxT : List Value → Option Nat
  | [_, _, .pointer (some ⟨wt, 0, none⟩), _, _, _, _, _, _, _, _, _, _, _] => some wt
  | _ => none
def hxO : Obj → Option Nat
  | .loop x => hxT x.tmps.toList
  | _ => none
def ylA (t b : Nat) : List Value → List Value → Option (Nat × Nat)
  | [], [] => some (t, b)
  | _, _ => none
def ylV : Value → Value → Option (Nat × Nat)
  | .func (.yield t) _ _, .func (.yield b) p q => ylA t b p.toList q.toList
  | _, _ => none
def s64 : List Value → Option Int
  | [.int .u64 s] => some s
  | _ => none
def celO : Bool → Option (Nat × Nat) → Obj → Option Int
  | true, none, .cells c 38 (0, 0) => s64 c.toList
  | _, _, _ => none
def grd : Bool → Option Unit
  | true => some ()
  | false => none
theorem grd_eq {b : Bool} {u : Unit} (h : grd b = some u) : b = true := by cases b <;> first | rfl | cases h
def rwO (e : Ev.Ent) : Bool → Option Ev.Ent
  | true => some e
  | false => none
theorem rwO_eq {e f : Ev.Ent} (h : rwO e e.rw = some f) : e.rw = true ∧ f = e := by
  cases hb : e.rw <;> rw [hb] at h <;> simp only [rwO, Option.some.injEq] at h <;> first | exact ⟨rfl, h.symm⟩ | cases h
noncomputable def elP : Ev.Parse2 := fun fr st =>
  (Ev.natAt .i64 15 fr).bind fun i => (Ev.natAt .i64 14 fr).bind fun n => (Ev.rowAt 13 fr st).bind fun p =>
  (ylV (Ev.lookL fr.l 0).1 (Ev.lookL fr.l 0).2).bind fun y => (Ev.find st.M y.1).bind fun e0 => (rwO e0 e0.rw).bind fun e => (lxO e.cur).bind fun x => (hxO e.lit).bind fun wt =>
  (Ev.find st.M wt).bind fun ew => (celO ew.rw ew.cap ew.cur).bind fun s => (grd (Ev.nodupT [wt, y.1] && !Ev.hasT [wt, y.1] p.tag)).bind fun _ =>
  some ⟨(fr.n, 25) :: (i, 0) :: (p.len, n) :: (p.R.n, n) :: (p.R.k, 1) :: (e.b, y.2) :: (ew.b, x.wb) :: Ev.eqA p.a p.R.a, [Nat.ble n 9223372036854775807, Ev.kindR .u8 p.R.g n], elO n (fun j => Ev.payI (p.R.g j 0)) 0 s, [(wt, 38)], []⟩
theorem ylV_eq {a b : Value} {y : Nat × Nat} (h : ylV a b = some y) : b = .func (.yield y.2) #[] #[] := by
  unfold ylV at h
  split at h
  · rename_i t _ _ b p q
    generalize h1 : p.toList = pl at h
    generalize h2 : q.toList = ql at h
    unfold ylA at h
    split at h
    · simp only [Option.some.injEq] at h
      subst h
      rw [← Array.toArray_toList (xs := p), h1, ← Array.toArray_toList (xs := q), h2]
    · cases h
  · cases h
theorem celO_eq {b : Bool} {c : Option (Nat × Nat)} {o : Obj} {s : Int} (h : celO b c o = some s) : b = true ∧ c = none ∧ o = .cells #[.int .u64 s] 38 := by
  unfold celO at h
  split at h
  · rename_i cc
    refine ⟨rfl, rfl, ?_⟩
    generalize hl : cc.toList = l at h
    unfold s64 at h
    split at h
    · simp only [Option.some.injEq] at h
      subst h
      rw [← Array.toArray_toList (xs := cc), hl]
    · cases h
  · cases h
theorem lxO_eq {o : Obj} {x : LX} (h : lxO o = some x) : ∃ t0 t1 t3 t4 t5 t6 t7 t8 t9 t10 t11 t12 t13 : Value, o = .loop { state := .ready, pending := none, fn := x.fn, tmps := #[t0, t1, .pointer (some ⟨x.wb, 0, none⟩), t3, t4, t5, t6, t7, t8, t9, t10, t11, t12, t13], params := #[8], assign := (Ev.rangeAt (Ev.bodyOf Try.f19) 0).1, body := (Ev.rangeAt (Ev.bodyOf Try.f19) 0).2, defers := x.df } := by
  unfold lxO at h
  split at h
  · rename_i L
    obtain ⟨st, pe, fn, tm, ps, asg, bd, df⟩ := L
    unfold lxL at h
    split at h
    · rename_i fn' tm' ps' as' bd' df' heq
      cases heq
      generalize ht : tm.toList = tl at h
      generalize hp : ps.toList = pl at h
      generalize hc : (Ev.codeEq asg (Ev.rangeAt (Ev.bodyOf Try.f19) 0).1 && Ev.codeEq bd (Ev.rangeAt (Ev.bodyOf Try.f19) 0).2) = cb at h
      unfold lxP at h
      split at h
      · simp only [Bool.and_eq_true] at hc
        have e1 := Ev.codeEq_eq hc.1
        have e2 := Ev.codeEq_eq hc.2
        unfold lxT at h
        split at h
        · rename_i t0 t1 wb t3 t4 t5 t6 t7 t8 t9 t10 t11 t12 t13
          simp only [Option.some.injEq] at h
          subst h
          refine ⟨t0, t1, t3, t4, t5, t6, t7, t8, t9, t10, t11, t12, t13, ?_⟩
          have e3 : tm = #[t0, t1, .pointer (some ⟨wb, 0, none⟩), t3, t4, t5, t6, t7, t8, t9, t10, t11, t12, t13] := by rw [← Array.toArray_toList (xs := tm), ht]
          have e4 : ps = #[8] := by rw [← Array.toArray_toList (xs := ps), hp]
          rw [e1, e2, e3, e4]
        · cases h
      · cases h
    · cases h
  · cases h
theorem el_ok (N : Nat → Prop) (w0 : World) : Ev.CodeOk none Try.prog N w0 (.block 2 (.loop (Ev.loopOf 2 (Ev.bodyOf Try.f22)))) (Ev.loopX [] [15] elp_JS elP) := by
  refine Ev.loopX_ok (G := Ev.noS) (LF := Ev.noLF) (n := 25) (m := 60) (nj := elp_NJ) (c0 := Ev.bodyOf Try.f22) Ev.noS_ok (Ev.noLF_ok _) (fun N w0 => Ev.noL_ok _ N w0 _) (Ev.loop_sub (i := 2) (by kernel_rfl)) (fun d hd => by cases hd) N w0 (by decide +kernel) ?_
  intro fr st q hp hcl hpre
  simp only [elP, Option.bind_eq_some_iff] at hp
  obtain ⟨i, hi, n, hn, p, hp, y, hy, e0, he0, e, he, x, hx, wt, hwt, ew, hew, s, hs, u, hu, hq⟩ := hp
  obtain rfl := Option.some.inj hq
  have ei := Ev.natAt_eq hi
  have en := Ev.natAt_eq hn
  obtain ⟨ep, er, r1, r2, r3, r4, r5⟩ := Ev.rowAt_eq hp
  have ey := ylV_eq hy
  obtain ⟨h1, he'⟩ := rwO_eq he
  subst he'
  obtain ⟨t0, t1, t3, t4, t5, t6, t7, t8, t9, t10, t11, t12, t13, ex⟩ := lxO_eq hx
  obtain ⟨s1, s2, s3⟩ := celO_eq hs
  have hg := grd_eq hu
  simp only [Bool.and_eq_true, Bool.not_eq_true'] at hg
  have c0 : fr.n = 25 := hcl (fr.n, 25) (by simp)
  have ci : i = 0 := hcl (i, 0) (by simp)
  have c1 : p.len = n := hcl (p.len, n) (by simp)
  have c2 : p.R.n = n := hcl (p.R.n, n) (by simp)
  have c3 : p.R.k = 1 := hcl (p.R.k, 1) (by simp)
  have c4 : e.b = y.2 := hcl (e.b, y.2) (by simp)
  have c5 : ew.b = x.wb := hcl (ew.b, x.wb) (by simp)
  have c6 : p.a = p.R.a := Ev.eqA_eq fun z hz => hcl z (by simp [hz])
  have b1 : n ≤ 9223372036854775807 := Nat.le_of_ble_eq_true (hpre _ (by simp))
  have b2 : Ev.kindR .u8 p.R.g n = true := hpre _ (by simp)
  have hC : p.rw = true → p.tag ∉ [wt, y.1] := fun _ hm => by rw [Ev.hasT_mem.2 hm] at hg; cases hg.2
  refine ⟨{ σ := Nat × Int, ds := [(502, x.wb, 38)], os := [⟨501, y.2, .loop { state := .ready, pending := none, fn := 0, tmps := #[undef, undef, .pointer (some ⟨502, 0, none⟩), undef, undef, undef, undef, undef, undef, undef, undef, undef, undef, undef], params := #[8], assign := (Ev.rangeAt (Ev.bodyOf Try.f19) 0).1, body := (Ev.rangeAt (Ev.bodyOf Try.f19) 0).2, defers := 0 }, .loop { state := .ready, pending := none, fn := x.fn, tmps := #[t0, t1, .pointer (some ⟨x.wb, 0, none⟩), t3, t4, t5, t6, t7, t8, t9, t10, t11, t12, t13], params := #[8], assign := (Ev.rangeAt (Ev.bodyOf Try.f19) 0).1, body := (Ev.rangeAt (Ev.bodyOf Try.f19) 0).2, defers := x.df }⟩], otags := [y.1], ro := [], kh := [undef], pk := [(0, .func (.yield 501) #[] #[], .func (.yield y.2) #[] #[]), (13, .slice (some ⟨600, 0, some 0⟩) 0 0, .slice p.a n p.cap), (14, undef, .int .i64 (n : Int))], V := [Ev.rowE 600 p.b ⟨p.a, 1, n, fun j _ => .int .u8 (Ev.payI (p.R.g j 0))⟩], Inv := fun x => x.1 ≤ n, μ := fun x => n - x.1, kv := fun x => [.int .i64 (x.1 : Int)], cv := fun x => [[.int .u64 x.2]], rv := fun _ => [], O := fun x => elO n (fun j => Ev.payI (p.R.g j 0)) x.1 x.2, T := fun z => elp_T y.2 x.wb x.fn x.df t0 t1 t3 t4 t5 t6 t7 t8 t9 t10 t11 t12 t13 p.b p.a n p.cap (fun j => Ev.payI (p.R.g j 0)) z.1 z.2, s0 := (0, s), hO := rfl, h0 := Nat.zero_le _, hn := c0, hv := ?_, hpk := ?_, hF := ?_, hFo := ?_, hR := trivial, hrm := rfl, hnd := hg.1, hV := ?_, hT1 := ?_, hT2 := ?_, hstep := fun z Qo hI h => el_step y.2 x.wb x.fn x.df t0 t1 t3 t4 t5 t6 t7 t8 t9 t10 t11 t12 t13 p.b p.a n p.cap _ z b1 hI Qo h }⟩
  · simp only [List.map_cons, List.map_nil, ei, ci]
  · intro z hz
    simp only [List.mem_cons, List.not_mem_nil, or_false] at hz
    rcases hz with rfl | rfl | rfl
    · exact ⟨by show 0 ∈ elp_NJ; decide, ey⟩
    · exact ⟨by show 13 ∈ elp_NJ; decide, by rw [ep, c1]⟩
    · exact ⟨by show 14 ∈ elp_NJ; decide, en⟩
  · exact ⟨⟨ew, hew, s1, c5, s3, s2, rfl⟩, fun z hz => (by cases hz), trivial⟩
  · exact ⟨⟨e, he0, h1, c4, ex⟩, trivial⟩
  · intro w hr z hz
    rcases List.mem_singleton.1 hz with rfl
    exact Ev.rowX_in hr r1 r2 r3 r4 r5 c6.symm c3 c2 (Ev.kindR_g b2) hC
  · intro z bs jv r _ hl
    match bs, hl with
    | [], _ => exact elp_1 y.2 x.wb x.fn x.df t0 t1 t3 t4 t5 t6 t7 t8 t9 t10 t11 t12 t13 p.b p.a n p.cap (fun j => Ev.payI (p.R.g j 0)) z.1 z.2 jv r
  · intro z bs jv r _ hl
    match bs, hl with
    | [], _ => exact elp_2 y.2 x.wb x.fn x.df t0 t1 t3 t4 t5 t6 t7 t8 t9 t10 t11 t12 t13 p.b p.a n p.cap (fun j => Ev.payI (p.R.g j 0)) z.1 z.2 jv r
noncomputable def elL : Ev.LTF := Ev.addLF 22 (Ev.oneL 2 (Ev.loopX [] [15] elp_JS elP) Ev.noL) Ev.noLF
theorem elL_ok : Ev.LFOk Try.prog elL := Ev.addL1_ok Try.func22 (by kernel_rfl) (fun N w0 => Ev.oneL_ok (by kernel_rfl) (el_ok N w0) (Ev.noL_ok _ _ _ _)) (Ev.noLF_ok _)
end Go.Proofs.Ytkdkkmpgpmgfoaa
