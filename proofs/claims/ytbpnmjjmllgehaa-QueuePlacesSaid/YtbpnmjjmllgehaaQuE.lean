/- Package queue: validity, in the reference and in the package: the loops. -/
import Derived.Test.YtbpnmjjmllgehaaQuD
namespace Go.Proofs.Ytbpnmjjmllgehaa
open Go Go.ChangeShapes Go.WideShapes Go.ChangeAt Go.RowKit
set_option linter.all false
def fstN (p : Nat → Bool) : Nat → Nat → Nat
  | 0, i => i
  | d + 1, i => if p i then i else fstN p d (i + 1)
def anyN (p : Nat → Bool) : Nat → Nat → Bool
  | 0, _ => false
  | d + 1, i => p i || anyN p d (i + 1)
theorem fstN_s (p : Nat → Bool) (d i : Nat) : fstN p (d + 1) i = if p i then i else fstN p d (i + 1) := rfl
theorem anyN_s (p : Nat → Bool) (d i : Nat) : anyN p (d + 1) i = (p i || anyN p d (i + 1)) := rfl
/-- a reading is not well-formed, or not the first of its name -/
def rBad (f : Nat → Nat → Int) (n i : Nat) : Bool := !fmd (f i 0) (f i 1) (f i 2) (f i 4) || rfV f n (f i 0) (f i 1) != (i : Int)
def qBad (f : Nat → Nat → Int) (n i : Nat) : Bool := !fmd (f i 0) (f i 1) (f i 2) (f i 4) || decide (qfV f n (f i 0) (f i 1) < (i : Int))
def rAny (f : Nat → Nat → Int) (n d i : Nat) : Bool := anyN (rBad f n) d i
def rFst (f : Nat → Nat → Int) (n d i : Nat) : Nat := fstN (rBad f n) d i
def qAny (f : Nat → Nat → Int) (n d i : Nat) : Bool := anyN (qBad f n) d i
def qFst (f : Nat → Nat → Int) (n d i : Nat) : Nat := fstN (qBad f n) d i
def rv_T (a : Option Addr) (n : Nat) (ca : Nat) (f : Nat → Nat → Int) (rb : Nat) (bb : Nat) (i : Nat) : Ev.Tree Ev.Out2 := (.ite (decide (Int.ofNat i < Int.ofNat n)) (.ite (Ev.inB (Int.ofNat i) n) (.ite (Nat.ble (Int.toNat (Int.ofNat i) + 1) n) (.ite (!fmd (f (Int.toNat (Int.ofNat i)) 0) (f (Int.toNat (Int.ofNat i)) (0 + 1)) (f (Int.toNat (Int.ofNat i)) (0 + 1 + 1)) (f (Int.toNat (Int.ofNat i)) (0 + 1 + 1 + 1 + 1))) (.leaf ⟨.ret, [.int .i64 (Int.ofNat i), .bool (false)], [], []⟩) (.ite (Ev.inB (Int.ofNat i) n) (.ite (Nat.ble (Int.toNat (Int.ofNat i) + 1) n) (.ite (Ev.inB (Int.ofNat i) n) (.ite (Nat.ble (Int.toNat (Int.ofNat i) + 1) n) (.ite (Ev.kindK IntKind.i64 (fun j c => Value.int IntKind.i64 (f j c)) n 5) (.ite (Nat.ble n 9223372036854775807) (.ite (rfV (fun j c => f j c) n (f (Int.toNat (Int.ofNat i)) (0 + 0)) (f (Int.toNat (Int.ofNat i)) (0 + 1)) != Int.ofNat i) (.leaf ⟨.ret, [.int .i64 (Int.ofNat i), .bool (false)], [], []⟩) (.leaf ⟨.normal, [.int .i64 (IntKind.wrap IntKind.i64 (Int.ofNat i + 1)), .bool (false)], [], []⟩)) (.fail 92)) (.fail 92)) (.fail 72)) (.fail 71)) (.fail 72)) (.fail 71))) (.fail 72)) (.fail 71)) (.leaf ⟨(.exit 0), [.int .i64 (Int.ofNat i), .bool (false)], [], []⟩))
theorem rv_1 (a : Option Addr) (n : Nat) (ca : Nat) (f : Nat → Nat → Int) (rb : Nat) (bb : Nat) (i : Nat)  (jv : Nat → Value) (r : Ev.Sup) : ((Ev.bodyX Try.prog G1 Ev.noLF Ev.noL 60 (Ev.loopOf 0 (Ev.bodyOf Try.f20)) 41 (Ev.zipH [3, 2] [undef, .bool false] [.int .i64 (i : Int), .bool false] ++ [(1, (.pointer (some ⟨511, 0, none⟩)), .pointer (some ⟨bb, 0, none⟩))]) [] [] [] [] [] [] [Ev.rowE 600 rb ⟨a, 5, n, fun j c => .int .i64 (f j c)⟩, Ev.boxE 511 bb 24 [(.slice (some ⟨600, 0, some 0⟩) 0 0)] [.slice a n ca]] [3, 2] [0, 1, 37, 38, 39, 40] jv r)).lhs = ((Ev.bodyX Try.prog G1 Ev.noLF Ev.noL 60 (Ev.loopOf 0 (Ev.bodyOf Try.f20)) 41 (Ev.zipH [3, 2] [undef, .bool false] [.int .i64 (i : Int), .bool false] ++ [(1, (.pointer (some ⟨511, 0, none⟩)), .pointer (some ⟨bb, 0, none⟩))]) [] [] [] [] [] [] [Ev.rowE 600 rb ⟨a, 5, n, fun j c => .int .i64 (f j c)⟩, Ev.boxE 511 bb 24 [(.slice (some ⟨600, 0, some 0⟩) 0 0)] [.slice a n ca]] [3, 2] [0, 1, 37, 38, 39, 40] jv r)).rhs := by kernel_rfl
theorem rv_2 (a : Option Addr) (n : Nat) (ca : Nat) (f : Nat → Nat → Int) (rb : Nat) (bb : Nat) (i : Nat)  (jv : Nat → Value) (r : Ev.Sup) : ((Ev.bodyX Try.prog G1 Ev.noLF Ev.noL 60 (Ev.loopOf 0 (Ev.bodyOf Try.f20)) 41 (Ev.zipH [3, 2] [undef, .bool false] [.int .i64 (i : Int), .bool false] ++ [(1, (.pointer (some ⟨511, 0, none⟩)), .pointer (some ⟨bb, 0, none⟩))]) [] [] [] [] [] [] [Ev.rowE 600 rb ⟨a, 5, n, fun j c => .int .i64 (f j c)⟩, Ev.boxE 511 bb 24 [(.slice (some ⟨600, 0, some 0⟩) 0 0)] [.slice a n ca]] [3, 2] [0, 1, 37, 38, 39, 40] jv r)).noC = Ev.Tree.mapT (fun o => (o, [0, 1, 37, 38, 39, 40].map fun t => (Ev.lookL ((Ev.zipH [3, 2] [undef, .bool false] [.int .i64 (i : Int), .bool false] ++ [(1, (.pointer (some ⟨511, 0, none⟩)), .pointer (some ⟨bb, 0, none⟩))]) ++ (Ev.rSlots [] [] [] ++ Ev.junk jv 41)) t).2, ([] : List Ev.OD).map fun d => d.o)) (rv_T a n ca f rb bb i) := by kernel_rfl
abbrev rv_JS : List Nat := [4, 5, 6, 7, 8, 9, 10, 11, 12, 13, 14, 15, 16, 17, 18, 19, 20, 21, 22, 23, 24, 25, 26, 27, 28, 29, 30, 31, 32, 33, 34, 35, 36]
abbrev rv_NJ : List Nat := [0, 1, 37, 38, 39, 40]
def rv_O (a : Option Addr) (n : Nat) (ca : Nat) (f : Nat → Nat → Int) (rb : Nat) (bb : Nat) (i : Nat) : Ev.Tree Ev.Out2 := .ite (rAny f n (n - i) i) (.leaf ⟨.ret, [.int .i64 (rFst f n (n - i) i : Int), .bool false], [], []⟩) (.leaf ⟨.normal, [.int .i64 (n : Int), .bool false], [], []⟩)
theorem rv_step (a : Option Addr) (n : Nat) (ca : Nat) (f : Nat → Nat → Int) (rb : Nat) (bb : Nat) (i : Nat) (hn : n ≤ 9223372036854775807) (hI : i ≤ n) (Qo : Ev.Out2 → Prop) (h : (rv_O a n ca f rb bb i).good Qo) : (rv_T a n ca f rb bb i).good (Ev.StepX [] (fun x : Nat => x ≤ n) (fun x : Nat => n - x) (fun x : Nat => [.int .i64 (x : Int), .bool false]) (fun _ => []) (fun x : Nat => []) (fun x : Nat => rv_O a n ca f rb bb x) 0 (i) Qo) := by
  unfold rv_T
  simp only [Int.ofNat_eq_natCast, Int.toNat_natCast]
  unfold rv_O rAny rFst at h
  by_cases hlt : i < n
  · refine Ev.good_t (Ev.lt_t hlt) (Ev.good_t (Ev.inB_t hlt) (Ev.good_t (Ev.ble_t hlt) ?_))
    rw [Ev.w64 (by omega) (by omega)]
    rw [show n - i = (n - (i + 1)) + 1 by omega, anyN_s, fstN_s] at h
    simp only [Nat.zero_add, Nat.reduceAdd]
    have bad : rBad f n i = true → Qo ⟨.ret, [.int .i64 (i : Int), .bool false], [], []⟩ := fun hb => by
      rw [hb, if_pos rfl, Bool.true_or] at h
      exact h.1 rfl
    have next : rBad f n i = false → Ev.StepX [] (fun x : Nat => x ≤ n) (fun x => n - x) (fun x => [.int .i64 (x : Int), .bool false]) (fun _ => []) (fun _ => []) (fun x => rv_O a n ca f rb bb x) 0 i Qo ⟨.normal, [.int .i64 ((i : Int) + 1), .bool false], [], []⟩ := by
      intro hb
      rw [hb, if_neg (by simp), Bool.false_or] at h
      exact ⟨i + 1, hlt, by simp only; omega, by simp, rfl, trivial, h⟩
    refine Ev.ite_good (fun h1 => ⟨[], trivial, bad (by unfold rBad; rw [h1]; rfl)⟩) (fun h1 => ?_)
    repeat first | refine Ev.good_t (Ev.inB_t hlt) ?_ | refine Ev.good_t (Ev.ble_t hlt) ?_
    refine Ev.good_t Ev.kindK_t (Ev.good_t (Nat.ble_eq_true_of_le hn) ?_)
    exact Ev.ite_good (fun h2 => ⟨[], trivial, bad (by unfold rBad; rw [h2]; simp)⟩) (fun h2 => next (by unfold rBad; rw [h1, h2]; rfl))
  · refine Ev.good_f (Ev.lt_f hlt) ?_
    obtain rfl : i = n := by omega
    rw [Nat.sub_self] at h
    exact ⟨[], trivial, h.2 rfl⟩
noncomputable def rv_P : Ev.Parse2 := fun fr st => (Ev.natAt .i64 3 fr).bind fun i => (Ev.boolAt 2 fr).bind fun v2 => (Ev.boxAt 1 fr st).bind fun Q1 => (Ev.rsV st.M Q1.v Q1.h).bind fun R1 => (Ev.grd (Ev.nodupT (Ev.rmL []) && !Ev.hasT (Ev.rmL []) R1.tag && !Ev.hasT (Ev.rmL []) Q1.p.tag)).bind fun _ => some ⟨[(fr.n, 41), (Ev.bN v2, Ev.bN false), (Q1.p.b', Q1.p.b), (Q1.p.T, 24), (R1.R.n, R1.len), (R1.R.k, 5)] ++ Ev.eqA R1.a R1.R.a, [Ev.kindK .i64 R1.R.g R1.len 5, Nat.ble R1.len 9223372036854775807, Nat.beq i 0], rv_O R1.a R1.len R1.cap (fun j c => Ev.payI (R1.R.g j c)) R1.b Q1.p.b i, [], Ev.rmL []⟩
theorem rv_ok (N : Nat → Prop) (w0 : World) : Ev.CodeOk none Try.prog N w0 (.block 0 (.loop (Ev.loopOf 0 (Ev.bodyOf Try.f20)))) (Ev.loopX [] [3, 2] rv_JS rv_P) := by
  refine Ev.loopX_ok (G := G1) (LF := Ev.noLF) (n := 41) (m := 60) (nj := rv_NJ) (c0 := (Ev.bodyOf Try.f20)) G1_ok (Ev.noLF_ok _) (fun N w0 => Ev.noL_ok _ N w0 _) (Ev.loop_sub (i := 0) (by kernel_rfl)) (by decide) N w0 (by decide +kernel) ?_
  intro fr st q hp hcl hpre
  simp only [rv_P, Option.bind_eq_some_iff] at hp
  obtain ⟨i, h3, v2, h2, Q1, h1, R1, hr1, u, hu, hq⟩ := hp
  obtain rfl := Option.some.inj hq
  have hg := Ev.grd_eq hu
  simp only [Bool.and_eq_true, Bool.not_eq_true'] at hg
  have e3 := Ev.natAt_eq h3
  have q2 : v2 = false := Ev.bN_inj (hcl (Ev.bN v2, Ev.bN false) (by simp))
  have e2 := Ev.boolAt_eq h2
  rw [q2] at e2
  obtain ⟨e1, be1, bf1, br1, bb1, bc1⟩ := Ev.boxAt_eq h1
  have bn1 : Q1.p.b' = Q1.p.b := hcl (Q1.p.b', Q1.p.b) (by simp)
  have bt1 : Q1.p.T = 24 := hcl (Q1.p.T, 24) (by simp)
  rw [bn1] at e1
  obtain ⟨bz1, er1, ra1, rb1, rc1, rd1, re1⟩ := Ev.rsV_eq hr1
  rw [bz1, bt1] at bc1
  have n1 : R1.R.n = R1.len := hcl (R1.R.n, R1.len) (by simp)
  have k1 : R1.R.k = 5 := hcl (R1.R.k, 5) (by simp)
  have a1 : R1.a = R1.R.a := Ev.eqA_eq fun z hz => hcl z (by simp [hz])
  have c0 : fr.n = 41 := hcl (fr.n, 41) (by simp)
  have hn : R1.len ≤ 9223372036854775807 := Nat.le_of_ble_eq_true (hpre (Nat.ble R1.len 9223372036854775807) (by simp))
  have h0 : i = 0 := Nat.eq_of_beq_eq_true (hpre (Nat.beq i 0) (by simp))
  refine ⟨{ σ := Nat, ds := [], os := [], otags := [], ro := [], kh := [undef, .bool false], pk := [(1, (.pointer (some ⟨511, 0, none⟩)), .pointer (some ⟨Q1.p.b, 0, none⟩))], V := [Ev.rowE 600 R1.b ⟨R1.a, 5, R1.len, fun j c => .int .i64 ((fun j c => Ev.payI (R1.R.g j c)) j c)⟩, Ev.boxE 511 Q1.p.b 24 [(.slice (some ⟨600, 0, some 0⟩) 0 0)] [.slice R1.a R1.len R1.cap]], Inv := fun x : Nat => x ≤ R1.len, μ := fun x : Nat => R1.len - x, kv := fun x : Nat => [.int .i64 (x : Int), .bool false], cv := fun _ => [], rv := fun x : Nat => [], O := fun x : Nat => rv_O R1.a R1.len R1.cap (fun j c => Ev.payI (R1.R.g j c)) R1.b Q1.p.b x, T := fun x : Nat => rv_T R1.a R1.len R1.cap (fun j c => Ev.payI (R1.R.g j c)) R1.b Q1.p.b x, s0 := (i), hO := rfl, h0 := ?_, hn := c0, hv := ?_, hpk := ?_, hF := trivial, hFo := trivial, hR := ?_, hrm := rfl, hnd := ?_, hV := ?_, hT1 := ?_, hT2 := ?_, hstep := fun x Qo hI h => rv_step R1.a R1.len R1.cap (fun j c => Ev.payI (R1.R.g j c)) R1.b Q1.p.b x hn hI Qo h }⟩
  · (rw [h0]; exact Nat.zero_le _)
  · simp only [List.map_cons, List.map_nil, e3, e2]
  · intro x hx
    simp only [List.mem_cons, List.not_mem_nil, or_false] at hx
    rcases hx with rfl
    · exact ⟨by show 1 ∈ rv_NJ; decide, e1⟩
  · exact trivial
  · simpa using hg.1.1
  · intro N w0 w hr z hz
    simp only [List.mem_cons, List.not_mem_nil, or_false] at hz
    rcases hz with rfl | rfl
    · exact Ev.rowX_in hr ra1 rb1 rc1 rd1 re1 a1.symm k1 n1 (Ev.kindK_g (hpre (Ev.kindK .i64 R1.R.g R1.len 5) (by simp))) (fun _ hm => by have h5 := hg.1.2; rw [Ev.hasT_mem.2 (by simpa using hm)] at h5; cases h5)
    · exact Ev.boxX_in hr bf1 br1 bb1 bc1 (fun hm => by have h5 := hg.2; rw [Ev.hasT_mem.2 (by simpa using hm)] at h5; cases h5)
  · intro x bs jv r _ hl
    match bs, hl with
    | [], _ => exact rv_1 R1.a R1.len R1.cap (fun j c => Ev.payI (R1.R.g j c)) R1.b Q1.p.b x  jv r
  · intro x bs jv r _ hl
    match bs, hl with
    | [], _ => exact rv_2 R1.a R1.len R1.cap (fun j c => Ev.payI (R1.R.g j c)) R1.b Q1.p.b x  jv r
def qv_T (a : Option Addr) (n : Nat) (ca : Nat) (f : Nat → Nat → Int) (rb : Nat) (bb : Nat) (nn : Int) (i : Nat) : Ev.Tree Ev.Out2 := (.ite (decide (Int.ofNat i < nn)) (.ite (Ev.inB (Int.ofNat i) n) (.ite (Nat.ble (Int.toNat (Int.ofNat i) + 1) n) (.ite (!fmd (f (Int.toNat (Int.ofNat i)) 0) (f (Int.toNat (Int.ofNat i)) (0 + 1)) (f (Int.toNat (Int.ofNat i)) (0 + 1 + 1)) (f (Int.toNat (Int.ofNat i)) (0 + 1 + 1 + 1 + 1))) (.leaf ⟨.ret, [.int .i64 (Int.ofNat i), .bool (false)], [], []⟩) (.ite (Ev.kindK IntKind.i64 (fun j c => Value.int IntKind.i64 (f j c)) n 5) (.ite (Nat.ble n 9223372036854775807) (.ite (decide (qfV (fun j c => f j c) n (f (Int.toNat (Int.ofNat i)) 0) (f (Int.toNat (Int.ofNat i)) (0 + 1)) < Int.ofNat i)) (.leaf ⟨.ret, [.int .i64 (Int.ofNat i), .bool (false)], [], []⟩) (.leaf ⟨.normal, [.int .i64 (IntKind.wrap IntKind.i64 (Int.ofNat i + 1)), .bool (false)], [], []⟩)) (.fail 92)) (.fail 92))) (.fail 72)) (.fail 71)) (.leaf ⟨(.exit 0), [.int .i64 (Int.ofNat i), .bool (false)], [], []⟩))
theorem qv_1 (a : Option Addr) (n : Nat) (ca : Nat) (f : Nat → Nat → Int) (rb : Nat) (bb : Nat) (nn : Int) (i : Nat)  (jv : Nat → Value) (r : Ev.Sup) : ((Ev.bodyX Try.prog G1 Ev.noLF Ev.noL 60 (Ev.loopOf 0 (Ev.bodyOf Try.f24)) 30 (Ev.zipH [12, 2] [undef, .bool false] [.int .i64 (i : Int), .bool false] ++ [(1, (.pointer (some ⟨511, 0, none⟩)), .pointer (some ⟨bb, 0, none⟩)), (10, (.slice (some ⟨600, 0, some 0⟩) 0 0), .slice a n ca), (11, undef, .int .i64 nn)]) [] [] [] [] [] [] [Ev.rowE 600 rb ⟨a, 5, n, fun j c => .int .i64 (f j c)⟩, Ev.boxE 511 bb 24 [(.slice (some ⟨600, 0, some 0⟩) 0 0)] [.slice a n ca]] [12, 2] [0, 1, 5, 6, 7, 8, 9, 10, 11] jv r)).lhs = ((Ev.bodyX Try.prog G1 Ev.noLF Ev.noL 60 (Ev.loopOf 0 (Ev.bodyOf Try.f24)) 30 (Ev.zipH [12, 2] [undef, .bool false] [.int .i64 (i : Int), .bool false] ++ [(1, (.pointer (some ⟨511, 0, none⟩)), .pointer (some ⟨bb, 0, none⟩)), (10, (.slice (some ⟨600, 0, some 0⟩) 0 0), .slice a n ca), (11, undef, .int .i64 nn)]) [] [] [] [] [] [] [Ev.rowE 600 rb ⟨a, 5, n, fun j c => .int .i64 (f j c)⟩, Ev.boxE 511 bb 24 [(.slice (some ⟨600, 0, some 0⟩) 0 0)] [.slice a n ca]] [12, 2] [0, 1, 5, 6, 7, 8, 9, 10, 11] jv r)).rhs := by kernel_rfl
theorem qv_2 (a : Option Addr) (n : Nat) (ca : Nat) (f : Nat → Nat → Int) (rb : Nat) (bb : Nat) (nn : Int) (i : Nat)  (jv : Nat → Value) (r : Ev.Sup) : ((Ev.bodyX Try.prog G1 Ev.noLF Ev.noL 60 (Ev.loopOf 0 (Ev.bodyOf Try.f24)) 30 (Ev.zipH [12, 2] [undef, .bool false] [.int .i64 (i : Int), .bool false] ++ [(1, (.pointer (some ⟨511, 0, none⟩)), .pointer (some ⟨bb, 0, none⟩)), (10, (.slice (some ⟨600, 0, some 0⟩) 0 0), .slice a n ca), (11, undef, .int .i64 nn)]) [] [] [] [] [] [] [Ev.rowE 600 rb ⟨a, 5, n, fun j c => .int .i64 (f j c)⟩, Ev.boxE 511 bb 24 [(.slice (some ⟨600, 0, some 0⟩) 0 0)] [.slice a n ca]] [12, 2] [0, 1, 5, 6, 7, 8, 9, 10, 11] jv r)).noC = Ev.Tree.mapT (fun o => (o, [0, 1, 5, 6, 7, 8, 9, 10, 11].map fun t => (Ev.lookL ((Ev.zipH [12, 2] [undef, .bool false] [.int .i64 (i : Int), .bool false] ++ [(1, (.pointer (some ⟨511, 0, none⟩)), .pointer (some ⟨bb, 0, none⟩)), (10, (.slice (some ⟨600, 0, some 0⟩) 0 0), .slice a n ca), (11, undef, .int .i64 nn)]) ++ (Ev.rSlots [] [] [] ++ Ev.junk jv 30)) t).2, ([] : List Ev.OD).map fun d => d.o)) (qv_T a n ca f rb bb nn i) := by kernel_rfl
abbrev qv_JS : List Nat := [3, 4, 13, 14, 15, 16, 17, 18, 19, 20, 21, 22, 23, 24, 25, 26, 27, 28, 29]
abbrev qv_NJ : List Nat := [0, 1, 5, 6, 7, 8, 9, 10, 11]
def qv_O (a : Option Addr) (n : Nat) (ca : Nat) (f : Nat → Nat → Int) (rb : Nat) (bb : Nat) (nn : Int) (i : Nat) : Ev.Tree Ev.Out2 := .ite (qAny f n (n - i) i) (.leaf ⟨.ret, [.int .i64 (qFst f n (n - i) i : Int), .bool false], [], []⟩) (.leaf ⟨.normal, [.int .i64 (n : Int), .bool false], [], []⟩)
theorem qv_step (a : Option Addr) (n : Nat) (ca : Nat) (f : Nat → Nat → Int) (rb : Nat) (bb : Nat) (nn : Int) (i : Nat) (hn : n ≤ 9223372036854775807) (hnn : nn = (n : Int)) (hI : i ≤ n) (Qo : Ev.Out2 → Prop) (h : (qv_O a n ca f rb bb nn i).good Qo) : (qv_T a n ca f rb bb nn i).good (Ev.StepX [] (fun x : Nat => x ≤ n) (fun x : Nat => n - x) (fun x : Nat => [.int .i64 (x : Int), .bool false]) (fun _ => []) (fun x : Nat => []) (fun x : Nat => qv_O a n ca f rb bb nn x) 0 (i) Qo) := by
  unfold qv_T
  simp only [Int.ofNat_eq_natCast, Int.toNat_natCast]
  unfold qv_O qAny qFst at h
  subst hnn
  by_cases hlt : i < n
  · refine Ev.good_t (Ev.lt_t hlt) (Ev.good_t (Ev.inB_t hlt) (Ev.good_t (Ev.ble_t hlt) ?_))
    rw [Ev.w64 (by omega) (by omega)]
    rw [show n - i = (n - (i + 1)) + 1 by omega, anyN_s, fstN_s] at h
    simp only [Nat.zero_add, Nat.reduceAdd]
    have bad : qBad f n i = true → Qo ⟨.ret, [.int .i64 (i : Int), .bool false], [], []⟩ := fun hb => by
      rw [hb, if_pos rfl, Bool.true_or] at h
      exact h.1 rfl
    have next : qBad f n i = false → Ev.StepX [] (fun x : Nat => x ≤ n) (fun x => n - x) (fun x => [.int .i64 (x : Int), .bool false]) (fun _ => []) (fun _ => []) (fun x => qv_O a n ca f rb bb (n : Int) x) 0 i Qo ⟨.normal, [.int .i64 ((i : Int) + 1), .bool false], [], []⟩ := by
      intro hb
      rw [hb, if_neg (by simp), Bool.false_or] at h
      exact ⟨i + 1, hlt, by simp only; omega, by simp, rfl, trivial, h⟩
    refine Ev.ite_good (fun h1 => ⟨[], trivial, bad (by unfold qBad; rw [h1]; rfl)⟩) (fun h1 => ?_)
    repeat first | refine Ev.good_t (Ev.inB_t hlt) ?_ | refine Ev.good_t (Ev.ble_t hlt) ?_
    refine Ev.good_t Ev.kindK_t (Ev.good_t (Nat.ble_eq_true_of_le hn) ?_)
    exact Ev.ite_good (fun h2 => ⟨[], trivial, bad (by unfold qBad; rw [h2]; simp)⟩) (fun h2 => next (by unfold qBad; rw [h1, h2]; rfl))
  · refine Ev.good_f (Ev.lt_f hlt) ?_
    obtain rfl : i = n := by omega
    rw [Nat.sub_self] at h
    exact ⟨[], trivial, h.2 rfl⟩
noncomputable def qv_P : Ev.Parse2 := fun fr st => (Ev.natAt .i64 12 fr).bind fun i => (Ev.boolAt 2 fr).bind fun v2 => (Ev.boxAt 1 fr st).bind fun Q1 => (Ev.rsV st.M Q1.v Q1.h).bind fun R1 => (Ev.slcAt 10 fr).bind fun S10 => (Ev.intAt .i64 11 fr).bind fun nn => (Ev.grd (Ev.nodupT (Ev.rmL []) && !Ev.hasT (Ev.rmL []) R1.tag && !Ev.hasT (Ev.rmL []) Q1.p.tag)).bind fun _ => some ⟨[(fr.n, 30), (Ev.bN v2, Ev.bN false), (Q1.p.b', Q1.p.b), (Q1.p.T, 24), (R1.R.n, R1.len), (R1.R.k, 5), (S10.2.1, R1.len), (S10.2.2, R1.cap)] ++ Ev.eqA R1.a R1.R.a ++ Ev.eqA S10.1 R1.a, [Ev.kindK .i64 R1.R.g R1.len 5, Nat.ble R1.len 9223372036854775807, decide (nn = (R1.len : Int)), Nat.beq i 0], qv_O R1.a R1.len R1.cap (fun j c => Ev.payI (R1.R.g j c)) R1.b Q1.p.b nn i, [], Ev.rmL []⟩
theorem qv_ok (N : Nat → Prop) (w0 : World) : Ev.CodeOk none Try.prog N w0 (.block 0 (.loop (Ev.loopOf 0 (Ev.bodyOf Try.f24)))) (Ev.loopX [] [12, 2] qv_JS qv_P) := by
  refine Ev.loopX_ok (G := G1) (LF := Ev.noLF) (n := 30) (m := 60) (nj := qv_NJ) (c0 := (Ev.bodyOf Try.f24)) G1_ok (Ev.noLF_ok _) (fun N w0 => Ev.noL_ok _ N w0 _) (Ev.loop_sub (i := 0) (by kernel_rfl)) (by decide) N w0 (by decide +kernel) ?_
  intro fr st q hp hcl hpre
  simp only [qv_P, Option.bind_eq_some_iff] at hp
  obtain ⟨i, h12, v2, h2, Q1, h1, R1, hr1, S10, h10, nn, h11, u, hu, hq⟩ := hp
  obtain rfl := Option.some.inj hq
  have hg := Ev.grd_eq hu
  simp only [Bool.and_eq_true, Bool.not_eq_true'] at hg
  have e12 := Ev.natAt_eq h12
  have q2 : v2 = false := Ev.bN_inj (hcl (Ev.bN v2, Ev.bN false) (by simp))
  have e2 := Ev.boolAt_eq h2
  rw [q2] at e2
  obtain ⟨e1, be1, bf1, br1, bb1, bc1⟩ := Ev.boxAt_eq h1
  have bn1 : Q1.p.b' = Q1.p.b := hcl (Q1.p.b', Q1.p.b) (by simp)
  have bt1 : Q1.p.T = 24 := hcl (Q1.p.T, 24) (by simp)
  rw [bn1] at e1
  obtain ⟨bz1, er1, ra1, rb1, rc1, rd1, re1⟩ := Ev.rsV_eq hr1
  rw [bz1, bt1] at bc1
  have n1 : R1.R.n = R1.len := hcl (R1.R.n, R1.len) (by simp)
  have k1 : R1.R.k = 5 := hcl (R1.R.k, 5) (by simp)
  have a1 : R1.a = R1.R.a := Ev.eqA_eq fun z hz => hcl z (by simp [hz])
  have e10 := Ev.slcAt_eq h10
  have sn10 : S10.2.1 = R1.len := hcl (S10.2.1, R1.len) (by simp)
  have sc10 : S10.2.2 = R1.cap := hcl (S10.2.2, R1.cap) (by simp)
  have sa10 : S10.1 = R1.a := Ev.eqA_eq fun z hz => hcl z (by simp [hz])
  rw [sa10, sn10, sc10] at e10
  have e11 := Ev.intAt_eq h11
  have c0 : fr.n = 30 := hcl (fr.n, 30) (by simp)
  have hn : R1.len ≤ 9223372036854775807 := Nat.le_of_ble_eq_true (hpre (Nat.ble R1.len 9223372036854775807) (by simp))
  have hnn : nn = (R1.len : Int) := of_decide_eq_true (hpre (decide (nn = (R1.len : Int))) (by simp))
  have h0 : i = 0 := Nat.eq_of_beq_eq_true (hpre (Nat.beq i 0) (by simp))
  refine ⟨{ σ := Nat, ds := [], os := [], otags := [], ro := [], kh := [undef, .bool false], pk := [(1, (.pointer (some ⟨511, 0, none⟩)), .pointer (some ⟨Q1.p.b, 0, none⟩)), (10, (.slice (some ⟨600, 0, some 0⟩) 0 0), .slice R1.a R1.len R1.cap), (11, undef, .int .i64 nn)], V := [Ev.rowE 600 R1.b ⟨R1.a, 5, R1.len, fun j c => .int .i64 ((fun j c => Ev.payI (R1.R.g j c)) j c)⟩, Ev.boxE 511 Q1.p.b 24 [(.slice (some ⟨600, 0, some 0⟩) 0 0)] [.slice R1.a R1.len R1.cap]], Inv := fun x : Nat => x ≤ R1.len, μ := fun x : Nat => R1.len - x, kv := fun x : Nat => [.int .i64 (x : Int), .bool false], cv := fun _ => [], rv := fun x : Nat => [], O := fun x : Nat => qv_O R1.a R1.len R1.cap (fun j c => Ev.payI (R1.R.g j c)) R1.b Q1.p.b nn x, T := fun x : Nat => qv_T R1.a R1.len R1.cap (fun j c => Ev.payI (R1.R.g j c)) R1.b Q1.p.b nn x, s0 := (i), hO := rfl, h0 := ?_, hn := c0, hv := ?_, hpk := ?_, hF := trivial, hFo := trivial, hR := ?_, hrm := rfl, hnd := ?_, hV := ?_, hT1 := ?_, hT2 := ?_, hstep := fun x Qo hI h => qv_step R1.a R1.len R1.cap (fun j c => Ev.payI (R1.R.g j c)) R1.b Q1.p.b nn x hn hnn hI Qo h }⟩
  · (rw [h0]; exact Nat.zero_le _)
  · simp only [List.map_cons, List.map_nil, e12, e2]
  · intro x hx
    simp only [List.mem_cons, List.not_mem_nil, or_false] at hx
    rcases hx with rfl | rfl | rfl
    · exact ⟨by show 1 ∈ qv_NJ; decide, e1⟩
    · exact ⟨by show 10 ∈ qv_NJ; decide, e10⟩
    · exact ⟨by show 11 ∈ qv_NJ; decide, e11⟩
  · exact trivial
  · simpa using hg.1.1
  · intro N w0 w hr z hz
    simp only [List.mem_cons, List.not_mem_nil, or_false] at hz
    rcases hz with rfl | rfl
    · exact Ev.rowX_in hr ra1 rb1 rc1 rd1 re1 a1.symm k1 n1 (Ev.kindK_g (hpre (Ev.kindK .i64 R1.R.g R1.len 5) (by simp))) (fun _ hm => by have h5 := hg.1.2; rw [Ev.hasT_mem.2 (by simpa using hm)] at h5; cases h5)
    · exact Ev.boxX_in hr bf1 br1 bb1 bc1 (fun hm => by have h5 := hg.2; rw [Ev.hasT_mem.2 (by simpa using hm)] at h5; cases h5)
  · intro x bs jv r _ hl
    match bs, hl with
    | [], _ => exact qv_1 R1.a R1.len R1.cap (fun j c => Ev.payI (R1.R.g j c)) R1.b Q1.p.b nn x  jv r
  · intro x bs jv r _ hl
    match bs, hl with
    | [], _ => exact qv_2 R1.a R1.len R1.cap (fun j c => Ev.payI (R1.R.g j c)) R1.b Q1.p.b nn x  jv r
noncomputable def rvL : Ev.LTF := Ev.addLF 20 (Ev.oneL 0 (Ev.loopX [] [3, 2] rv_JS rv_P) Ev.noL) Ev.noLF
theorem rvL_ok : Ev.LFOk Try.prog rvL := Ev.addL1_ok Try.func20 (by kernel_rfl) (fun N w0 => Ev.oneL_ok (by kernel_rfl) (rv_ok N w0) (Ev.noL_ok _ _ _ _)) (Ev.noLF_ok _)
noncomputable def qvL : Ev.LTF := Ev.addLF 24 (Ev.oneL 0 (Ev.loopX [] [12, 2] qv_JS qv_P) Ev.noL) Ev.noLF
theorem qvL_ok : Ev.LFOk Try.prog qvL := Ev.addL1_ok Try.func24 (by kernel_rfl) (fun N w0 => Ev.oneL_ok (by kernel_rfl) (qv_ok N w0) (Ev.noL_ok _ _ _ _)) (Ev.noLF_ok _)
end Go.Proofs.Ytbpnmjjmllgehaa
