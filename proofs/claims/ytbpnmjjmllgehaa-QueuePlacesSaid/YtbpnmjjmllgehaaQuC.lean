/- Package queue: a reading is sought. -/
import Derived.Test.YtbpnmjjmllgehaaQuA
namespace Go.Proofs.Ytbpnmjjmllgehaa
open Go Go.ChangeShapes Go.WideShapes Go.ChangeAt Go.RowKit
set_option linter.all false
def qf_T (nn : Int) (a : Option Addr) (n : Nat) (ca : Nat) (f : Nat → Nat → Int) (rb : Nat) (oi : Int) (nu : Int) (bb : Nat) (i : Nat) (z : Int) : Ev.Tree Ev.Out2 := (.ite (decide (Int.ofNat i < nn)) (.ite (Ev.inB (Int.ofNat i) n) (.ite (Nat.ble (Int.toNat (Int.ofNat i) + 1) n) (.ite (f (Int.toNat (Int.ofNat i)) 0 == oi && (f (Int.toNat (Int.ofNat i)) (0 + 1) == nu && true)) (.leaf ⟨.ret, [.int .i64 (Int.ofNat i), .int .i64 (Int.ofNat i)], [], []⟩) (.leaf ⟨.normal, [.int .i64 (IntKind.wrap IntKind.i64 (Int.ofNat i + 1)), .int .i64 (z)], [], []⟩)) (.fail 72)) (.fail 71)) (.leaf ⟨(.exit 0), [.int .i64 (Int.ofNat i), .int .i64 (z)], [], []⟩))
theorem qf_1 (nn : Int) (a : Option Addr) (n : Nat) (ca : Nat) (f : Nat → Nat → Int) (rb : Nat) (oi : Int) (nu : Int) (bb : Nat) (i : Nat) (z : Int)  (jv : Nat → Value) (r : Ev.Sup) : ((Ev.bodyX Try.prog Ev.noS Ev.noLF Ev.noL 60 (Ev.loopOf 0 (Ev.bodyOf Try.f27)) 22 (Ev.zipH [9, 4] [undef, undef] [.int .i64 (i : Int), .int .i64 z] ++ [(8, undef, .int .i64 nn), (7, (.slice (some ⟨600, 0, some 0⟩) 0 0), .slice a n ca), (3, (.pointer (some ⟨510, 0, none⟩)), .pointer (some ⟨bb, 0, none⟩))]) [] [] [] [] [] [] [Ev.rowE 600 rb ⟨a, 5, n, fun j c => .int .i64 (f j c)⟩, Ev.boxE 510 bb 50 [undef, undef] [.int .i64 oi, .int .i64 nu]] [9, 4] [0, 1, 2, 3, 7, 8, 20, 21] jv r)).lhs = ((Ev.bodyX Try.prog Ev.noS Ev.noLF Ev.noL 60 (Ev.loopOf 0 (Ev.bodyOf Try.f27)) 22 (Ev.zipH [9, 4] [undef, undef] [.int .i64 (i : Int), .int .i64 z] ++ [(8, undef, .int .i64 nn), (7, (.slice (some ⟨600, 0, some 0⟩) 0 0), .slice a n ca), (3, (.pointer (some ⟨510, 0, none⟩)), .pointer (some ⟨bb, 0, none⟩))]) [] [] [] [] [] [] [Ev.rowE 600 rb ⟨a, 5, n, fun j c => .int .i64 (f j c)⟩, Ev.boxE 510 bb 50 [undef, undef] [.int .i64 oi, .int .i64 nu]] [9, 4] [0, 1, 2, 3, 7, 8, 20, 21] jv r)).rhs := by kernel_rfl
theorem qf_2 (nn : Int) (a : Option Addr) (n : Nat) (ca : Nat) (f : Nat → Nat → Int) (rb : Nat) (oi : Int) (nu : Int) (bb : Nat) (i : Nat) (z : Int)  (jv : Nat → Value) (r : Ev.Sup) : ((Ev.bodyX Try.prog Ev.noS Ev.noLF Ev.noL 60 (Ev.loopOf 0 (Ev.bodyOf Try.f27)) 22 (Ev.zipH [9, 4] [undef, undef] [.int .i64 (i : Int), .int .i64 z] ++ [(8, undef, .int .i64 nn), (7, (.slice (some ⟨600, 0, some 0⟩) 0 0), .slice a n ca), (3, (.pointer (some ⟨510, 0, none⟩)), .pointer (some ⟨bb, 0, none⟩))]) [] [] [] [] [] [] [Ev.rowE 600 rb ⟨a, 5, n, fun j c => .int .i64 (f j c)⟩, Ev.boxE 510 bb 50 [undef, undef] [.int .i64 oi, .int .i64 nu]] [9, 4] [0, 1, 2, 3, 7, 8, 20, 21] jv r)).noC = Ev.Tree.mapT (fun o => (o, [0, 1, 2, 3, 7, 8, 20, 21].map fun t => (Ev.lookL ((Ev.zipH [9, 4] [undef, undef] [.int .i64 (i : Int), .int .i64 z] ++ [(8, undef, .int .i64 nn), (7, (.slice (some ⟨600, 0, some 0⟩) 0 0), .slice a n ca), (3, (.pointer (some ⟨510, 0, none⟩)), .pointer (some ⟨bb, 0, none⟩))]) ++ (Ev.rSlots [] [] [] ++ Ev.junk jv 22)) t).2, ([] : List Ev.OD).map fun d => d.o)) (qf_T nn a n ca f rb oi nu bb i z) := by kernel_rfl
abbrev qf_JS : List Nat := [5, 6, 10, 11, 12, 13, 14, 15, 16, 17, 18, 19]
abbrev qf_NJ : List Nat := [0, 1, 2, 3, 7, 8, 20, 21]
def qf_O (nn : Int) (a : Option Addr) (n : Nat) (ca : Nat) (f : Nat → Nat → Int) (rb : Nat) (oi : Int) (nu : Int) (bb : Nat) (i : Nat) (z : Int) : Ev.Tree Ev.Out2 := .ite (fndB f oi nu (n - i) i) (.leaf ⟨.ret, [.int .i64 (fnd f oi nu (n - i) i : Int), .int .i64 (fnd f oi nu (n - i) i : Int)], [], []⟩) (.leaf ⟨.normal, [.int .i64 (n : Int), .int .i64 z], [], []⟩)
theorem qf_step (nn : Int) (a : Option Addr) (n : Nat) (ca : Nat) (f : Nat → Nat → Int) (rb : Nat) (oi : Int) (nu : Int) (bb : Nat) (i : Nat) (z : Int) (hn : n ≤ 9223372036854775807) (hnn : nn = (n : Int)) (hI : i ≤ n) (Qo : Ev.Out2 → Prop) (h : (qf_O nn a n ca f rb oi nu bb i z).good Qo) : (qf_T nn a n ca f rb oi nu bb i z).good (Ev.StepX [] (fun x : Nat × Int => x.1 ≤ n) (fun x : Nat × Int => n - x.1) (fun x : Nat × Int => [.int .i64 (x.1 : Int), .int .i64 x.2]) (fun _ => []) (fun x : Nat × Int => []) (fun x : Nat × Int => qf_O nn a n ca f rb oi nu bb x.1 x.2) 0 (i, z) Qo) := by
  unfold qf_T
  simp only [Int.ofNat_eq_natCast, Int.toNat_natCast]
  unfold qf_O at h
  subst hnn
  by_cases hlt : i < n
  · refine Ev.good_t (Ev.lt_t hlt) (Ev.good_t (Ev.inB_t hlt) (Ev.good_t (Ev.ble_t hlt) ?_))
    rw [Ev.w64 (by omega) (by omega)]
    rw [show n - i = (n - (i + 1)) + 1 by omega, fndB_s, fnd_s] at h
    refine Ev.ite_good (fun h1 => ?_) (fun h1 => ?_)
    · simp only [Bool.and_true, Nat.zero_add] at h1
      rw [h1, if_pos rfl, Bool.true_or] at h
      exact ⟨[], trivial, h.1 rfl⟩
    · simp only [Bool.and_true, Nat.zero_add] at h1
      rw [h1, if_neg (by simp), Bool.false_or] at h
      exact ⟨(i + 1, z), hlt, by simp only; omega, by simp, rfl, trivial, h⟩
  · refine Ev.good_f (Ev.lt_f hlt) ?_
    obtain rfl : i = n := by omega
    rw [Nat.sub_self] at h
    exact ⟨[], trivial, h.2 rfl⟩
noncomputable def qf_P : Ev.Parse2 := fun fr st => (Ev.natAt .i64 9 fr).bind fun i => (Ev.intAt .i64 4 fr).bind fun z => (Ev.intAt .i64 8 fr).bind fun nn => (Ev.rowAt 7 fr st).bind fun R7 => (Ev.ptrAt 3 fr st).bind fun Q3 => (Ev.two .i64 Q3.l).bind fun Z3 => (Ev.grd (Ev.nodupT (Ev.rmL []) && !Ev.hasT (Ev.rmL []) R7.tag && !Ev.hasT (Ev.rmL []) Q3.tag)).bind fun _ => some ⟨[(fr.n, 22), (R7.R.n, R7.len), (R7.R.k, 5), (Q3.b', Q3.b), (Q3.T, 50)] ++ Ev.eqA R7.a R7.R.a, [Ev.kindK .i64 R7.R.g R7.len 5, Nat.ble R7.len 9223372036854775807, decide (nn = (R7.len : Int)), Nat.beq i 0], qf_O nn R7.a R7.len R7.cap (fun j c => Ev.payI (R7.R.g j c)) R7.b Z3.1 Z3.2 Q3.b i z, [], Ev.rmL []⟩
theorem qf_ok (N : Nat → Prop) (w0 : World) : Ev.CodeOk none Try.prog N w0 (.block 0 (.loop (Ev.loopOf 0 (Ev.bodyOf Try.f27)))) (Ev.loopX [] [9, 4] qf_JS qf_P) := by
  refine Ev.loopX_ok (G := Ev.noS) (LF := Ev.noLF) (n := 22) (m := 60) (nj := qf_NJ) (c0 := (Ev.bodyOf Try.f27)) Ev.noS_ok (Ev.noLF_ok _) (fun N w0 => Ev.noL_ok _ N w0 _) (Ev.loop_sub (i := 0) (by kernel_rfl)) (by decide) N w0 (by decide +kernel) ?_
  intro fr st q hp hcl hpre
  simp only [qf_P, Option.bind_eq_some_iff] at hp
  obtain ⟨i, h9, z, h4, nn, h8, R7, h7, Q3, h3, Z3, hz3, u, hu, hq⟩ := hp
  obtain rfl := Option.some.inj hq
  have hg := Ev.grd_eq hu
  simp only [Bool.and_eq_true, Bool.not_eq_true'] at hg
  have e9 := Ev.natAt_eq h9
  have e4 := Ev.intAt_eq h4
  have e8 := Ev.intAt_eq h8
  obtain ⟨e7, er7, ra7, rb7, rc7, rd7, re7⟩ := Ev.rowAt_eq h7
  have n7 : R7.R.n = R7.len := hcl (R7.R.n, R7.len) (by simp)
  have k7 : R7.R.k = 5 := hcl (R7.R.k, 5) (by simp)
  have a7 : R7.a = R7.R.a := Ev.eqA_eq fun z hz => hcl z (by simp [hz])
  obtain ⟨e3, be3, bf3, br3, bb3, bc3, bd3⟩ := Ev.ptrAt_eq h3
  have bz3 := Ev.two_eq hz3
  have bn3 : Q3.b' = Q3.b := hcl (Q3.b', Q3.b) (by simp)
  have bt3 : Q3.T = 50 := hcl (Q3.T, 50) (by simp)
  rw [bn3] at e3
  rw [bz3, bt3] at bc3
  have c0 : fr.n = 22 := hcl (fr.n, 22) (by simp)
  have hn : R7.len ≤ 9223372036854775807 := Nat.le_of_ble_eq_true (hpre (Nat.ble R7.len 9223372036854775807) (by simp))
  have hnn : nn = (R7.len : Int) := of_decide_eq_true (hpre (decide (nn = (R7.len : Int))) (by simp))
  have h0 : i = 0 := Nat.eq_of_beq_eq_true (hpre (Nat.beq i 0) (by simp))
  refine ⟨{ σ := Nat × Int, ds := [], os := [], otags := [], ro := [], kh := [undef, undef], pk := [(8, undef, .int .i64 nn), (7, (.slice (some ⟨600, 0, some 0⟩) 0 0), .slice R7.a R7.len R7.cap), (3, (.pointer (some ⟨510, 0, none⟩)), .pointer (some ⟨Q3.b, 0, none⟩))], V := [Ev.rowE 600 R7.b ⟨R7.a, 5, R7.len, fun j c => .int .i64 ((fun j c => Ev.payI (R7.R.g j c)) j c)⟩, Ev.boxE 510 Q3.b 50 [undef, undef] [.int .i64 Z3.1, .int .i64 Z3.2]], Inv := fun x : Nat × Int => x.1 ≤ R7.len, μ := fun x : Nat × Int => R7.len - x.1, kv := fun x : Nat × Int => [.int .i64 (x.1 : Int), .int .i64 x.2], cv := fun _ => [], rv := fun x : Nat × Int => [], O := fun x : Nat × Int => qf_O nn R7.a R7.len R7.cap (fun j c => Ev.payI (R7.R.g j c)) R7.b Z3.1 Z3.2 Q3.b x.1 x.2, T := fun x : Nat × Int => qf_T nn R7.a R7.len R7.cap (fun j c => Ev.payI (R7.R.g j c)) R7.b Z3.1 Z3.2 Q3.b x.1 x.2, s0 := (i, z), hO := rfl, h0 := ?_, hn := c0, hv := ?_, hpk := ?_, hF := trivial, hFo := trivial, hR := ?_, hrm := rfl, hnd := ?_, hV := ?_, hT1 := ?_, hT2 := ?_, hstep := fun x Qo hI h => qf_step nn R7.a R7.len R7.cap (fun j c => Ev.payI (R7.R.g j c)) R7.b Z3.1 Z3.2 Q3.b x.1 x.2 hn hnn hI Qo h }⟩
  · (rw [h0]; exact Nat.zero_le _)
  · simp only [List.map_cons, List.map_nil, e9, e4]
  · intro x hx
    simp only [List.mem_cons, List.not_mem_nil, or_false] at hx
    rcases hx with rfl | rfl | rfl
    · exact ⟨by show 8 ∈ qf_NJ; decide, e8⟩
    · exact ⟨by show 7 ∈ qf_NJ; decide, e7⟩
    · exact ⟨by show 3 ∈ qf_NJ; decide, e3⟩
  · exact trivial
  · simpa using hg.1.1
  · intro N w0 w hr z hz
    simp only [List.mem_cons, List.not_mem_nil, or_false] at hz
    rcases hz with rfl | rfl
    · exact Ev.rowX_in hr ra7 rb7 rc7 rd7 re7 a7.symm k7 n7 (Ev.kindK_g (hpre (Ev.kindK .i64 R7.R.g R7.len 5) (by simp))) (fun _ hm => by have h5 := hg.1.2; rw [Ev.hasT_mem.2 (by simpa using hm)] at h5; cases h5)
    · exact Ev.boxX_in hr bf3 br3 bb3 bc3 (fun hm => by have h5 := hg.2; rw [Ev.hasT_mem.2 (by simpa using hm)] at h5; cases h5)
  · intro x bs jv r _ hl
    match bs, hl with
    | [], _ => exact qf_1 nn R7.a R7.len R7.cap (fun j c => Ev.payI (R7.R.g j c)) R7.b Z3.1 Z3.2 Q3.b x.1 x.2  jv r
  · intro x bs jv r _ hl
    match bs, hl with
    | [], _ => exact qf_2 nn R7.a R7.len R7.cap (fun j c => Ev.payI (R7.R.g j c)) R7.b Z3.1 Z3.2 Q3.b x.1 x.2  jv r
noncomputable def qfL : Ev.LTF := Ev.addLF 27 (Ev.oneL 0 (Ev.loopX [] [9, 4] qf_JS qf_P) Ev.noL) Ev.noLF
theorem qfL_ok : Ev.LFOk Try.prog qfL := Ev.addL1_ok Try.func27 (by kernel_rfl) (fun N w0 => Ev.oneL_ok (by kernel_rfl) (qf_ok N w0) (Ev.noL_ok _ _ _ _)) (Ev.noLF_ok _)
end Go.Proofs.Ytbpnmjjmllgehaa
