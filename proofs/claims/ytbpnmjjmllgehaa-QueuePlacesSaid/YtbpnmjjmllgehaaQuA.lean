/- Package queue: a reading is sought, in the reference and in the package. -/
import Derived.Test.YtbpnmjjmllgehaaEvF
namespace Go.Proofs.Ytbpnmjjmllgehaa
open Go Go.ChangeShapes Go.WideShapes Go.ChangeAt Go.RowKit
set_option linter.all false
/-- the place of a reading from a place on -/
def fnd (f : Nat → Nat → Int) (o m : Int) : Nat → Nat → Nat
  | 0, i => i
  | d + 1, i => if f i 0 == o && f i 1 == m then i else fnd f o m d (i + 1)
def fndB (f : Nat → Nat → Int) (o m : Int) : Nat → Nat → Bool
  | 0, _ => false
  | d + 1, i => (f i 0 == o && f i 1 == m) || fndB f o m d (i + 1)
theorem fnd_s (f : Nat → Nat → Int) (o m : Int) (d i : Nat) : fnd f o m (d + 1) i = if f i 0 == o && f i 1 == m then i else fnd f o m d (i + 1) := rfl
theorem fndB_s (f : Nat → Nat → Int) (o m : Int) (d i : Nat) : fndB f o m (d + 1) i = ((f i 0 == o && f i 1 == m) || fndB f o m d (i + 1)) := rfl
def rf_T (oi : Int) (nu : Int) (a : Option Addr) (n : Nat) (ca : Nat) (f : Nat → Nat → Int) (rb : Nat) (i : Nat) (z : Int) : Ev.Tree Ev.Out2 := (.ite (decide (Int.ofNat i < Int.ofNat n)) (.ite (Ev.inB (Int.ofNat i) n) (.ite (Nat.ble (Int.toNat (Int.ofNat i) + 1) n) (.ite (f (Int.toNat (Int.ofNat i)) (0 + 0) == oi) (.ite (Ev.inB (Int.ofNat i) n) (.ite (Nat.ble (Int.toNat (Int.ofNat i) + 1) n) (.ite (f (Int.toNat (Int.ofNat i)) (0 + 1) == nu) (.leaf ⟨.ret, [.int .i64 (Int.ofNat i), .int .i64 (Int.ofNat i)], [], []⟩) (.leaf ⟨.normal, [.int .i64 (IntKind.wrap IntKind.i64 (Int.ofNat i + 1)), .int .i64 (z)], [], []⟩)) (.fail 72)) (.fail 71)) (.leaf ⟨.normal, [.int .i64 (IntKind.wrap IntKind.i64 (Int.ofNat i + 1)), .int .i64 (z)], [], []⟩)) (.fail 72)) (.fail 71)) (.leaf ⟨(.exit 0), [.int .i64 (Int.ofNat i), .int .i64 (z)], [], []⟩))
theorem rf_1 (oi : Int) (nu : Int) (a : Option Addr) (n : Nat) (ca : Nat) (f : Nat → Nat → Int) (rb : Nat) (i : Nat) (z : Int)  (jv : Nat → Value) (r : Ev.Sup) : ((Ev.bodyX Try.prog Ev.noS Ev.noLF Ev.noL 60 (Ev.loopOf 0 (Ev.bodyOf Try.f22)) 31 (Ev.zipH [7, 6] [undef, undef] [.int .i64 (i : Int), .int .i64 z] ++ [(1, undef, .int .i64 oi), (2, undef, .int .i64 nu), (0, (.slice (some ⟨600, 0, some 0⟩) 0 0), .slice a n ca)]) [] [] [] [] [] [] [Ev.rowE 600 rb ⟨a, 5, n, fun j c => .int .i64 (f j c)⟩] [7, 6] [0, 1, 2, 3, 4, 5] jv r)).lhs = ((Ev.bodyX Try.prog Ev.noS Ev.noLF Ev.noL 60 (Ev.loopOf 0 (Ev.bodyOf Try.f22)) 31 (Ev.zipH [7, 6] [undef, undef] [.int .i64 (i : Int), .int .i64 z] ++ [(1, undef, .int .i64 oi), (2, undef, .int .i64 nu), (0, (.slice (some ⟨600, 0, some 0⟩) 0 0), .slice a n ca)]) [] [] [] [] [] [] [Ev.rowE 600 rb ⟨a, 5, n, fun j c => .int .i64 (f j c)⟩] [7, 6] [0, 1, 2, 3, 4, 5] jv r)).rhs := by kernel_rfl
theorem rf_2 (oi : Int) (nu : Int) (a : Option Addr) (n : Nat) (ca : Nat) (f : Nat → Nat → Int) (rb : Nat) (i : Nat) (z : Int)  (jv : Nat → Value) (r : Ev.Sup) : ((Ev.bodyX Try.prog Ev.noS Ev.noLF Ev.noL 60 (Ev.loopOf 0 (Ev.bodyOf Try.f22)) 31 (Ev.zipH [7, 6] [undef, undef] [.int .i64 (i : Int), .int .i64 z] ++ [(1, undef, .int .i64 oi), (2, undef, .int .i64 nu), (0, (.slice (some ⟨600, 0, some 0⟩) 0 0), .slice a n ca)]) [] [] [] [] [] [] [Ev.rowE 600 rb ⟨a, 5, n, fun j c => .int .i64 (f j c)⟩] [7, 6] [0, 1, 2, 3, 4, 5] jv r)).noC = Ev.Tree.mapT (fun o => (o, [0, 1, 2, 3, 4, 5].map fun t => (Ev.lookL ((Ev.zipH [7, 6] [undef, undef] [.int .i64 (i : Int), .int .i64 z] ++ [(1, undef, .int .i64 oi), (2, undef, .int .i64 nu), (0, (.slice (some ⟨600, 0, some 0⟩) 0 0), .slice a n ca)]) ++ (Ev.rSlots [] [] [] ++ Ev.junk jv 31)) t).2, ([] : List Ev.OD).map fun d => d.o)) (rf_T oi nu a n ca f rb i z) := by kernel_rfl
abbrev rf_JS : List Nat := [8, 9, 10, 11, 12, 13, 14, 15, 16, 17, 18, 19, 20, 21, 22, 23, 24, 25, 26, 27, 28, 29, 30]
abbrev rf_NJ : List Nat := [0, 1, 2, 3, 4, 5]
def rf_O (oi : Int) (nu : Int) (a : Option Addr) (n : Nat) (ca : Nat) (f : Nat → Nat → Int) (rb : Nat) (i : Nat) (z : Int) : Ev.Tree Ev.Out2 := .ite (fndB f oi nu (n - i) i) (.leaf ⟨.ret, [.int .i64 (fnd f oi nu (n - i) i : Int), .int .i64 (fnd f oi nu (n - i) i : Int)], [], []⟩) (.leaf ⟨.normal, [.int .i64 (n : Int), .int .i64 z], [], []⟩)
theorem rf_step (oi : Int) (nu : Int) (a : Option Addr) (n : Nat) (ca : Nat) (f : Nat → Nat → Int) (rb : Nat) (i : Nat) (z : Int) (hn : n ≤ 9223372036854775807) (hI : i ≤ n) (Qo : Ev.Out2 → Prop) (h : (rf_O oi nu a n ca f rb i z).good Qo) : (rf_T oi nu a n ca f rb i z).good (Ev.StepX [] (fun x : Nat × Int => x.1 ≤ n) (fun x : Nat × Int => n - x.1) (fun x : Nat × Int => [.int .i64 (x.1 : Int), .int .i64 x.2]) (fun _ => []) (fun x : Nat × Int => []) (fun x : Nat × Int => rf_O oi nu a n ca f rb x.1 x.2) 0 (i, z) Qo) := by
  unfold rf_T
  simp only [Int.ofNat_eq_natCast, Int.toNat_natCast]
  unfold rf_O at h
  by_cases hlt : i < n
  · refine Ev.good_t (Ev.lt_t hlt) (Ev.good_t (Ev.inB_t hlt) (Ev.good_t (Ev.ble_t hlt) ?_))
    rw [Ev.w64 (by omega) (by omega)]
    rw [show n - i = (n - (i + 1)) + 1 by omega, fndB_s, fnd_s] at h
    have next : (f i 0 == oi && f i 1 == nu) = false → Ev.StepX [] (fun x : Nat × Int => x.1 ≤ n) (fun x => n - x.1) (fun x => [.int .i64 (x.1 : Int), .int .i64 x.2]) (fun _ => []) (fun _ => []) (fun x => rf_O oi nu a n ca f rb x.1 x.2) 0 (i, z) Qo ⟨.normal, [.int .i64 ((i : Int) + 1), .int .i64 z], [], []⟩ := by
      intro hc
      rw [hc, if_neg (by simp), Bool.false_or] at h
      exact ⟨(i + 1, z), hlt, by simp only; omega, by simp, rfl, trivial, h⟩
    refine Ev.ite_good (fun h1 => ?_) (fun h1 => next (by rw [h1]; rfl))
    refine Ev.good_t (Ev.inB_t hlt) (Ev.good_t (Ev.ble_t hlt) ?_)
    refine Ev.ite_good (fun h2 => ?_) (fun h2 => next (by rw [h2]; simp))
    simp only [Nat.zero_add] at h1 h2
    rw [h1, h2, Bool.and_self, if_pos rfl, Bool.true_or] at h
    exact ⟨[], trivial, h.1 rfl⟩
  · refine Ev.good_f (Ev.lt_f hlt) ?_
    obtain rfl : i = n := by omega
    rw [Nat.sub_self] at h
    exact ⟨[], trivial, h.2 rfl⟩
noncomputable def rf_P : Ev.Parse2 := fun fr st => (Ev.natAt .i64 7 fr).bind fun i => (Ev.intAt .i64 6 fr).bind fun z => (Ev.intAt .i64 1 fr).bind fun oi => (Ev.intAt .i64 2 fr).bind fun nu => (Ev.rowAt 0 fr st).bind fun R0 => (Ev.grd (Ev.nodupT (Ev.rmL []) && !Ev.hasT (Ev.rmL []) R0.tag)).bind fun _ => some ⟨[(fr.n, 31), (R0.R.n, R0.len), (R0.R.k, 5)] ++ Ev.eqA R0.a R0.R.a, [Ev.kindK .i64 R0.R.g R0.len 5, Nat.ble R0.len 9223372036854775807, Nat.beq i 0], rf_O oi nu R0.a R0.len R0.cap (fun j c => Ev.payI (R0.R.g j c)) R0.b i z, [], Ev.rmL []⟩
theorem rf_ok (N : Nat → Prop) (w0 : World) : Ev.CodeOk none Try.prog N w0 (.block 0 (.loop (Ev.loopOf 0 (Ev.bodyOf Try.f22)))) (Ev.loopX [] [7, 6] rf_JS rf_P) := by
  refine Ev.loopX_ok (G := Ev.noS) (LF := Ev.noLF) (n := 31) (m := 60) (nj := rf_NJ) (c0 := (Ev.bodyOf Try.f22)) Ev.noS_ok (Ev.noLF_ok _) (fun N w0 => Ev.noL_ok _ N w0 _) (Ev.loop_sub (i := 0) (by kernel_rfl)) (by decide) N w0 (by decide +kernel) ?_
  intro fr st q hp hcl hpre
  simp only [rf_P, Option.bind_eq_some_iff] at hp
  obtain ⟨i, h7, z, h6, oi, h1, nu, h2, R0, h0, u, hu, hq⟩ := hp
  obtain rfl := Option.some.inj hq
  have hg := Ev.grd_eq hu
  simp only [Bool.and_eq_true, Bool.not_eq_true'] at hg
  have e7 := Ev.natAt_eq h7
  have e6 := Ev.intAt_eq h6
  have e1 := Ev.intAt_eq h1
  have e2 := Ev.intAt_eq h2
  obtain ⟨e0, er0, ra0, rb0, rc0, rd0, re0⟩ := Ev.rowAt_eq h0
  have n0 : R0.R.n = R0.len := hcl (R0.R.n, R0.len) (by simp)
  have k0 : R0.R.k = 5 := hcl (R0.R.k, 5) (by simp)
  have a0 : R0.a = R0.R.a := Ev.eqA_eq fun z hz => hcl z (by simp [hz])
  have c0 : fr.n = 31 := hcl (fr.n, 31) (by simp)
  have hn : R0.len ≤ 9223372036854775807 := Nat.le_of_ble_eq_true (hpre (Nat.ble R0.len 9223372036854775807) (by simp))
  have h0 : i = 0 := Nat.eq_of_beq_eq_true (hpre (Nat.beq i 0) (by simp))
  refine ⟨{ σ := Nat × Int, ds := [], os := [], otags := [], ro := [], kh := [undef, undef], pk := [(1, undef, .int .i64 oi), (2, undef, .int .i64 nu), (0, (.slice (some ⟨600, 0, some 0⟩) 0 0), .slice R0.a R0.len R0.cap)], V := [Ev.rowE 600 R0.b ⟨R0.a, 5, R0.len, fun j c => .int .i64 ((fun j c => Ev.payI (R0.R.g j c)) j c)⟩], Inv := fun x : Nat × Int => x.1 ≤ R0.len, μ := fun x : Nat × Int => R0.len - x.1, kv := fun x : Nat × Int => [.int .i64 (x.1 : Int), .int .i64 x.2], cv := fun _ => [], rv := fun x : Nat × Int => [], O := fun x : Nat × Int => rf_O oi nu R0.a R0.len R0.cap (fun j c => Ev.payI (R0.R.g j c)) R0.b x.1 x.2, T := fun x : Nat × Int => rf_T oi nu R0.a R0.len R0.cap (fun j c => Ev.payI (R0.R.g j c)) R0.b x.1 x.2, s0 := (i, z), hO := rfl, h0 := ?_, hn := c0, hv := ?_, hpk := ?_, hF := trivial, hFo := trivial, hR := ?_, hrm := rfl, hnd := ?_, hV := ?_, hT1 := ?_, hT2 := ?_, hstep := fun x Qo hI h => rf_step oi nu R0.a R0.len R0.cap (fun j c => Ev.payI (R0.R.g j c)) R0.b x.1 x.2 hn hI Qo h }⟩
  · (rw [h0]; exact Nat.zero_le _)
  · simp only [List.map_cons, List.map_nil, e7, e6]
  · intro x hx
    simp only [List.mem_cons, List.not_mem_nil, or_false] at hx
    rcases hx with rfl | rfl | rfl
    · exact ⟨by show 1 ∈ rf_NJ; decide, e1⟩
    · exact ⟨by show 2 ∈ rf_NJ; decide, e2⟩
    · exact ⟨by show 0 ∈ rf_NJ; decide, e0⟩
  · exact trivial
  · simpa using hg.1
  · intro N w0 w hr z hz
    simp only [List.mem_cons, List.not_mem_nil, or_false] at hz
    rcases hz with rfl
    · exact Ev.rowX_in hr ra0 rb0 rc0 rd0 re0 a0.symm k0 n0 (Ev.kindK_g (hpre (Ev.kindK .i64 R0.R.g R0.len 5) (by simp))) (fun _ hm => by have h5 := hg.2; rw [Ev.hasT_mem.2 (by simpa using hm)] at h5; cases h5)
  · intro x bs jv r _ hl
    match bs, hl with
    | [], _ => exact rf_1 oi nu R0.a R0.len R0.cap (fun j c => Ev.payI (R0.R.g j c)) R0.b x.1 x.2  jv r
  · intro x bs jv r _ hl
    match bs, hl with
    | [], _ => exact rf_2 oi nu R0.a R0.len R0.cap (fun j c => Ev.payI (R0.R.g j c)) R0.b x.1 x.2  jv r
noncomputable def rfL : Ev.LTF := Ev.addLF 22 (Ev.oneL 0 (Ev.loopX [] [7, 6] rf_JS rf_P) Ev.noL) Ev.noLF
theorem rfL_ok : Ev.LFOk Try.prog rfL := Ev.addL1_ok Try.func22 (by kernel_rfl) (fun N w0 => Ev.oneL_ok (by kernel_rfl) (rf_ok N w0) (Ev.noL_ok _ _ _ _)) (Ev.noLF_ok _)
end Go.Proofs.Ytbpnmjjmllgehaa
