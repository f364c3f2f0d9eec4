/- Package digest: the law of undoing. -/
import Derived.Test.YtkdkkmpgpmgfoaaDgG
namespace Go.Proofs.Ytkdkkmpgpmgfoaa
open Go Go.ChangeShapes Go.WideShapes Go.ChangeAt Go.RowKit
set_option linter.all false
/-- a byte is taken out -/
def und (k x z : Int) : Int := Int.ofNat (BitVec.toNat (BitVec.ofInt 64 (IntKind.wrap .u64 (x * k)) ^^^ BitVec.ofInt 64 (IntKind.wrap .u64 z)))
def unf (f : Nat → Int) (k : Int) : Nat → Int → Int
  | 0, x => x
  | i + 1, x => unf f k i (IntKind.wrap .u64 (und k x (f i)))
def ulp_T (k : Int) (a : Option Addr) (n : Nat) (ca : Nat) (f : Nat → Int) (rb : Nat) (z : Int) (x : Int) : Ev.Tree Ev.Out2 := (.ite (decide (z ≥ 0)) (.ite (Ev.inB z n) (.ite (Nat.ble (Int.toNat z + 1) n) (.leaf ⟨.normal, [.int .i64 (IntKind.wrap IntKind.i64 (z - 1)), .int .u64 (IntKind.wrap IntKind.u64 (Int.ofNat (BitVec.toNat (BitVec.ofInt 64 (IntKind.wrap IntKind.u64 (x * k)) ^^^ BitVec.ofInt 64 (IntKind.wrap IntKind.u64 (f (Int.toNat z)))))))], [], []⟩) (.fail 72)) (.fail 71)) (.leaf ⟨(.exit 0), [.int .i64 (z), .int .u64 (x)], [], []⟩))
theorem ulp_1 (k : Int) (a : Option Addr) (n : Nat) (ca : Nat) (f : Nat → Int) (rb : Nat) (z : Int) (x : Int)  (jv : Nat → Value) (r : Ev.Sup) : ((Ev.bodyX Try.prog Ev.noS Ev.noLF Ev.noL 60 (Ev.loopOf 0 (Ev.bodyOf Try.f7)) 45 (Ev.zipH [8, 6] [undef, undef] [.int .i64 z, .int .u64 x] ++ [(7, undef, .int .u64 k), (1, (.slice (some ⟨600, 0, some 0⟩) 0 0), .slice a n ca)]) [] [] [] [] [] [] [Ev.rowE 600 rb ⟨a, 1, n, fun j _ => .int .u8 (f j)⟩] [8, 6] [0, 1, 2, 3, 4, 5, 7, 9, 10, 11, 12, 13, 14, 15, 16, 17, 18, 19, 20, 34, 35, 36, 37, 38, 39, 40, 41, 42, 43, 44] jv r)).lhs = ((Ev.bodyX Try.prog Ev.noS Ev.noLF Ev.noL 60 (Ev.loopOf 0 (Ev.bodyOf Try.f7)) 45 (Ev.zipH [8, 6] [undef, undef] [.int .i64 z, .int .u64 x] ++ [(7, undef, .int .u64 k), (1, (.slice (some ⟨600, 0, some 0⟩) 0 0), .slice a n ca)]) [] [] [] [] [] [] [Ev.rowE 600 rb ⟨a, 1, n, fun j _ => .int .u8 (f j)⟩] [8, 6] [0, 1, 2, 3, 4, 5, 7, 9, 10, 11, 12, 13, 14, 15, 16, 17, 18, 19, 20, 34, 35, 36, 37, 38, 39, 40, 41, 42, 43, 44] jv r)).rhs := by kernel_rfl
theorem ulp_2 (k : Int) (a : Option Addr) (n : Nat) (ca : Nat) (f : Nat → Int) (rb : Nat) (z : Int) (x : Int)  (jv : Nat → Value) (r : Ev.Sup) : ((Ev.bodyX Try.prog Ev.noS Ev.noLF Ev.noL 60 (Ev.loopOf 0 (Ev.bodyOf Try.f7)) 45 (Ev.zipH [8, 6] [undef, undef] [.int .i64 z, .int .u64 x] ++ [(7, undef, .int .u64 k), (1, (.slice (some ⟨600, 0, some 0⟩) 0 0), .slice a n ca)]) [] [] [] [] [] [] [Ev.rowE 600 rb ⟨a, 1, n, fun j _ => .int .u8 (f j)⟩] [8, 6] [0, 1, 2, 3, 4, 5, 7, 9, 10, 11, 12, 13, 14, 15, 16, 17, 18, 19, 20, 34, 35, 36, 37, 38, 39, 40, 41, 42, 43, 44] jv r)).noC = Ev.Tree.mapT (fun o => (o, [0, 1, 2, 3, 4, 5, 7, 9, 10, 11, 12, 13, 14, 15, 16, 17, 18, 19, 20, 34, 35, 36, 37, 38, 39, 40, 41, 42, 43, 44].map fun t => (Ev.lookL ((Ev.zipH [8, 6] [undef, undef] [.int .i64 z, .int .u64 x] ++ [(7, undef, .int .u64 k), (1, (.slice (some ⟨600, 0, some 0⟩) 0 0), .slice a n ca)]) ++ (Ev.rSlots [] [] [] ++ Ev.junk jv 45)) t).2, ([] : List Ev.OD).map fun d => d.o)) (ulp_T k a n ca f rb z x) := by kernel_rfl
abbrev ulp_JS : List Nat := [21, 22, 23, 24, 25, 26, 27, 28, 29, 30, 31, 32, 33]
abbrev ulp_NJ : List Nat := [0, 1, 2, 3, 4, 5, 7, 9, 10, 11, 12, 13, 14, 15, 16, 17, 18, 19, 20, 34, 35, 36, 37, 38, 39, 40, 41, 42, 43, 44]
def ulp_O (k : Int) (a : Option Addr) (n : Nat) (ca : Nat) (f : Nat → Int) (rb : Nat) (z : Int) (x : Int) : Ev.Tree Ev.Out2 := .leaf ⟨.normal, [.int .i64 (-1), .int .u64 (unf f k (z + 1).toNat x)], [], []⟩
theorem ulp_step (k : Int) (a : Option Addr) (n : Nat) (ca : Nat) (f : Nat → Int) (rb : Nat) (z : Int) (x : Int) (hn : n ≤ 9223372036854775807) (hI : -1 ≤ z ∧ z < (n : Int)) (Qo : Ev.Out2 → Prop) (h : (ulp_O k a n ca f rb z x).good Qo) : (ulp_T k a n ca f rb z x).good (Ev.StepX [] (fun x : Int × Int => -1 ≤ x.1 ∧ x.1 < (n : Int)) (fun x : Int × Int => (x.1 + 1).toNat) (fun x : Int × Int => [.int .i64 x.1, .int .u64 x.2]) (fun _ => []) (fun x : Int × Int => []) (fun x : Int × Int => ulp_O k a n ca f rb x.1 x.2) 0 (z, x) Qo) := by
  unfold ulp_T
  unfold ulp_O at h
  by_cases hz : 0 ≤ z
  · obtain ⟨i, rfl⟩ : ∃ i : Nat, z = (i : Int) := ⟨z.toNat, by omega⟩
    have hlt : i < n := by omega
    simp only [Int.toNat_natCast]
    refine Ev.good_t (by simp) (Ev.good_t (Ev.inB_t hlt) (Ev.good_t (Ev.ble_t hlt) ?_))
    rw [Ev.w64 (by omega) (by omega)]
    rw [show ((i : Int) + 1).toNat = i + 1 by omega] at h
    refine ⟨((i : Int) - 1, IntKind.wrap .u64 (und k x (f i))), by simp only; omega, by simp only; omega, by simp [und], rfl, trivial, ?_⟩
    simp only [ulp_O]
    rw [show ((i : Int) - 1 + 1).toNat = i by omega]
    exact h
  · refine Ev.good_f (by simp; omega) ?_
    obtain rfl : z = -1 := by omega
    exact ⟨[], trivial, h⟩
noncomputable def ulp_P : Ev.Parse2 := fun fr st => (Ev.intAt .i64 8 fr).bind fun z => (Ev.intAt .u64 6 fr).bind fun x => (Ev.intAt .u64 7 fr).bind fun k => (Ev.rowAt 1 fr st).bind fun R1 => (Ev.grd (Ev.nodupT (Ev.rmL []) && !Ev.hasT (Ev.rmL []) R1.tag)).bind fun _ => some ⟨[(fr.n, 45), (R1.R.n, R1.len), (R1.R.k, 1)] ++ Ev.eqA R1.a R1.R.a, [Ev.kindR .u8 R1.R.g R1.len, Nat.ble R1.len 9223372036854775807, decide (-1 ≤ z ∧ z < (R1.len : Int))], ulp_O k R1.a R1.len R1.cap (fun j => Ev.payI (R1.R.g j 0)) R1.b z x, [], Ev.rmL []⟩
theorem ulp_ok (N : Nat → Prop) (w0 : World) : Ev.CodeOk none Try.prog N w0 (.block 0 (.loop (Ev.loopOf 0 (Ev.bodyOf Try.f7)))) (Ev.loopX [] [8, 6] ulp_JS ulp_P) := by
  refine Ev.loopX_ok (G := Ev.noS) (LF := Ev.noLF) (n := 45) (m := 60) (nj := ulp_NJ) (c0 := (Ev.bodyOf Try.f7)) Ev.noS_ok (Ev.noLF_ok _) (fun N w0 => Ev.noL_ok _ N w0 _) (Ev.loop_sub (i := 0) (by kernel_rfl)) (by decide) N w0 (by decide +kernel) ?_
  intro fr st q hp hcl hpre
  simp only [ulp_P, Option.bind_eq_some_iff] at hp
  obtain ⟨z, h8, x, h6, k, h7, R1, h1, u, hu, hq⟩ := hp
  obtain rfl := Option.some.inj hq
  have hg := Ev.grd_eq hu
  simp only [Bool.and_eq_true, Bool.not_eq_true'] at hg
  have e8 := Ev.intAt_eq h8
  have e6 := Ev.intAt_eq h6
  have e7 := Ev.intAt_eq h7
  obtain ⟨e1, er1, ra1, rb1, rc1, rd1, re1⟩ := Ev.rowAt_eq h1
  have n1 : R1.R.n = R1.len := hcl (R1.R.n, R1.len) (by simp)
  have k1 : R1.R.k = 1 := hcl (R1.R.k, 1) (by simp)
  have a1 : R1.a = R1.R.a := Ev.eqA_eq fun z hz => hcl z (by simp [hz])
  have c0 : fr.n = 45 := hcl (fr.n, 45) (by simp)
  have hn : R1.len ≤ 9223372036854775807 := Nat.le_of_ble_eq_true (hpre (Nat.ble R1.len 9223372036854775807) (by simp))
  have h0 : -1 ≤ z ∧ z < (R1.len : Int) := of_decide_eq_true (hpre (decide (-1 ≤ z ∧ z < (R1.len : Int))) (by simp))
  refine ⟨{ σ := Int × Int, ds := [], os := [], otags := [], ro := [], kh := [undef, undef], pk := [(7, undef, .int .u64 k), (1, (.slice (some ⟨600, 0, some 0⟩) 0 0), .slice R1.a R1.len R1.cap)], V := [Ev.rowE 600 R1.b ⟨R1.a, 1, R1.len, fun j _ => .int .u8 ((fun j => Ev.payI (R1.R.g j 0)) j)⟩], Inv := fun x : Int × Int => -1 ≤ x.1 ∧ x.1 < (R1.len : Int), μ := fun x : Int × Int => (x.1 + 1).toNat, kv := fun x : Int × Int => [.int .i64 x.1, .int .u64 x.2], cv := fun _ => [], rv := fun x : Int × Int => [], O := fun x : Int × Int => ulp_O k R1.a R1.len R1.cap (fun j => Ev.payI (R1.R.g j 0)) R1.b x.1 x.2, T := fun x : Int × Int => ulp_T k R1.a R1.len R1.cap (fun j => Ev.payI (R1.R.g j 0)) R1.b x.1 x.2, s0 := (z, x), hO := rfl, h0 := ?_, hn := c0, hv := ?_, hpk := ?_, hF := trivial, hFo := trivial, hR := ?_, hrm := rfl, hnd := ?_, hV := ?_, hT1 := ?_, hT2 := ?_, hstep := fun x Qo hI h => ulp_step k R1.a R1.len R1.cap (fun j => Ev.payI (R1.R.g j 0)) R1.b x.1 x.2 hn hI Qo h }⟩
  · exact h0
  · simp only [List.map_cons, List.map_nil, e8, e6]
  · intro x hx
    simp only [List.mem_cons, List.not_mem_nil, or_false] at hx
    rcases hx with rfl | rfl
    · exact ⟨by show 7 ∈ ulp_NJ; decide, e7⟩
    · exact ⟨by show 1 ∈ ulp_NJ; decide, e1⟩
  · exact trivial
  · simpa using hg.1
  · intro w hr z hz
    simp only [List.mem_cons, List.not_mem_nil, or_false] at hz
    rcases hz with rfl
    · exact Ev.rowX_in hr ra1 rb1 rc1 rd1 re1 a1.symm k1 n1 (Ev.kindR_g (hpre (Ev.kindR .u8 R1.R.g R1.len) (by simp))) (fun _ hm => by have h5 := hg.2; rw [Ev.hasT_mem.2 (by simpa using hm)] at h5; cases h5)
  · intro x bs jv r _ hl
    match bs, hl with
    | [], _ => exact ulp_1 k R1.a R1.len R1.cap (fun j => Ev.payI (R1.R.g j 0)) R1.b x.1 x.2  jv r
  · intro x bs jv r _ hl
    match bs, hl with
    | [], _ => exact ulp_2 k R1.a R1.len R1.cap (fun j => Ev.payI (R1.R.g j 0)) R1.b x.1 x.2  jv r
noncomputable def uL : Ev.LTF := Ev.addLF 7 (Ev.oneL 0 (Ev.loopX [] [8, 6] ulp_JS ulp_P) Ev.noL) Ev.noLF
theorem uL_ok : Ev.LFOk Try.prog uL := Ev.addL1_ok Try.func7 (by kernel_rfl) (fun N w0 => Ev.oneL_ok (by kernel_rfl) (ulp_ok N w0) (Ev.noL_ok _ _ _ _)) (Ev.noLF_ok _)
end Go.Proofs.Ytkdkkmpgpmgfoaa
