/- Package digest: the reference's loop. -/
import Derived.Test.YtkdkkmpgpmgfoaaDgE
namespace Go.Proofs.Ytkdkkmpgpmgfoaa
open Go Go.ChangeShapes Go.WideShapes Go.ChangeAt Go.RowKit
set_option linter.all false
def rlp_T (a : Option Addr) (n : Nat) (ca : Nat) (f : Nat → Int) (rb : Nat) (i : Nat) (s : Int) : Ev.Tree Ev.Out2 := (.ite (decide (Int.ofNat i < Int.ofNat n)) (.ite (Ev.inB (Int.ofNat i) n) (.ite (Nat.ble (Int.toNat (Int.ofNat i) + 1) n) (.leaf ⟨.normal, [.int .i64 (IntKind.wrap IntKind.i64 (Int.ofNat i + 1)), .int .u64 (IntKind.wrap IntKind.u64 (IntKind.wrap IntKind.u64 (Int.ofNat (BitVec.toNat (BitVec.ofInt 64 s ^^^ BitVec.ofInt 64 (IntKind.wrap IntKind.u64 (f (Int.toNat ↑i)))))) * 1099511628211))], [], []⟩) (.fail 72)) (.fail 71)) (.leaf ⟨(.exit 0), [.int .i64 (Int.ofNat i), .int .u64 (s)], [], []⟩))
theorem rlp_1 (a : Option Addr) (n : Nat) (ca : Nat) (f : Nat → Int) (rb : Nat) (i : Nat) (s : Int)  (jv : Nat → Value) (r : Ev.Sup) : ((Ev.bodyX Try.prog Ev.noS Ev.noLF Ev.noL 60 (Ev.loopOf 0 (Ev.bodyOf Try.f12)) 21 (Ev.zipH [5, 0] [undef, undef] [.int .i64 (i : Int), .int .u64 s] ++ [(1, (.slice (some ⟨600, 0, some 0⟩) 0 0), .slice a n ca)]) [] [] [] [] [] [] [Ev.rowE 600 rb ⟨a, 1, n, fun j _ => .int .u8 (f j)⟩] [5, 0] [1, 2, 3, 4, 20] jv r)).lhs = ((Ev.bodyX Try.prog Ev.noS Ev.noLF Ev.noL 60 (Ev.loopOf 0 (Ev.bodyOf Try.f12)) 21 (Ev.zipH [5, 0] [undef, undef] [.int .i64 (i : Int), .int .u64 s] ++ [(1, (.slice (some ⟨600, 0, some 0⟩) 0 0), .slice a n ca)]) [] [] [] [] [] [] [Ev.rowE 600 rb ⟨a, 1, n, fun j _ => .int .u8 (f j)⟩] [5, 0] [1, 2, 3, 4, 20] jv r)).rhs := by kernel_rfl
theorem rlp_2 (a : Option Addr) (n : Nat) (ca : Nat) (f : Nat → Int) (rb : Nat) (i : Nat) (s : Int)  (jv : Nat → Value) (r : Ev.Sup) : ((Ev.bodyX Try.prog Ev.noS Ev.noLF Ev.noL 60 (Ev.loopOf 0 (Ev.bodyOf Try.f12)) 21 (Ev.zipH [5, 0] [undef, undef] [.int .i64 (i : Int), .int .u64 s] ++ [(1, (.slice (some ⟨600, 0, some 0⟩) 0 0), .slice a n ca)]) [] [] [] [] [] [] [Ev.rowE 600 rb ⟨a, 1, n, fun j _ => .int .u8 (f j)⟩] [5, 0] [1, 2, 3, 4, 20] jv r)).noC = Ev.Tree.mapT (fun o => (o, [1, 2, 3, 4, 20].map fun t => (Ev.lookL ((Ev.zipH [5, 0] [undef, undef] [.int .i64 (i : Int), .int .u64 s] ++ [(1, (.slice (some ⟨600, 0, some 0⟩) 0 0), .slice a n ca)]) ++ (Ev.rSlots [] [] [] ++ Ev.junk jv 21)) t).2, ([] : List Ev.OD).map fun d => d.o)) (rlp_T a n ca f rb i s) := by kernel_rfl
abbrev rlp_JS : List Nat := [6, 7, 8, 9, 10, 11, 12, 13, 14, 15, 16, 17, 18, 19]
abbrev rlp_NJ : List Nat := [1, 2, 3, 4, 20]
def rlp_O (a : Option Addr) (n : Nat) (ca : Nat) (f : Nat → Int) (rb : Nat) (i : Nat) (s : Int) : Ev.Tree Ev.Out2 := .leaf ⟨.normal, [.int .i64 (n : Int), .int .u64 (fol f (n - i) i s)], [], []⟩
theorem rlp_step (a : Option Addr) (n : Nat) (ca : Nat) (f : Nat → Int) (rb : Nat) (i : Nat) (s : Int) (hn : n ≤ 9223372036854775807) (hI : i ≤ n) (Qo : Ev.Out2 → Prop) (h : (rlp_O a n ca f rb i s).good Qo) : (rlp_T a n ca f rb i s).good (Ev.StepX [] (fun x : Nat × Int => x.1 ≤ n) (fun x : Nat × Int => n - x.1) (fun x : Nat × Int => [.int .i64 (x.1 : Int), .int .u64 x.2]) (fun _ => []) (fun x : Nat × Int => []) (fun x : Nat × Int => rlp_O a n ca f rb x.1 x.2) 0 (i, s) Qo) := by
  unfold rlp_T
  simp only [Int.ofNat_eq_natCast, Int.toNat_natCast]
  unfold rlp_O at h
  by_cases hlt : i < n
  · refine Ev.good_t (Ev.lt_t hlt) (Ev.good_t (Ev.inB_t hlt) (Ev.good_t (Ev.ble_t hlt) ?_))
    rw [Ev.w64 (by omega) (by omega)]
    rw [show n - i = (n - (i + 1)) + 1 by omega, fol_s] at h
    exact ⟨(i + 1, stp s (f i)), hlt, by simp only; omega, by simp [stp], rfl, trivial, h⟩
  · refine Ev.good_f (Ev.lt_f hlt) ?_
    obtain rfl : i = n := by omega
    rw [Nat.sub_self] at h
    exact ⟨[], trivial, h⟩
noncomputable def rlp_P : Ev.Parse2 := fun fr st => (Ev.natAt .i64 5 fr).bind fun i => (Ev.intAt .u64 0 fr).bind fun s => (Ev.rowAt 1 fr st).bind fun R1 => (Ev.grd (Ev.nodupT (Ev.rmL []) && !Ev.hasT (Ev.rmL []) R1.tag)).bind fun _ => some ⟨[(fr.n, 21), (R1.R.n, R1.len), (R1.R.k, 1)] ++ Ev.eqA R1.a R1.R.a, [Ev.kindR .u8 R1.R.g R1.len, Nat.ble R1.len 9223372036854775807, Nat.beq i 0], rlp_O R1.a R1.len R1.cap (fun j => Ev.payI (R1.R.g j 0)) R1.b i s, [], Ev.rmL []⟩
theorem rlp_ok (N : Nat → Prop) (w0 : World) : Ev.CodeOk none Try.prog N w0 (.block 0 (.loop (Ev.loopOf 0 (Ev.bodyOf Try.f12)))) (Ev.loopX [] [5, 0] rlp_JS rlp_P) := by
  refine Ev.loopX_ok (G := Ev.noS) (LF := Ev.noLF) (n := 21) (m := 60) (nj := rlp_NJ) (c0 := (Ev.bodyOf Try.f12)) Ev.noS_ok (Ev.noLF_ok _) (fun N w0 => Ev.noL_ok _ N w0 _) (Ev.loop_sub (i := 0) (by kernel_rfl)) (by decide) N w0 (by decide +kernel) ?_
  intro fr st q hp hcl hpre
  simp only [rlp_P, Option.bind_eq_some_iff] at hp
  obtain ⟨i, h5, s, h0, R1, h1, u, hu, hq⟩ := hp
  obtain rfl := Option.some.inj hq
  have hg := Ev.grd_eq hu
  simp only [Bool.and_eq_true, Bool.not_eq_true'] at hg
  have e5 := Ev.natAt_eq h5
  have e0 := Ev.intAt_eq h0
  obtain ⟨e1, er1, ra1, rb1, rc1, rd1, re1⟩ := Ev.rowAt_eq h1
  have n1 : R1.R.n = R1.len := hcl (R1.R.n, R1.len) (by simp)
  have k1 : R1.R.k = 1 := hcl (R1.R.k, 1) (by simp)
  have a1 : R1.a = R1.R.a := Ev.eqA_eq fun z hz => hcl z (by simp [hz])
  have c0 : fr.n = 21 := hcl (fr.n, 21) (by simp)
  have hn : R1.len ≤ 9223372036854775807 := Nat.le_of_ble_eq_true (hpre (Nat.ble R1.len 9223372036854775807) (by simp))
  have h0 : i = 0 := Nat.eq_of_beq_eq_true (hpre (Nat.beq i 0) (by simp))
  refine ⟨{ σ := Nat × Int, ds := [], os := [], otags := [], ro := [], kh := [undef, undef], pk := [(1, (.slice (some ⟨600, 0, some 0⟩) 0 0), .slice R1.a R1.len R1.cap)], V := [Ev.rowE 600 R1.b ⟨R1.a, 1, R1.len, fun j _ => .int .u8 ((fun j => Ev.payI (R1.R.g j 0)) j)⟩], Inv := fun x : Nat × Int => x.1 ≤ R1.len, μ := fun x : Nat × Int => R1.len - x.1, kv := fun x : Nat × Int => [.int .i64 (x.1 : Int), .int .u64 x.2], cv := fun _ => [], rv := fun x : Nat × Int => [], O := fun x : Nat × Int => rlp_O R1.a R1.len R1.cap (fun j => Ev.payI (R1.R.g j 0)) R1.b x.1 x.2, T := fun x : Nat × Int => rlp_T R1.a R1.len R1.cap (fun j => Ev.payI (R1.R.g j 0)) R1.b x.1 x.2, s0 := (i, s), hO := rfl, h0 := ?_, hn := c0, hv := ?_, hpk := ?_, hF := trivial, hFo := trivial, hR := ?_, hrm := rfl, hnd := ?_, hV := ?_, hT1 := ?_, hT2 := ?_, hstep := fun x Qo hI h => rlp_step R1.a R1.len R1.cap (fun j => Ev.payI (R1.R.g j 0)) R1.b x.1 x.2 hn hI Qo h }⟩
  · (rw [h0]; exact Nat.zero_le _)
  · simp only [List.map_cons, List.map_nil, e5, e0]
  · intro x hx
    simp only [List.mem_cons, List.not_mem_nil, or_false] at hx
    rcases hx with rfl
    · exact ⟨by show 1 ∈ rlp_NJ; decide, e1⟩
  · exact trivial
  · simpa using hg.1
  · intro w hr z hz
    simp only [List.mem_cons, List.not_mem_nil, or_false] at hz
    rcases hz with rfl
    · exact Ev.rowX_in hr ra1 rb1 rc1 rd1 re1 a1.symm k1 n1 (Ev.kindR_g (hpre (Ev.kindR .u8 R1.R.g R1.len) (by simp))) (fun _ hm => by have h5 := hg.2; rw [Ev.hasT_mem.2 (by simpa using hm)] at h5; cases h5)
  · intro x bs jv r _ hl
    match bs, hl with
    | [], _ => exact rlp_1 R1.a R1.len R1.cap (fun j => Ev.payI (R1.R.g j 0)) R1.b x.1 x.2  jv r
  · intro x bs jv r _ hl
    match bs, hl with
    | [], _ => exact rlp_2 R1.a R1.len R1.cap (fun j => Ev.payI (R1.R.g j 0)) R1.b x.1 x.2  jv r
noncomputable def rL : Ev.LTF := Ev.addLF 12 (Ev.oneL 0 (Ev.loopX [] [5, 0] rlp_JS rlp_P) Ev.noL) Ev.noLF
theorem rL_ok : Ev.LFOk Try.prog rL := Ev.addL1_ok Try.func12 (by kernel_rfl) (fun N w0 => Ev.oneL_ok (by kernel_rfl) (rlp_ok N w0) (Ev.noL_ok _ _ _ _)) (Ev.noLF_ok _)
end Go.Proofs.Ytkdkkmpgpmgfoaa
