/- The reference of guard: the first true time, counted. -/
import Derived.Test.YtcgjfgahhpmcpaaGdS
namespace Go.Proofs.Ytcgjfgahhpmcpaa
open Go.ChangeShapes Go.WideShapes Go.ChangeAt Go.RowKit
/-- the count, step by step -/
def stF (o d s : Int) : List Int → Int → Int
  | [], n => n
  | x :: r, n => stF o d s r (if n + x ≤ 10000000000001 ∧ atR o d (n + x - 1) < s then n + x else n)
/-- steps that halve down to nothing -/
def Hlv : List Int → Int → Prop
  | [], x => x = 0
  | y :: r, x => x = y ∧ 1 ≤ y ∧ y ≤ 17592186044416 ∧ (y = 1 ∨ y = 2 * (y / 2)) ∧ Hlv r (y / 2)
def L44 : List Int := [17592186044416, 8796093022208, 4398046511104, 2199023255552, 1099511627776, 549755813888, 274877906944, 137438953472, 68719476736, 34359738368, 17179869184, 8589934592, 4294967296, 2147483648, 1073741824, 536870912, 268435456, 134217728, 67108864, 33554432, 16777216, 8388608, 4194304, 2097152, 1048576, 524288, 262144, 131072, 65536, 32768, 16384, 8192, 4096, 2048, 1024, 512, 256, 128, 64, 32, 16, 8, 4, 2, 1]
theorem hlv44 : Hlv L44 17592186044416 := by simp [Hlv, L44]
theorem rfirst_c (o d s : Int) (w : World) : Calls Try.prog 30 #[.agg #[.int .i64 o, .int .i64 d], .int .i64 s] w fun e w' => e = .returned (.int .i64 (stF o d s L44 0)) ∧ Below w.heap.size w w' := by
  generalize hG : stF o d s L44 0 = a
  have HG := Lib.hid hG
  clear hG
  have t_w := Below.refl w.heap.size w
  go_enter Try.func30, Try.ntmps30
  go_wp2_with fail
  go_loopw [5, 6] (fun x y wr => ∃ (n st : Int) (r : List Int), x = .int .i64 n ∧ y = .int .i64 st ∧ 0 ≤ n ∧ n ≤ 10000000000001 ∧ (Hid (Hlv r st ∧ stF o d s r n = a)) ∧ wr.cell? ⟨w.heap.size, 0, none⟩ = some (.int .i64 o) ∧ wr.cell? ⟨w.heap.size, 1, none⟩ = some (.int .i64 d) ∧ Below w.heap.size w wr) (fun _ y _ => (intOf y).toNat)
  case atStart => exact ⟨0, 17592186044416, L44, rfl, rfl, by omega, by omega, Lib.hid ⟨hlv44, HG.out⟩, by simp [go_sem], by simp [go_sem], by go_grown⟩
  case round =>
    clear HG
    obtain ⟨n, st, r, rfl, rfl, n0, n1, HS, c0, c1, hB⟩ := hrel
    cases r with
    | nil =>
      obtain ⟨h1, h2⟩ := HS.out
      clear HS
      have h1 : st = 0 := h1
      have h2 : n = a := h2
      subst h1 h2
      go_wp2_with fail
      go_ret
      exact ⟨rfl, hB⟩
    | cons x r =>
      obtain ⟨⟨e, q0, q3, h3, h4⟩, h5⟩ := HS.out
      clear HS h3
      subst e
      have q1 : 0 ≤ st / 2 := by omega
      have q2 : st / 2 < st := by omega
      have h5 : stF o d s r (if n + st ≤ 10000000000001 ∧ atR o d (n + st - 1) < s then n + st else n) = a := h5
      by_cases hle : n + st ≤ 10000000000001
      · generalize hx : atR o d (n + st - 1) = v at h5
        have HX := Lib.hid hx
        clear hx
        by_cases hxs : v < s
        · rw [if_pos ⟨hle, hxs⟩] at h5
          have HR := Lib.hid (And.intro h4 h5)
          clear h4 h5
          go_wp2_with fail
          refine (rat_c HX.out _).mono ?_
          rintro e w2 ⟨rfl, h2⟩
          have hB2 := chain hB h2
          replace c0 := keep c0 h2
          replace c1 := keep c1 h2
          clear h2 hB
          go_wp2_with fail
          go_roundw
          case rel => exact ⟨n + st, st / 2, r, rfl, rfl, by omega, hle, HR, c0, c1, hB2⟩
          case measure => simp [intOf]; omega
        · rw [if_neg (fun h => hxs h.2)] at h5
          have HR := Lib.hid (And.intro h4 h5)
          clear h4 h5
          go_wp2_with fail
          refine (rat_c HX.out _).mono ?_
          rintro e w2 ⟨rfl, h2⟩
          have hB2 := chain hB h2
          replace c0 := keep c0 h2
          replace c1 := keep c1 h2
          clear h2 hB
          go_wp2_with fail
          go_roundw
          case rel => exact ⟨n, st / 2, r, rfl, rfl, by omega, n1, HR, c0, c1, hB2⟩
          case measure => simp [intOf]; omega
      · rw [if_neg (fun h => hle h.1)] at h5
        have HR := Lib.hid (And.intro h4 h5)
        clear h4 h5
        go_wp2_with fail
        go_roundw
        case rel => exact ⟨n, st / 2, r, rfl, rfl, by omega, n1, HR, c0, c1, hB⟩
        case measure => simp [intOf]; omega
theorem stF_at {o d s a : Int} (h : okc o d = true) (ha : FirstAt (fun t => decide (s ≤ sh o d t)) 0 a) : ∀ (r : List Int) (n x : Int), Hlv r x → 0 ≤ n → n ≤ a → ((x = 0 ∧ n = a) ∨ (1 ≤ x ∧ a < n + 2 * x)) → stF o d s r n = a
  | [], n, x, hh, n0, n1, hx => by
    have hh : x = 0 := hh
    show n = a
    omega
  | y :: r, n, x, hh, n0, n1, hx => by
    obtain ⟨e, q0, q3, h3, h4⟩ := hh
    subst e
    show stF o d s r (if n + x ≤ 10000000000001 ∧ atR o d (n + x - 1) < s then n + x else n) = a
    by_cases hc : n + x ≤ 10000000000001 ∧ atR o d (n + x - 1) < s
    · rw [if_pos hc]
      have e := at_eq (t := n + x - 1) h (by omega) (by omega)
      have hna : n + x ≤ a := by
        rcases Int.lt_or_le a (n + x) with hl | hl
        · have := ha.2.2.2 (n + x - 1) (by omega) (by omega); simp only [decide_eq_true_eq] at this; omega
        · exact hl
      exact stF_at h ha r (n + x) (x / 2) h4 (by omega) hna (by omega)
    · rw [if_neg hc]
      have hna : a < n + x := by
        rcases Int.lt_or_le a (n + x) with hl | hl
        · exact hl
        · have b := ha.2.1
          have e := at_eq (t := n + x - 1) h (by omega) (by omega)
          have := ha.2.2.1 (n + x - 1) (by omega) (by omega); simp only [decide_eq_false_iff_not] at this; omega
      exact stF_at h ha r n (x / 2) h4 n0 n1 (by omega)
theorem stF_fst {o d s : Int} (h : okc o d = true) : stF o d s L44 0 = fst o d s :=
  stF_at h (fst_at h) L44 0 17592186044416 hlv44 (by omega) (fst_b o d s).1 (.inr ⟨by omega, by have := (fst_b o d s).2; omega⟩)
end Go.Proofs.Ytcgjfgahhpmcpaa
