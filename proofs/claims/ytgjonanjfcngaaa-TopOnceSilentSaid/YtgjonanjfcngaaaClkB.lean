/- Contracts of package clock: Show, When. -/
import Derived.Test.YtgjonanjfcngaaaClkA
namespace Go.Proofs.Ytgjonanjfcngaaa
open Go.ChangeShapes Go.WideShapes Go.ChangeAt Go.RowKit
def shOk (o d t : Int) : Bool := okc o d && decide (0 ≤ t ∧ t ≤ 10000000000000)
def shV (o d t : Int) : Int := if shOk o d t = true then sh o d t else 0
def shE (o d t : Int) : Int := if shOk o d t = true then 0 else 1
theorem shOk_t {o d t : Int} (h : shOk o d t = true) : okc o d = true ∧ 0 ≤ t ∧ t ≤ 10000000000000 := by simpa [shOk] using h
theorem showV {o d t v er : Int} (hv : shV o d t = v) (he : shE o d t = er) (w : World) : Calls Try.prog 40 #[.agg #[.int .i64 o, .int .i64 d], .int .i64 t] w fun e w' => e = .returned (.tuple #[.int .i64 v, .int .i64 er]) ∧ Below w.heap.size w w' := by
  subst hv he
  rcases hok : okc o d with _ | _
  · have h1 : shV o d t = 0 := by simp [shV, shOk, hok]
    have h2 : shE o d t = 1 := by simp [shE, shOk, hok]
    rw [h1, h2]
    have H := Lib.hid hok
    clear hok h1 h2
    have t_w := Below.refl w.heap.size w
    go_enter Try.func40, Try.ntmps40
    go_wp2_with fail
    refine (fvalid _ _ _).mono ?_
    rintro e w1 ⟨rfl, rfl⟩
    rw [H.out]
    go_wp2_with fail
    go_ret2
    exact ⟨rfl, by go_grown⟩
  · by_cases ht : 0 ≤ t ∧ t ≤ 10000000000000
    · have h1 : shV o d t = sh o d t := by simp [shV, shOk, hok, ht]
      have h2 : shE o d t = 0 := by simp [shE, shOk, hok, ht]
      rw [h1, h2]
      obtain ⟨t0, t1⟩ := ht
      have H := Lib.hid hok
      generalize hx : sh o d t = x
      have HX := Lib.hid hx
      clear hok h1 h2 hx
      have t_w := Below.refl w.heap.size w
      go_enter Try.func40, Try.ntmps40
      go_wp2_with fail
      refine (fvalid _ _ _).mono ?_
      rintro e w1 ⟨rfl, rfl⟩
      rw [H.out]
      go_wp2_with fail
      refine (fshows H.out t0 (by omega) HX.out _).mono ?_
      rintro e w2 ⟨rfl, h2⟩
      go_wp2_with fail
      go_ret2
      exact ⟨rfl, chain (by go_grown) h2⟩
    · have hf : shOk o d t = false := by unfold shOk; rw [hok, Bool.true_and, decide_eq_false_iff_not]; exact ht
      have h1 : shV o d t = 0 := by simp [shV, hf]
      have h2 : shE o d t = 1 := by simp [shE, hf]
      rw [h1, h2]
      have H := Lib.hid hok
      clear hok h1 h2
      by_cases t0 : 0 ≤ t
      · have t1 : 10000000000000 < t := by omega
        clear ht
        have t_w := Below.refl w.heap.size w
        go_enter Try.func40, Try.ntmps40
        go_wp2_with fail
        refine (fvalid _ _ _).mono ?_
        rintro e w1 ⟨rfl, rfl⟩
        rw [H.out]
        go_wp2_with fail
        go_ret2
        exact ⟨rfl, by go_grown⟩
      · clear ht
        have t_w := Below.refl w.heap.size w
        go_enter Try.func40, Try.ntmps40
        go_wp2_with fail
        refine (fvalid _ _ _).mono ?_
        rintro e w1 ⟨rfl, rfl⟩
        rw [H.out]
        go_wp2_with fail
        go_ret2
        exact ⟨rfl, by go_grown⟩
theorem sh_mono {o d t u : Int} (h : okc o d = true) (h1 : t ≤ u) : sh o d t ≤ sh o d u := by
  have hk := okc_t h
  have := mulb hk.2.2.1 hk.2.2.2 (show 0 ≤ u - t by omega)
  have e := Int.mul_sub d u t
  unfold sh
  omega
theorem sh_step {o d t u : Int} (h : okc o d = true) (h1 : t ≤ u) : -50 * (u - t) ≤ d * u - d * t ∧ d * u - d * t ≤ 50 * (u - t) := by
  have hk := okc_t h
  have := mulb hk.2.2.1 hk.2.2.2 (show 0 ≤ u - t by omega)
  have e := Int.mul_sub d u t
  omega
theorem first_exists (p : Int → Bool) (hm : ∀ t u, 0 ≤ t → t ≤ u → u ≤ 10000000000001 → p t = true → p u = true) :
    ∀ (n : Nat) (a : Int), 0 ≤ a → a + n = 10000000000001 → ∃ v, FirstAt p a v := by
  intro n
  induction n with
  | zero => intro a h0 ha; exact ⟨a, by omega, by omega, fun t _ _ => by omega, fun t _ _ => by omega⟩
  | succ n ih =>
    intro a h0 ha
    rcases hp : p a with _ | _
    · obtain ⟨v, h1, h2, h3, h4⟩ := ih (a + 1) (by omega) (by omega)
      refine ⟨v, by omega, h2, fun t ht1 ht2 => ?_, h4⟩
      by_cases e : t = a
      · rw [e]; exact hp
      · exact h3 t (by omega) ht2
    · exact ⟨a, by omega, by omega, fun t _ _ => by omega, fun t h1 h2 => hm a t h0 h1 (by omega) hp⟩
theorem first_uniq {p : Int → Bool} {a v v' : Int} (h : FirstAt p a v) (h' : FirstAt p a v') : v = v' := by
  obtain ⟨h1, h2, h3, h4⟩ := h
  obtain ⟨k1, k2, k3, k4⟩ := h'
  rcases Int.lt_trichotomy v v' with hl | hl | hl
  · have a1 := h4 v (Int.le_refl _) (by omega); have a2 := k3 v h1 hl; rw [a1] at a2; cases a2
  · exact hl
  · have a1 := k4 v' (Int.le_refl _) (by omega); have a2 := h3 v' k1 hl; rw [a1] at a2; cases a2
def WhenIs (o d s lo hi e : Int) : Prop :=
  (okc o d = false ∧ lo = 0 ∧ hi = 0 ∧ e = 1) ∨
  (okc o d = true ∧ ((e = 4 ∧ lo = 0 ∧ hi = 0 ∧ ∀ t, 0 ≤ t → t ≤ 10000000000000 → sh o d t ≠ s) ∨
    (e = 0 ∧ 0 ≤ lo ∧ lo ≤ hi ∧ hi ≤ 10000000000000 ∧ ∀ t, 0 ≤ t → t ≤ 10000000000000 → (sh o d t = s ↔ lo ≤ t ∧ t ≤ hi))))
theorem when_uniq {o d s lo hi e lo' hi' e' : Int} (h : WhenIs o d s lo hi e) (h' : WhenIs o d s lo' hi' e') : lo = lo' ∧ hi = hi' ∧ e = e' := by
  rcases h with ⟨a, rfl, rfl, rfl⟩ | ⟨a, h⟩ <;> rcases h' with ⟨a', rfl, rfl, rfl⟩ | ⟨a', h'⟩
  · exact ⟨rfl, rfl, rfl⟩
  · rw [a] at a'; cases a'
  · rw [a] at a'; cases a'
  · rcases h with ⟨rfl, rfl, rfl, n⟩ | ⟨rfl, p1, p2, p3, p4⟩ <;> rcases h' with ⟨rfl, rfl, rfl, n'⟩ | ⟨rfl, p1', p2', p3', p4'⟩
    · exact ⟨rfl, rfl, rfl⟩
    · exact absurd ((p4' lo' p1' (by omega)).2 ⟨by omega, p2'⟩) (n lo' p1' (by omega))
    · exact absurd ((p4 lo p1 (by omega)).2 ⟨by omega, p2⟩) (n' lo p1 (by omega))
    · have q1 := (p4' lo p1 (by omega)).1 ((p4 lo p1 (by omega)).2 ⟨by omega, p2⟩)
      have q2 := (p4 lo' p1' (by omega)).1 ((p4' lo' p1' (by omega)).2 ⟨by omega, p2'⟩)
      have q3 := (p4' hi (by omega) p3).1 ((p4 hi (by omega) p3).2 ⟨p2, by omega⟩)
      have q4 := (p4 hi' (by omega) p3').1 ((p4' hi' (by omega) p3').2 ⟨p2', by omega⟩)
      exact ⟨by omega, by omega, rfl⟩
/-- out of the two searches -/
theorem when_of {o d s a b : Int} (h : okc o d = true) (ha : FirstAt (fun t => decide (s ≤ sh o d t)) 0 a) (hb : FirstAt (fun t => decide (s < sh o d t)) a b) :
    (a = b → WhenIs o d s 0 0 4) ∧ (a ≠ b → WhenIs o d s a (b - 1) 0) := by
  obtain ⟨a1, a2, a3, a4⟩ := ha
  obtain ⟨b1, b2, b3, b4⟩ := hb
  refine ⟨fun e => .inr ⟨h, .inl ⟨rfl, rfl, rfl, fun t h0 h1 hs => ?_⟩⟩, fun hne => .inr ⟨h, .inr ⟨rfl, a1, by omega, by omega, fun t h0 h1 => ⟨fun hs => ?_, fun ht => ?_⟩⟩⟩⟩
  · by_cases hlt : t < a
    · have := a3 t h0 hlt; simp at this; omega
    · have := b4 t (by omega) (by omega); simp at this; omega
  · constructor
    · rcases Int.lt_or_le t a with hlt | hlt
      · have := a3 t h0 hlt; simp at this; omega
      · exact hlt
    · rcases Int.lt_or_le t b with hlt | hlt
      · omega
      · have := b4 t hlt (by omega); simp at this; omega
  · have c1 := a4 t ht.1 (by omega); have c2 := b3 t ht.1 (by omega); simp at c1 c2; omega
theorem pmono {o d s : Int} (h : okc o d = true) : ∀ t u : Int, 0 ≤ t → t ≤ u → u ≤ 10000000000001 → (fun t => decide (s ≤ sh o d t)) t = true → (fun t => decide (s ≤ sh o d t)) u = true := by
  intro t u _ h1 _ hp; have := sh_mono h h1; simp at hp ⊢; omega
theorem qmono {o d s : Int} (h : okc o d = true) : ∀ t u : Int, 0 ≤ t → t ≤ u → u ≤ 10000000000001 → (fun t => decide (s < sh o d t)) t = true → (fun t => decide (s < sh o d t)) u = true := by
  intro t u _ h1 _ hp; have := sh_mono h h1; simp at hp ⊢; omega
theorem when_exists (o d s : Int) : ∃ lo hi e, WhenIs o d s lo hi e := by
  rcases h : okc o d with _ | _
  · exact ⟨0, 0, 1, .inl ⟨h, rfl, rfl, rfl⟩⟩
  · obtain ⟨a, ha⟩ := first_exists _ (pmono (s := s) h) 10000000000001 0 (by omega) (by omega)
    obtain ⟨b, hb⟩ := first_exists _ (qmono (s := s) h) (10000000000001 - a).toNat a ha.1 (by have := ha.1; have := ha.2.1; omega)
    by_cases e : a = b
    · exact ⟨_, _, _, (when_of h ha hb).1 e⟩
    · exact ⟨_, _, _, (when_of h ha hb).2 e⟩
theorem whenV {o d s lo hi er : Int} (hv : WhenIs o d s lo hi er) (w : World) : Calls Try.prog 35 #[.agg #[.int .i64 o, .int .i64 d], .int .i64 s] w fun e w' => e = .returned (.tuple #[.agg #[.int .i64 lo, .int .i64 hi], .int .i64 er]) ∧ Below w.heap.size w w' := by
  have HV := Lib.hid hv
  clear hv
  rcases hok : okc o d with _ | _
  · obtain ⟨rfl, rfl, rfl⟩ := when_uniq HV.out (.inl ⟨hok, rfl, rfl, rfl⟩)
    have H := Lib.hid hok
    clear hok
    have t_w := Below.refl w.heap.size w
    go_enter Try.func35, Try.ntmps35
    go_wp2_with fail
    refine (fvalid _ _ _).mono ?_
    rintro e w1 ⟨rfl, rfl⟩
    rw [H.out]
    go_wp2_with fail
    refine bodyPost_ret (v := .tuple #[.agg #[.int .i64 0, .int .i64 0], .int .i64 1]) (by simp [results, Try.results35, go_sem, *]) rfl ⟨rfl, by first | exact t_w | go_grown⟩
  · have H := Lib.hid hok
    clear hok
    have t_w := Below.refl w.heap.size w
    go_enter Try.func35, Try.ntmps35
    go_wp2_with fail
    refine (fvalid _ _ _).mono ?_
    rintro e w1 ⟨rfl, rfl⟩
    rw [H.out]
    go_wp2_with fail
    refine (firstR (r := .agg #[.int .i64 o, .int .i64 d, .int .i64 s]) (p := fun t => decide (s ≤ sh o d t)) (by omega) (by omega) (fun t w h0 h1 => reached H.out h0 h1 w) (pmono H.out) _).mono ?_
    rintro e w2 ⟨a, rfl, ha, h2⟩
    obtain ⟨a1, a2, a3, a4⟩ := ha
    have HA : Hid (FirstAt (fun t => decide (s ≤ sh o d t)) 0 a) := Lib.hid ⟨a1, a2, a3, a4⟩
    clear a3 a4
    have t2 : Below w.heap.size w w2 := chain (by go_grown) h2
    have m0 : w2.cell? ⟨w.heap.size + 2, 0, none⟩ = some (.int .i64 o) := ((bcell h2).1 _ _ (by simp)).trans (by simp [go_sem])
    have m1 : w2.cell? ⟨w.heap.size + 2, 1, none⟩ = some (.int .i64 d) := ((bcell h2).1 _ _ (by simp)).trans (by simp [go_sem])
    have m2 : w2.cell? ⟨w.heap.size + 2, 2, none⟩ = some (.int .i64 s) := ((bcell h2).1 _ _ (by simp)).trans (by simp [go_sem])
    have r0 : w2.cell? ⟨w.heap.size + 1, 0, none⟩ = some (.int .i64 0) := ((bcell h2).1 _ _ (by simp)).trans (by simp [go_sem])
    have r1 : w2.cell? ⟨w.heap.size + 1, 1, none⟩ = some (.int .i64 0) := ((bcell h2).1 _ _ (by simp)).trans (by simp [go_sem])
    have f0 : w2.frozen? ⟨w.heap.size + 1, 0, none⟩ = false := ((bcell h2).2 _ _ (by simp)).trans (by simp [go_sem])
    have f1 : w2.frozen? ⟨w.heap.size + 1, 1, none⟩ = false := ((bcell h2).2 _ _ (by simp)).trans (by simp [go_sem])
    clear h2
    go_wp2_with fail
    refine (firstP (r := .agg #[.int .i64 o, .int .i64 d, .int .i64 s]) (p := fun t => decide (s < sh o d t)) a1 a2 (fun t w h0 h1 => passed H.out h0 h1 w) (qmono H.out) _).mono ?_
    rintro e w3 ⟨b, rfl, hb, h3⟩
    have t3 := chain t2 h3
    have zz := lt_of r0
    replace r0 := keep r0 h3
    replace r1 := keep r1 h3
    replace f0 := fkeep f0 zz h3
    replace f1 := fkeep f1 zz h3
    have z3 := lt_of r0
    have hw := when_of H.out HA.out hb
    obtain ⟨b1, b2, b3, b4⟩ := hb
    clear h3 b3 b4 m0 m1 m2 t2
    by_cases hab : a = b
    · subst hab
      obtain ⟨rfl, rfl, rfl⟩ := when_uniq HV.out (hw.1 rfl)
      clear hw
      go_wp2_with fail
      refine bodyPost_ret (v := .tuple #[.agg #[.int .i64 0, .int .i64 0], .int .i64 4]) (by simp [results, Try.results35, go_sem, *]) rfl ⟨rfl, ?_⟩
      go_grown
    · obtain ⟨rfl, rfl, rfl⟩ := when_uniq HV.out (hw.2 hab)
      have hne : (lo == b) = false := by simp [hab]
      clear hw hab
      go_wp2_with fail
      refine bodyPost_ret (v := .tuple #[.agg #[.int .i64 lo, .int .i64 (b - 1)], .int .i64 0]) (by simp [results, Try.results35, go_sem, *]) rfl ⟨rfl, ?_⟩
      go_grown
end Go.Proofs.Ytgjonanjfcngaaa
