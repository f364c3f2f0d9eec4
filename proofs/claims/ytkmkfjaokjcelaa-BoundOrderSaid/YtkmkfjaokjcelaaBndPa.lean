/- Law of bound: order of the meeting, refused. -/
import Derived.Test.YtkmkfjaokjcelaaBndHd
namespace Go.Proofs.Ytkmkfjaokjcelaa
open Go.ChangeShapes Go.WideShapes Go.ChangeAt Go.RowKit
theorem mA_symm (a b : Int) : mA a b = mA b a := by simp only [mA]; split <;> split <;> omega
theorem meet_symm {aL aH aA bL bH bA L H A E : Int} (h : MeetIs aL aH aA bL bH bA L H A E) : MeetIs bL bH bA aL aH aA L H A E := by
  rcases h with ⟨hb, h⟩ | ⟨h1, h2, ⟨hb, h⟩ | ⟨h3, h4, lo, hi, l1, l2, l3, k1, k2, k3, h⟩⟩
  · exact .inl ⟨by rw [Bool.and_comm]; exact hb, h⟩
  · exact .inr ⟨h2, h1, .inl ⟨by rw [Bool.and_comm, mA_symm]; exact hb, h⟩⟩
  · exact .inr ⟨h2, h1, .inr ⟨by rw [mA_symm]; exact h4, by rw [mA_symm]; exact h3, lo, hi, l2, l1, l3.symm, k2, k1, k3.symm, by rw [mA_symm bA aA]; exact h⟩⟩
/-- what a meeting that was refused looks like -/
theorem meet_no {aL aH aA bL bH bA L H A E : Int} (h : MeetIs aL aH aA bL bH bA L H A E) (hE : E ≠ 0) : L = 0 ∧ H = 0 ∧ A = 0 ∧ (E = 1 ∨ E = 3 ∨ E = 16) := by
  rcases h with ⟨hb, rfl, rfl, rfl, rfl⟩ | ⟨h1, h2, ⟨hb, rfl, rfl, rfl, rfl⟩ | ⟨h3, h4, lo, hi, l1, l2, l3, k1, k2, k3, ⟨_, rfl, rfl, rfl, rfl⟩ | ⟨_, _, _, _, rfl⟩⟩⟩
  · simp
  · simp
  · simp
  · exact absurd rfl hE
theorem meet_yes {aL aH aA bL bH bA L H A : Int} (h : MeetIs aL aH aA bL bH bA L H A 0) : okS aL aH aA = true ∧ okS bL bH bA = true ∧ okS (mL aL aA bA) (mH aH aA bA) (mA aA bA) = true ∧ okS (mL bL bA aA) (mH bH bA aA) (mA aA bA) = true ∧
    mL aL aA bA ≤ L ∧ mL bL bA aA ≤ L ∧ (L = mL aL aA bA ∨ L = mL bL bA aA) ∧ H ≤ mH aH aA bA ∧ H ≤ mH bH bA aA ∧ (H = mH aH aA bA ∨ H = mH bH bA aA) ∧ A = mA aA bA := by
  rcases h with ⟨hb, _, _, _, h⟩ | ⟨h1, h2, ⟨hb, _, _, _, h⟩ | ⟨h3, h4, lo, hi, l1, l2, l3, k1, k2, k3, ⟨_, _, _, _, h⟩ | ⟨_, rfl, rfl, rfl, _⟩⟩⟩
  · cases h
  · cases h
  · cases h
  · exact ⟨h1, h2, h3, h4, l1, l2, by omega, k1, k2, by omega, rfl⟩
theorem grow_of {lo hi a now : Int} (h : okS lo hi a = true) (h1 : a ≤ now) (h2 : okS (lo - moreN (now - a)) (hi + moreN (now - a)) now = true) : GrowIs lo hi a now (lo - moreN (now - a)) (hi + moreN (now - a)) now 0 := by
  have := okS_t h2
  exact .inr (.inr ⟨by simp [gOk, inB, h, h1]; omega, h2, rfl, rfl, rfl, rfl⟩)
theorem or_split {L P R : Int} (h : L = P ∨ L = R) : (L == P) = true ∨ ((L == P) = false ∧ (L == R) = true) := by
  by_cases e : L = P
  · exact .inl (by simp [e])
  · rcases h with h | h
    · exact absurd h e
    · exact .inr ⟨by simp [e], by simp [h]⟩
set_option maxHeartbeats 2000000 in
theorem order_no {aL aH aA bL bH bA E : Int} (hm : MeetIs aL aH aA bL bH bA 0 0 0 E) (hE : (E == 0) = false) (w : World) : Calls Try.prog 7 #[.agg #[.int .i64 aL, .int .i64 aH, .int .i64 aA], .agg #[.int .i64 bL, .int .i64 bH, .int .i64 bA]] w fun e w' => e = .returned (.bool true) ∧ Below w.heap.size w w' := by
  have hn := meet_symm hm
  have hE2 : (E != 0) = true := by simp [bne, hE]
  have HM := Lib.hid hm; have HN := Lib.hid hn
  clear hm hn
  have t_w := Below.refl w.heap.size w
  go_enter Try.func7, Try.ntmps7
  go_wp2_with fail
  refine (bhead _).mono ?_
  rintro e x1 ⟨rfl, g_x1⟩
  have s_x1 : Below w.heap.size w x1 := chain (by go_grown) g_x1
  have t_x1 := chain t_w s_x1
  have a0 : x1.cell? ⟨w.heap.size, 0, none⟩ = some (.int .i64 aL) := ((bcell g_x1).1 _ _ (by simp; try omega)).trans (by simp [go_sem])
  have a1 : x1.cell? ⟨w.heap.size, 1, none⟩ = some (.int .i64 aH) := ((bcell g_x1).1 _ _ (by simp; try omega)).trans (by simp [go_sem])
  have a2 : x1.cell? ⟨w.heap.size, 2, none⟩ = some (.int .i64 aA) := ((bcell g_x1).1 _ _ (by simp; try omega)).trans (by simp [go_sem])
  have z_a_x1 := lt_of a0
  have af : ∀ i, x1.frozen? ⟨w.heap.size, i, none⟩ = false := fun i => ((bcell g_x1).2 _ _ (by simp; try omega)).trans (by simp [go_sem])
  have b0 : x1.cell? ⟨w.heap.size + 1, 0, none⟩ = some (.int .i64 bL) := ((bcell g_x1).1 _ _ (by simp; try omega)).trans (by simp [go_sem])
  have b1 : x1.cell? ⟨w.heap.size + 1, 1, none⟩ = some (.int .i64 bH) := ((bcell g_x1).1 _ _ (by simp; try omega)).trans (by simp [go_sem])
  have b2 : x1.cell? ⟨w.heap.size + 1, 2, none⟩ = some (.int .i64 bA) := ((bcell g_x1).1 _ _ (by simp; try omega)).trans (by simp [go_sem])
  have z_b_x1 := lt_of b0
  have bf : ∀ i, x1.frozen? ⟨w.heap.size + 1, i, none⟩ = false := fun i => ((bcell g_x1).2 _ _ (by simp; try omega)).trans (by simp [go_sem])
  clear g_x1 s_x1 t_w
  go_wp2_with fail
  refine (meetV HM.out _).mono ?_
  rintro e x2 ⟨rfl, g_x2⟩
  have s_x2 : Below x1.heap.size x1 x2 := chain (by go_grown) g_x2
  have t_x2 := chain t_x1 s_x2
  replace af := fkeep2 af (lt_of a0) s_x2
  replace bf := fkeep2 bf (lt_of b0) s_x2
  replace a0 := keep a0 s_x2
  have z_a0_x2 := lt_of a0
  replace a1 := keep a1 s_x2
  replace a2 := keep a2 s_x2
  replace b0 := keep b0 s_x2
  have z_b0_x2 := lt_of b0
  replace b1 := keep b1 s_x2
  replace b2 := keep b2 s_x2
  clear g_x2 s_x2 z_a_x1 z_b_x1 t_x1
  go_wp2_with fail
  refine (meetV HN.out _).mono ?_
  rintro e x3 ⟨rfl, g_x3⟩
  have s_x3 : Below x2.heap.size x2 x3 := chain (by go_grown) g_x3
  have t_x3 := chain t_x2 s_x3
  have ne_a_x := lt_of a0
  have ne_b_x := lt_of b0
  replace af := fkeep2 af (lt_of a0) s_x3
  replace bf := fkeep2 bf (lt_of b0) s_x3
  replace a0 := keep a0 s_x3
  have z_a0_x3 := lt_of a0
  replace a1 := keep a1 s_x3
  replace a2 := keep a2 s_x3
  replace b0 := keep b0 s_x3
  have z_b0_x3 := lt_of b0
  replace b1 := keep b1 s_x3
  replace b2 := keep b2 s_x3
  have x0 : x3.cell? ⟨x2.heap.size, 0, none⟩ = some (.int .i64 0) := ((bcell g_x3).1 _ _ (by simp; try omega)).trans (by simp [go_sem])
  have x1 : x3.cell? ⟨x2.heap.size, 1, none⟩ = some (.int .i64 0) := ((bcell g_x3).1 _ _ (by simp; try omega)).trans (by simp [go_sem])
  have x2 : x3.cell? ⟨x2.heap.size, 2, none⟩ = some (.int .i64 0) := ((bcell g_x3).1 _ _ (by simp; try omega)).trans (by simp [go_sem])
  have z_x_x3 := lt_of x0
  clear g_x3 s_x3 t_x2
  go_wp2_with fail
  go_ret
  exact ⟨rfl, by first | exact t_x3 | go_grown⟩
end Go.Proofs.Ytkmkfjaokjcelaa
