/- Law of bound: order of the meeting, same time. -/
import Derived.Test.YtkmkfjaokjcelaaBndPa
namespace Go.Proofs.Ytkmkfjaokjcelaa
open Go.ChangeShapes Go.WideShapes Go.ChangeAt Go.RowKit
set_option maxHeartbeats 4000000 in
theorem order_eq {aL aH aA bL bH L H A : Int} (hm : MeetIs aL aH aA bL bH aA L H A 0) (w : World) : Calls Try.prog 7 #[.agg #[.int .i64 aL, .int .i64 aH, .int .i64 aA], .agg #[.int .i64 bL, .int .i64 bH, .int .i64 aA]] w fun e w' => e = .returned (.bool true) ∧ Below w.heap.size w w' := by
  have hn := meet_symm hm
  obtain ⟨o1, o2, o3, o4, i1, i3, c1, i2, i4, c2, e⟩ := meet_yes hm
  have h1 : mA aA aA = aA := by simp [mA]
  have h2 : mL aL aA aA = aL - moreN (aA - aA) := by simp only [mL]; rw [if_pos (by omega)]
  have h3 : mH aH aA aA = aH + moreN (aA - aA) := by simp only [mH]; rw [if_pos (by omega)]
  have h4 : mL bL aA aA = bL - moreN (aA - aA) := by simp only [mL]; rw [if_pos (by omega)]
  have h5 : mH bH aA aA = bH + moreN (aA - aA) := by simp only [mH]; rw [if_pos (by omega)]
  rw [h1] at e; obtain rfl := e.symm
  rw [h1, h2, h3] at o3
  rw [h1, h4, h5] at o4
  rw [h2] at i1 c1; rw [h4] at i3 c1; rw [h3] at i2 c2; rw [h5] at i4 c2
  have hg := grow_of o1 (show aA ≤ aA by omega) o3
  have hg2 := grow_of o2 (show aA ≤ aA by omega) o4
  generalize aL - moreN (aA - aA) = P at *
  generalize aH + moreN (aA - aA) = Q at *
  generalize bL - moreN (aA - aA) = R at *
  generalize bH + moreN (aA - aA) = S at *
  have HG := Lib.hid hg; have HM := Lib.hid hm; have HN := Lib.hid hn; have HF := Lib.hid hg2
  have q1 := or_split c1
  have q2 := or_split c2
  clear hm hn o1 o2 o3 o4 hg hg2 h1 h2 h3 h4 h5 c1 c2
  rcases q1 with q1 | ⟨q1, q3⟩ <;> rcases q2 with q2 | ⟨q2, q4⟩
  all_goals
    have t_w := Below.refl w.heap.size w
    go_enter Try.func7, Try.ntmps7
    go_wp2_with fail
    refine (bhead _).mono ?_
    rintro e x1 ⟨rfl, g_x1⟩
    have s_x1 : Below w.heap.size w x1 := chain (by go_grown) g_x1
    have t_x1 := chain t_w s_x1
    have a0 : x1.cell? ⟨w.heap.size, 0, none⟩ = some (.int .i64 aL) := ((bcell g_x1).1 _ _ (by simp; try omega)).trans (by simp [go_sem])
    have a1 : x1.cell? ⟨w.heap.size, 1, none⟩ = some (.int .i64 aH) := ((bcell g_x1).1 _ _ (by simp; try omega)).trans (by simp [go_sem])
    have a2 : x1.cell? ⟨w.heap.size, 2, none⟩ = some (.int .i64 aA) := ((bcell g_x1).1 _ _ (by simp; try omega)).trans (by simp [go_sem])
    have z_a_x1 := lt_of a0
    have af : ∀ i, x1.frozen? ⟨w.heap.size, i, none⟩ = false := fun i => ((bcell g_x1).2 _ _ (by simp; try omega)).trans (by simp [go_sem])
    have b0 : x1.cell? ⟨w.heap.size + 1, 0, none⟩ = some (.int .i64 bL) := ((bcell g_x1).1 _ _ (by simp; try omega)).trans (by simp [go_sem])
    have b1 : x1.cell? ⟨w.heap.size + 1, 1, none⟩ = some (.int .i64 bH) := ((bcell g_x1).1 _ _ (by simp; try omega)).trans (by simp [go_sem])
    have b2 : x1.cell? ⟨w.heap.size + 1, 2, none⟩ = some (.int .i64 aA) := ((bcell g_x1).1 _ _ (by simp; try omega)).trans (by simp [go_sem])
    have z_b_x1 := lt_of b0
    have bf : ∀ i, x1.frozen? ⟨w.heap.size + 1, i, none⟩ = false := fun i => ((bcell g_x1).2 _ _ (by simp; try omega)).trans (by simp [go_sem])
    clear g_x1 s_x1 t_w
    go_wp2_with fail
    refine (meetV HM.out _).mono ?_
    rintro e x2 ⟨rfl, g_x2⟩
    have s_x2 : Below x1.heap.size x1 x2 := chain (by go_grown) g_x2
    have t_x2 := chain t_x1 s_x2
    replace af := fkeep2 af (lt_of a0) s_x2
    replace bf := fkeep2 bf (lt_of b0) s_x2
    replace a0 := keep a0 s_x2
    have z_a0_x2 := lt_of a0
    replace a1 := keep a1 s_x2
    replace a2 := keep a2 s_x2
    replace b0 := keep b0 s_x2
    have z_b0_x2 := lt_of b0
    replace b1 := keep b1 s_x2
    replace b2 := keep b2 s_x2
    clear g_x2 s_x2 z_a_x1 z_b_x1 t_x1
    go_wp2_with fail
    refine (meetV HN.out _).mono ?_
    rintro e x3 ⟨rfl, g_x3⟩
    have s_x3 : Below x2.heap.size x2 x3 := chain (by go_grown) g_x3
    have t_x3 := chain t_x2 s_x3
    have ne_a_x := lt_of a0
    have ne_b_x := lt_of b0
    replace af := fkeep2 af (lt_of a0) s_x3
    replace bf := fkeep2 bf (lt_of b0) s_x3
    replace a0 := keep a0 s_x3
    have z_a0_x3 := lt_of a0
    replace a1 := keep a1 s_x3
    replace a2 := keep a2 s_x3
    replace b0 := keep b0 s_x3
    have z_b0_x3 := lt_of b0
    replace b1 := keep b1 s_x3
    replace b2 := keep b2 s_x3
    have x0 : x3.cell? ⟨x2.heap.size, 0, none⟩ = some (.int .i64 L) := ((bcell g_x3).1 _ _ (by simp; try omega)).trans (by simp [go_sem])
    have x1 : x3.cell? ⟨x2.heap.size, 1, none⟩ = some (.int .i64 H) := ((bcell g_x3).1 _ _ (by simp; try omega)).trans (by simp [go_sem])
    have x2 : x3.cell? ⟨x2.heap.size, 2, none⟩ = some (.int .i64 aA) := ((bcell g_x3).1 _ _ (by simp; try omega)).trans (by simp [go_sem])
    have z_x_x3 := lt_of x0
    clear g_x3 s_x3 t_x2
    go_wp2_with fail
    refine (growV HG.out _).mono ?_
    rintro e x4 ⟨rfl, g_x4⟩
    have s_x4 : Below x3.heap.size x3 x4 := chain (by go_grown) g_x4
    have t_x4 := chain t_x3 s_x4
    have ne_a_y := lt_of a0
    have ne_b_y := lt_of b0
    replace af := fkeep2 af (lt_of a0) s_x4
    replace bf := fkeep2 bf (lt_of b0) s_x4
    replace a0 := keep a0 s_x4
    have z_a0_x4 := lt_of a0
    replace a1 := keep a1 s_x4
    replace a2 := keep a2 s_x4
    replace b0 := keep b0 s_x4
    have z_b0_x4 := lt_of b0
    replace b1 := keep b1 s_x4
    replace b2 := keep b2 s_x4
    replace x0 := keep x0 s_x4
    have z_x0_x4 := lt_of x0
    replace x1 := keep x1 s_x4
    replace x2 := keep x2 s_x4
    have y0 : x4.cell? ⟨x3.heap.size, 0, none⟩ = some (.int .i64 L) := ((bcell g_x4).1 _ _ (by simp; try omega)).trans (by simp [go_sem])
    have y1 : x4.cell? ⟨x3.heap.size, 1, none⟩ = some (.int .i64 H) := ((bcell g_x4).1 _ _ (by simp; try omega)).trans (by simp [go_sem])
    have y2 : x4.cell? ⟨x3.heap.size, 2, none⟩ = some (.int .i64 aA) := ((bcell g_x4).1 _ _ (by simp; try omega)).trans (by simp [go_sem])
    have z_y_x4 := lt_of y0
    clear g_x4 s_x4 t_x3
    go_wp2_with fail
    replace af : ∀ i, (((x4.setCell ⟨w.heap.size, 0, none⟩ (.int .i64 P)).setCell ⟨w.heap.size, 1, none⟩ (.int .i64 Q)).setCell ⟨w.heap.size, 2, none⟩ (.int .i64 aA)).frozen? ⟨w.heap.size, i, none⟩ = false := fun i => by simp only [World.frozen?_setCell]; exact af i
    replace bf : ∀ i, (((x4.setCell ⟨w.heap.size, 0, none⟩ (.int .i64 P)).setCell ⟨w.heap.size, 1, none⟩ (.int .i64 Q)).setCell ⟨w.heap.size, 2, none⟩ (.int .i64 aA)).frozen? ⟨w.heap.size + 1, i, none⟩ = false := fun i => by simp only [World.frozen?_setCell]; exact bf i
    have b0n : (((x4.setCell ⟨w.heap.size, 0, none⟩ (.int .i64 P)).setCell ⟨w.heap.size, 1, none⟩ (.int .i64 Q)).setCell ⟨w.heap.size, 2, none⟩ (.int .i64 aA)).cell? _ = _ := (cset_ne (c := w.heap.size) (cset_ne (c := w.heap.size) (cset_ne (c := w.heap.size) b0 (by omega) 0 (.int .i64 P)) (by omega) 1 (.int .i64 Q)) (by omega) 2 (.int .i64 aA)); clear b0; have b0 := b0n; clear b0n
    have b1n : (((x4.setCell ⟨w.heap.size, 0, none⟩ (.int .i64 P)).setCell ⟨w.heap.size, 1, none⟩ (.int .i64 Q)).setCell ⟨w.heap.size, 2, none⟩ (.int .i64 aA)).cell? _ = _ := (cset_ne (c := w.heap.size) (cset_ne (c := w.heap.size) (cset_ne (c := w.heap.size) b1 (by omega) 0 (.int .i64 P)) (by omega) 1 (.int .i64 Q)) (by omega) 2 (.int .i64 aA)); clear b1; have b1 := b1n; clear b1n
    have b2n : (((x4.setCell ⟨w.heap.size, 0, none⟩ (.int .i64 P)).setCell ⟨w.heap.size, 1, none⟩ (.int .i64 Q)).setCell ⟨w.heap.size, 2, none⟩ (.int .i64 aA)).cell? _ = _ := (cset_ne (c := w.heap.size) (cset_ne (c := w.heap.size) (cset_ne (c := w.heap.size) b2 (by omega) 0 (.int .i64 P)) (by omega) 1 (.int .i64 Q)) (by omega) 2 (.int .i64 aA)); clear b2; have b2 := b2n; clear b2n
    have x0n : (((x4.setCell ⟨w.heap.size, 0, none⟩ (.int .i64 P)).setCell ⟨w.heap.size, 1, none⟩ (.int .i64 Q)).setCell ⟨w.heap.size, 2, none⟩ (.int .i64 aA)).cell? _ = _ := (cset_ne (c := w.heap.size) (cset_ne (c := w.heap.size) (cset_ne (c := w.heap.size) x0 (by omega) 0 (.int .i64 P)) (by omega) 1 (.int .i64 Q)) (by omega) 2 (.int .i64 aA)); clear x0; have x0 := x0n; clear x0n
    have x1n : (((x4.setCell ⟨w.heap.size, 0, none⟩ (.int .i64 P)).setCell ⟨w.heap.size, 1, none⟩ (.int .i64 Q)).setCell ⟨w.heap.size, 2, none⟩ (.int .i64 aA)).cell? _ = _ := (cset_ne (c := w.heap.size) (cset_ne (c := w.heap.size) (cset_ne (c := w.heap.size) x1 (by omega) 0 (.int .i64 P)) (by omega) 1 (.int .i64 Q)) (by omega) 2 (.int .i64 aA)); clear x1; have x1 := x1n; clear x1n
    have x2n : (((x4.setCell ⟨w.heap.size, 0, none⟩ (.int .i64 P)).setCell ⟨w.heap.size, 1, none⟩ (.int .i64 Q)).setCell ⟨w.heap.size, 2, none⟩ (.int .i64 aA)).cell? _ = _ := (cset_ne (c := w.heap.size) (cset_ne (c := w.heap.size) (cset_ne (c := w.heap.size) x2 (by omega) 0 (.int .i64 P)) (by omega) 1 (.int .i64 Q)) (by omega) 2 (.int .i64 aA)); clear x2; have x2 := x2n; clear x2n
    have y0n : (((x4.setCell ⟨w.heap.size, 0, none⟩ (.int .i64 P)).setCell ⟨w.heap.size, 1, none⟩ (.int .i64 Q)).setCell ⟨w.heap.size, 2, none⟩ (.int .i64 aA)).cell? _ = _ := (cset_ne (c := w.heap.size) (cset_ne (c := w.heap.size) (cset_ne (c := w.heap.size) y0 (by omega) 0 (.int .i64 P)) (by omega) 1 (.int .i64 Q)) (by omega) 2 (.int .i64 aA)); clear y0; have y0 := y0n; clear y0n
    have y1n : (((x4.setCell ⟨w.heap.size, 0, none⟩ (.int .i64 P)).setCell ⟨w.heap.size, 1, none⟩ (.int .i64 Q)).setCell ⟨w.heap.size, 2, none⟩ (.int .i64 aA)).cell? _ = _ := (cset_ne (c := w.heap.size) (cset_ne (c := w.heap.size) (cset_ne (c := w.heap.size) y1 (by omega) 0 (.int .i64 P)) (by omega) 1 (.int .i64 Q)) (by omega) 2 (.int .i64 aA)); clear y1; have y1 := y1n; clear y1n
    have y2n : (((x4.setCell ⟨w.heap.size, 0, none⟩ (.int .i64 P)).setCell ⟨w.heap.size, 1, none⟩ (.int .i64 Q)).setCell ⟨w.heap.size, 2, none⟩ (.int .i64 aA)).cell? _ = _ := (cset_ne (c := w.heap.size) (cset_ne (c := w.heap.size) (cset_ne (c := w.heap.size) y2 (by omega) 0 (.int .i64 P)) (by omega) 1 (.int .i64 Q)) (by omega) 2 (.int .i64 aA)); clear y2; have y2 := y2n; clear y2n
    have a0n : (((x4.setCell ⟨w.heap.size, 0, none⟩ (.int .i64 P)).setCell ⟨w.heap.size, 1, none⟩ (.int .i64 Q)).setCell ⟨w.heap.size, 2, none⟩ (.int .i64 aA)).cell? ⟨w.heap.size, 0, none⟩ = some (.int .i64 P) := (cset_off (cset_off (cset_eq a0 (.int .i64 P)) (by decide) _) (by decide) _)
    have a1n : (((x4.setCell ⟨w.heap.size, 0, none⟩ (.int .i64 P)).setCell ⟨w.heap.size, 1, none⟩ (.int .i64 Q)).setCell ⟨w.heap.size, 2, none⟩ (.int .i64 aA)).cell? ⟨w.heap.size, 1, none⟩ = some (.int .i64 Q) := (cset_off (cset_eq (cset_off a1 (by decide) _) (.int .i64 Q)) (by decide) _)
    have a2n : (((x4.setCell ⟨w.heap.size, 0, none⟩ (.int .i64 P)).setCell ⟨w.heap.size, 1, none⟩ (.int .i64 Q)).setCell ⟨w.heap.size, 2, none⟩ (.int .i64 aA)).cell? ⟨w.heap.size, 2, none⟩ = some (.int .i64 aA) := (cset_eq (cset_off (cset_off a2 (by decide) _) (by decide) _) (.int .i64 aA))
    have t_W_1 : Below w.heap.size w (((x4.setCell ⟨w.heap.size, 0, none⟩ (.int .i64 P)).setCell ⟨w.heap.size, 1, none⟩ (.int .i64 Q)).setCell ⟨w.heap.size, 2, none⟩ (.int .i64 aA)) := by go_grown
    clear a0 a1 a2 t_x4
    have a0 := a0n; clear a0n
    have a1 := a1n; clear a1n
    have a2 := a2n; clear a2n
    generalize ((x4.setCell ⟨w.heap.size, 0, none⟩ (.int .i64 P)).setCell ⟨w.heap.size, 1, none⟩ (.int .i64 Q)).setCell ⟨w.heap.size, 2, none⟩ (.int .i64 aA) = W_1 at *
    refine (growV HF.out _).mono ?_
    rintro e x7 ⟨rfl, g_x7⟩
    have s_x7 : Below W_1.heap.size W_1 x7 := chain (by go_grown) g_x7
    have t_x7 := chain t_W_1 s_x7
    replace af := fkeep2 af (lt_of a0) s_x7
    replace bf := fkeep2 bf (lt_of b0) s_x7
    replace a0 := keep a0 s_x7
    have z_a0_x7 := lt_of a0
    replace a1 := keep a1 s_x7
    replace a2 := keep a2 s_x7
    replace b0 := keep b0 s_x7
    have z_b0_x7 := lt_of b0
    replace b1 := keep b1 s_x7
    replace b2 := keep b2 s_x7
    replace x0 := keep x0 s_x7
    have z_x0_x7 := lt_of x0
    replace x1 := keep x1 s_x7
    replace x2 := keep x2 s_x7
    replace y0 := keep y0 s_x7
    have z_y0_x7 := lt_of y0
    replace y1 := keep y1 s_x7
    replace y2 := keep y2 s_x7
    clear g_x7 s_x7 z_a0_x4 z_b0_x4 z_x0_x4 z_y_x4 t_W_1
    go_wp2_with fail
    replace af : ∀ i, (((x7.setCell ⟨w.heap.size + 1, 0, none⟩ (.int .i64 R)).setCell ⟨w.heap.size + 1, 1, none⟩ (.int .i64 S)).setCell ⟨w.heap.size + 1, 2, none⟩ (.int .i64 aA)).frozen? ⟨w.heap.size, i, none⟩ = false := fun i => by simp only [World.frozen?_setCell]; exact af i
    have a0n : (((x7.setCell ⟨w.heap.size + 1, 0, none⟩ (.int .i64 R)).setCell ⟨w.heap.size + 1, 1, none⟩ (.int .i64 S)).setCell ⟨w.heap.size + 1, 2, none⟩ (.int .i64 aA)).cell? _ = _ := (cset_ne (c := w.heap.size + 1) (cset_ne (c := w.heap.size + 1) (cset_ne (c := w.heap.size + 1) a0 (by omega) 0 (.int .i64 R)) (by omega) 1 (.int .i64 S)) (by omega) 2 (.int .i64 aA)); clear a0; have a0 := a0n; clear a0n
    have a1n : (((x7.setCell ⟨w.heap.size + 1, 0, none⟩ (.int .i64 R)).setCell ⟨w.heap.size + 1, 1, none⟩ (.int .i64 S)).setCell ⟨w.heap.size + 1, 2, none⟩ (.int .i64 aA)).cell? _ = _ := (cset_ne (c := w.heap.size + 1) (cset_ne (c := w.heap.size + 1) (cset_ne (c := w.heap.size + 1) a1 (by omega) 0 (.int .i64 R)) (by omega) 1 (.int .i64 S)) (by omega) 2 (.int .i64 aA)); clear a1; have a1 := a1n; clear a1n
    have a2n : (((x7.setCell ⟨w.heap.size + 1, 0, none⟩ (.int .i64 R)).setCell ⟨w.heap.size + 1, 1, none⟩ (.int .i64 S)).setCell ⟨w.heap.size + 1, 2, none⟩ (.int .i64 aA)).cell? _ = _ := (cset_ne (c := w.heap.size + 1) (cset_ne (c := w.heap.size + 1) (cset_ne (c := w.heap.size + 1) a2 (by omega) 0 (.int .i64 R)) (by omega) 1 (.int .i64 S)) (by omega) 2 (.int .i64 aA)); clear a2; have a2 := a2n; clear a2n
    replace bf : ∀ i, (((x7.setCell ⟨w.heap.size + 1, 0, none⟩ (.int .i64 R)).setCell ⟨w.heap.size + 1, 1, none⟩ (.int .i64 S)).setCell ⟨w.heap.size + 1, 2, none⟩ (.int .i64 aA)).frozen? ⟨w.heap.size + 1, i, none⟩ = false := fun i => by simp only [World.frozen?_setCell]; exact bf i
    have x0n : (((x7.setCell ⟨w.heap.size + 1, 0, none⟩ (.int .i64 R)).setCell ⟨w.heap.size + 1, 1, none⟩ (.int .i64 S)).setCell ⟨w.heap.size + 1, 2, none⟩ (.int .i64 aA)).cell? _ = _ := (cset_ne (c := w.heap.size + 1) (cset_ne (c := w.heap.size + 1) (cset_ne (c := w.heap.size + 1) x0 (by omega) 0 (.int .i64 R)) (by omega) 1 (.int .i64 S)) (by omega) 2 (.int .i64 aA)); clear x0; have x0 := x0n; clear x0n
    have x1n : (((x7.setCell ⟨w.heap.size + 1, 0, none⟩ (.int .i64 R)).setCell ⟨w.heap.size + 1, 1, none⟩ (.int .i64 S)).setCell ⟨w.heap.size + 1, 2, none⟩ (.int .i64 aA)).cell? _ = _ := (cset_ne (c := w.heap.size + 1) (cset_ne (c := w.heap.size + 1) (cset_ne (c := w.heap.size + 1) x1 (by omega) 0 (.int .i64 R)) (by omega) 1 (.int .i64 S)) (by omega) 2 (.int .i64 aA)); clear x1; have x1 := x1n; clear x1n
    have x2n : (((x7.setCell ⟨w.heap.size + 1, 0, none⟩ (.int .i64 R)).setCell ⟨w.heap.size + 1, 1, none⟩ (.int .i64 S)).setCell ⟨w.heap.size + 1, 2, none⟩ (.int .i64 aA)).cell? _ = _ := (cset_ne (c := w.heap.size + 1) (cset_ne (c := w.heap.size + 1) (cset_ne (c := w.heap.size + 1) x2 (by omega) 0 (.int .i64 R)) (by omega) 1 (.int .i64 S)) (by omega) 2 (.int .i64 aA)); clear x2; have x2 := x2n; clear x2n
    have y0n : (((x7.setCell ⟨w.heap.size + 1, 0, none⟩ (.int .i64 R)).setCell ⟨w.heap.size + 1, 1, none⟩ (.int .i64 S)).setCell ⟨w.heap.size + 1, 2, none⟩ (.int .i64 aA)).cell? _ = _ := (cset_ne (c := w.heap.size + 1) (cset_ne (c := w.heap.size + 1) (cset_ne (c := w.heap.size + 1) y0 (by omega) 0 (.int .i64 R)) (by omega) 1 (.int .i64 S)) (by omega) 2 (.int .i64 aA)); clear y0; have y0 := y0n; clear y0n
    have y1n : (((x7.setCell ⟨w.heap.size + 1, 0, none⟩ (.int .i64 R)).setCell ⟨w.heap.size + 1, 1, none⟩ (.int .i64 S)).setCell ⟨w.heap.size + 1, 2, none⟩ (.int .i64 aA)).cell? _ = _ := (cset_ne (c := w.heap.size + 1) (cset_ne (c := w.heap.size + 1) (cset_ne (c := w.heap.size + 1) y1 (by omega) 0 (.int .i64 R)) (by omega) 1 (.int .i64 S)) (by omega) 2 (.int .i64 aA)); clear y1; have y1 := y1n; clear y1n
    have y2n : (((x7.setCell ⟨w.heap.size + 1, 0, none⟩ (.int .i64 R)).setCell ⟨w.heap.size + 1, 1, none⟩ (.int .i64 S)).setCell ⟨w.heap.size + 1, 2, none⟩ (.int .i64 aA)).cell? _ = _ := (cset_ne (c := w.heap.size + 1) (cset_ne (c := w.heap.size + 1) (cset_ne (c := w.heap.size + 1) y2 (by omega) 0 (.int .i64 R)) (by omega) 1 (.int .i64 S)) (by omega) 2 (.int .i64 aA)); clear y2; have y2 := y2n; clear y2n
    have b0n : (((x7.setCell ⟨w.heap.size + 1, 0, none⟩ (.int .i64 R)).setCell ⟨w.heap.size + 1, 1, none⟩ (.int .i64 S)).setCell ⟨w.heap.size + 1, 2, none⟩ (.int .i64 aA)).cell? ⟨w.heap.size + 1, 0, none⟩ = some (.int .i64 R) := (cset_off (cset_off (cset_eq b0 (.int .i64 R)) (by decide) _) (by decide) _)
    have b1n : (((x7.setCell ⟨w.heap.size + 1, 0, none⟩ (.int .i64 R)).setCell ⟨w.heap.size + 1, 1, none⟩ (.int .i64 S)).setCell ⟨w.heap.size + 1, 2, none⟩ (.int .i64 aA)).cell? ⟨w.heap.size + 1, 1, none⟩ = some (.int .i64 S) := (cset_off (cset_eq (cset_off b1 (by decide) _) (.int .i64 S)) (by decide) _)
    have b2n : (((x7.setCell ⟨w.heap.size + 1, 0, none⟩ (.int .i64 R)).setCell ⟨w.heap.size + 1, 1, none⟩ (.int .i64 S)).setCell ⟨w.heap.size + 1, 2, none⟩ (.int .i64 aA)).cell? ⟨w.heap.size + 1, 2, none⟩ = some (.int .i64 aA) := (cset_eq (cset_off (cset_off b2 (by decide) _) (by decide) _) (.int .i64 aA))
    have t_W_2 : Below w.heap.size w (((x7.setCell ⟨w.heap.size + 1, 0, none⟩ (.int .i64 R)).setCell ⟨w.heap.size + 1, 1, none⟩ (.int .i64 S)).setCell ⟨w.heap.size + 1, 2, none⟩ (.int .i64 aA)) := by go_grown
    clear b0 b1 b2 t_x7
    have b0 := b0n; clear b0n
    have b1 := b1n; clear b1n
    have b2 := b2n; clear b2n
    generalize ((x7.setCell ⟨w.heap.size + 1, 0, none⟩ (.int .i64 R)).setCell ⟨w.heap.size + 1, 1, none⟩ (.int .i64 S)).setCell ⟨w.heap.size + 1, 2, none⟩ (.int .i64 aA) = W_2 at *
    refine (insideT i1 i2 _).mono ?_
    rintro e x5 ⟨rfl, g_x5⟩
    have s_x5 : Below W_2.heap.size W_2 x5 := chain (by go_grown) g_x5
    have t_x5 := chain t_W_2 s_x5
    replace af := fkeep2 af (lt_of a0) s_x5
    replace bf := fkeep2 bf (lt_of b0) s_x5
    replace a0 := keep a0 s_x5
    have z_a0_x5 := lt_of a0
    replace a1 := keep a1 s_x5
    replace a2 := keep a2 s_x5
    replace b0 := keep b0 s_x5
    have z_b0_x5 := lt_of b0
    replace b1 := keep b1 s_x5
    replace b2 := keep b2 s_x5
    replace x0 := keep x0 s_x5
    have z_x0_x5 := lt_of x0
    replace x1 := keep x1 s_x5
    replace x2 := keep x2 s_x5
    replace y0 := keep y0 s_x5
    have z_y0_x5 := lt_of y0
    replace y1 := keep y1 s_x5
    replace y2 := keep y2 s_x5
    clear g_x5 s_x5 z_a0_x7 z_b0_x7 z_x0_x7 z_y0_x7 t_W_2
    go_wp2_with fail
    refine (insideT i3 i4 _).mono ?_
    rintro e x6 ⟨rfl, g_x6⟩
    have s_x6 : Below x5.heap.size x5 x6 := chain (by go_grown) g_x6
    have t_x6 := chain t_x5 s_x6
    replace af := fkeep2 af (lt_of a0) s_x6
    replace bf := fkeep2 bf (lt_of b0) s_x6
    replace a0 := keep a0 s_x6
    have z_a0_x6 := lt_of a0
    replace a1 := keep a1 s_x6
    replace a2 := keep a2 s_x6
    replace b0 := keep b0 s_x6
    have z_b0_x6 := lt_of b0
    replace b1 := keep b1 s_x6
    replace b2 := keep b2 s_x6
    replace x0 := keep x0 s_x6
    have z_x0_x6 := lt_of x0
    replace x1 := keep x1 s_x6
    replace x2 := keep x2 s_x6
    replace y0 := keep y0 s_x6
    have z_y0_x6 := lt_of y0
    replace y1 := keep y1 s_x6
    replace y2 := keep y2 s_x6
    clear g_x6 s_x6 z_a0_x5 z_b0_x5 z_x0_x5 z_y0_x5 t_x5
    go_wp2_with fail
    go_ret
    exact ⟨rfl, by first | exact t_x6 | go_grown⟩
end Go.Proofs.Ytkmkfjaokjcelaa
