/- What Check, stepOf and image of package geometry return; conditions: the transform is valid, the coordinates are in range. -/
import Derived.Test.YthldilikkogaoaaGeSh
import Derived.Test.YthldilikkogaoaaMix
namespace Go.Proofs.Ythldilikkogaoaa
open Go.RowKit Go.Sort
set_option linter.unusedSimpArgs false
set_option linter.unusedVariables false

/-- A transform of numbers. -/
structure T where
  turn : Int
  mirror : Bool
  scale : Int
  dx : Int
  dy : Int
abbrev T.v (t : T) : Value := .agg #[.int .i64 t.turn, .bool t.mirror, .int .i64 t.scale, .int .i64 t.dx, .int .i64 t.dy]
def T.zero : T := ⟨0, false, 0, 0, 0⟩
def T.ok (t : T) : Bool := inB t.turn 0 3 && inB t.scale 1 16 && nearB t.dx && nearB t.dy
theorem T.bounds {t : T} (h : t.ok = true) : (0 ≤ t.turn ∧ t.turn ≤ 3) ∧ (1 ≤ t.scale ∧ t.scale ≤ 16) ∧ (-1048576 ≤ t.dx ∧ t.dx ≤ 1048576) ∧ (-1048576 ≤ t.dy ∧ t.dy ≤ 1048576) := by
  simp only [T.ok, nearB, Bool.and_eq_true, inB_iff] at h
  exact ⟨h.1.1.1, h.1.1.2, h.1.2, h.2⟩

set_option maxHeartbeats 4000000 in
theorem Check_ok (t : T) (w : World) (h : t.ok = true) :
    Calls Try.prog 27 #[t.v] w fun e w' => e = .returned (.int .i64 0) ∧ Grew w w' := by
  obtain ⟨k, m, s, x, y⟩ := t
  simp only [T.ok, Bool.and_eq_true] at h
  obtain ⟨⟨⟨h1, h2⟩, h3⟩, h4⟩ := h
  have W := fun x lo hi W => hide (within_any x lo hi W)
  go_enter Try.func27, Try.ntmps27
  go_wp2_with fail
  refine ((W k 0 3 _).out).mono ?_
  rintro e _ ⟨rfl, rfl⟩
  go_wp2_with fail
  refine ((W s 1 16 _).out).mono ?_
  rintro e _ ⟨rfl, rfl⟩
  go_wp2_with fail
  refine (nearby_any _ _).mono ?_
  rintro e _ ⟨rfl, rfl⟩
  go_wp2_with fail
  refine (nearby_any _ _).mono ?_
  rintro e _ ⟨rfl, rfl⟩
  go_wp2
  go_ret
  refine ⟨rfl, ?_⟩
  repeat' (first | (with_reducible exact Grew.refl _) | (with_reducible refine Grew.setCell ?_ ?_ _) | (with_reducible refine Grew.drewN ?_ _) | (with_reducible refine Grew.alloc ?_ _) | (dsimp only; omega))

set_option maxHeartbeats 4000000 in
theorem Check_bad (t : T) (w : World) (h : t.ok = false) :
    Calls Try.prog 27 #[t.v] w fun e w' => e = .returned (.int .i64 1) ∧ Grew w w' := by
  obtain ⟨k, m, s, x, y⟩ := t
  have W := fun x lo hi W => hide (within_any x lo hi W)
  have hc : inB k 0 3 = false ∨ (inB k 0 3 = true ∧ inB s 1 16 = false) ∨ (inB k 0 3 = true ∧ inB s 1 16 = true ∧ nearB x = false) ∨ (inB k 0 3 = true ∧ inB s 1 16 = true ∧ nearB x = true ∧ nearB y = false) := by
    simp only [T.ok] at h
    cases e1 : inB k 0 3 <;> cases e2 : inB s 1 16 <;> cases e3 : nearB x <;> cases e4 : nearB y <;> simp [e1, e2, e3, e4] at h ⊢
  clear h
  rcases hc with h1 | ⟨h1, h2⟩ | ⟨h1, h2, h3⟩ | ⟨h1, h2, h3, h4⟩
  · go_enter Try.func27, Try.ntmps27
    go_wp2_with fail
    refine ((W k 0 3 _).out).mono ?_
    rintro e _ ⟨rfl, rfl⟩
    go_wp2
    go_ret
    refine ⟨rfl, ?_⟩
    repeat' (first | (with_reducible exact Grew.refl _) | (with_reducible refine Grew.setCell ?_ ?_ _) | (with_reducible refine Grew.drewN ?_ _) | (with_reducible refine Grew.alloc ?_ _) | (dsimp only; omega))
  · go_enter Try.func27, Try.ntmps27
    go_wp2_with fail
    refine ((W k 0 3 _).out).mono ?_
    rintro e _ ⟨rfl, rfl⟩
    go_wp2_with fail
    refine ((W s 1 16 _).out).mono ?_
    rintro e _ ⟨rfl, rfl⟩
    go_wp2
    go_ret
    refine ⟨rfl, ?_⟩
    repeat' (first | (with_reducible exact Grew.refl _) | (with_reducible refine Grew.setCell ?_ ?_ _) | (with_reducible refine Grew.drewN ?_ _) | (with_reducible refine Grew.alloc ?_ _) | (dsimp only; omega))
  · go_enter Try.func27, Try.ntmps27
    go_wp2_with fail
    refine ((W k 0 3 _).out).mono ?_
    rintro e _ ⟨rfl, rfl⟩
    go_wp2_with fail
    refine ((W s 1 16 _).out).mono ?_
    rintro e _ ⟨rfl, rfl⟩
    go_wp2_with fail
    refine (nearby_any _ _).mono ?_
    rintro e _ ⟨rfl, rfl⟩
    go_wp2
    go_ret
    refine ⟨rfl, ?_⟩
    repeat' (first | (with_reducible exact Grew.refl _) | (with_reducible refine Grew.setCell ?_ ?_ _) | (with_reducible refine Grew.drewN ?_ _) | (with_reducible refine Grew.alloc ?_ _) | (dsimp only; omega))
  · go_enter Try.func27, Try.ntmps27
    go_wp2_with fail
    refine ((W k 0 3 _).out).mono ?_
    rintro e _ ⟨rfl, rfl⟩
    go_wp2_with fail
    refine ((W s 1 16 _).out).mono ?_
    rintro e _ ⟨rfl, rfl⟩
    go_wp2_with fail
    refine (nearby_any _ _).mono ?_
    rintro e _ ⟨rfl, rfl⟩
    go_wp2_with fail
    refine (nearby_any _ _).mono ?_
    rintro e _ ⟨rfl, rfl⟩
    go_wp2
    go_ret
    refine ⟨rfl, ?_⟩
    repeat' (first | (with_reducible exact Grew.refl _) | (with_reducible refine Grew.setCell ?_ ?_ _) | (with_reducible refine Grew.drewN ?_ _) | (with_reducible refine Grew.alloc ?_ _) | (dsimp only; omega))

/-- A quarter turn k times, its x and its y. -/
def rx (k x y : Int) : Int := if k = 0 then x else if k = 1 then -y else if k = 2 then -x else y
def ry (k x y : Int) : Int := if k = 0 then y else if k = 1 then x else if k = 2 then -y else -x
def mir (m : Bool) (x : Int) : Int := if m then -x else x
def T.imx (t : T) (x y : Int) : Int := rx t.turn (mir t.mirror x) y * t.scale + t.dx
def T.imy (t : T) (x y : Int) : Int := ry t.turn (mir t.mirror x) y * t.scale + t.dy

theorem mul_bd {x s : Int} (h1 : -16777216 ≤ x) (h2 : x ≤ 16777216) (h3 : 1 ≤ s) (h4 : s ≤ 16) : -268435456 ≤ x * s ∧ x * s ≤ 268435456 := by
  have a := Int.mul_le_mul_of_nonneg_right h2 (show 0 ≤ s by omega)
  have b := Int.mul_le_mul_of_nonneg_right h1 (show 0 ≤ s by omega)
  omega
theorem four {k : Int} (h : 0 ≤ k ∧ k ≤ 3) : k = 0 ∨ k = 1 ∨ k = 2 ∨ k = 3 := by omega

set_option maxHeartbeats 4000000 in
theorem image_any (t : T) (x y : Int) (w : World) (h : t.ok = true) (hx1 : -16777216 ≤ x) (hx2 : x ≤ 16777216) (hy1 : -16777216 ≤ y) (hy2 : y ≤ 16777216) :
    Calls Try.prog 40 #[t.v, .agg #[.int .i64 x, .int .i64 y]] w fun e w' => e = .returned (.agg #[.int .i64 (t.imx x y), .int .i64 (t.imy x y)]) ∧ Grew w w' := by
  obtain ⟨k, m, s, dx, dy⟩ := t
  obtain ⟨h1, ⟨s1, s2⟩, ⟨d1, d2⟩, d3, d4⟩ := T.bounds h
  simp only at h1 s1 s2 d1 d2 d3 d4
  clear h
  obtain ⟨p1, p2⟩ := mul_bd hx1 hx2 s1 s2
  obtain ⟨p3, p4⟩ := mul_bd hy1 hy2 s1 s2
  obtain ⟨p5, p6⟩ := mul_bd (show -16777216 ≤ -x by omega) (show -x ≤ 16777216 by omega) s1 s2
  obtain ⟨p7, p8⟩ := mul_bd (show -16777216 ≤ -y by omega) (show -y ≤ 16777216 by omega) s1 s2
  cases m <;> rcases four h1 with rfl | rfl | rfl | rfl
  · have H1 : Hid ((T.mk 0 false s dx dy).imx x y = x * s + dx) := by simp [Hid, T.imx, rx, mir]
    have H2 : Hid ((T.mk 0 false s dx dy).imy x y = y * s + dy) := by simp [Hid, T.imy, ry, mir]
    clear h1
    go_enter Try.func40, Try.ntmps40
    go_wp2_with fail
    refine wp_loop_rounds 1 ?_
    rw [rounds_succ]
    go_wp2_with fail
    rw [H1.out, H2.out]
    refine bodyPost_ret (v := .agg #[.int .i64 (x * s + dx), .int .i64 (y * s + dy)]) (by simp [results, Try.results40, go_sem]) rfl ⟨rfl, ?_⟩
    repeat' (first | (with_reducible exact Grew.refl _) | (with_reducible refine Grew.setCell ?_ ?_ _) | (with_reducible refine Grew.drewN ?_ _) | (with_reducible refine Grew.alloc ?_ _) | (dsimp only; omega))
  · have H1 : Hid ((T.mk 1 false s dx dy).imx x y = -y * s + dx) := by simp [Hid, T.imx, rx, mir]
    have H2 : Hid ((T.mk 1 false s dx dy).imy x y = x * s + dy) := by simp [Hid, T.imy, ry, mir]
    clear h1
    go_enter Try.func40, Try.ntmps40
    go_wp2_with fail
    refine wp_loop_rounds 2 ?_
    rw [rounds_succ]
    go_wp2_with fail
    rw [rounds_succ]
    go_wp2_with fail
    rw [H1.out, H2.out]
    refine bodyPost_ret (v := .agg #[.int .i64 (-y * s + dx), .int .i64 (x * s + dy)]) (by simp [results, Try.results40, go_sem]) rfl ⟨rfl, ?_⟩
    repeat' (first | (with_reducible exact Grew.refl _) | (with_reducible refine Grew.setCell ?_ ?_ _) | (with_reducible refine Grew.drewN ?_ _) | (with_reducible refine Grew.alloc ?_ _) | (dsimp only; omega))
  · have H1 : Hid ((T.mk 2 false s dx dy).imx x y = -x * s + dx) := by simp [Hid, T.imx, rx, mir]
    have H2 : Hid ((T.mk 2 false s dx dy).imy x y = -y * s + dy) := by simp [Hid, T.imy, ry, mir]
    clear h1
    go_enter Try.func40, Try.ntmps40
    go_wp2_with fail
    refine wp_loop_rounds 3 ?_
    rw [rounds_succ]
    go_wp2_with fail
    rw [rounds_succ]
    go_wp2_with fail
    rw [rounds_succ]
    go_wp2_with fail
    rw [H1.out, H2.out]
    refine bodyPost_ret (v := .agg #[.int .i64 (-x * s + dx), .int .i64 (-y * s + dy)]) (by simp [results, Try.results40, go_sem]) rfl ⟨rfl, ?_⟩
    repeat' (first | (with_reducible exact Grew.refl _) | (with_reducible refine Grew.setCell ?_ ?_ _) | (with_reducible refine Grew.drewN ?_ _) | (with_reducible refine Grew.alloc ?_ _) | (dsimp only; omega))
  · have H1 : Hid ((T.mk 3 false s dx dy).imx x y = y * s + dx) := by simp [Hid, T.imx, rx, mir]
    have H2 : Hid ((T.mk 3 false s dx dy).imy x y = -x * s + dy) := by simp [Hid, T.imy, ry, mir]
    clear h1
    go_enter Try.func40, Try.ntmps40
    go_wp2_with fail
    refine wp_loop_rounds 4 ?_
    rw [rounds_succ]
    go_wp2_with fail
    rw [rounds_succ]
    go_wp2_with fail
    rw [rounds_succ]
    go_wp2_with fail
    rw [rounds_succ]
    go_wp2_with fail
    rw [H1.out, H2.out]
    refine bodyPost_ret (v := .agg #[.int .i64 (y * s + dx), .int .i64 (-x * s + dy)]) (by simp [results, Try.results40, go_sem]) rfl ⟨rfl, ?_⟩
    repeat' (first | (with_reducible exact Grew.refl _) | (with_reducible refine Grew.setCell ?_ ?_ _) | (with_reducible refine Grew.drewN ?_ _) | (with_reducible refine Grew.alloc ?_ _) | (dsimp only; omega))
  · have H1 : Hid ((T.mk 0 true s dx dy).imx x y = -x * s + dx) := by simp [Hid, T.imx, rx, mir]
    have H2 : Hid ((T.mk 0 true s dx dy).imy x y = y * s + dy) := by simp [Hid, T.imy, ry, mir]
    clear h1
    go_enter Try.func40, Try.ntmps40
    go_wp2_with fail
    refine wp_loop_rounds 1 ?_
    rw [rounds_succ]
    go_wp2_with fail
    rw [H1.out, H2.out]
    refine bodyPost_ret (v := .agg #[.int .i64 (-x * s + dx), .int .i64 (y * s + dy)]) (by simp [results, Try.results40, go_sem]) rfl ⟨rfl, ?_⟩
    repeat' (first | (with_reducible exact Grew.refl _) | (with_reducible refine Grew.setCell ?_ ?_ _) | (with_reducible refine Grew.drewN ?_ _) | (with_reducible refine Grew.alloc ?_ _) | (dsimp only; omega))
  · have H1 : Hid ((T.mk 1 true s dx dy).imx x y = -y * s + dx) := by simp [Hid, T.imx, rx, mir]
    have H2 : Hid ((T.mk 1 true s dx dy).imy x y = -x * s + dy) := by simp [Hid, T.imy, ry, mir]
    clear h1
    go_enter Try.func40, Try.ntmps40
    go_wp2_with fail
    refine wp_loop_rounds 2 ?_
    rw [rounds_succ]
    go_wp2_with fail
    rw [rounds_succ]
    go_wp2_with fail
    rw [H1.out, H2.out]
    refine bodyPost_ret (v := .agg #[.int .i64 (-y * s + dx), .int .i64 (-x * s + dy)]) (by simp [results, Try.results40, go_sem]) rfl ⟨rfl, ?_⟩
    repeat' (first | (with_reducible exact Grew.refl _) | (with_reducible refine Grew.setCell ?_ ?_ _) | (with_reducible refine Grew.drewN ?_ _) | (with_reducible refine Grew.alloc ?_ _) | (dsimp only; omega))
  · have H1 : Hid ((T.mk 2 true s dx dy).imx x y = x * s + dx) := by simp [Hid, T.imx, rx, mir]
    have H2 : Hid ((T.mk 2 true s dx dy).imy x y = -y * s + dy) := by simp [Hid, T.imy, ry, mir]
    clear h1
    go_enter Try.func40, Try.ntmps40
    go_wp2_with fail
    refine wp_loop_rounds 3 ?_
    rw [rounds_succ]
    go_wp2_with fail
    rw [rounds_succ]
    go_wp2_with fail
    rw [rounds_succ]
    go_wp2_with fail
    rw [H1.out, H2.out]
    refine bodyPost_ret (v := .agg #[.int .i64 (x * s + dx), .int .i64 (-y * s + dy)]) (by simp [results, Try.results40, go_sem]) rfl ⟨rfl, ?_⟩
    repeat' (first | (with_reducible exact Grew.refl _) | (with_reducible refine Grew.setCell ?_ ?_ _) | (with_reducible refine Grew.drewN ?_ _) | (with_reducible refine Grew.alloc ?_ _) | (dsimp only; omega))
  · have H1 : Hid ((T.mk 3 true s dx dy).imx x y = y * s + dx) := by simp [Hid, T.imx, rx, mir]
    have H2 : Hid ((T.mk 3 true s dx dy).imy x y = x * s + dy) := by simp [Hid, T.imy, ry, mir]
    clear h1
    go_enter Try.func40, Try.ntmps40
    go_wp2_with fail
    refine wp_loop_rounds 4 ?_
    rw [rounds_succ]
    go_wp2_with fail
    rw [rounds_succ]
    go_wp2_with fail
    rw [rounds_succ]
    go_wp2_with fail
    rw [rounds_succ]
    go_wp2_with fail
    rw [H1.out, H2.out]
    refine bodyPost_ret (v := .agg #[.int .i64 (y * s + dx), .int .i64 (x * s + dy)]) (by simp [results, Try.results40, go_sem]) rfl ⟨rfl, ?_⟩
    repeat' (first | (with_reducible exact Grew.refl _) | (with_reducible refine Grew.setCell ?_ ?_ _) | (with_reducible refine Grew.drewN ?_ _) | (with_reducible refine Grew.alloc ?_ _) | (dsimp only; omega))

end Go.Proofs.Ythldilikkogaoaa
