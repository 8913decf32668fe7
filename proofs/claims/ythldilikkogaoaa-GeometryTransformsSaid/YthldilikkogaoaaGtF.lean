/- What the references' Apply and Back return; no condition. -/
import Derived.Test.YthldilikkogaoaaGtD
namespace Go.Proofs.Ythldilikkogaoaa
open Go.RowKit Go.Sort
set_option linter.unusedSimpArgs false
set_option linter.unusedVariables false

set_option maxHeartbeats 4000000 in
theorem rApply_any (t : T) (r : R) (w : World) :
    Calls Try.prog 30 #[t.v, r.v] w fun e w' => e = .returned (t.apply r).v ∧ Grew w w' := by
  have V1 := fun W => hide (ValidTransform_any t W)
  have V2 := fun W => hide (ValidRect_any r W)
  cases c1 : t.ok with
  | true =>
    cases c2 : r.ok with
    | true =>
      obtain ⟨⟨b1, b2⟩, ⟨b3, b4⟩, ⟨b5, b6⟩, b7, b8⟩ := R.bounds c2
      have I1 := fun W => hide (corner_any t r.x r.y W c1 (by omega) (by omega) (by omega) (by omega))
      have I2 := fun W => hide (corner_any t (r.x + r.w) (r.y + r.h) W c1 (by omega) (by omega) (by omega) (by omega))
      obtain ⟨q1, q2⟩ := T.im_bd c1 (x := r.x) (y := r.y) (by omega) (by omega)
      obtain ⟨q3, q4⟩ := T.im_bd c1 (x := r.x + r.w) (y := r.y + r.h) (by omega) (by omega)
      have H : Hid (t.apply r = _) := if_pos (show (t.ok && r.ok) = true by rw [c1, c2]; rfl)
      rw [c1] at V1
      rw [c2] at V2
      clear c1 c2
      obtain ⟨k, m, s, dx, dy⟩ := t
      obtain ⟨x, y, z, h⟩ := r
      simp only at b1 b2 b3 b4 b5 b6 b7 b8 I1 I2 q1 q2 q3 q4 V1 V2 H
      generalize (T.mk k m s dx dy).imx x y = ax at I1 q1 H
      generalize (T.mk k m s dx dy).imy x y = ay at I1 q2 H
      generalize (T.mk k m s dx dy).imx (x + z) (y + h) = bx at I2 q3 H
      generalize (T.mk k m s dx dy).imy (x + z) (y + h) = bz at I2 q4 H
      have m1 := min_if ax bx
      have m2 := min_if ay bz
      have m3 := max_if ax bx
      have m4 := max_if ay bz
      have v1 : -536870912 ≤ min ax bx ∧ min ax bx ≤ 536870912 := by omega
      have v2 : -536870912 ≤ min ay bz ∧ min ay bz ≤ 536870912 := by omega
      have v3 : -536870912 ≤ max ax bx ∧ max ax bx ≤ 536870912 := by omega
      have v4 : -536870912 ≤ max ay bz ∧ max ay bz ≤ 536870912 := by omega
      generalize min ax bx = nx at m1 v1 H
      generalize min ay bz = ny at m2 v2 H
      generalize max ax bx = mx at m3 v3 H
      generalize max ay bz = my at m4 v4 H
      obtain ⟨v1, v1'⟩ := v1
      obtain ⟨v2, v2'⟩ := v2
      obtain ⟨v3, v3'⟩ := v3
      obtain ⟨v4, v4'⟩ := v4
      clear q1 q2 q3 q4
      go_enter Try.func30, Try.ntmps30
      go_wp2_with fail
      refine ((V1 _).out).mono ?_
      rintro e w1 ⟨rfl, G1⟩
      try (with_reducible replace G1 := Grew.undrawn G1)
      have B1_0 : Blk w1 (w.heap.size) 39 [.int .i64 k, .bool m, .int .i64 s, .int .i64 dx, .int .i64 dy] := Blk.grew (by (repeat' (first | (with_reducible assumption) | ((with_reducible refine Blk.new ?_); (first | (with_reducible rfl) | (simp only [World.size_alloc, World.size_setCell, size_drewN]; done))) | (with_reducible refine Blk.alloc ?_ _) | (with_reducible refine Blk.drewN ?_ _) | (with_reducible refine Blk.drew ?_) | (refine Blk.other ?_ (by omega) _) | fail))) G1
      have B1_1 : Blk w1 (w.heap.size + 1) 23 [.int .i64 x, .int .i64 y, .int .i64 z, .int .i64 h] := Blk.grew (by (repeat' (first | (with_reducible assumption) | ((with_reducible refine Blk.new ?_); (first | (with_reducible rfl) | (simp only [World.size_alloc, World.size_setCell, size_drewN]; done))) | (with_reducible refine Blk.alloc ?_ _) | (with_reducible refine Blk.drewN ?_ _) | (with_reducible refine Blk.drew ?_) | (refine Blk.other ?_ (by omega) _) | fail))) G1
      have B1_2 : Blk w1 (w.heap.size + 1 + 1) 23 [.int .i64 0, .int .i64 0, .int .i64 0, .int .i64 0] := Blk.grew (by (repeat' (first | (with_reducible assumption) | ((with_reducible refine Blk.new ?_); (first | (with_reducible rfl) | (simp only [World.size_alloc, World.size_setCell, size_drewN]; done))) | (with_reducible refine Blk.alloc ?_ _) | (with_reducible refine Blk.drewN ?_ _) | (with_reducible refine Blk.drew ?_) | (refine Blk.other ?_ (by omega) _) | fail))) G1
      have z1 := G1.size
      try simp only [World.size_alloc, World.size_setCell, size_drewN] at z1
      replace G1 := hide G1
      have t1_0 := B1_0.lt
      have d1_0_0 := B1_0.cell 0 rfl
      have e1_0_0 := B1_0.free 0
      have d1_0_1 := B1_0.cell 1 rfl
      have e1_0_1 := B1_0.free 1
      have d1_0_2 := B1_0.cell 2 rfl
      have e1_0_2 := B1_0.free 2
      have d1_0_3 := B1_0.cell 3 rfl
      have e1_0_3 := B1_0.free 3
      have d1_0_4 := B1_0.cell 4 rfl
      have e1_0_4 := B1_0.free 4
      have t1_1 := B1_1.lt
      have d1_1_0 := B1_1.cell 0 rfl
      have e1_1_0 := B1_1.free 0
      have d1_1_1 := B1_1.cell 1 rfl
      have e1_1_1 := B1_1.free 1
      have d1_1_2 := B1_1.cell 2 rfl
      have e1_1_2 := B1_1.free 2
      have d1_1_3 := B1_1.cell 3 rfl
      have e1_1_3 := B1_1.free 3
      have t1_2 := B1_2.lt
      have d1_2_0 := B1_2.cell 0 rfl
      have e1_2_0 := B1_2.free 0
      have d1_2_1 := B1_2.cell 1 rfl
      have e1_2_1 := B1_2.free 1
      have d1_2_2 := B1_2.cell 2 rfl
      have e1_2_2 := B1_2.free 2
      have d1_2_3 := B1_2.cell 3 rfl
      have e1_2_3 := B1_2.free 3
      go_wp2_with fail
      refine ((V2 _).out).mono ?_
      rintro e w2 ⟨rfl, G2⟩
      try (with_reducible replace G2 := Grew.undrawn G2)
      have B2_0 : Blk w2 (w.heap.size) 39 [.int .i64 k, .bool m, .int .i64 s, .int .i64 dx, .int .i64 dy] := Blk.grew (by (repeat' (first | (with_reducible assumption) | ((with_reducible refine Blk.new ?_); (first | (with_reducible rfl) | (simp only [World.size_alloc, World.size_setCell, size_drewN]; done))) | (with_reducible refine Blk.alloc ?_ _) | (with_reducible refine Blk.drewN ?_ _) | (with_reducible refine Blk.drew ?_) | (refine Blk.other ?_ (by omega) _) | fail))) G2
      have B2_1 : Blk w2 (w.heap.size + 1) 23 [.int .i64 x, .int .i64 y, .int .i64 z, .int .i64 h] := Blk.grew (by (repeat' (first | (with_reducible assumption) | ((with_reducible refine Blk.new ?_); (first | (with_reducible rfl) | (simp only [World.size_alloc, World.size_setCell, size_drewN]; done))) | (with_reducible refine Blk.alloc ?_ _) | (with_reducible refine Blk.drewN ?_ _) | (with_reducible refine Blk.drew ?_) | (refine Blk.other ?_ (by omega) _) | fail))) G2
      have B2_2 : Blk w2 (w.heap.size + 1 + 1) 23 [.int .i64 0, .int .i64 0, .int .i64 0, .int .i64 0] := Blk.grew (by (repeat' (first | (with_reducible assumption) | ((with_reducible refine Blk.new ?_); (first | (with_reducible rfl) | (simp only [World.size_alloc, World.size_setCell, size_drewN]; done))) | (with_reducible refine Blk.alloc ?_ _) | (with_reducible refine Blk.drewN ?_ _) | (with_reducible refine Blk.drew ?_) | (refine Blk.other ?_ (by omega) _) | fail))) G2
      have z2 := G2.size
      try simp only [World.size_alloc, World.size_setCell, size_drewN] at z2
      replace G2 := hide G2
      have t2_0 := B2_0.lt
      have d2_0_0 := B2_0.cell 0 rfl
      have e2_0_0 := B2_0.free 0
      have d2_0_1 := B2_0.cell 1 rfl
      have e2_0_1 := B2_0.free 1
      have d2_0_2 := B2_0.cell 2 rfl
      have e2_0_2 := B2_0.free 2
      have d2_0_3 := B2_0.cell 3 rfl
      have e2_0_3 := B2_0.free 3
      have d2_0_4 := B2_0.cell 4 rfl
      have e2_0_4 := B2_0.free 4
      have t2_1 := B2_1.lt
      have d2_1_0 := B2_1.cell 0 rfl
      have e2_1_0 := B2_1.free 0
      have d2_1_1 := B2_1.cell 1 rfl
      have e2_1_1 := B2_1.free 1
      have d2_1_2 := B2_1.cell 2 rfl
      have e2_1_2 := B2_1.free 2
      have d2_1_3 := B2_1.cell 3 rfl
      have e2_1_3 := B2_1.free 3
      have t2_2 := B2_2.lt
      have d2_2_0 := B2_2.cell 0 rfl
      have e2_2_0 := B2_2.free 0
      have d2_2_1 := B2_2.cell 1 rfl
      have e2_2_1 := B2_2.free 1
      have d2_2_2 := B2_2.cell 2 rfl
      have e2_2_2 := B2_2.free 2
      have d2_2_3 := B2_2.cell 3 rfl
      have e2_2_3 := B2_2.free 3
      go_wp2_with fail
      refine ((I1 _).out).mono ?_
      rintro e w3 ⟨rfl, G3⟩
      try (with_reducible replace G3 := Grew.undrawn G3)
      have B3_0 : Blk w3 (w.heap.size) 39 [.int .i64 k, .bool m, .int .i64 s, .int .i64 dx, .int .i64 dy] := Blk.grew (by (repeat' (first | (with_reducible assumption) | ((with_reducible refine Blk.new ?_); (first | (with_reducible rfl) | (simp only [World.size_alloc, World.size_setCell, size_drewN]; done))) | (with_reducible refine Blk.alloc ?_ _) | (with_reducible refine Blk.drewN ?_ _) | (with_reducible refine Blk.drew ?_) | (refine Blk.other ?_ (by omega) _) | fail))) G3
      have B3_1 : Blk w3 (w.heap.size + 1) 23 [.int .i64 x, .int .i64 y, .int .i64 z, .int .i64 h] := Blk.grew (by (repeat' (first | (with_reducible assumption) | ((with_reducible refine Blk.new ?_); (first | (with_reducible rfl) | (simp only [World.size_alloc, World.size_setCell, size_drewN]; done))) | (with_reducible refine Blk.alloc ?_ _) | (with_reducible refine Blk.drewN ?_ _) | (with_reducible refine Blk.drew ?_) | (refine Blk.other ?_ (by omega) _) | fail))) G3
      have B3_2 : Blk w3 (w.heap.size + 1 + 1) 23 [.int .i64 0, .int .i64 0, .int .i64 0, .int .i64 0] := Blk.grew (by (repeat' (first | (with_reducible assumption) | ((with_reducible refine Blk.new ?_); (first | (with_reducible rfl) | (simp only [World.size_alloc, World.size_setCell, size_drewN]; done))) | (with_reducible refine Blk.alloc ?_ _) | (with_reducible refine Blk.drewN ?_ _) | (with_reducible refine Blk.drew ?_) | (refine Blk.other ?_ (by omega) _) | fail))) G3
      have z3 := G3.size
      try simp only [World.size_alloc, World.size_setCell, size_drewN] at z3
      replace G3 := hide G3
      have t3_0 := B3_0.lt
      have d3_0_0 := B3_0.cell 0 rfl
      have e3_0_0 := B3_0.free 0
      have d3_0_1 := B3_0.cell 1 rfl
      have e3_0_1 := B3_0.free 1
      have d3_0_2 := B3_0.cell 2 rfl
      have e3_0_2 := B3_0.free 2
      have d3_0_3 := B3_0.cell 3 rfl
      have e3_0_3 := B3_0.free 3
      have d3_0_4 := B3_0.cell 4 rfl
      have e3_0_4 := B3_0.free 4
      have t3_1 := B3_1.lt
      have d3_1_0 := B3_1.cell 0 rfl
      have e3_1_0 := B3_1.free 0
      have d3_1_1 := B3_1.cell 1 rfl
      have e3_1_1 := B3_1.free 1
      have d3_1_2 := B3_1.cell 2 rfl
      have e3_1_2 := B3_1.free 2
      have d3_1_3 := B3_1.cell 3 rfl
      have e3_1_3 := B3_1.free 3
      have t3_2 := B3_2.lt
      have d3_2_0 := B3_2.cell 0 rfl
      have e3_2_0 := B3_2.free 0
      have d3_2_1 := B3_2.cell 1 rfl
      have e3_2_1 := B3_2.free 1
      have d3_2_2 := B3_2.cell 2 rfl
      have e3_2_2 := B3_2.free 2
      have d3_2_3 := B3_2.cell 3 rfl
      have e3_2_3 := B3_2.free 3
      go_wp2_with fail
      refine ((I2 _).out).mono ?_
      rintro e w4 ⟨rfl, G4⟩
      try (with_reducible replace G4 := Grew.undrawn G4)
      have B4_0 : Blk w4 (w.heap.size) 39 [.int .i64 k, .bool m, .int .i64 s, .int .i64 dx, .int .i64 dy] := Blk.grew (by (repeat' (first | (with_reducible assumption) | ((with_reducible refine Blk.new ?_); (first | (with_reducible rfl) | (simp only [World.size_alloc, World.size_setCell, size_drewN]; done))) | (with_reducible refine Blk.alloc ?_ _) | (with_reducible refine Blk.drewN ?_ _) | (with_reducible refine Blk.drew ?_) | (refine Blk.other ?_ (by omega) _) | fail))) G4
      have B4_1 : Blk w4 (w.heap.size + 1) 23 [.int .i64 x, .int .i64 y, .int .i64 z, .int .i64 h] := Blk.grew (by (repeat' (first | (with_reducible assumption) | ((with_reducible refine Blk.new ?_); (first | (with_reducible rfl) | (simp only [World.size_alloc, World.size_setCell, size_drewN]; done))) | (with_reducible refine Blk.alloc ?_ _) | (with_reducible refine Blk.drewN ?_ _) | (with_reducible refine Blk.drew ?_) | (refine Blk.other ?_ (by omega) _) | fail))) G4
      have B4_2 : Blk w4 (w.heap.size + 1 + 1) 23 [.int .i64 0, .int .i64 0, .int .i64 0, .int .i64 0] := Blk.grew (by (repeat' (first | (with_reducible assumption) | ((with_reducible refine Blk.new ?_); (first | (with_reducible rfl) | (simp only [World.size_alloc, World.size_setCell, size_drewN]; done))) | (with_reducible refine Blk.alloc ?_ _) | (with_reducible refine Blk.drewN ?_ _) | (with_reducible refine Blk.drew ?_) | (refine Blk.other ?_ (by omega) _) | fail))) G4
      have z4 := G4.size
      try simp only [World.size_alloc, World.size_setCell, size_drewN] at z4
      replace G4 := hide G4
      have t4_0 := B4_0.lt
      have d4_0_0 := B4_0.cell 0 rfl
      have e4_0_0 := B4_0.free 0
      have d4_0_1 := B4_0.cell 1 rfl
      have e4_0_1 := B4_0.free 1
      have d4_0_2 := B4_0.cell 2 rfl
      have e4_0_2 := B4_0.free 2
      have d4_0_3 := B4_0.cell 3 rfl
      have e4_0_3 := B4_0.free 3
      have d4_0_4 := B4_0.cell 4 rfl
      have e4_0_4 := B4_0.free 4
      have t4_1 := B4_1.lt
      have d4_1_0 := B4_1.cell 0 rfl
      have e4_1_0 := B4_1.free 0
      have d4_1_1 := B4_1.cell 1 rfl
      have e4_1_1 := B4_1.free 1
      have d4_1_2 := B4_1.cell 2 rfl
      have e4_1_2 := B4_1.free 2
      have d4_1_3 := B4_1.cell 3 rfl
      have e4_1_3 := B4_1.free 3
      have t4_2 := B4_2.lt
      have d4_2_0 := B4_2.cell 0 rfl
      have e4_2_0 := B4_2.free 0
      have d4_2_1 := B4_2.cell 1 rfl
      have e4_2_1 := B4_2.free 1
      have d4_2_2 := B4_2.cell 2 rfl
      have e4_2_2 := B4_2.free 2
      have d4_2_3 := B4_2.cell 3 rfl
      have e4_2_3 := B4_2.free 3
      go_wp2
      rw [H.out]
      refine bodyPost_ret (v := R.v ⟨nx, ny, mx - nx, my - ny⟩) (by simp [results, Try.results30, go_sem, R.zero, d4_0_0, d4_0_1, d4_0_2, d4_0_3, d4_0_4, d4_1_0, d4_1_1, d4_1_2, d4_1_3, d4_2_0, d4_2_1, d4_2_2, d4_2_3]) rfl ⟨rfl, ?_⟩
      repeat' (first | (with_reducible exact Grew.refl _) | (with_reducible refine Grew.setCell ?_ ?_ _) | (with_reducible refine Grew.drewN ?_ _) | (with_reducible refine Grew.alloc ?_ _) | (with_reducible refine Grew.trans ?_ G4.out) | (with_reducible refine Grew.trans ?_ G3.out) | (with_reducible refine Grew.trans ?_ G2.out) | (with_reducible refine Grew.trans ?_ G1.out) | (dsimp only; omega))
    | false =>
      have H : Hid (t.apply r = R.zero) := if_neg (by rw [c1, c2]; simp)
      rw [c1] at V1
      rw [c2] at V2
      clear c1 c2
      obtain ⟨k, m, s, dx, dy⟩ := t
      obtain ⟨x, y, z, h⟩ := r
      go_enter Try.func30, Try.ntmps30
      go_wp2_with fail
      refine ((V1 _).out).mono ?_
      rintro e w1 ⟨rfl, G1⟩
      try (with_reducible replace G1 := Grew.undrawn G1)
      obtain ⟨c1, f1⟩ := G1.cells
      have z1 := G1.size
      try simp only [World.size_alloc, World.size_setCell, size_drewN] at z1
      replace G1 := hide G1
      have l1_w_0 : w.heap.size < w1.heap.size := by omega
      have l1_w_1 : w.heap.size + 1 < w1.heap.size := by omega
      have l1_w_2 : w.heap.size + 1 + 1 < w1.heap.size := by omega
      go_wp2_with fail
      refine ((V2 _).out).mono ?_
      rintro e w2 ⟨rfl, G2⟩
      try (with_reducible replace G2 := Grew.undrawn G2)
      obtain ⟨c2, f2⟩ := G2.cells
      have z2 := G2.size
      try simp only [World.size_alloc, World.size_setCell, size_drewN] at z2
      replace G2 := hide G2
      have l2_w_0 : w.heap.size < w2.heap.size := by omega
      have l2_w_1 : w.heap.size + 1 < w2.heap.size := by omega
      have l2_w_2 : w.heap.size + 1 + 1 < w2.heap.size := by omega
      go_wp2
      rw [H.out]
      refine bodyPost_ret (v := R.zero.v) (by simp [results, Try.results30, go_sem, R.zero, c1, c2, l1_w_0, l1_w_1, l1_w_2, l2_w_0, l2_w_1, l2_w_2]) rfl ⟨rfl, ?_⟩
      repeat' (first | (with_reducible exact Grew.refl _) | (with_reducible refine Grew.setCell ?_ ?_ _) | (with_reducible refine Grew.drewN ?_ _) | (with_reducible refine Grew.alloc ?_ _) | (with_reducible refine Grew.trans ?_ G2.out) | (with_reducible refine Grew.trans ?_ G1.out) | (dsimp only; omega))
  | false =>
    have H : Hid (t.apply r = R.zero) := if_neg (by rw [c1]; simp)
    rw [c1] at V1
    clear c1
    obtain ⟨k, m, s, dx, dy⟩ := t
    obtain ⟨x, y, z, h⟩ := r
    go_enter Try.func30, Try.ntmps30
    go_wp2_with fail
    refine ((V1 _).out).mono ?_
    rintro e w1 ⟨rfl, G1⟩
    try (with_reducible replace G1 := Grew.undrawn G1)
    obtain ⟨c1, f1⟩ := G1.cells
    have z1 := G1.size
    try simp only [World.size_alloc, World.size_setCell, size_drewN] at z1
    replace G1 := hide G1
    have l1_w_0 : w.heap.size < w1.heap.size := by omega
    have l1_w_1 : w.heap.size + 1 < w1.heap.size := by omega
    have l1_w_2 : w.heap.size + 1 + 1 < w1.heap.size := by omega
    go_wp2
    rw [H.out]
    refine bodyPost_ret (v := R.zero.v) (by simp [results, Try.results30, go_sem, R.zero, c1, l1_w_0, l1_w_1, l1_w_2]) rfl ⟨rfl, ?_⟩
    repeat' (first | (with_reducible exact Grew.refl _) | (with_reducible refine Grew.setCell ?_ ?_ _) | (with_reducible refine Grew.drewN ?_ _) | (with_reducible refine Grew.alloc ?_ _) | (with_reducible refine Grew.trans ?_ G1.out) | (dsimp only; omega))

set_option maxHeartbeats 4000000 in
theorem rBack_bad (t : T) (p : Pt) (w : World) (c : (t.ok && (reachB p.x && reachB p.y)) = false) :
    Calls Try.prog 32 #[t.v, p.v] w fun e w' => e = .returned (t.back p).v ∧ Grew w w' := by
  have H : Hid (t.back p = ⟨0, 0⟩) := if_neg (by rw [Bool.and_assoc, c]; simp)
  have V1 := fun W => hide (ValidTransform_any t W)
  have V2 := fun W => hide (ValidPoint_any p W)
  cases c1 : t.ok with
  | true =>
    rw [c1, Bool.true_and] at c
    rw [c1] at V1
    rw [c] at V2
    clear c1 c
    obtain ⟨k, m, s, dx, dy⟩ := t
    obtain ⟨x, y⟩ := p
    go_enter Try.func32, Try.ntmps32
    go_wp2_with fail
    refine ((V1 _).out).mono ?_
    rintro e w1 ⟨rfl, G1⟩
    try (with_reducible replace G1 := Grew.undrawn G1)
    obtain ⟨c1, f1⟩ := G1.cells
    have z1 := G1.size
    try simp only [World.size_alloc, World.size_setCell, size_drewN] at z1
    replace G1 := hide G1
    have l1_w_0 : w.heap.size < w1.heap.size := by omega
    have l1_w_1 : w.heap.size + 1 < w1.heap.size := by omega
    have l1_w_2 : w.heap.size + 1 + 1 < w1.heap.size := by omega
    go_wp2_with fail
    refine ((V2 _).out).mono ?_
    rintro e w2 ⟨rfl, G2⟩
    try (with_reducible replace G2 := Grew.undrawn G2)
    obtain ⟨c2, f2⟩ := G2.cells
    have z2 := G2.size
    try simp only [World.size_alloc, World.size_setCell, size_drewN] at z2
    replace G2 := hide G2
    have l2_w_0 : w.heap.size < w2.heap.size := by omega
    have l2_w_1 : w.heap.size + 1 < w2.heap.size := by omega
    have l2_w_2 : w.heap.size + 1 + 1 < w2.heap.size := by omega
    go_wp2
    rw [H.out]
    refine bodyPost_ret (v := .agg #[.int .i64 0, .int .i64 0]) (by simp [results, Try.results32, go_sem, R.zero, c1, c2, l1_w_0, l1_w_1, l1_w_2, l2_w_0, l2_w_1, l2_w_2]) rfl ⟨rfl, ?_⟩
    repeat' (first | (with_reducible exact Grew.refl _) | (with_reducible refine Grew.setCell ?_ ?_ _) | (with_reducible refine Grew.drewN ?_ _) | (with_reducible refine Grew.alloc ?_ _) | (with_reducible refine Grew.trans ?_ G2.out) | (with_reducible refine Grew.trans ?_ G1.out) | (dsimp only; omega))
  | false =>
    rw [c1] at V1
    clear c1 c
    obtain ⟨k, m, s, dx, dy⟩ := t
    obtain ⟨x, y⟩ := p
    go_enter Try.func32, Try.ntmps32
    go_wp2_with fail
    refine ((V1 _).out).mono ?_
    rintro e w1 ⟨rfl, G1⟩
    try (with_reducible replace G1 := Grew.undrawn G1)
    obtain ⟨c1, f1⟩ := G1.cells
    have z1 := G1.size
    try simp only [World.size_alloc, World.size_setCell, size_drewN] at z1
    replace G1 := hide G1
    have l1_w_0 : w.heap.size < w1.heap.size := by omega
    have l1_w_1 : w.heap.size + 1 < w1.heap.size := by omega
    have l1_w_2 : w.heap.size + 1 + 1 < w1.heap.size := by omega
    go_wp2
    rw [H.out]
    refine bodyPost_ret (v := .agg #[.int .i64 0, .int .i64 0]) (by simp [results, Try.results32, go_sem, R.zero, c1, l1_w_0, l1_w_1, l1_w_2]) rfl ⟨rfl, ?_⟩
    repeat' (first | (with_reducible exact Grew.refl _) | (with_reducible refine Grew.setCell ?_ ?_ _) | (with_reducible refine Grew.drewN ?_ _) | (with_reducible refine Grew.alloc ?_ _) | (with_reducible refine Grew.trans ?_ G1.out) | (dsimp only; omega))

set_option maxHeartbeats 4000000 in
theorem rBack_ok (t : T) (p : Pt) (w : World) (c1 : t.ok = true) (c2 : reachB p.x = true) (c3 : reachB p.y = true) :
    Calls Try.prog 32 #[t.v, p.v] w fun e w' => e = .returned (t.back p).v ∧ Grew w w' := by
  have H : Hid (t.back p = _) := if_pos (show (t.ok && reachB p.x && reachB p.y) = true by rw [c1, c2, c3]; rfl)
  have V1 := fun W => hide (ValidTransform_any t W)
  have V2 := fun W => hide (ValidPoint_any p W)
  rw [c2, c3] at V2
  rw [c1] at V1
  obtain ⟨h1, ⟨s1, s2⟩, ⟨d1, d2⟩, d3, d4⟩ := T.bounds c1
  have e1 := inB_iff.1 c2
  have e2 := inB_iff.1 c3
  have S1 := fun W => hide (Floor_any (p.x - t.dx) t.scale W s1 s2 (by omega) (by omega))
  have S2 := fun W => hide (Floor_any (p.y - t.dy) t.scale W s1 s2 (by omega) (by omega))
  obtain ⟨q1, q2⟩ := div_bd (p.x - t.dx) t.scale s1 (by omega)
  obtain ⟨q3, q4⟩ := div_bd (p.y - t.dy) t.scale s1 (by omega)
  clear c1 c2 c3
  obtain ⟨k, m, s, dx, dy⟩ := t
  obtain ⟨x, y⟩ := p
  simp only at h1 s1 s2 d1 d2 d3 d4 e1 e2 S1 S2 q1 q2 q3 q4 H V1 V2
  obtain ⟨e3, e4⟩ := e1
  obtain ⟨e5, e6⟩ := e2
  generalize (x - dx) / s = a at S1 q1 q2 H
  generalize (y - dy) / s = b at S2 q3 q4 H
  have u1 : IntKind.i64.wrap (x - dx) = x - dx := wr (by omega) (by omega)
  have u2 : IntKind.i64.wrap (y - dy) = y - dy := wr (by omega) (by omega)
  cases m <;> rcases four h1 with rfl | rfl | rfl | rfl
  · have H0 : Hid (T.back ⟨0, false, s, dx, dy⟩ ⟨x, y⟩ = ⟨a, b⟩) := by
      rw [Hid, H.out]; simp [bmir, bkx, bky]; try omega
    clear h1 H
    go_enter Try.func32, Try.ntmps32
    go_wp2_with fail
    refine ((V1 _).out).mono ?_
    rintro e w1 ⟨rfl, G1⟩
    try (with_reducible replace G1 := Grew.undrawn G1)
    have B1_0 : Blk w1 (w.heap.size) 39 [.int .i64 0, .bool false, .int .i64 s, .int .i64 dx, .int .i64 dy] := Blk.grew (by (repeat' (first | (with_reducible assumption) | ((with_reducible refine Blk.new ?_); (first | (with_reducible rfl) | (simp only [World.size_alloc, World.size_setCell, size_drewN]; done))) | (with_reducible refine Blk.alloc ?_ _) | (with_reducible refine Blk.drewN ?_ _) | (with_reducible refine Blk.drew ?_) | (refine Blk.other ?_ (by omega) _) | fail))) G1
    have B1_1 : Blk w1 (w.heap.size + 1) 25 [.int .i64 x, .int .i64 y] := Blk.grew (by (repeat' (first | (with_reducible assumption) | ((with_reducible refine Blk.new ?_); (first | (with_reducible rfl) | (simp only [World.size_alloc, World.size_setCell, size_drewN]; done))) | (with_reducible refine Blk.alloc ?_ _) | (with_reducible refine Blk.drewN ?_ _) | (with_reducible refine Blk.drew ?_) | (refine Blk.other ?_ (by omega) _) | fail))) G1
    have B1_2 : Blk w1 (w.heap.size + 1 + 1) 25 [.int .i64 0, .int .i64 0] := Blk.grew (by (repeat' (first | (with_reducible assumption) | ((with_reducible refine Blk.new ?_); (first | (with_reducible rfl) | (simp only [World.size_alloc, World.size_setCell, size_drewN]; done))) | (with_reducible refine Blk.alloc ?_ _) | (with_reducible refine Blk.drewN ?_ _) | (with_reducible refine Blk.drew ?_) | (refine Blk.other ?_ (by omega) _) | fail))) G1
    have z1 := G1.size
    try simp only [World.size_alloc, World.size_setCell, size_drewN] at z1
    replace G1 := hide G1
    have t1_0 := B1_0.lt
    have d1_0_0 := B1_0.cell 0 rfl
    have e1_0_0 := B1_0.free 0
    have d1_0_1 := B1_0.cell 1 rfl
    have e1_0_1 := B1_0.free 1
    have d1_0_2 := B1_0.cell 2 rfl
    have e1_0_2 := B1_0.free 2
    have d1_0_3 := B1_0.cell 3 rfl
    have e1_0_3 := B1_0.free 3
    have d1_0_4 := B1_0.cell 4 rfl
    have e1_0_4 := B1_0.free 4
    have t1_1 := B1_1.lt
    have d1_1_0 := B1_1.cell 0 rfl
    have e1_1_0 := B1_1.free 0
    have d1_1_1 := B1_1.cell 1 rfl
    have e1_1_1 := B1_1.free 1
    have t1_2 := B1_2.lt
    have d1_2_0 := B1_2.cell 0 rfl
    have e1_2_0 := B1_2.free 0
    have d1_2_1 := B1_2.cell 1 rfl
    have e1_2_1 := B1_2.free 1
    go_wp2_with fail
    refine ((V2 _).out).mono ?_
    rintro e w2 ⟨rfl, G2⟩
    try (with_reducible replace G2 := Grew.undrawn G2)
    have B2_0 : Blk w2 (w.heap.size) 39 [.int .i64 0, .bool false, .int .i64 s, .int .i64 dx, .int .i64 dy] := Blk.grew (by (repeat' (first | (with_reducible assumption) | ((with_reducible refine Blk.new ?_); (first | (with_reducible rfl) | (simp only [World.size_alloc, World.size_setCell, size_drewN]; done))) | (with_reducible refine Blk.alloc ?_ _) | (with_reducible refine Blk.drewN ?_ _) | (with_reducible refine Blk.drew ?_) | (refine Blk.other ?_ (by omega) _) | fail))) G2
    have B2_1 : Blk w2 (w.heap.size + 1) 25 [.int .i64 x, .int .i64 y] := Blk.grew (by (repeat' (first | (with_reducible assumption) | ((with_reducible refine Blk.new ?_); (first | (with_reducible rfl) | (simp only [World.size_alloc, World.size_setCell, size_drewN]; done))) | (with_reducible refine Blk.alloc ?_ _) | (with_reducible refine Blk.drewN ?_ _) | (with_reducible refine Blk.drew ?_) | (refine Blk.other ?_ (by omega) _) | fail))) G2
    have B2_2 : Blk w2 (w.heap.size + 1 + 1) 25 [.int .i64 0, .int .i64 0] := Blk.grew (by (repeat' (first | (with_reducible assumption) | ((with_reducible refine Blk.new ?_); (first | (with_reducible rfl) | (simp only [World.size_alloc, World.size_setCell, size_drewN]; done))) | (with_reducible refine Blk.alloc ?_ _) | (with_reducible refine Blk.drewN ?_ _) | (with_reducible refine Blk.drew ?_) | (refine Blk.other ?_ (by omega) _) | fail))) G2
    have z2 := G2.size
    try simp only [World.size_alloc, World.size_setCell, size_drewN] at z2
    replace G2 := hide G2
    have t2_0 := B2_0.lt
    have d2_0_0 := B2_0.cell 0 rfl
    have e2_0_0 := B2_0.free 0
    have d2_0_1 := B2_0.cell 1 rfl
    have e2_0_1 := B2_0.free 1
    have d2_0_2 := B2_0.cell 2 rfl
    have e2_0_2 := B2_0.free 2
    have d2_0_3 := B2_0.cell 3 rfl
    have e2_0_3 := B2_0.free 3
    have d2_0_4 := B2_0.cell 4 rfl
    have e2_0_4 := B2_0.free 4
    have t2_1 := B2_1.lt
    have d2_1_0 := B2_1.cell 0 rfl
    have e2_1_0 := B2_1.free 0
    have d2_1_1 := B2_1.cell 1 rfl
    have e2_1_1 := B2_1.free 1
    have t2_2 := B2_2.lt
    have d2_2_0 := B2_2.cell 0 rfl
    have e2_2_0 := B2_2.free 0
    have d2_2_1 := B2_2.cell 1 rfl
    have e2_2_1 := B2_2.free 1
    go_wp2_with fail
    have g2_0_0 := fun m os => (B2_0.grow m os).cell 0 rfl
    have g2_0_1 := fun m os => (B2_0.grow m os).cell 1 rfl
    have g2_0_2 := fun m os => (B2_0.grow m os).cell 2 rfl
    have g2_0_3 := fun m os => (B2_0.grow m os).cell 3 rfl
    have g2_0_4 := fun m os => (B2_0.grow m os).cell 4 rfl
    have g2_1_0 := fun m os => (B2_1.grow m os).cell 0 rfl
    have g2_1_1 := fun m os => (B2_1.grow m os).cell 1 rfl
    have g2_2_0 := fun m os => (B2_2.grow m os).cell 0 rfl
    have g2_2_1 := fun m os => (B2_2.grow m os).cell 1 rfl
    refine wp_region_calm (by kernel_rfl) (by kernel_rfl) ?_
    repeat (first | (refine lex_skip rfl (by rfl) ?_) | (refine lex_calm rfl (by rfl) (fun K hK => ?_); go_simp; first | (refine hK _ ?_; clear hK K) | (apply Exists.intro; refine ⟨fun _ _ => ?_, hK _ ?_⟩; (first | (with_reducible exact (S1 _).out) | (with_reducible exact (S2 _).out)); clear hK K)))
    refine lex_nil ?_
    intro w3 G3
    have B3_0 : Blk w3 (w.heap.size) 39 [.int .i64 0, .bool false, .int .i64 s, .int .i64 dx, .int .i64 dy] := B2_0.grew G3
    have B3_1 : Blk w3 (w.heap.size + 1) 25 [.int .i64 x, .int .i64 y] := B2_1.grew G3
    have B3_2 : Blk w3 (w.heap.size + 1 + 1) 25 [.int .i64 0, .int .i64 0] := B2_2.grew G3
    have z3 := G3.size
    replace G3 := hide G3
    have t3_0 := B3_0.lt
    have d3_0_0 := B3_0.cell 0 rfl
    have e3_0_0 := B3_0.free 0
    have d3_0_1 := B3_0.cell 1 rfl
    have e3_0_1 := B3_0.free 1
    have d3_0_2 := B3_0.cell 2 rfl
    have e3_0_2 := B3_0.free 2
    have d3_0_3 := B3_0.cell 3 rfl
    have e3_0_3 := B3_0.free 3
    have d3_0_4 := B3_0.cell 4 rfl
    have e3_0_4 := B3_0.free 4
    have t3_1 := B3_1.lt
    have d3_1_0 := B3_1.cell 0 rfl
    have e3_1_0 := B3_1.free 0
    have d3_1_1 := B3_1.cell 1 rfl
    have e3_1_1 := B3_1.free 1
    have t3_2 := B3_2.lt
    have d3_2_0 := B3_2.cell 0 rfl
    have e3_2_0 := B3_2.free 0
    have d3_2_1 := B3_2.cell 1 rfl
    have e3_2_1 := B3_2.free 1
    go_wp2_with fail
    refine wp_loop_rounds 1 ?_
    rw [rounds_succ]
    go_wp2_with fail
    go_wp2
    rw [H0.out]
    refine bodyPost_ret (v := .agg #[.int .i64 (a), .int .i64 (b)]) (by simp [results, Try.results32, go_sem, R.zero, d3_0_0, d3_0_1, d3_0_2, d3_0_3, d3_0_4, d3_1_0, d3_1_1, d3_2_0, d3_2_1]) rfl ⟨rfl, ?_⟩
    repeat' (first | (with_reducible exact Grew.refl _) | (with_reducible refine Grew.setCell ?_ ?_ _) | (with_reducible refine Grew.drewN ?_ _) | (with_reducible refine Grew.alloc ?_ _) | (with_reducible refine Grew.trans ?_ G3.out) | (with_reducible refine Grew.trans ?_ G2.out) | (with_reducible refine Grew.trans ?_ G1.out) | (dsimp only; omega))
  · have H0 : Hid (T.back ⟨1, false, s, dx, dy⟩ ⟨x, y⟩ = ⟨b, -a - 1⟩) := by
      rw [Hid, H.out]; simp [bmir, bkx, bky]; try omega
    clear h1 H
    go_enter Try.func32, Try.ntmps32
    go_wp2_with fail
    refine ((V1 _).out).mono ?_
    rintro e w1 ⟨rfl, G1⟩
    try (with_reducible replace G1 := Grew.undrawn G1)
    have B1_0 : Blk w1 (w.heap.size) 39 [.int .i64 1, .bool false, .int .i64 s, .int .i64 dx, .int .i64 dy] := Blk.grew (by (repeat' (first | (with_reducible assumption) | ((with_reducible refine Blk.new ?_); (first | (with_reducible rfl) | (simp only [World.size_alloc, World.size_setCell, size_drewN]; done))) | (with_reducible refine Blk.alloc ?_ _) | (with_reducible refine Blk.drewN ?_ _) | (with_reducible refine Blk.drew ?_) | (refine Blk.other ?_ (by omega) _) | fail))) G1
    have B1_1 : Blk w1 (w.heap.size + 1) 25 [.int .i64 x, .int .i64 y] := Blk.grew (by (repeat' (first | (with_reducible assumption) | ((with_reducible refine Blk.new ?_); (first | (with_reducible rfl) | (simp only [World.size_alloc, World.size_setCell, size_drewN]; done))) | (with_reducible refine Blk.alloc ?_ _) | (with_reducible refine Blk.drewN ?_ _) | (with_reducible refine Blk.drew ?_) | (refine Blk.other ?_ (by omega) _) | fail))) G1
    have B1_2 : Blk w1 (w.heap.size + 1 + 1) 25 [.int .i64 0, .int .i64 0] := Blk.grew (by (repeat' (first | (with_reducible assumption) | ((with_reducible refine Blk.new ?_); (first | (with_reducible rfl) | (simp only [World.size_alloc, World.size_setCell, size_drewN]; done))) | (with_reducible refine Blk.alloc ?_ _) | (with_reducible refine Blk.drewN ?_ _) | (with_reducible refine Blk.drew ?_) | (refine Blk.other ?_ (by omega) _) | fail))) G1
    have z1 := G1.size
    try simp only [World.size_alloc, World.size_setCell, size_drewN] at z1
    replace G1 := hide G1
    have t1_0 := B1_0.lt
    have d1_0_0 := B1_0.cell 0 rfl
    have e1_0_0 := B1_0.free 0
    have d1_0_1 := B1_0.cell 1 rfl
    have e1_0_1 := B1_0.free 1
    have d1_0_2 := B1_0.cell 2 rfl
    have e1_0_2 := B1_0.free 2
    have d1_0_3 := B1_0.cell 3 rfl
    have e1_0_3 := B1_0.free 3
    have d1_0_4 := B1_0.cell 4 rfl
    have e1_0_4 := B1_0.free 4
    have t1_1 := B1_1.lt
    have d1_1_0 := B1_1.cell 0 rfl
    have e1_1_0 := B1_1.free 0
    have d1_1_1 := B1_1.cell 1 rfl
    have e1_1_1 := B1_1.free 1
    have t1_2 := B1_2.lt
    have d1_2_0 := B1_2.cell 0 rfl
    have e1_2_0 := B1_2.free 0
    have d1_2_1 := B1_2.cell 1 rfl
    have e1_2_1 := B1_2.free 1
    go_wp2_with fail
    refine ((V2 _).out).mono ?_
    rintro e w2 ⟨rfl, G2⟩
    try (with_reducible replace G2 := Grew.undrawn G2)
    have B2_0 : Blk w2 (w.heap.size) 39 [.int .i64 1, .bool false, .int .i64 s, .int .i64 dx, .int .i64 dy] := Blk.grew (by (repeat' (first | (with_reducible assumption) | ((with_reducible refine Blk.new ?_); (first | (with_reducible rfl) | (simp only [World.size_alloc, World.size_setCell, size_drewN]; done))) | (with_reducible refine Blk.alloc ?_ _) | (with_reducible refine Blk.drewN ?_ _) | (with_reducible refine Blk.drew ?_) | (refine Blk.other ?_ (by omega) _) | fail))) G2
    have B2_1 : Blk w2 (w.heap.size + 1) 25 [.int .i64 x, .int .i64 y] := Blk.grew (by (repeat' (first | (with_reducible assumption) | ((with_reducible refine Blk.new ?_); (first | (with_reducible rfl) | (simp only [World.size_alloc, World.size_setCell, size_drewN]; done))) | (with_reducible refine Blk.alloc ?_ _) | (with_reducible refine Blk.drewN ?_ _) | (with_reducible refine Blk.drew ?_) | (refine Blk.other ?_ (by omega) _) | fail))) G2
    have B2_2 : Blk w2 (w.heap.size + 1 + 1) 25 [.int .i64 0, .int .i64 0] := Blk.grew (by (repeat' (first | (with_reducible assumption) | ((with_reducible refine Blk.new ?_); (first | (with_reducible rfl) | (simp only [World.size_alloc, World.size_setCell, size_drewN]; done))) | (with_reducible refine Blk.alloc ?_ _) | (with_reducible refine Blk.drewN ?_ _) | (with_reducible refine Blk.drew ?_) | (refine Blk.other ?_ (by omega) _) | fail))) G2
    have z2 := G2.size
    try simp only [World.size_alloc, World.size_setCell, size_drewN] at z2
    replace G2 := hide G2
    have t2_0 := B2_0.lt
    have d2_0_0 := B2_0.cell 0 rfl
    have e2_0_0 := B2_0.free 0
    have d2_0_1 := B2_0.cell 1 rfl
    have e2_0_1 := B2_0.free 1
    have d2_0_2 := B2_0.cell 2 rfl
    have e2_0_2 := B2_0.free 2
    have d2_0_3 := B2_0.cell 3 rfl
    have e2_0_3 := B2_0.free 3
    have d2_0_4 := B2_0.cell 4 rfl
    have e2_0_4 := B2_0.free 4
    have t2_1 := B2_1.lt
    have d2_1_0 := B2_1.cell 0 rfl
    have e2_1_0 := B2_1.free 0
    have d2_1_1 := B2_1.cell 1 rfl
    have e2_1_1 := B2_1.free 1
    have t2_2 := B2_2.lt
    have d2_2_0 := B2_2.cell 0 rfl
    have e2_2_0 := B2_2.free 0
    have d2_2_1 := B2_2.cell 1 rfl
    have e2_2_1 := B2_2.free 1
    go_wp2_with fail
    have g2_0_0 := fun m os => (B2_0.grow m os).cell 0 rfl
    have g2_0_1 := fun m os => (B2_0.grow m os).cell 1 rfl
    have g2_0_2 := fun m os => (B2_0.grow m os).cell 2 rfl
    have g2_0_3 := fun m os => (B2_0.grow m os).cell 3 rfl
    have g2_0_4 := fun m os => (B2_0.grow m os).cell 4 rfl
    have g2_1_0 := fun m os => (B2_1.grow m os).cell 0 rfl
    have g2_1_1 := fun m os => (B2_1.grow m os).cell 1 rfl
    have g2_2_0 := fun m os => (B2_2.grow m os).cell 0 rfl
    have g2_2_1 := fun m os => (B2_2.grow m os).cell 1 rfl
    refine wp_region_calm (by kernel_rfl) (by kernel_rfl) ?_
    repeat (first | (refine lex_skip rfl (by rfl) ?_) | (refine lex_calm rfl (by rfl) (fun K hK => ?_); go_simp; first | (refine hK _ ?_; clear hK K) | (apply Exists.intro; refine ⟨fun _ _ => ?_, hK _ ?_⟩; (first | (with_reducible exact (S1 _).out) | (with_reducible exact (S2 _).out)); clear hK K)))
    refine lex_nil ?_
    intro w3 G3
    have B3_0 : Blk w3 (w.heap.size) 39 [.int .i64 1, .bool false, .int .i64 s, .int .i64 dx, .int .i64 dy] := B2_0.grew G3
    have B3_1 : Blk w3 (w.heap.size + 1) 25 [.int .i64 x, .int .i64 y] := B2_1.grew G3
    have B3_2 : Blk w3 (w.heap.size + 1 + 1) 25 [.int .i64 0, .int .i64 0] := B2_2.grew G3
    have z3 := G3.size
    replace G3 := hide G3
    have t3_0 := B3_0.lt
    have d3_0_0 := B3_0.cell 0 rfl
    have e3_0_0 := B3_0.free 0
    have d3_0_1 := B3_0.cell 1 rfl
    have e3_0_1 := B3_0.free 1
    have d3_0_2 := B3_0.cell 2 rfl
    have e3_0_2 := B3_0.free 2
    have d3_0_3 := B3_0.cell 3 rfl
    have e3_0_3 := B3_0.free 3
    have d3_0_4 := B3_0.cell 4 rfl
    have e3_0_4 := B3_0.free 4
    have t3_1 := B3_1.lt
    have d3_1_0 := B3_1.cell 0 rfl
    have e3_1_0 := B3_1.free 0
    have d3_1_1 := B3_1.cell 1 rfl
    have e3_1_1 := B3_1.free 1
    have t3_2 := B3_2.lt
    have d3_2_0 := B3_2.cell 0 rfl
    have e3_2_0 := B3_2.free 0
    have d3_2_1 := B3_2.cell 1 rfl
    have e3_2_1 := B3_2.free 1
    go_wp2_with fail
    refine wp_loop_rounds 2 ?_
    rw [rounds_succ]
    go_wp2_with fail
    rw [rounds_succ]
    go_wp2_with fail
    go_wp2
    rw [H0.out]
    refine bodyPost_ret (v := .agg #[.int .i64 (b), .int .i64 (-a - 1)]) (by simp [results, Try.results32, go_sem, R.zero, d3_0_0, d3_0_1, d3_0_2, d3_0_3, d3_0_4, d3_1_0, d3_1_1, d3_2_0, d3_2_1]) rfl ⟨rfl, ?_⟩
    repeat' (first | (with_reducible exact Grew.refl _) | (with_reducible refine Grew.setCell ?_ ?_ _) | (with_reducible refine Grew.drewN ?_ _) | (with_reducible refine Grew.alloc ?_ _) | (with_reducible refine Grew.trans ?_ G3.out) | (with_reducible refine Grew.trans ?_ G2.out) | (with_reducible refine Grew.trans ?_ G1.out) | (dsimp only; omega))
  · have H0 : Hid (T.back ⟨2, false, s, dx, dy⟩ ⟨x, y⟩ = ⟨-a - 1, -b - 1⟩) := by
      rw [Hid, H.out]; simp [bmir, bkx, bky]; try omega
    clear h1 H
    go_enter Try.func32, Try.ntmps32
    go_wp2_with fail
    refine ((V1 _).out).mono ?_
    rintro e w1 ⟨rfl, G1⟩
    try (with_reducible replace G1 := Grew.undrawn G1)
    have B1_0 : Blk w1 (w.heap.size) 39 [.int .i64 2, .bool false, .int .i64 s, .int .i64 dx, .int .i64 dy] := Blk.grew (by (repeat' (first | (with_reducible assumption) | ((with_reducible refine Blk.new ?_); (first | (with_reducible rfl) | (simp only [World.size_alloc, World.size_setCell, size_drewN]; done))) | (with_reducible refine Blk.alloc ?_ _) | (with_reducible refine Blk.drewN ?_ _) | (with_reducible refine Blk.drew ?_) | (refine Blk.other ?_ (by omega) _) | fail))) G1
    have B1_1 : Blk w1 (w.heap.size + 1) 25 [.int .i64 x, .int .i64 y] := Blk.grew (by (repeat' (first | (with_reducible assumption) | ((with_reducible refine Blk.new ?_); (first | (with_reducible rfl) | (simp only [World.size_alloc, World.size_setCell, size_drewN]; done))) | (with_reducible refine Blk.alloc ?_ _) | (with_reducible refine Blk.drewN ?_ _) | (with_reducible refine Blk.drew ?_) | (refine Blk.other ?_ (by omega) _) | fail))) G1
    have B1_2 : Blk w1 (w.heap.size + 1 + 1) 25 [.int .i64 0, .int .i64 0] := Blk.grew (by (repeat' (first | (with_reducible assumption) | ((with_reducible refine Blk.new ?_); (first | (with_reducible rfl) | (simp only [World.size_alloc, World.size_setCell, size_drewN]; done))) | (with_reducible refine Blk.alloc ?_ _) | (with_reducible refine Blk.drewN ?_ _) | (with_reducible refine Blk.drew ?_) | (refine Blk.other ?_ (by omega) _) | fail))) G1
    have z1 := G1.size
    try simp only [World.size_alloc, World.size_setCell, size_drewN] at z1
    replace G1 := hide G1
    have t1_0 := B1_0.lt
    have d1_0_0 := B1_0.cell 0 rfl
    have e1_0_0 := B1_0.free 0
    have d1_0_1 := B1_0.cell 1 rfl
    have e1_0_1 := B1_0.free 1
    have d1_0_2 := B1_0.cell 2 rfl
    have e1_0_2 := B1_0.free 2
    have d1_0_3 := B1_0.cell 3 rfl
    have e1_0_3 := B1_0.free 3
    have d1_0_4 := B1_0.cell 4 rfl
    have e1_0_4 := B1_0.free 4
    have t1_1 := B1_1.lt
    have d1_1_0 := B1_1.cell 0 rfl
    have e1_1_0 := B1_1.free 0
    have d1_1_1 := B1_1.cell 1 rfl
    have e1_1_1 := B1_1.free 1
    have t1_2 := B1_2.lt
    have d1_2_0 := B1_2.cell 0 rfl
    have e1_2_0 := B1_2.free 0
    have d1_2_1 := B1_2.cell 1 rfl
    have e1_2_1 := B1_2.free 1
    go_wp2_with fail
    refine ((V2 _).out).mono ?_
    rintro e w2 ⟨rfl, G2⟩
    try (with_reducible replace G2 := Grew.undrawn G2)
    have B2_0 : Blk w2 (w.heap.size) 39 [.int .i64 2, .bool false, .int .i64 s, .int .i64 dx, .int .i64 dy] := Blk.grew (by (repeat' (first | (with_reducible assumption) | ((with_reducible refine Blk.new ?_); (first | (with_reducible rfl) | (simp only [World.size_alloc, World.size_setCell, size_drewN]; done))) | (with_reducible refine Blk.alloc ?_ _) | (with_reducible refine Blk.drewN ?_ _) | (with_reducible refine Blk.drew ?_) | (refine Blk.other ?_ (by omega) _) | fail))) G2
    have B2_1 : Blk w2 (w.heap.size + 1) 25 [.int .i64 x, .int .i64 y] := Blk.grew (by (repeat' (first | (with_reducible assumption) | ((with_reducible refine Blk.new ?_); (first | (with_reducible rfl) | (simp only [World.size_alloc, World.size_setCell, size_drewN]; done))) | (with_reducible refine Blk.alloc ?_ _) | (with_reducible refine Blk.drewN ?_ _) | (with_reducible refine Blk.drew ?_) | (refine Blk.other ?_ (by omega) _) | fail))) G2
    have B2_2 : Blk w2 (w.heap.size + 1 + 1) 25 [.int .i64 0, .int .i64 0] := Blk.grew (by (repeat' (first | (with_reducible assumption) | ((with_reducible refine Blk.new ?_); (first | (with_reducible rfl) | (simp only [World.size_alloc, World.size_setCell, size_drewN]; done))) | (with_reducible refine Blk.alloc ?_ _) | (with_reducible refine Blk.drewN ?_ _) | (with_reducible refine Blk.drew ?_) | (refine Blk.other ?_ (by omega) _) | fail))) G2
    have z2 := G2.size
    try simp only [World.size_alloc, World.size_setCell, size_drewN] at z2
    replace G2 := hide G2
    have t2_0 := B2_0.lt
    have d2_0_0 := B2_0.cell 0 rfl
    have e2_0_0 := B2_0.free 0
    have d2_0_1 := B2_0.cell 1 rfl
    have e2_0_1 := B2_0.free 1
    have d2_0_2 := B2_0.cell 2 rfl
    have e2_0_2 := B2_0.free 2
    have d2_0_3 := B2_0.cell 3 rfl
    have e2_0_3 := B2_0.free 3
    have d2_0_4 := B2_0.cell 4 rfl
    have e2_0_4 := B2_0.free 4
    have t2_1 := B2_1.lt
    have d2_1_0 := B2_1.cell 0 rfl
    have e2_1_0 := B2_1.free 0
    have d2_1_1 := B2_1.cell 1 rfl
    have e2_1_1 := B2_1.free 1
    have t2_2 := B2_2.lt
    have d2_2_0 := B2_2.cell 0 rfl
    have e2_2_0 := B2_2.free 0
    have d2_2_1 := B2_2.cell 1 rfl
    have e2_2_1 := B2_2.free 1
    go_wp2_with fail
    have g2_0_0 := fun m os => (B2_0.grow m os).cell 0 rfl
    have g2_0_1 := fun m os => (B2_0.grow m os).cell 1 rfl
    have g2_0_2 := fun m os => (B2_0.grow m os).cell 2 rfl
    have g2_0_3 := fun m os => (B2_0.grow m os).cell 3 rfl
    have g2_0_4 := fun m os => (B2_0.grow m os).cell 4 rfl
    have g2_1_0 := fun m os => (B2_1.grow m os).cell 0 rfl
    have g2_1_1 := fun m os => (B2_1.grow m os).cell 1 rfl
    have g2_2_0 := fun m os => (B2_2.grow m os).cell 0 rfl
    have g2_2_1 := fun m os => (B2_2.grow m os).cell 1 rfl
    refine wp_region_calm (by kernel_rfl) (by kernel_rfl) ?_
    repeat (first | (refine lex_skip rfl (by rfl) ?_) | (refine lex_calm rfl (by rfl) (fun K hK => ?_); go_simp; first | (refine hK _ ?_; clear hK K) | (apply Exists.intro; refine ⟨fun _ _ => ?_, hK _ ?_⟩; (first | (with_reducible exact (S1 _).out) | (with_reducible exact (S2 _).out)); clear hK K)))
    refine lex_nil ?_
    intro w3 G3
    have B3_0 : Blk w3 (w.heap.size) 39 [.int .i64 2, .bool false, .int .i64 s, .int .i64 dx, .int .i64 dy] := B2_0.grew G3
    have B3_1 : Blk w3 (w.heap.size + 1) 25 [.int .i64 x, .int .i64 y] := B2_1.grew G3
    have B3_2 : Blk w3 (w.heap.size + 1 + 1) 25 [.int .i64 0, .int .i64 0] := B2_2.grew G3
    have z3 := G3.size
    replace G3 := hide G3
    have t3_0 := B3_0.lt
    have d3_0_0 := B3_0.cell 0 rfl
    have e3_0_0 := B3_0.free 0
    have d3_0_1 := B3_0.cell 1 rfl
    have e3_0_1 := B3_0.free 1
    have d3_0_2 := B3_0.cell 2 rfl
    have e3_0_2 := B3_0.free 2
    have d3_0_3 := B3_0.cell 3 rfl
    have e3_0_3 := B3_0.free 3
    have d3_0_4 := B3_0.cell 4 rfl
    have e3_0_4 := B3_0.free 4
    have t3_1 := B3_1.lt
    have d3_1_0 := B3_1.cell 0 rfl
    have e3_1_0 := B3_1.free 0
    have d3_1_1 := B3_1.cell 1 rfl
    have e3_1_1 := B3_1.free 1
    have t3_2 := B3_2.lt
    have d3_2_0 := B3_2.cell 0 rfl
    have e3_2_0 := B3_2.free 0
    have d3_2_1 := B3_2.cell 1 rfl
    have e3_2_1 := B3_2.free 1
    go_wp2_with fail
    refine wp_loop_rounds 3 ?_
    rw [rounds_succ]
    go_wp2_with fail
    rw [rounds_succ]
    go_wp2_with fail
    rw [rounds_succ]
    go_wp2_with fail
    go_wp2
    rw [H0.out]
    refine bodyPost_ret (v := .agg #[.int .i64 (-a - 1), .int .i64 (-b - 1)]) (by simp [results, Try.results32, go_sem, R.zero, d3_0_0, d3_0_1, d3_0_2, d3_0_3, d3_0_4, d3_1_0, d3_1_1, d3_2_0, d3_2_1]) rfl ⟨rfl, ?_⟩
    repeat' (first | (with_reducible exact Grew.refl _) | (with_reducible refine Grew.setCell ?_ ?_ _) | (with_reducible refine Grew.drewN ?_ _) | (with_reducible refine Grew.alloc ?_ _) | (with_reducible refine Grew.trans ?_ G3.out) | (with_reducible refine Grew.trans ?_ G2.out) | (with_reducible refine Grew.trans ?_ G1.out) | (dsimp only; omega))
  · have H0 : Hid (T.back ⟨3, false, s, dx, dy⟩ ⟨x, y⟩ = ⟨-b - 1, -(-a - 1) - 1⟩) := by
      rw [Hid, H.out]; simp [bmir, bkx, bky]; try omega
    clear h1 H
    go_enter Try.func32, Try.ntmps32
    go_wp2_with fail
    refine ((V1 _).out).mono ?_
    rintro e w1 ⟨rfl, G1⟩
    try (with_reducible replace G1 := Grew.undrawn G1)
    have B1_0 : Blk w1 (w.heap.size) 39 [.int .i64 3, .bool false, .int .i64 s, .int .i64 dx, .int .i64 dy] := Blk.grew (by (repeat' (first | (with_reducible assumption) | ((with_reducible refine Blk.new ?_); (first | (with_reducible rfl) | (simp only [World.size_alloc, World.size_setCell, size_drewN]; done))) | (with_reducible refine Blk.alloc ?_ _) | (with_reducible refine Blk.drewN ?_ _) | (with_reducible refine Blk.drew ?_) | (refine Blk.other ?_ (by omega) _) | fail))) G1
    have B1_1 : Blk w1 (w.heap.size + 1) 25 [.int .i64 x, .int .i64 y] := Blk.grew (by (repeat' (first | (with_reducible assumption) | ((with_reducible refine Blk.new ?_); (first | (with_reducible rfl) | (simp only [World.size_alloc, World.size_setCell, size_drewN]; done))) | (with_reducible refine Blk.alloc ?_ _) | (with_reducible refine Blk.drewN ?_ _) | (with_reducible refine Blk.drew ?_) | (refine Blk.other ?_ (by omega) _) | fail))) G1
    have B1_2 : Blk w1 (w.heap.size + 1 + 1) 25 [.int .i64 0, .int .i64 0] := Blk.grew (by (repeat' (first | (with_reducible assumption) | ((with_reducible refine Blk.new ?_); (first | (with_reducible rfl) | (simp only [World.size_alloc, World.size_setCell, size_drewN]; done))) | (with_reducible refine Blk.alloc ?_ _) | (with_reducible refine Blk.drewN ?_ _) | (with_reducible refine Blk.drew ?_) | (refine Blk.other ?_ (by omega) _) | fail))) G1
    have z1 := G1.size
    try simp only [World.size_alloc, World.size_setCell, size_drewN] at z1
    replace G1 := hide G1
    have t1_0 := B1_0.lt
    have d1_0_0 := B1_0.cell 0 rfl
    have e1_0_0 := B1_0.free 0
    have d1_0_1 := B1_0.cell 1 rfl
    have e1_0_1 := B1_0.free 1
    have d1_0_2 := B1_0.cell 2 rfl
    have e1_0_2 := B1_0.free 2
    have d1_0_3 := B1_0.cell 3 rfl
    have e1_0_3 := B1_0.free 3
    have d1_0_4 := B1_0.cell 4 rfl
    have e1_0_4 := B1_0.free 4
    have t1_1 := B1_1.lt
    have d1_1_0 := B1_1.cell 0 rfl
    have e1_1_0 := B1_1.free 0
    have d1_1_1 := B1_1.cell 1 rfl
    have e1_1_1 := B1_1.free 1
    have t1_2 := B1_2.lt
    have d1_2_0 := B1_2.cell 0 rfl
    have e1_2_0 := B1_2.free 0
    have d1_2_1 := B1_2.cell 1 rfl
    have e1_2_1 := B1_2.free 1
    go_wp2_with fail
    refine ((V2 _).out).mono ?_
    rintro e w2 ⟨rfl, G2⟩
    try (with_reducible replace G2 := Grew.undrawn G2)
    have B2_0 : Blk w2 (w.heap.size) 39 [.int .i64 3, .bool false, .int .i64 s, .int .i64 dx, .int .i64 dy] := Blk.grew (by (repeat' (first | (with_reducible assumption) | ((with_reducible refine Blk.new ?_); (first | (with_reducible rfl) | (simp only [World.size_alloc, World.size_setCell, size_drewN]; done))) | (with_reducible refine Blk.alloc ?_ _) | (with_reducible refine Blk.drewN ?_ _) | (with_reducible refine Blk.drew ?_) | (refine Blk.other ?_ (by omega) _) | fail))) G2
    have B2_1 : Blk w2 (w.heap.size + 1) 25 [.int .i64 x, .int .i64 y] := Blk.grew (by (repeat' (first | (with_reducible assumption) | ((with_reducible refine Blk.new ?_); (first | (with_reducible rfl) | (simp only [World.size_alloc, World.size_setCell, size_drewN]; done))) | (with_reducible refine Blk.alloc ?_ _) | (with_reducible refine Blk.drewN ?_ _) | (with_reducible refine Blk.drew ?_) | (refine Blk.other ?_ (by omega) _) | fail))) G2
    have B2_2 : Blk w2 (w.heap.size + 1 + 1) 25 [.int .i64 0, .int .i64 0] := Blk.grew (by (repeat' (first | (with_reducible assumption) | ((with_reducible refine Blk.new ?_); (first | (with_reducible rfl) | (simp only [World.size_alloc, World.size_setCell, size_drewN]; done))) | (with_reducible refine Blk.alloc ?_ _) | (with_reducible refine Blk.drewN ?_ _) | (with_reducible refine Blk.drew ?_) | (refine Blk.other ?_ (by omega) _) | fail))) G2
    have z2 := G2.size
    try simp only [World.size_alloc, World.size_setCell, size_drewN] at z2
    replace G2 := hide G2
    have t2_0 := B2_0.lt
    have d2_0_0 := B2_0.cell 0 rfl
    have e2_0_0 := B2_0.free 0
    have d2_0_1 := B2_0.cell 1 rfl
    have e2_0_1 := B2_0.free 1
    have d2_0_2 := B2_0.cell 2 rfl
    have e2_0_2 := B2_0.free 2
    have d2_0_3 := B2_0.cell 3 rfl
    have e2_0_3 := B2_0.free 3
    have d2_0_4 := B2_0.cell 4 rfl
    have e2_0_4 := B2_0.free 4
    have t2_1 := B2_1.lt
    have d2_1_0 := B2_1.cell 0 rfl
    have e2_1_0 := B2_1.free 0
    have d2_1_1 := B2_1.cell 1 rfl
    have e2_1_1 := B2_1.free 1
    have t2_2 := B2_2.lt
    have d2_2_0 := B2_2.cell 0 rfl
    have e2_2_0 := B2_2.free 0
    have d2_2_1 := B2_2.cell 1 rfl
    have e2_2_1 := B2_2.free 1
    go_wp2_with fail
    have g2_0_0 := fun m os => (B2_0.grow m os).cell 0 rfl
    have g2_0_1 := fun m os => (B2_0.grow m os).cell 1 rfl
    have g2_0_2 := fun m os => (B2_0.grow m os).cell 2 rfl
    have g2_0_3 := fun m os => (B2_0.grow m os).cell 3 rfl
    have g2_0_4 := fun m os => (B2_0.grow m os).cell 4 rfl
    have g2_1_0 := fun m os => (B2_1.grow m os).cell 0 rfl
    have g2_1_1 := fun m os => (B2_1.grow m os).cell 1 rfl
    have g2_2_0 := fun m os => (B2_2.grow m os).cell 0 rfl
    have g2_2_1 := fun m os => (B2_2.grow m os).cell 1 rfl
    refine wp_region_calm (by kernel_rfl) (by kernel_rfl) ?_
    repeat (first | (refine lex_skip rfl (by rfl) ?_) | (refine lex_calm rfl (by rfl) (fun K hK => ?_); go_simp; first | (refine hK _ ?_; clear hK K) | (apply Exists.intro; refine ⟨fun _ _ => ?_, hK _ ?_⟩; (first | (with_reducible exact (S1 _).out) | (with_reducible exact (S2 _).out)); clear hK K)))
    refine lex_nil ?_
    intro w3 G3
    have B3_0 : Blk w3 (w.heap.size) 39 [.int .i64 3, .bool false, .int .i64 s, .int .i64 dx, .int .i64 dy] := B2_0.grew G3
    have B3_1 : Blk w3 (w.heap.size + 1) 25 [.int .i64 x, .int .i64 y] := B2_1.grew G3
    have B3_2 : Blk w3 (w.heap.size + 1 + 1) 25 [.int .i64 0, .int .i64 0] := B2_2.grew G3
    have z3 := G3.size
    replace G3 := hide G3
    have t3_0 := B3_0.lt
    have d3_0_0 := B3_0.cell 0 rfl
    have e3_0_0 := B3_0.free 0
    have d3_0_1 := B3_0.cell 1 rfl
    have e3_0_1 := B3_0.free 1
    have d3_0_2 := B3_0.cell 2 rfl
    have e3_0_2 := B3_0.free 2
    have d3_0_3 := B3_0.cell 3 rfl
    have e3_0_3 := B3_0.free 3
    have d3_0_4 := B3_0.cell 4 rfl
    have e3_0_4 := B3_0.free 4
    have t3_1 := B3_1.lt
    have d3_1_0 := B3_1.cell 0 rfl
    have e3_1_0 := B3_1.free 0
    have d3_1_1 := B3_1.cell 1 rfl
    have e3_1_1 := B3_1.free 1
    have t3_2 := B3_2.lt
    have d3_2_0 := B3_2.cell 0 rfl
    have e3_2_0 := B3_2.free 0
    have d3_2_1 := B3_2.cell 1 rfl
    have e3_2_1 := B3_2.free 1
    go_wp2_with fail
    refine wp_loop_rounds 4 ?_
    rw [rounds_succ]
    go_wp2_with fail
    rw [rounds_succ]
    go_wp2_with fail
    rw [rounds_succ]
    go_wp2_with fail
    rw [rounds_succ]
    go_wp2_with fail
    go_wp2
    rw [H0.out]
    refine bodyPost_ret (v := .agg #[.int .i64 (-b - 1), .int .i64 (-(-a - 1) - 1)]) (by simp [results, Try.results32, go_sem, R.zero, d3_0_0, d3_0_1, d3_0_2, d3_0_3, d3_0_4, d3_1_0, d3_1_1, d3_2_0, d3_2_1]) rfl ⟨rfl, ?_⟩
    repeat' (first | (with_reducible exact Grew.refl _) | (with_reducible refine Grew.setCell ?_ ?_ _) | (with_reducible refine Grew.drewN ?_ _) | (with_reducible refine Grew.alloc ?_ _) | (with_reducible refine Grew.trans ?_ G3.out) | (with_reducible refine Grew.trans ?_ G2.out) | (with_reducible refine Grew.trans ?_ G1.out) | (dsimp only; omega))
  · have H0 : Hid (T.back ⟨0, true, s, dx, dy⟩ ⟨x, y⟩ = ⟨-a - 1, b⟩) := by
      rw [Hid, H.out]; simp [bmir, bkx, bky]; try omega
    clear h1 H
    go_enter Try.func32, Try.ntmps32
    go_wp2_with fail
    refine ((V1 _).out).mono ?_
    rintro e w1 ⟨rfl, G1⟩
    try (with_reducible replace G1 := Grew.undrawn G1)
    have B1_0 : Blk w1 (w.heap.size) 39 [.int .i64 0, .bool true, .int .i64 s, .int .i64 dx, .int .i64 dy] := Blk.grew (by (repeat' (first | (with_reducible assumption) | ((with_reducible refine Blk.new ?_); (first | (with_reducible rfl) | (simp only [World.size_alloc, World.size_setCell, size_drewN]; done))) | (with_reducible refine Blk.alloc ?_ _) | (with_reducible refine Blk.drewN ?_ _) | (with_reducible refine Blk.drew ?_) | (refine Blk.other ?_ (by omega) _) | fail))) G1
    have B1_1 : Blk w1 (w.heap.size + 1) 25 [.int .i64 x, .int .i64 y] := Blk.grew (by (repeat' (first | (with_reducible assumption) | ((with_reducible refine Blk.new ?_); (first | (with_reducible rfl) | (simp only [World.size_alloc, World.size_setCell, size_drewN]; done))) | (with_reducible refine Blk.alloc ?_ _) | (with_reducible refine Blk.drewN ?_ _) | (with_reducible refine Blk.drew ?_) | (refine Blk.other ?_ (by omega) _) | fail))) G1
    have B1_2 : Blk w1 (w.heap.size + 1 + 1) 25 [.int .i64 0, .int .i64 0] := Blk.grew (by (repeat' (first | (with_reducible assumption) | ((with_reducible refine Blk.new ?_); (first | (with_reducible rfl) | (simp only [World.size_alloc, World.size_setCell, size_drewN]; done))) | (with_reducible refine Blk.alloc ?_ _) | (with_reducible refine Blk.drewN ?_ _) | (with_reducible refine Blk.drew ?_) | (refine Blk.other ?_ (by omega) _) | fail))) G1
    have z1 := G1.size
    try simp only [World.size_alloc, World.size_setCell, size_drewN] at z1
    replace G1 := hide G1
    have t1_0 := B1_0.lt
    have d1_0_0 := B1_0.cell 0 rfl
    have e1_0_0 := B1_0.free 0
    have d1_0_1 := B1_0.cell 1 rfl
    have e1_0_1 := B1_0.free 1
    have d1_0_2 := B1_0.cell 2 rfl
    have e1_0_2 := B1_0.free 2
    have d1_0_3 := B1_0.cell 3 rfl
    have e1_0_3 := B1_0.free 3
    have d1_0_4 := B1_0.cell 4 rfl
    have e1_0_4 := B1_0.free 4
    have t1_1 := B1_1.lt
    have d1_1_0 := B1_1.cell 0 rfl
    have e1_1_0 := B1_1.free 0
    have d1_1_1 := B1_1.cell 1 rfl
    have e1_1_1 := B1_1.free 1
    have t1_2 := B1_2.lt
    have d1_2_0 := B1_2.cell 0 rfl
    have e1_2_0 := B1_2.free 0
    have d1_2_1 := B1_2.cell 1 rfl
    have e1_2_1 := B1_2.free 1
    go_wp2_with fail
    refine ((V2 _).out).mono ?_
    rintro e w2 ⟨rfl, G2⟩
    try (with_reducible replace G2 := Grew.undrawn G2)
    have B2_0 : Blk w2 (w.heap.size) 39 [.int .i64 0, .bool true, .int .i64 s, .int .i64 dx, .int .i64 dy] := Blk.grew (by (repeat' (first | (with_reducible assumption) | ((with_reducible refine Blk.new ?_); (first | (with_reducible rfl) | (simp only [World.size_alloc, World.size_setCell, size_drewN]; done))) | (with_reducible refine Blk.alloc ?_ _) | (with_reducible refine Blk.drewN ?_ _) | (with_reducible refine Blk.drew ?_) | (refine Blk.other ?_ (by omega) _) | fail))) G2
    have B2_1 : Blk w2 (w.heap.size + 1) 25 [.int .i64 x, .int .i64 y] := Blk.grew (by (repeat' (first | (with_reducible assumption) | ((with_reducible refine Blk.new ?_); (first | (with_reducible rfl) | (simp only [World.size_alloc, World.size_setCell, size_drewN]; done))) | (with_reducible refine Blk.alloc ?_ _) | (with_reducible refine Blk.drewN ?_ _) | (with_reducible refine Blk.drew ?_) | (refine Blk.other ?_ (by omega) _) | fail))) G2
    have B2_2 : Blk w2 (w.heap.size + 1 + 1) 25 [.int .i64 0, .int .i64 0] := Blk.grew (by (repeat' (first | (with_reducible assumption) | ((with_reducible refine Blk.new ?_); (first | (with_reducible rfl) | (simp only [World.size_alloc, World.size_setCell, size_drewN]; done))) | (with_reducible refine Blk.alloc ?_ _) | (with_reducible refine Blk.drewN ?_ _) | (with_reducible refine Blk.drew ?_) | (refine Blk.other ?_ (by omega) _) | fail))) G2
    have z2 := G2.size
    try simp only [World.size_alloc, World.size_setCell, size_drewN] at z2
    replace G2 := hide G2
    have t2_0 := B2_0.lt
    have d2_0_0 := B2_0.cell 0 rfl
    have e2_0_0 := B2_0.free 0
    have d2_0_1 := B2_0.cell 1 rfl
    have e2_0_1 := B2_0.free 1
    have d2_0_2 := B2_0.cell 2 rfl
    have e2_0_2 := B2_0.free 2
    have d2_0_3 := B2_0.cell 3 rfl
    have e2_0_3 := B2_0.free 3
    have d2_0_4 := B2_0.cell 4 rfl
    have e2_0_4 := B2_0.free 4
    have t2_1 := B2_1.lt
    have d2_1_0 := B2_1.cell 0 rfl
    have e2_1_0 := B2_1.free 0
    have d2_1_1 := B2_1.cell 1 rfl
    have e2_1_1 := B2_1.free 1
    have t2_2 := B2_2.lt
    have d2_2_0 := B2_2.cell 0 rfl
    have e2_2_0 := B2_2.free 0
    have d2_2_1 := B2_2.cell 1 rfl
    have e2_2_1 := B2_2.free 1
    go_wp2_with fail
    have g2_0_0 := fun m os => (B2_0.grow m os).cell 0 rfl
    have g2_0_1 := fun m os => (B2_0.grow m os).cell 1 rfl
    have g2_0_2 := fun m os => (B2_0.grow m os).cell 2 rfl
    have g2_0_3 := fun m os => (B2_0.grow m os).cell 3 rfl
    have g2_0_4 := fun m os => (B2_0.grow m os).cell 4 rfl
    have g2_1_0 := fun m os => (B2_1.grow m os).cell 0 rfl
    have g2_1_1 := fun m os => (B2_1.grow m os).cell 1 rfl
    have g2_2_0 := fun m os => (B2_2.grow m os).cell 0 rfl
    have g2_2_1 := fun m os => (B2_2.grow m os).cell 1 rfl
    refine wp_region_calm (by kernel_rfl) (by kernel_rfl) ?_
    repeat (first | (refine lex_skip rfl (by rfl) ?_) | (refine lex_calm rfl (by rfl) (fun K hK => ?_); go_simp; first | (refine hK _ ?_; clear hK K) | (apply Exists.intro; refine ⟨fun _ _ => ?_, hK _ ?_⟩; (first | (with_reducible exact (S1 _).out) | (with_reducible exact (S2 _).out)); clear hK K)))
    refine lex_nil ?_
    intro w3 G3
    have B3_0 : Blk w3 (w.heap.size) 39 [.int .i64 0, .bool true, .int .i64 s, .int .i64 dx, .int .i64 dy] := B2_0.grew G3
    have B3_1 : Blk w3 (w.heap.size + 1) 25 [.int .i64 x, .int .i64 y] := B2_1.grew G3
    have B3_2 : Blk w3 (w.heap.size + 1 + 1) 25 [.int .i64 0, .int .i64 0] := B2_2.grew G3
    have z3 := G3.size
    replace G3 := hide G3
    have t3_0 := B3_0.lt
    have d3_0_0 := B3_0.cell 0 rfl
    have e3_0_0 := B3_0.free 0
    have d3_0_1 := B3_0.cell 1 rfl
    have e3_0_1 := B3_0.free 1
    have d3_0_2 := B3_0.cell 2 rfl
    have e3_0_2 := B3_0.free 2
    have d3_0_3 := B3_0.cell 3 rfl
    have e3_0_3 := B3_0.free 3
    have d3_0_4 := B3_0.cell 4 rfl
    have e3_0_4 := B3_0.free 4
    have t3_1 := B3_1.lt
    have d3_1_0 := B3_1.cell 0 rfl
    have e3_1_0 := B3_1.free 0
    have d3_1_1 := B3_1.cell 1 rfl
    have e3_1_1 := B3_1.free 1
    have t3_2 := B3_2.lt
    have d3_2_0 := B3_2.cell 0 rfl
    have e3_2_0 := B3_2.free 0
    have d3_2_1 := B3_2.cell 1 rfl
    have e3_2_1 := B3_2.free 1
    go_wp2_with fail
    refine wp_loop_rounds 1 ?_
    rw [rounds_succ]
    go_wp2_with fail
    go_wp2
    rw [H0.out]
    refine bodyPost_ret (v := .agg #[.int .i64 (-a - 1), .int .i64 (b)]) (by simp [results, Try.results32, go_sem, R.zero, d3_0_0, d3_0_1, d3_0_2, d3_0_3, d3_0_4, d3_1_0, d3_1_1, d3_2_0, d3_2_1]) rfl ⟨rfl, ?_⟩
    repeat' (first | (with_reducible exact Grew.refl _) | (with_reducible refine Grew.setCell ?_ ?_ _) | (with_reducible refine Grew.drewN ?_ _) | (with_reducible refine Grew.alloc ?_ _) | (with_reducible refine Grew.trans ?_ G3.out) | (with_reducible refine Grew.trans ?_ G2.out) | (with_reducible refine Grew.trans ?_ G1.out) | (dsimp only; omega))
  · have H0 : Hid (T.back ⟨1, true, s, dx, dy⟩ ⟨x, y⟩ = ⟨-b - 1, -a - 1⟩) := by
      rw [Hid, H.out]; simp [bmir, bkx, bky]; try omega
    clear h1 H
    go_enter Try.func32, Try.ntmps32
    go_wp2_with fail
    refine ((V1 _).out).mono ?_
    rintro e w1 ⟨rfl, G1⟩
    try (with_reducible replace G1 := Grew.undrawn G1)
    have B1_0 : Blk w1 (w.heap.size) 39 [.int .i64 1, .bool true, .int .i64 s, .int .i64 dx, .int .i64 dy] := Blk.grew (by (repeat' (first | (with_reducible assumption) | ((with_reducible refine Blk.new ?_); (first | (with_reducible rfl) | (simp only [World.size_alloc, World.size_setCell, size_drewN]; done))) | (with_reducible refine Blk.alloc ?_ _) | (with_reducible refine Blk.drewN ?_ _) | (with_reducible refine Blk.drew ?_) | (refine Blk.other ?_ (by omega) _) | fail))) G1
    have B1_1 : Blk w1 (w.heap.size + 1) 25 [.int .i64 x, .int .i64 y] := Blk.grew (by (repeat' (first | (with_reducible assumption) | ((with_reducible refine Blk.new ?_); (first | (with_reducible rfl) | (simp only [World.size_alloc, World.size_setCell, size_drewN]; done))) | (with_reducible refine Blk.alloc ?_ _) | (with_reducible refine Blk.drewN ?_ _) | (with_reducible refine Blk.drew ?_) | (refine Blk.other ?_ (by omega) _) | fail))) G1
    have B1_2 : Blk w1 (w.heap.size + 1 + 1) 25 [.int .i64 0, .int .i64 0] := Blk.grew (by (repeat' (first | (with_reducible assumption) | ((with_reducible refine Blk.new ?_); (first | (with_reducible rfl) | (simp only [World.size_alloc, World.size_setCell, size_drewN]; done))) | (with_reducible refine Blk.alloc ?_ _) | (with_reducible refine Blk.drewN ?_ _) | (with_reducible refine Blk.drew ?_) | (refine Blk.other ?_ (by omega) _) | fail))) G1
    have z1 := G1.size
    try simp only [World.size_alloc, World.size_setCell, size_drewN] at z1
    replace G1 := hide G1
    have t1_0 := B1_0.lt
    have d1_0_0 := B1_0.cell 0 rfl
    have e1_0_0 := B1_0.free 0
    have d1_0_1 := B1_0.cell 1 rfl
    have e1_0_1 := B1_0.free 1
    have d1_0_2 := B1_0.cell 2 rfl
    have e1_0_2 := B1_0.free 2
    have d1_0_3 := B1_0.cell 3 rfl
    have e1_0_3 := B1_0.free 3
    have d1_0_4 := B1_0.cell 4 rfl
    have e1_0_4 := B1_0.free 4
    have t1_1 := B1_1.lt
    have d1_1_0 := B1_1.cell 0 rfl
    have e1_1_0 := B1_1.free 0
    have d1_1_1 := B1_1.cell 1 rfl
    have e1_1_1 := B1_1.free 1
    have t1_2 := B1_2.lt
    have d1_2_0 := B1_2.cell 0 rfl
    have e1_2_0 := B1_2.free 0
    have d1_2_1 := B1_2.cell 1 rfl
    have e1_2_1 := B1_2.free 1
    go_wp2_with fail
    refine ((V2 _).out).mono ?_
    rintro e w2 ⟨rfl, G2⟩
    try (with_reducible replace G2 := Grew.undrawn G2)
    have B2_0 : Blk w2 (w.heap.size) 39 [.int .i64 1, .bool true, .int .i64 s, .int .i64 dx, .int .i64 dy] := Blk.grew (by (repeat' (first | (with_reducible assumption) | ((with_reducible refine Blk.new ?_); (first | (with_reducible rfl) | (simp only [World.size_alloc, World.size_setCell, size_drewN]; done))) | (with_reducible refine Blk.alloc ?_ _) | (with_reducible refine Blk.drewN ?_ _) | (with_reducible refine Blk.drew ?_) | (refine Blk.other ?_ (by omega) _) | fail))) G2
    have B2_1 : Blk w2 (w.heap.size + 1) 25 [.int .i64 x, .int .i64 y] := Blk.grew (by (repeat' (first | (with_reducible assumption) | ((with_reducible refine Blk.new ?_); (first | (with_reducible rfl) | (simp only [World.size_alloc, World.size_setCell, size_drewN]; done))) | (with_reducible refine Blk.alloc ?_ _) | (with_reducible refine Blk.drewN ?_ _) | (with_reducible refine Blk.drew ?_) | (refine Blk.other ?_ (by omega) _) | fail))) G2
    have B2_2 : Blk w2 (w.heap.size + 1 + 1) 25 [.int .i64 0, .int .i64 0] := Blk.grew (by (repeat' (first | (with_reducible assumption) | ((with_reducible refine Blk.new ?_); (first | (with_reducible rfl) | (simp only [World.size_alloc, World.size_setCell, size_drewN]; done))) | (with_reducible refine Blk.alloc ?_ _) | (with_reducible refine Blk.drewN ?_ _) | (with_reducible refine Blk.drew ?_) | (refine Blk.other ?_ (by omega) _) | fail))) G2
    have z2 := G2.size
    try simp only [World.size_alloc, World.size_setCell, size_drewN] at z2
    replace G2 := hide G2
    have t2_0 := B2_0.lt
    have d2_0_0 := B2_0.cell 0 rfl
    have e2_0_0 := B2_0.free 0
    have d2_0_1 := B2_0.cell 1 rfl
    have e2_0_1 := B2_0.free 1
    have d2_0_2 := B2_0.cell 2 rfl
    have e2_0_2 := B2_0.free 2
    have d2_0_3 := B2_0.cell 3 rfl
    have e2_0_3 := B2_0.free 3
    have d2_0_4 := B2_0.cell 4 rfl
    have e2_0_4 := B2_0.free 4
    have t2_1 := B2_1.lt
    have d2_1_0 := B2_1.cell 0 rfl
    have e2_1_0 := B2_1.free 0
    have d2_1_1 := B2_1.cell 1 rfl
    have e2_1_1 := B2_1.free 1
    have t2_2 := B2_2.lt
    have d2_2_0 := B2_2.cell 0 rfl
    have e2_2_0 := B2_2.free 0
    have d2_2_1 := B2_2.cell 1 rfl
    have e2_2_1 := B2_2.free 1
    go_wp2_with fail
    have g2_0_0 := fun m os => (B2_0.grow m os).cell 0 rfl
    have g2_0_1 := fun m os => (B2_0.grow m os).cell 1 rfl
    have g2_0_2 := fun m os => (B2_0.grow m os).cell 2 rfl
    have g2_0_3 := fun m os => (B2_0.grow m os).cell 3 rfl
    have g2_0_4 := fun m os => (B2_0.grow m os).cell 4 rfl
    have g2_1_0 := fun m os => (B2_1.grow m os).cell 0 rfl
    have g2_1_1 := fun m os => (B2_1.grow m os).cell 1 rfl
    have g2_2_0 := fun m os => (B2_2.grow m os).cell 0 rfl
    have g2_2_1 := fun m os => (B2_2.grow m os).cell 1 rfl
    refine wp_region_calm (by kernel_rfl) (by kernel_rfl) ?_
    repeat (first | (refine lex_skip rfl (by rfl) ?_) | (refine lex_calm rfl (by rfl) (fun K hK => ?_); go_simp; first | (refine hK _ ?_; clear hK K) | (apply Exists.intro; refine ⟨fun _ _ => ?_, hK _ ?_⟩; (first | (with_reducible exact (S1 _).out) | (with_reducible exact (S2 _).out)); clear hK K)))
    refine lex_nil ?_
    intro w3 G3
    have B3_0 : Blk w3 (w.heap.size) 39 [.int .i64 1, .bool true, .int .i64 s, .int .i64 dx, .int .i64 dy] := B2_0.grew G3
    have B3_1 : Blk w3 (w.heap.size + 1) 25 [.int .i64 x, .int .i64 y] := B2_1.grew G3
    have B3_2 : Blk w3 (w.heap.size + 1 + 1) 25 [.int .i64 0, .int .i64 0] := B2_2.grew G3
    have z3 := G3.size
    replace G3 := hide G3
    have t3_0 := B3_0.lt
    have d3_0_0 := B3_0.cell 0 rfl
    have e3_0_0 := B3_0.free 0
    have d3_0_1 := B3_0.cell 1 rfl
    have e3_0_1 := B3_0.free 1
    have d3_0_2 := B3_0.cell 2 rfl
    have e3_0_2 := B3_0.free 2
    have d3_0_3 := B3_0.cell 3 rfl
    have e3_0_3 := B3_0.free 3
    have d3_0_4 := B3_0.cell 4 rfl
    have e3_0_4 := B3_0.free 4
    have t3_1 := B3_1.lt
    have d3_1_0 := B3_1.cell 0 rfl
    have e3_1_0 := B3_1.free 0
    have d3_1_1 := B3_1.cell 1 rfl
    have e3_1_1 := B3_1.free 1
    have t3_2 := B3_2.lt
    have d3_2_0 := B3_2.cell 0 rfl
    have e3_2_0 := B3_2.free 0
    have d3_2_1 := B3_2.cell 1 rfl
    have e3_2_1 := B3_2.free 1
    go_wp2_with fail
    refine wp_loop_rounds 2 ?_
    rw [rounds_succ]
    go_wp2_with fail
    rw [rounds_succ]
    go_wp2_with fail
    go_wp2
    rw [H0.out]
    refine bodyPost_ret (v := .agg #[.int .i64 (-b - 1), .int .i64 (-a - 1)]) (by simp [results, Try.results32, go_sem, R.zero, d3_0_0, d3_0_1, d3_0_2, d3_0_3, d3_0_4, d3_1_0, d3_1_1, d3_2_0, d3_2_1]) rfl ⟨rfl, ?_⟩
    repeat' (first | (with_reducible exact Grew.refl _) | (with_reducible refine Grew.setCell ?_ ?_ _) | (with_reducible refine Grew.drewN ?_ _) | (with_reducible refine Grew.alloc ?_ _) | (with_reducible refine Grew.trans ?_ G3.out) | (with_reducible refine Grew.trans ?_ G2.out) | (with_reducible refine Grew.trans ?_ G1.out) | (dsimp only; omega))
  · have H0 : Hid (T.back ⟨2, true, s, dx, dy⟩ ⟨x, y⟩ = ⟨-(-a - 1) - 1, -b - 1⟩) := by
      rw [Hid, H.out]; simp [bmir, bkx, bky]; try omega
    clear h1 H
    go_enter Try.func32, Try.ntmps32
    go_wp2_with fail
    refine ((V1 _).out).mono ?_
    rintro e w1 ⟨rfl, G1⟩
    try (with_reducible replace G1 := Grew.undrawn G1)
    have B1_0 : Blk w1 (w.heap.size) 39 [.int .i64 2, .bool true, .int .i64 s, .int .i64 dx, .int .i64 dy] := Blk.grew (by (repeat' (first | (with_reducible assumption) | ((with_reducible refine Blk.new ?_); (first | (with_reducible rfl) | (simp only [World.size_alloc, World.size_setCell, size_drewN]; done))) | (with_reducible refine Blk.alloc ?_ _) | (with_reducible refine Blk.drewN ?_ _) | (with_reducible refine Blk.drew ?_) | (refine Blk.other ?_ (by omega) _) | fail))) G1
    have B1_1 : Blk w1 (w.heap.size + 1) 25 [.int .i64 x, .int .i64 y] := Blk.grew (by (repeat' (first | (with_reducible assumption) | ((with_reducible refine Blk.new ?_); (first | (with_reducible rfl) | (simp only [World.size_alloc, World.size_setCell, size_drewN]; done))) | (with_reducible refine Blk.alloc ?_ _) | (with_reducible refine Blk.drewN ?_ _) | (with_reducible refine Blk.drew ?_) | (refine Blk.other ?_ (by omega) _) | fail))) G1
    have B1_2 : Blk w1 (w.heap.size + 1 + 1) 25 [.int .i64 0, .int .i64 0] := Blk.grew (by (repeat' (first | (with_reducible assumption) | ((with_reducible refine Blk.new ?_); (first | (with_reducible rfl) | (simp only [World.size_alloc, World.size_setCell, size_drewN]; done))) | (with_reducible refine Blk.alloc ?_ _) | (with_reducible refine Blk.drewN ?_ _) | (with_reducible refine Blk.drew ?_) | (refine Blk.other ?_ (by omega) _) | fail))) G1
    have z1 := G1.size
    try simp only [World.size_alloc, World.size_setCell, size_drewN] at z1
    replace G1 := hide G1
    have t1_0 := B1_0.lt
    have d1_0_0 := B1_0.cell 0 rfl
    have e1_0_0 := B1_0.free 0
    have d1_0_1 := B1_0.cell 1 rfl
    have e1_0_1 := B1_0.free 1
    have d1_0_2 := B1_0.cell 2 rfl
    have e1_0_2 := B1_0.free 2
    have d1_0_3 := B1_0.cell 3 rfl
    have e1_0_3 := B1_0.free 3
    have d1_0_4 := B1_0.cell 4 rfl
    have e1_0_4 := B1_0.free 4
    have t1_1 := B1_1.lt
    have d1_1_0 := B1_1.cell 0 rfl
    have e1_1_0 := B1_1.free 0
    have d1_1_1 := B1_1.cell 1 rfl
    have e1_1_1 := B1_1.free 1
    have t1_2 := B1_2.lt
    have d1_2_0 := B1_2.cell 0 rfl
    have e1_2_0 := B1_2.free 0
    have d1_2_1 := B1_2.cell 1 rfl
    have e1_2_1 := B1_2.free 1
    go_wp2_with fail
    refine ((V2 _).out).mono ?_
    rintro e w2 ⟨rfl, G2⟩
    try (with_reducible replace G2 := Grew.undrawn G2)
    have B2_0 : Blk w2 (w.heap.size) 39 [.int .i64 2, .bool true, .int .i64 s, .int .i64 dx, .int .i64 dy] := Blk.grew (by (repeat' (first | (with_reducible assumption) | ((with_reducible refine Blk.new ?_); (first | (with_reducible rfl) | (simp only [World.size_alloc, World.size_setCell, size_drewN]; done))) | (with_reducible refine Blk.alloc ?_ _) | (with_reducible refine Blk.drewN ?_ _) | (with_reducible refine Blk.drew ?_) | (refine Blk.other ?_ (by omega) _) | fail))) G2
    have B2_1 : Blk w2 (w.heap.size + 1) 25 [.int .i64 x, .int .i64 y] := Blk.grew (by (repeat' (first | (with_reducible assumption) | ((with_reducible refine Blk.new ?_); (first | (with_reducible rfl) | (simp only [World.size_alloc, World.size_setCell, size_drewN]; done))) | (with_reducible refine Blk.alloc ?_ _) | (with_reducible refine Blk.drewN ?_ _) | (with_reducible refine Blk.drew ?_) | (refine Blk.other ?_ (by omega) _) | fail))) G2
    have B2_2 : Blk w2 (w.heap.size + 1 + 1) 25 [.int .i64 0, .int .i64 0] := Blk.grew (by (repeat' (first | (with_reducible assumption) | ((with_reducible refine Blk.new ?_); (first | (with_reducible rfl) | (simp only [World.size_alloc, World.size_setCell, size_drewN]; done))) | (with_reducible refine Blk.alloc ?_ _) | (with_reducible refine Blk.drewN ?_ _) | (with_reducible refine Blk.drew ?_) | (refine Blk.other ?_ (by omega) _) | fail))) G2
    have z2 := G2.size
    try simp only [World.size_alloc, World.size_setCell, size_drewN] at z2
    replace G2 := hide G2
    have t2_0 := B2_0.lt
    have d2_0_0 := B2_0.cell 0 rfl
    have e2_0_0 := B2_0.free 0
    have d2_0_1 := B2_0.cell 1 rfl
    have e2_0_1 := B2_0.free 1
    have d2_0_2 := B2_0.cell 2 rfl
    have e2_0_2 := B2_0.free 2
    have d2_0_3 := B2_0.cell 3 rfl
    have e2_0_3 := B2_0.free 3
    have d2_0_4 := B2_0.cell 4 rfl
    have e2_0_4 := B2_0.free 4
    have t2_1 := B2_1.lt
    have d2_1_0 := B2_1.cell 0 rfl
    have e2_1_0 := B2_1.free 0
    have d2_1_1 := B2_1.cell 1 rfl
    have e2_1_1 := B2_1.free 1
    have t2_2 := B2_2.lt
    have d2_2_0 := B2_2.cell 0 rfl
    have e2_2_0 := B2_2.free 0
    have d2_2_1 := B2_2.cell 1 rfl
    have e2_2_1 := B2_2.free 1
    go_wp2_with fail
    have g2_0_0 := fun m os => (B2_0.grow m os).cell 0 rfl
    have g2_0_1 := fun m os => (B2_0.grow m os).cell 1 rfl
    have g2_0_2 := fun m os => (B2_0.grow m os).cell 2 rfl
    have g2_0_3 := fun m os => (B2_0.grow m os).cell 3 rfl
    have g2_0_4 := fun m os => (B2_0.grow m os).cell 4 rfl
    have g2_1_0 := fun m os => (B2_1.grow m os).cell 0 rfl
    have g2_1_1 := fun m os => (B2_1.grow m os).cell 1 rfl
    have g2_2_0 := fun m os => (B2_2.grow m os).cell 0 rfl
    have g2_2_1 := fun m os => (B2_2.grow m os).cell 1 rfl
    refine wp_region_calm (by kernel_rfl) (by kernel_rfl) ?_
    repeat (first | (refine lex_skip rfl (by rfl) ?_) | (refine lex_calm rfl (by rfl) (fun K hK => ?_); go_simp; first | (refine hK _ ?_; clear hK K) | (apply Exists.intro; refine ⟨fun _ _ => ?_, hK _ ?_⟩; (first | (with_reducible exact (S1 _).out) | (with_reducible exact (S2 _).out)); clear hK K)))
    refine lex_nil ?_
    intro w3 G3
    have B3_0 : Blk w3 (w.heap.size) 39 [.int .i64 2, .bool true, .int .i64 s, .int .i64 dx, .int .i64 dy] := B2_0.grew G3
    have B3_1 : Blk w3 (w.heap.size + 1) 25 [.int .i64 x, .int .i64 y] := B2_1.grew G3
    have B3_2 : Blk w3 (w.heap.size + 1 + 1) 25 [.int .i64 0, .int .i64 0] := B2_2.grew G3
    have z3 := G3.size
    replace G3 := hide G3
    have t3_0 := B3_0.lt
    have d3_0_0 := B3_0.cell 0 rfl
    have e3_0_0 := B3_0.free 0
    have d3_0_1 := B3_0.cell 1 rfl
    have e3_0_1 := B3_0.free 1
    have d3_0_2 := B3_0.cell 2 rfl
    have e3_0_2 := B3_0.free 2
    have d3_0_3 := B3_0.cell 3 rfl
    have e3_0_3 := B3_0.free 3
    have d3_0_4 := B3_0.cell 4 rfl
    have e3_0_4 := B3_0.free 4
    have t3_1 := B3_1.lt
    have d3_1_0 := B3_1.cell 0 rfl
    have e3_1_0 := B3_1.free 0
    have d3_1_1 := B3_1.cell 1 rfl
    have e3_1_1 := B3_1.free 1
    have t3_2 := B3_2.lt
    have d3_2_0 := B3_2.cell 0 rfl
    have e3_2_0 := B3_2.free 0
    have d3_2_1 := B3_2.cell 1 rfl
    have e3_2_1 := B3_2.free 1
    go_wp2_with fail
    refine wp_loop_rounds 3 ?_
    rw [rounds_succ]
    go_wp2_with fail
    rw [rounds_succ]
    go_wp2_with fail
    rw [rounds_succ]
    go_wp2_with fail
    go_wp2
    rw [H0.out]
    refine bodyPost_ret (v := .agg #[.int .i64 (-(-a - 1) - 1), .int .i64 (-b - 1)]) (by simp [results, Try.results32, go_sem, R.zero, d3_0_0, d3_0_1, d3_0_2, d3_0_3, d3_0_4, d3_1_0, d3_1_1, d3_2_0, d3_2_1]) rfl ⟨rfl, ?_⟩
    repeat' (first | (with_reducible exact Grew.refl _) | (with_reducible refine Grew.setCell ?_ ?_ _) | (with_reducible refine Grew.drewN ?_ _) | (with_reducible refine Grew.alloc ?_ _) | (with_reducible refine Grew.trans ?_ G3.out) | (with_reducible refine Grew.trans ?_ G2.out) | (with_reducible refine Grew.trans ?_ G1.out) | (dsimp only; omega))
  · have H0 : Hid (T.back ⟨3, true, s, dx, dy⟩ ⟨x, y⟩ = ⟨-(-b - 1) - 1, -(-a - 1) - 1⟩) := by
      rw [Hid, H.out]; simp [bmir, bkx, bky]; try omega
    clear h1 H
    go_enter Try.func32, Try.ntmps32
    go_wp2_with fail
    refine ((V1 _).out).mono ?_
    rintro e w1 ⟨rfl, G1⟩
    try (with_reducible replace G1 := Grew.undrawn G1)
    have B1_0 : Blk w1 (w.heap.size) 39 [.int .i64 3, .bool true, .int .i64 s, .int .i64 dx, .int .i64 dy] := Blk.grew (by (repeat' (first | (with_reducible assumption) | ((with_reducible refine Blk.new ?_); (first | (with_reducible rfl) | (simp only [World.size_alloc, World.size_setCell, size_drewN]; done))) | (with_reducible refine Blk.alloc ?_ _) | (with_reducible refine Blk.drewN ?_ _) | (with_reducible refine Blk.drew ?_) | (refine Blk.other ?_ (by omega) _) | fail))) G1
    have B1_1 : Blk w1 (w.heap.size + 1) 25 [.int .i64 x, .int .i64 y] := Blk.grew (by (repeat' (first | (with_reducible assumption) | ((with_reducible refine Blk.new ?_); (first | (with_reducible rfl) | (simp only [World.size_alloc, World.size_setCell, size_drewN]; done))) | (with_reducible refine Blk.alloc ?_ _) | (with_reducible refine Blk.drewN ?_ _) | (with_reducible refine Blk.drew ?_) | (refine Blk.other ?_ (by omega) _) | fail))) G1
    have B1_2 : Blk w1 (w.heap.size + 1 + 1) 25 [.int .i64 0, .int .i64 0] := Blk.grew (by (repeat' (first | (with_reducible assumption) | ((with_reducible refine Blk.new ?_); (first | (with_reducible rfl) | (simp only [World.size_alloc, World.size_setCell, size_drewN]; done))) | (with_reducible refine Blk.alloc ?_ _) | (with_reducible refine Blk.drewN ?_ _) | (with_reducible refine Blk.drew ?_) | (refine Blk.other ?_ (by omega) _) | fail))) G1
    have z1 := G1.size
    try simp only [World.size_alloc, World.size_setCell, size_drewN] at z1
    replace G1 := hide G1
    have t1_0 := B1_0.lt
    have d1_0_0 := B1_0.cell 0 rfl
    have e1_0_0 := B1_0.free 0
    have d1_0_1 := B1_0.cell 1 rfl
    have e1_0_1 := B1_0.free 1
    have d1_0_2 := B1_0.cell 2 rfl
    have e1_0_2 := B1_0.free 2
    have d1_0_3 := B1_0.cell 3 rfl
    have e1_0_3 := B1_0.free 3
    have d1_0_4 := B1_0.cell 4 rfl
    have e1_0_4 := B1_0.free 4
    have t1_1 := B1_1.lt
    have d1_1_0 := B1_1.cell 0 rfl
    have e1_1_0 := B1_1.free 0
    have d1_1_1 := B1_1.cell 1 rfl
    have e1_1_1 := B1_1.free 1
    have t1_2 := B1_2.lt
    have d1_2_0 := B1_2.cell 0 rfl
    have e1_2_0 := B1_2.free 0
    have d1_2_1 := B1_2.cell 1 rfl
    have e1_2_1 := B1_2.free 1
    go_wp2_with fail
    refine ((V2 _).out).mono ?_
    rintro e w2 ⟨rfl, G2⟩
    try (with_reducible replace G2 := Grew.undrawn G2)
    have B2_0 : Blk w2 (w.heap.size) 39 [.int .i64 3, .bool true, .int .i64 s, .int .i64 dx, .int .i64 dy] := Blk.grew (by (repeat' (first | (with_reducible assumption) | ((with_reducible refine Blk.new ?_); (first | (with_reducible rfl) | (simp only [World.size_alloc, World.size_setCell, size_drewN]; done))) | (with_reducible refine Blk.alloc ?_ _) | (with_reducible refine Blk.drewN ?_ _) | (with_reducible refine Blk.drew ?_) | (refine Blk.other ?_ (by omega) _) | fail))) G2
    have B2_1 : Blk w2 (w.heap.size + 1) 25 [.int .i64 x, .int .i64 y] := Blk.grew (by (repeat' (first | (with_reducible assumption) | ((with_reducible refine Blk.new ?_); (first | (with_reducible rfl) | (simp only [World.size_alloc, World.size_setCell, size_drewN]; done))) | (with_reducible refine Blk.alloc ?_ _) | (with_reducible refine Blk.drewN ?_ _) | (with_reducible refine Blk.drew ?_) | (refine Blk.other ?_ (by omega) _) | fail))) G2
    have B2_2 : Blk w2 (w.heap.size + 1 + 1) 25 [.int .i64 0, .int .i64 0] := Blk.grew (by (repeat' (first | (with_reducible assumption) | ((with_reducible refine Blk.new ?_); (first | (with_reducible rfl) | (simp only [World.size_alloc, World.size_setCell, size_drewN]; done))) | (with_reducible refine Blk.alloc ?_ _) | (with_reducible refine Blk.drewN ?_ _) | (with_reducible refine Blk.drew ?_) | (refine Blk.other ?_ (by omega) _) | fail))) G2
    have z2 := G2.size
    try simp only [World.size_alloc, World.size_setCell, size_drewN] at z2
    replace G2 := hide G2
    have t2_0 := B2_0.lt
    have d2_0_0 := B2_0.cell 0 rfl
    have e2_0_0 := B2_0.free 0
    have d2_0_1 := B2_0.cell 1 rfl
    have e2_0_1 := B2_0.free 1
    have d2_0_2 := B2_0.cell 2 rfl
    have e2_0_2 := B2_0.free 2
    have d2_0_3 := B2_0.cell 3 rfl
    have e2_0_3 := B2_0.free 3
    have d2_0_4 := B2_0.cell 4 rfl
    have e2_0_4 := B2_0.free 4
    have t2_1 := B2_1.lt
    have d2_1_0 := B2_1.cell 0 rfl
    have e2_1_0 := B2_1.free 0
    have d2_1_1 := B2_1.cell 1 rfl
    have e2_1_1 := B2_1.free 1
    have t2_2 := B2_2.lt
    have d2_2_0 := B2_2.cell 0 rfl
    have e2_2_0 := B2_2.free 0
    have d2_2_1 := B2_2.cell 1 rfl
    have e2_2_1 := B2_2.free 1
    go_wp2_with fail
    have g2_0_0 := fun m os => (B2_0.grow m os).cell 0 rfl
    have g2_0_1 := fun m os => (B2_0.grow m os).cell 1 rfl
    have g2_0_2 := fun m os => (B2_0.grow m os).cell 2 rfl
    have g2_0_3 := fun m os => (B2_0.grow m os).cell 3 rfl
    have g2_0_4 := fun m os => (B2_0.grow m os).cell 4 rfl
    have g2_1_0 := fun m os => (B2_1.grow m os).cell 0 rfl
    have g2_1_1 := fun m os => (B2_1.grow m os).cell 1 rfl
    have g2_2_0 := fun m os => (B2_2.grow m os).cell 0 rfl
    have g2_2_1 := fun m os => (B2_2.grow m os).cell 1 rfl
    refine wp_region_calm (by kernel_rfl) (by kernel_rfl) ?_
    repeat (first | (refine lex_skip rfl (by rfl) ?_) | (refine lex_calm rfl (by rfl) (fun K hK => ?_); go_simp; first | (refine hK _ ?_; clear hK K) | (apply Exists.intro; refine ⟨fun _ _ => ?_, hK _ ?_⟩; (first | (with_reducible exact (S1 _).out) | (with_reducible exact (S2 _).out)); clear hK K)))
    refine lex_nil ?_
    intro w3 G3
    have B3_0 : Blk w3 (w.heap.size) 39 [.int .i64 3, .bool true, .int .i64 s, .int .i64 dx, .int .i64 dy] := B2_0.grew G3
    have B3_1 : Blk w3 (w.heap.size + 1) 25 [.int .i64 x, .int .i64 y] := B2_1.grew G3
    have B3_2 : Blk w3 (w.heap.size + 1 + 1) 25 [.int .i64 0, .int .i64 0] := B2_2.grew G3
    have z3 := G3.size
    replace G3 := hide G3
    have t3_0 := B3_0.lt
    have d3_0_0 := B3_0.cell 0 rfl
    have e3_0_0 := B3_0.free 0
    have d3_0_1 := B3_0.cell 1 rfl
    have e3_0_1 := B3_0.free 1
    have d3_0_2 := B3_0.cell 2 rfl
    have e3_0_2 := B3_0.free 2
    have d3_0_3 := B3_0.cell 3 rfl
    have e3_0_3 := B3_0.free 3
    have d3_0_4 := B3_0.cell 4 rfl
    have e3_0_4 := B3_0.free 4
    have t3_1 := B3_1.lt
    have d3_1_0 := B3_1.cell 0 rfl
    have e3_1_0 := B3_1.free 0
    have d3_1_1 := B3_1.cell 1 rfl
    have e3_1_1 := B3_1.free 1
    have t3_2 := B3_2.lt
    have d3_2_0 := B3_2.cell 0 rfl
    have e3_2_0 := B3_2.free 0
    have d3_2_1 := B3_2.cell 1 rfl
    have e3_2_1 := B3_2.free 1
    go_wp2_with fail
    refine wp_loop_rounds 4 ?_
    rw [rounds_succ]
    go_wp2_with fail
    rw [rounds_succ]
    go_wp2_with fail
    rw [rounds_succ]
    go_wp2_with fail
    rw [rounds_succ]
    go_wp2_with fail
    go_wp2
    rw [H0.out]
    refine bodyPost_ret (v := .agg #[.int .i64 (-(-b - 1) - 1), .int .i64 (-(-a - 1) - 1)]) (by simp [results, Try.results32, go_sem, R.zero, d3_0_0, d3_0_1, d3_0_2, d3_0_3, d3_0_4, d3_1_0, d3_1_1, d3_2_0, d3_2_1]) rfl ⟨rfl, ?_⟩
    repeat' (first | (with_reducible exact Grew.refl _) | (with_reducible refine Grew.setCell ?_ ?_ _) | (with_reducible refine Grew.drewN ?_ _) | (with_reducible refine Grew.alloc ?_ _) | (with_reducible refine Grew.trans ?_ G3.out) | (with_reducible refine Grew.trans ?_ G2.out) | (with_reducible refine Grew.trans ?_ G1.out) | (dsimp only; omega))

theorem rBack_any (t : T) (p : Pt) (w : World) :
    Calls Try.prog 32 #[t.v, p.v] w fun e w' => e = .returned (t.back p).v ∧ Grew w w' := by
  cases c : (t.ok && (reachB p.x && reachB p.y)) with
  | false => exact rBack_bad t p w c
  | true =>
    simp only [Bool.and_eq_true] at c
    exact rBack_ok t p w c.1 c.2.1 c.2.2
end Go.Proofs.Ythldilikkogaoaa
