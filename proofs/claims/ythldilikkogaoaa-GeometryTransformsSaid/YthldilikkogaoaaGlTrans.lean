/- The law GeometryTransforms returns true for every two transforms, every rectangle and every point, and leaves the arguments and all old memory as they were; no condition. -/
import Derived.Test.YthldilikkogaoaaRows
import Derived.Test.YthldilikkogaoaaGlOpen
import Derived.Test.YthldilikkogaoaaGlAwake
import Derived.Test.YthldilikkogaoaaGtF
import Derived.Test.YthldilikkogaoaaGtG
import Derived.WalkKit
import Derived.ProofKit
import Derived.OpenShut
namespace Go.Proofs.Ythldilikkogaoaa.geometryTransforms
open Go.ChangeShapes Go.WideShapes Go.ChangeAt Go.RowKit Go.Sort
set_option linter.unusedVariables false
set_option linter.unusedSimpArgs false

set_option maxHeartbeats 4000000 in
theorem walk (t u : T) (r : R) (p : Pt) (w : World) :
    Calls Try.prog 6 #[t.v, u.v, r.v, p.v] w fun e w' => e = .returned (.bool true) ∧ Below w.heap.size w w' := by
  have K1 := fun W => hide (Combine_any t u W)
  have K2 := fun W => hide (rCombine_any t u W)
  have K3 := fun W => hide (ValidTransform_any t W)
  have K4 := fun W => hide (Apply_any t r W)
  have K5 := fun W => hide (rApply_any t r W)
  have K6 := fun W => hide (Back_any t p W)
  have K7 := fun W => hide (rBack_any t p W)
  have A1 := fun W => hide (awake_any W)
  generalize t.comb u = q1 at K1 K2
  generalize t.combE u = q2 at K1 K2
  generalize t.apply r = q3 at K4 K5
  generalize t.back p = q4 at K6 K7
  obtain ⟨k3, m3, s3, x3, y3⟩ := q1
  obtain ⟨p1, p2, p3, p4⟩ := q3
  obtain ⟨p5, p6⟩ := q4
  cases c : t.ok with
  | true =>
    have V := fun W => hide (Check_ok t W c)
    rw [c] at K3
    clear c
    obtain ⟨k1, m1, s1, x1, y1⟩ := t
    obtain ⟨k2, m2, s2, x2, y2⟩ := u
    obtain ⟨x, y, z, h⟩ := r
    obtain ⟨px, py⟩ := p
    go_enter Try.func6, Try.ntmps6
    go_wp2_with fail
    refine ((K1 _).out).mono ?_
    rintro e w1 ⟨rfl, G1⟩
    try (with_reducible replace G1 := Grew.undrawn G1)
    have B1_0 : Blk w1 (w.heap.size) 39 [.int .i64 k1, .bool m1, .int .i64 s1, .int .i64 x1, .int .i64 y1] := Blk.grew (by (repeat' (first | (with_reducible assumption) | ((with_reducible refine Blk.new ?_); (first | (with_reducible rfl) | (simp only [World.size_alloc, World.size_setCell, size_drewN]; done))) | (with_reducible refine Blk.alloc ?_ _) | (with_reducible refine Blk.drewN ?_ _) | (with_reducible refine Blk.drew ?_) | (refine Blk.other ?_ (by omega) _) | fail))) G1
    have B1_1 : Blk w1 (w.heap.size + 1) 39 [.int .i64 k2, .bool m2, .int .i64 s2, .int .i64 x2, .int .i64 y2] := Blk.grew (by (repeat' (first | (with_reducible assumption) | ((with_reducible refine Blk.new ?_); (first | (with_reducible rfl) | (simp only [World.size_alloc, World.size_setCell, size_drewN]; done))) | (with_reducible refine Blk.alloc ?_ _) | (with_reducible refine Blk.drewN ?_ _) | (with_reducible refine Blk.drew ?_) | (refine Blk.other ?_ (by omega) _) | fail))) G1
    have B1_2 : Blk w1 (w.heap.size + 1 + 1) 23 [.int .i64 x, .int .i64 y, .int .i64 z, .int .i64 h] := Blk.grew (by (repeat' (first | (with_reducible assumption) | ((with_reducible refine Blk.new ?_); (first | (with_reducible rfl) | (simp only [World.size_alloc, World.size_setCell, size_drewN]; done))) | (with_reducible refine Blk.alloc ?_ _) | (with_reducible refine Blk.drewN ?_ _) | (with_reducible refine Blk.drew ?_) | (refine Blk.other ?_ (by omega) _) | fail))) G1
    have B1_3 : Blk w1 (w.heap.size + 1 + 1 + 1) 25 [.int .i64 px, .int .i64 py] := Blk.grew (by (repeat' (first | (with_reducible assumption) | ((with_reducible refine Blk.new ?_); (first | (with_reducible rfl) | (simp only [World.size_alloc, World.size_setCell, size_drewN]; done))) | (with_reducible refine Blk.alloc ?_ _) | (with_reducible refine Blk.drewN ?_ _) | (with_reducible refine Blk.drew ?_) | (refine Blk.other ?_ (by omega) _) | fail))) G1
    have z1 := G1.size
    try simp only [World.size_alloc, World.size_setCell, size_drewN] at z1
    replace G1 := hide G1
    have t1_0 := B1_0.lt
    have d1_0_0 := B1_0.cell 0 rfl
    have e1_0_0 := B1_0.free 0
    have d1_0_1 := B1_0.cell 1 rfl
    have e1_0_1 := B1_0.free 1
    have d1_0_2 := B1_0.cell 2 rfl
    have e1_0_2 := B1_0.free 2
    have d1_0_3 := B1_0.cell 3 rfl
    have e1_0_3 := B1_0.free 3
    have d1_0_4 := B1_0.cell 4 rfl
    have e1_0_4 := B1_0.free 4
    have t1_1 := B1_1.lt
    have d1_1_0 := B1_1.cell 0 rfl
    have e1_1_0 := B1_1.free 0
    have d1_1_1 := B1_1.cell 1 rfl
    have e1_1_1 := B1_1.free 1
    have d1_1_2 := B1_1.cell 2 rfl
    have e1_1_2 := B1_1.free 2
    have d1_1_3 := B1_1.cell 3 rfl
    have e1_1_3 := B1_1.free 3
    have d1_1_4 := B1_1.cell 4 rfl
    have e1_1_4 := B1_1.free 4
    have t1_2 := B1_2.lt
    have d1_2_0 := B1_2.cell 0 rfl
    have e1_2_0 := B1_2.free 0
    have d1_2_1 := B1_2.cell 1 rfl
    have e1_2_1 := B1_2.free 1
    have d1_2_2 := B1_2.cell 2 rfl
    have e1_2_2 := B1_2.free 2
    have d1_2_3 := B1_2.cell 3 rfl
    have e1_2_3 := B1_2.free 3
    have t1_3 := B1_3.lt
    have d1_3_0 := B1_3.cell 0 rfl
    have e1_3_0 := B1_3.free 0
    have d1_3_1 := B1_3.cell 1 rfl
    have e1_3_1 := B1_3.free 1
    go_wp2_with fail
    refine ((K2 _).out).mono ?_
    rintro e w2 ⟨rfl, G2⟩
    try (with_reducible replace G2 := Grew.undrawn G2)
    have B2_0 : Blk w2 (w.heap.size) 39 [.int .i64 k1, .bool m1, .int .i64 s1, .int .i64 x1, .int .i64 y1] := Blk.grew (by (repeat' (first | (with_reducible assumption) | ((with_reducible refine Blk.new ?_); (first | (with_reducible rfl) | (simp only [World.size_alloc, World.size_setCell, size_drewN]; done))) | (with_reducible refine Blk.alloc ?_ _) | (with_reducible refine Blk.drewN ?_ _) | (with_reducible refine Blk.drew ?_) | (refine Blk.other ?_ (by omega) _) | fail))) G2
    have B2_1 : Blk w2 (w.heap.size + 1) 39 [.int .i64 k2, .bool m2, .int .i64 s2, .int .i64 x2, .int .i64 y2] := Blk.grew (by (repeat' (first | (with_reducible assumption) | ((with_reducible refine Blk.new ?_); (first | (with_reducible rfl) | (simp only [World.size_alloc, World.size_setCell, size_drewN]; done))) | (with_reducible refine Blk.alloc ?_ _) | (with_reducible refine Blk.drewN ?_ _) | (with_reducible refine Blk.drew ?_) | (refine Blk.other ?_ (by omega) _) | fail))) G2
    have B2_2 : Blk w2 (w.heap.size + 1 + 1) 23 [.int .i64 x, .int .i64 y, .int .i64 z, .int .i64 h] := Blk.grew (by (repeat' (first | (with_reducible assumption) | ((with_reducible refine Blk.new ?_); (first | (with_reducible rfl) | (simp only [World.size_alloc, World.size_setCell, size_drewN]; done))) | (with_reducible refine Blk.alloc ?_ _) | (with_reducible refine Blk.drewN ?_ _) | (with_reducible refine Blk.drew ?_) | (refine Blk.other ?_ (by omega) _) | fail))) G2
    have B2_3 : Blk w2 (w.heap.size + 1 + 1 + 1) 25 [.int .i64 px, .int .i64 py] := Blk.grew (by (repeat' (first | (with_reducible assumption) | ((with_reducible refine Blk.new ?_); (first | (with_reducible rfl) | (simp only [World.size_alloc, World.size_setCell, size_drewN]; done))) | (with_reducible refine Blk.alloc ?_ _) | (with_reducible refine Blk.drewN ?_ _) | (with_reducible refine Blk.drew ?_) | (refine Blk.other ?_ (by omega) _) | fail))) G2
    have B2_4 : Blk w2 (w1.heap.size) 39 [.int .i64 k3, .bool m3, .int .i64 s3, .int .i64 x3, .int .i64 y3] := Blk.grew (by (repeat' (first | (with_reducible assumption) | ((with_reducible refine Blk.new ?_); (first | (with_reducible rfl) | (simp only [World.size_alloc, World.size_setCell, size_drewN]; done))) | (with_reducible refine Blk.alloc ?_ _) | (with_reducible refine Blk.drewN ?_ _) | (with_reducible refine Blk.drew ?_) | (refine Blk.other ?_ (by omega) _) | fail))) G2
    have z2 := G2.size
    try simp only [World.size_alloc, World.size_setCell, size_drewN] at z2
    replace G2 := hide G2
    have t2_0 := B2_0.lt
    have d2_0_0 := B2_0.cell 0 rfl
    have e2_0_0 := B2_0.free 0
    have d2_0_1 := B2_0.cell 1 rfl
    have e2_0_1 := B2_0.free 1
    have d2_0_2 := B2_0.cell 2 rfl
    have e2_0_2 := B2_0.free 2
    have d2_0_3 := B2_0.cell 3 rfl
    have e2_0_3 := B2_0.free 3
    have d2_0_4 := B2_0.cell 4 rfl
    have e2_0_4 := B2_0.free 4
    have t2_1 := B2_1.lt
    have d2_1_0 := B2_1.cell 0 rfl
    have e2_1_0 := B2_1.free 0
    have d2_1_1 := B2_1.cell 1 rfl
    have e2_1_1 := B2_1.free 1
    have d2_1_2 := B2_1.cell 2 rfl
    have e2_1_2 := B2_1.free 2
    have d2_1_3 := B2_1.cell 3 rfl
    have e2_1_3 := B2_1.free 3
    have d2_1_4 := B2_1.cell 4 rfl
    have e2_1_4 := B2_1.free 4
    have t2_2 := B2_2.lt
    have d2_2_0 := B2_2.cell 0 rfl
    have e2_2_0 := B2_2.free 0
    have d2_2_1 := B2_2.cell 1 rfl
    have e2_2_1 := B2_2.free 1
    have d2_2_2 := B2_2.cell 2 rfl
    have e2_2_2 := B2_2.free 2
    have d2_2_3 := B2_2.cell 3 rfl
    have e2_2_3 := B2_2.free 3
    have t2_3 := B2_3.lt
    have d2_3_0 := B2_3.cell 0 rfl
    have e2_3_0 := B2_3.free 0
    have d2_3_1 := B2_3.cell 1 rfl
    have e2_3_1 := B2_3.free 1
    have t2_4 := B2_4.lt
    have d2_4_0 := B2_4.cell 0 rfl
    have e2_4_0 := B2_4.free 0
    have d2_4_1 := B2_4.cell 1 rfl
    have e2_4_1 := B2_4.free 1
    have d2_4_2 := B2_4.cell 2 rfl
    have e2_4_2 := B2_4.free 2
    have d2_4_3 := B2_4.cell 3 rfl
    have e2_4_3 := B2_4.free 3
    have d2_4_4 := B2_4.cell 4 rfl
    have e2_4_4 := B2_4.free 4
    go_wp2_with fail
    refine name_world fun w3 h3 => ?_
    have G3 : Grew w w3 := by
      rw [h3]
      repeat' (first | (with_reducible exact Grew.refl _) | (with_reducible refine Grew.setCell ?_ ?_ _) | (with_reducible refine Grew.drewN ?_ _) | (with_reducible refine Grew.alloc ?_ _) | (with_reducible refine Grew.trans ?_ G3.out) | (with_reducible refine Grew.trans ?_ G2.out) | (with_reducible refine Grew.trans ?_ G1.out) | (dsimp only; omega))
    have B3_0 : Blk w3 (w.heap.size) 39 [.int .i64 k1, .bool m1, .int .i64 s1, .int .i64 x1, .int .i64 y1] := by (rw [h3]; repeat' (first | (with_reducible assumption) | ((with_reducible refine Blk.new ?_); (first | (with_reducible rfl) | (simp only [World.size_alloc, World.size_setCell, size_drewN]; done))) | (with_reducible refine Blk.alloc ?_ _) | (with_reducible refine Blk.drewN ?_ _) | (with_reducible refine Blk.drew ?_) | (refine Blk.other ?_ (by omega) _) | fail))
    have B3_1 : Blk w3 (w.heap.size + 1) 39 [.int .i64 k2, .bool m2, .int .i64 s2, .int .i64 x2, .int .i64 y2] := by (rw [h3]; repeat' (first | (with_reducible assumption) | ((with_reducible refine Blk.new ?_); (first | (with_reducible rfl) | (simp only [World.size_alloc, World.size_setCell, size_drewN]; done))) | (with_reducible refine Blk.alloc ?_ _) | (with_reducible refine Blk.drewN ?_ _) | (with_reducible refine Blk.drew ?_) | (refine Blk.other ?_ (by omega) _) | fail))
    have B3_2 : Blk w3 (w.heap.size + 1 + 1) 23 [.int .i64 x, .int .i64 y, .int .i64 z, .int .i64 h] := by (rw [h3]; repeat' (first | (with_reducible assumption) | ((with_reducible refine Blk.new ?_); (first | (with_reducible rfl) | (simp only [World.size_alloc, World.size_setCell, size_drewN]; done))) | (with_reducible refine Blk.alloc ?_ _) | (with_reducible refine Blk.drewN ?_ _) | (with_reducible refine Blk.drew ?_) | (refine Blk.other ?_ (by omega) _) | fail))
    have B3_3 : Blk w3 (w.heap.size + 1 + 1 + 1) 25 [.int .i64 px, .int .i64 py] := by (rw [h3]; repeat' (first | (with_reducible assumption) | ((with_reducible refine Blk.new ?_); (first | (with_reducible rfl) | (simp only [World.size_alloc, World.size_setCell, size_drewN]; done))) | (with_reducible refine Blk.alloc ?_ _) | (with_reducible refine Blk.drewN ?_ _) | (with_reducible refine Blk.drew ?_) | (refine Blk.other ?_ (by omega) _) | fail))
    have B3_4 : Blk w3 (w1.heap.size) 39 [.int .i64 k3, .bool m3, .int .i64 s3, .int .i64 x3, .int .i64 y3] := by (rw [h3]; repeat' (first | (with_reducible assumption) | ((with_reducible refine Blk.new ?_); (first | (with_reducible rfl) | (simp only [World.size_alloc, World.size_setCell, size_drewN]; done))) | (with_reducible refine Blk.alloc ?_ _) | (with_reducible refine Blk.drewN ?_ _) | (with_reducible refine Blk.drew ?_) | (refine Blk.other ?_ (by omega) _) | fail))
    have B3_5 : Blk w3 (w2.heap.size) 39 [.int .i64 k3, .bool m3, .int .i64 s3, .int .i64 x3, .int .i64 y3] := by (rw [h3]; repeat' (first | (with_reducible assumption) | ((with_reducible refine Blk.new ?_); (first | (with_reducible rfl) | (simp only [World.size_alloc, World.size_setCell, size_drewN]; done))) | (with_reducible refine Blk.alloc ?_ _) | (with_reducible refine Blk.drewN ?_ _) | (with_reducible refine Blk.drew ?_) | (refine Blk.other ?_ (by omega) _) | fail))
    have z3 := G3.size
    replace G3 := hide G3
    clear h3
    have t3_0 := B3_0.lt
    have d3_0_0 := B3_0.cell 0 rfl
    have e3_0_0 := B3_0.free 0
    have d3_0_1 := B3_0.cell 1 rfl
    have e3_0_1 := B3_0.free 1
    have d3_0_2 := B3_0.cell 2 rfl
    have e3_0_2 := B3_0.free 2
    have d3_0_3 := B3_0.cell 3 rfl
    have e3_0_3 := B3_0.free 3
    have d3_0_4 := B3_0.cell 4 rfl
    have e3_0_4 := B3_0.free 4
    have t3_1 := B3_1.lt
    have d3_1_0 := B3_1.cell 0 rfl
    have e3_1_0 := B3_1.free 0
    have d3_1_1 := B3_1.cell 1 rfl
    have e3_1_1 := B3_1.free 1
    have d3_1_2 := B3_1.cell 2 rfl
    have e3_1_2 := B3_1.free 2
    have d3_1_3 := B3_1.cell 3 rfl
    have e3_1_3 := B3_1.free 3
    have d3_1_4 := B3_1.cell 4 rfl
    have e3_1_4 := B3_1.free 4
    have t3_2 := B3_2.lt
    have d3_2_0 := B3_2.cell 0 rfl
    have e3_2_0 := B3_2.free 0
    have d3_2_1 := B3_2.cell 1 rfl
    have e3_2_1 := B3_2.free 1
    have d3_2_2 := B3_2.cell 2 rfl
    have e3_2_2 := B3_2.free 2
    have d3_2_3 := B3_2.cell 3 rfl
    have e3_2_3 := B3_2.free 3
    have t3_3 := B3_3.lt
    have d3_3_0 := B3_3.cell 0 rfl
    have e3_3_0 := B3_3.free 0
    have d3_3_1 := B3_3.cell 1 rfl
    have e3_3_1 := B3_3.free 1
    have t3_4 := B3_4.lt
    have d3_4_0 := B3_4.cell 0 rfl
    have e3_4_0 := B3_4.free 0
    have d3_4_1 := B3_4.cell 1 rfl
    have e3_4_1 := B3_4.free 1
    have d3_4_2 := B3_4.cell 2 rfl
    have e3_4_2 := B3_4.free 2
    have d3_4_3 := B3_4.cell 3 rfl
    have e3_4_3 := B3_4.free 3
    have d3_4_4 := B3_4.cell 4 rfl
    have e3_4_4 := B3_4.free 4
    have t3_5 := B3_5.lt
    have d3_5_0 := B3_5.cell 0 rfl
    have e3_5_0 := B3_5.free 0
    have d3_5_1 := B3_5.cell 1 rfl
    have e3_5_1 := B3_5.free 1
    have d3_5_2 := B3_5.cell 2 rfl
    have e3_5_2 := B3_5.free 2
    have d3_5_3 := B3_5.cell 3 rfl
    have e3_5_3 := B3_5.free 3
    have d3_5_4 := B3_5.cell 4 rfl
    have e3_5_4 := B3_5.free 4
    have g3_0_0 := fun m os => (B3_0.grow m os).cell 0 rfl
    have g3_0_1 := fun m os => (B3_0.grow m os).cell 1 rfl
    have g3_0_2 := fun m os => (B3_0.grow m os).cell 2 rfl
    have g3_0_3 := fun m os => (B3_0.grow m os).cell 3 rfl
    have g3_0_4 := fun m os => (B3_0.grow m os).cell 4 rfl
    have g3_1_0 := fun m os => (B3_1.grow m os).cell 0 rfl
    have g3_1_1 := fun m os => (B3_1.grow m os).cell 1 rfl
    have g3_1_2 := fun m os => (B3_1.grow m os).cell 2 rfl
    have g3_1_3 := fun m os => (B3_1.grow m os).cell 3 rfl
    have g3_1_4 := fun m os => (B3_1.grow m os).cell 4 rfl
    have g3_2_0 := fun m os => (B3_2.grow m os).cell 0 rfl
    have g3_2_1 := fun m os => (B3_2.grow m os).cell 1 rfl
    have g3_2_2 := fun m os => (B3_2.grow m os).cell 2 rfl
    have g3_2_3 := fun m os => (B3_2.grow m os).cell 3 rfl
    have g3_3_0 := fun m os => (B3_3.grow m os).cell 0 rfl
    have g3_3_1 := fun m os => (B3_3.grow m os).cell 1 rfl
    have g3_4_0 := fun m os => (B3_4.grow m os).cell 0 rfl
    have g3_4_1 := fun m os => (B3_4.grow m os).cell 1 rfl
    have g3_4_2 := fun m os => (B3_4.grow m os).cell 2 rfl
    have g3_4_3 := fun m os => (B3_4.grow m os).cell 3 rfl
    have g3_4_4 := fun m os => (B3_4.grow m os).cell 4 rfl
    have g3_5_0 := fun m os => (B3_5.grow m os).cell 0 rfl
    have g3_5_1 := fun m os => (B3_5.grow m os).cell 1 rfl
    have g3_5_2 := fun m os => (B3_5.grow m os).cell 2 rfl
    have g3_5_3 := fun m os => (B3_5.grow m os).cell 3 rfl
    have g3_5_4 := fun m os => (B3_5.grow m os).cell 4 rfl
    refine wp_region_calm (by kernel_rfl) (by kernel_rfl) ?_
    repeat (first | (refine lex_skip rfl (by rfl) ?_) | (refine lex_calm rfl (by rfl) (fun K hK => ?_); go_simp; first | (refine hK _ ?_; clear hK K) | (apply Exists.intro; refine ⟨fun _ _ => ?_, hK _ ?_⟩; (first | (with_reducible exact (V _).out) | (with_reducible exact (K3 _).out) | (with_reducible exact (K4 _).out) | (with_reducible exact (K5 _).out) | (with_reducible exact (K6 _).out) | (with_reducible exact (K7 _).out) | (with_reducible exact (A1 _).out)); clear hK K)))
    refine lex_nil ?_
    intro w4 G4
    have B4_0 : Blk w4 (w.heap.size) 39 [.int .i64 k1, .bool m1, .int .i64 s1, .int .i64 x1, .int .i64 y1] := B3_0.grew G4
    have B4_1 : Blk w4 (w.heap.size + 1) 39 [.int .i64 k2, .bool m2, .int .i64 s2, .int .i64 x2, .int .i64 y2] := B3_1.grew G4
    have B4_2 : Blk w4 (w.heap.size + 1 + 1) 23 [.int .i64 x, .int .i64 y, .int .i64 z, .int .i64 h] := B3_2.grew G4
    have B4_3 : Blk w4 (w.heap.size + 1 + 1 + 1) 25 [.int .i64 px, .int .i64 py] := B3_3.grew G4
    have B4_4 : Blk w4 (w1.heap.size) 39 [.int .i64 k3, .bool m3, .int .i64 s3, .int .i64 x3, .int .i64 y3] := B3_4.grew G4
    have B4_5 : Blk w4 (w2.heap.size) 39 [.int .i64 k3, .bool m3, .int .i64 s3, .int .i64 x3, .int .i64 y3] := B3_5.grew G4
    have z4 := G4.size
    replace G4 := hide G4
    have t4_0 := B4_0.lt
    have d4_0_0 := B4_0.cell 0 rfl
    have e4_0_0 := B4_0.free 0
    have d4_0_1 := B4_0.cell 1 rfl
    have e4_0_1 := B4_0.free 1
    have d4_0_2 := B4_0.cell 2 rfl
    have e4_0_2 := B4_0.free 2
    have d4_0_3 := B4_0.cell 3 rfl
    have e4_0_3 := B4_0.free 3
    have d4_0_4 := B4_0.cell 4 rfl
    have e4_0_4 := B4_0.free 4
    have t4_1 := B4_1.lt
    have d4_1_0 := B4_1.cell 0 rfl
    have e4_1_0 := B4_1.free 0
    have d4_1_1 := B4_1.cell 1 rfl
    have e4_1_1 := B4_1.free 1
    have d4_1_2 := B4_1.cell 2 rfl
    have e4_1_2 := B4_1.free 2
    have d4_1_3 := B4_1.cell 3 rfl
    have e4_1_3 := B4_1.free 3
    have d4_1_4 := B4_1.cell 4 rfl
    have e4_1_4 := B4_1.free 4
    have t4_2 := B4_2.lt
    have d4_2_0 := B4_2.cell 0 rfl
    have e4_2_0 := B4_2.free 0
    have d4_2_1 := B4_2.cell 1 rfl
    have e4_2_1 := B4_2.free 1
    have d4_2_2 := B4_2.cell 2 rfl
    have e4_2_2 := B4_2.free 2
    have d4_2_3 := B4_2.cell 3 rfl
    have e4_2_3 := B4_2.free 3
    have t4_3 := B4_3.lt
    have d4_3_0 := B4_3.cell 0 rfl
    have e4_3_0 := B4_3.free 0
    have d4_3_1 := B4_3.cell 1 rfl
    have e4_3_1 := B4_3.free 1
    have t4_4 := B4_4.lt
    have d4_4_0 := B4_4.cell 0 rfl
    have e4_4_0 := B4_4.free 0
    have d4_4_1 := B4_4.cell 1 rfl
    have e4_4_1 := B4_4.free 1
    have d4_4_2 := B4_4.cell 2 rfl
    have e4_4_2 := B4_4.free 2
    have d4_4_3 := B4_4.cell 3 rfl
    have e4_4_3 := B4_4.free 3
    have d4_4_4 := B4_4.cell 4 rfl
    have e4_4_4 := B4_4.free 4
    have t4_5 := B4_5.lt
    have d4_5_0 := B4_5.cell 0 rfl
    have e4_5_0 := B4_5.free 0
    have d4_5_1 := B4_5.cell 1 rfl
    have e4_5_1 := B4_5.free 1
    have d4_5_2 := B4_5.cell 2 rfl
    have e4_5_2 := B4_5.free 2
    have d4_5_3 := B4_5.cell 3 rfl
    have e4_5_3 := B4_5.free 3
    have d4_5_4 := B4_5.cell 4 rfl
    have e4_5_4 := B4_5.free 4
    go_wp2
    go_ret
    refine ⟨rfl, Grew.below ?_⟩
    repeat' (first | (with_reducible exact Grew.refl _) | (with_reducible refine Grew.setCell ?_ ?_ _) | (with_reducible refine Grew.drewN ?_ _) | (with_reducible refine Grew.alloc ?_ _) | (with_reducible refine Grew.trans ?_ G4.out) | (with_reducible refine Grew.trans ?_ G3.out) | (with_reducible refine Grew.trans ?_ G2.out) | (with_reducible refine Grew.trans ?_ G1.out) | (dsimp only; omega))
  | false =>
    have V := fun W => hide (Check_bad t W c)
    rw [c] at K3
    clear c
    obtain ⟨k1, m1, s1, x1, y1⟩ := t
    obtain ⟨k2, m2, s2, x2, y2⟩ := u
    obtain ⟨x, y, z, h⟩ := r
    obtain ⟨px, py⟩ := p
    go_enter Try.func6, Try.ntmps6
    go_wp2_with fail
    refine ((K1 _).out).mono ?_
    rintro e w1 ⟨rfl, G1⟩
    try (with_reducible replace G1 := Grew.undrawn G1)
    have B1_0 : Blk w1 (w.heap.size) 39 [.int .i64 k1, .bool m1, .int .i64 s1, .int .i64 x1, .int .i64 y1] := Blk.grew (by (repeat' (first | (with_reducible assumption) | ((with_reducible refine Blk.new ?_); (first | (with_reducible rfl) | (simp only [World.size_alloc, World.size_setCell, size_drewN]; done))) | (with_reducible refine Blk.alloc ?_ _) | (with_reducible refine Blk.drewN ?_ _) | (with_reducible refine Blk.drew ?_) | (refine Blk.other ?_ (by omega) _) | fail))) G1
    have B1_1 : Blk w1 (w.heap.size + 1) 39 [.int .i64 k2, .bool m2, .int .i64 s2, .int .i64 x2, .int .i64 y2] := Blk.grew (by (repeat' (first | (with_reducible assumption) | ((with_reducible refine Blk.new ?_); (first | (with_reducible rfl) | (simp only [World.size_alloc, World.size_setCell, size_drewN]; done))) | (with_reducible refine Blk.alloc ?_ _) | (with_reducible refine Blk.drewN ?_ _) | (with_reducible refine Blk.drew ?_) | (refine Blk.other ?_ (by omega) _) | fail))) G1
    have B1_2 : Blk w1 (w.heap.size + 1 + 1) 23 [.int .i64 x, .int .i64 y, .int .i64 z, .int .i64 h] := Blk.grew (by (repeat' (first | (with_reducible assumption) | ((with_reducible refine Blk.new ?_); (first | (with_reducible rfl) | (simp only [World.size_alloc, World.size_setCell, size_drewN]; done))) | (with_reducible refine Blk.alloc ?_ _) | (with_reducible refine Blk.drewN ?_ _) | (with_reducible refine Blk.drew ?_) | (refine Blk.other ?_ (by omega) _) | fail))) G1
    have B1_3 : Blk w1 (w.heap.size + 1 + 1 + 1) 25 [.int .i64 px, .int .i64 py] := Blk.grew (by (repeat' (first | (with_reducible assumption) | ((with_reducible refine Blk.new ?_); (first | (with_reducible rfl) | (simp only [World.size_alloc, World.size_setCell, size_drewN]; done))) | (with_reducible refine Blk.alloc ?_ _) | (with_reducible refine Blk.drewN ?_ _) | (with_reducible refine Blk.drew ?_) | (refine Blk.other ?_ (by omega) _) | fail))) G1
    have z1 := G1.size
    try simp only [World.size_alloc, World.size_setCell, size_drewN] at z1
    replace G1 := hide G1
    have t1_0 := B1_0.lt
    have d1_0_0 := B1_0.cell 0 rfl
    have e1_0_0 := B1_0.free 0
    have d1_0_1 := B1_0.cell 1 rfl
    have e1_0_1 := B1_0.free 1
    have d1_0_2 := B1_0.cell 2 rfl
    have e1_0_2 := B1_0.free 2
    have d1_0_3 := B1_0.cell 3 rfl
    have e1_0_3 := B1_0.free 3
    have d1_0_4 := B1_0.cell 4 rfl
    have e1_0_4 := B1_0.free 4
    have t1_1 := B1_1.lt
    have d1_1_0 := B1_1.cell 0 rfl
    have e1_1_0 := B1_1.free 0
    have d1_1_1 := B1_1.cell 1 rfl
    have e1_1_1 := B1_1.free 1
    have d1_1_2 := B1_1.cell 2 rfl
    have e1_1_2 := B1_1.free 2
    have d1_1_3 := B1_1.cell 3 rfl
    have e1_1_3 := B1_1.free 3
    have d1_1_4 := B1_1.cell 4 rfl
    have e1_1_4 := B1_1.free 4
    have t1_2 := B1_2.lt
    have d1_2_0 := B1_2.cell 0 rfl
    have e1_2_0 := B1_2.free 0
    have d1_2_1 := B1_2.cell 1 rfl
    have e1_2_1 := B1_2.free 1
    have d1_2_2 := B1_2.cell 2 rfl
    have e1_2_2 := B1_2.free 2
    have d1_2_3 := B1_2.cell 3 rfl
    have e1_2_3 := B1_2.free 3
    have t1_3 := B1_3.lt
    have d1_3_0 := B1_3.cell 0 rfl
    have e1_3_0 := B1_3.free 0
    have d1_3_1 := B1_3.cell 1 rfl
    have e1_3_1 := B1_3.free 1
    go_wp2_with fail
    refine ((K2 _).out).mono ?_
    rintro e w2 ⟨rfl, G2⟩
    try (with_reducible replace G2 := Grew.undrawn G2)
    have B2_0 : Blk w2 (w.heap.size) 39 [.int .i64 k1, .bool m1, .int .i64 s1, .int .i64 x1, .int .i64 y1] := Blk.grew (by (repeat' (first | (with_reducible assumption) | ((with_reducible refine Blk.new ?_); (first | (with_reducible rfl) | (simp only [World.size_alloc, World.size_setCell, size_drewN]; done))) | (with_reducible refine Blk.alloc ?_ _) | (with_reducible refine Blk.drewN ?_ _) | (with_reducible refine Blk.drew ?_) | (refine Blk.other ?_ (by omega) _) | fail))) G2
    have B2_1 : Blk w2 (w.heap.size + 1) 39 [.int .i64 k2, .bool m2, .int .i64 s2, .int .i64 x2, .int .i64 y2] := Blk.grew (by (repeat' (first | (with_reducible assumption) | ((with_reducible refine Blk.new ?_); (first | (with_reducible rfl) | (simp only [World.size_alloc, World.size_setCell, size_drewN]; done))) | (with_reducible refine Blk.alloc ?_ _) | (with_reducible refine Blk.drewN ?_ _) | (with_reducible refine Blk.drew ?_) | (refine Blk.other ?_ (by omega) _) | fail))) G2
    have B2_2 : Blk w2 (w.heap.size + 1 + 1) 23 [.int .i64 x, .int .i64 y, .int .i64 z, .int .i64 h] := Blk.grew (by (repeat' (first | (with_reducible assumption) | ((with_reducible refine Blk.new ?_); (first | (with_reducible rfl) | (simp only [World.size_alloc, World.size_setCell, size_drewN]; done))) | (with_reducible refine Blk.alloc ?_ _) | (with_reducible refine Blk.drewN ?_ _) | (with_reducible refine Blk.drew ?_) | (refine Blk.other ?_ (by omega) _) | fail))) G2
    have B2_3 : Blk w2 (w.heap.size + 1 + 1 + 1) 25 [.int .i64 px, .int .i64 py] := Blk.grew (by (repeat' (first | (with_reducible assumption) | ((with_reducible refine Blk.new ?_); (first | (with_reducible rfl) | (simp only [World.size_alloc, World.size_setCell, size_drewN]; done))) | (with_reducible refine Blk.alloc ?_ _) | (with_reducible refine Blk.drewN ?_ _) | (with_reducible refine Blk.drew ?_) | (refine Blk.other ?_ (by omega) _) | fail))) G2
    have B2_4 : Blk w2 (w1.heap.size) 39 [.int .i64 k3, .bool m3, .int .i64 s3, .int .i64 x3, .int .i64 y3] := Blk.grew (by (repeat' (first | (with_reducible assumption) | ((with_reducible refine Blk.new ?_); (first | (with_reducible rfl) | (simp only [World.size_alloc, World.size_setCell, size_drewN]; done))) | (with_reducible refine Blk.alloc ?_ _) | (with_reducible refine Blk.drewN ?_ _) | (with_reducible refine Blk.drew ?_) | (refine Blk.other ?_ (by omega) _) | fail))) G2
    have z2 := G2.size
    try simp only [World.size_alloc, World.size_setCell, size_drewN] at z2
    replace G2 := hide G2
    have t2_0 := B2_0.lt
    have d2_0_0 := B2_0.cell 0 rfl
    have e2_0_0 := B2_0.free 0
    have d2_0_1 := B2_0.cell 1 rfl
    have e2_0_1 := B2_0.free 1
    have d2_0_2 := B2_0.cell 2 rfl
    have e2_0_2 := B2_0.free 2
    have d2_0_3 := B2_0.cell 3 rfl
    have e2_0_3 := B2_0.free 3
    have d2_0_4 := B2_0.cell 4 rfl
    have e2_0_4 := B2_0.free 4
    have t2_1 := B2_1.lt
    have d2_1_0 := B2_1.cell 0 rfl
    have e2_1_0 := B2_1.free 0
    have d2_1_1 := B2_1.cell 1 rfl
    have e2_1_1 := B2_1.free 1
    have d2_1_2 := B2_1.cell 2 rfl
    have e2_1_2 := B2_1.free 2
    have d2_1_3 := B2_1.cell 3 rfl
    have e2_1_3 := B2_1.free 3
    have d2_1_4 := B2_1.cell 4 rfl
    have e2_1_4 := B2_1.free 4
    have t2_2 := B2_2.lt
    have d2_2_0 := B2_2.cell 0 rfl
    have e2_2_0 := B2_2.free 0
    have d2_2_1 := B2_2.cell 1 rfl
    have e2_2_1 := B2_2.free 1
    have d2_2_2 := B2_2.cell 2 rfl
    have e2_2_2 := B2_2.free 2
    have d2_2_3 := B2_2.cell 3 rfl
    have e2_2_3 := B2_2.free 3
    have t2_3 := B2_3.lt
    have d2_3_0 := B2_3.cell 0 rfl
    have e2_3_0 := B2_3.free 0
    have d2_3_1 := B2_3.cell 1 rfl
    have e2_3_1 := B2_3.free 1
    have t2_4 := B2_4.lt
    have d2_4_0 := B2_4.cell 0 rfl
    have e2_4_0 := B2_4.free 0
    have d2_4_1 := B2_4.cell 1 rfl
    have e2_4_1 := B2_4.free 1
    have d2_4_2 := B2_4.cell 2 rfl
    have e2_4_2 := B2_4.free 2
    have d2_4_3 := B2_4.cell 3 rfl
    have e2_4_3 := B2_4.free 3
    have d2_4_4 := B2_4.cell 4 rfl
    have e2_4_4 := B2_4.free 4
    go_wp2_with fail
    refine name_world fun w3 h3 => ?_
    have G3 : Grew w w3 := by
      rw [h3]
      repeat' (first | (with_reducible exact Grew.refl _) | (with_reducible refine Grew.setCell ?_ ?_ _) | (with_reducible refine Grew.drewN ?_ _) | (with_reducible refine Grew.alloc ?_ _) | (with_reducible refine Grew.trans ?_ G3.out) | (with_reducible refine Grew.trans ?_ G2.out) | (with_reducible refine Grew.trans ?_ G1.out) | (dsimp only; omega))
    have B3_0 : Blk w3 (w.heap.size) 39 [.int .i64 k1, .bool m1, .int .i64 s1, .int .i64 x1, .int .i64 y1] := by (rw [h3]; repeat' (first | (with_reducible assumption) | ((with_reducible refine Blk.new ?_); (first | (with_reducible rfl) | (simp only [World.size_alloc, World.size_setCell, size_drewN]; done))) | (with_reducible refine Blk.alloc ?_ _) | (with_reducible refine Blk.drewN ?_ _) | (with_reducible refine Blk.drew ?_) | (refine Blk.other ?_ (by omega) _) | fail))
    have B3_1 : Blk w3 (w.heap.size + 1) 39 [.int .i64 k2, .bool m2, .int .i64 s2, .int .i64 x2, .int .i64 y2] := by (rw [h3]; repeat' (first | (with_reducible assumption) | ((with_reducible refine Blk.new ?_); (first | (with_reducible rfl) | (simp only [World.size_alloc, World.size_setCell, size_drewN]; done))) | (with_reducible refine Blk.alloc ?_ _) | (with_reducible refine Blk.drewN ?_ _) | (with_reducible refine Blk.drew ?_) | (refine Blk.other ?_ (by omega) _) | fail))
    have B3_2 : Blk w3 (w.heap.size + 1 + 1) 23 [.int .i64 x, .int .i64 y, .int .i64 z, .int .i64 h] := by (rw [h3]; repeat' (first | (with_reducible assumption) | ((with_reducible refine Blk.new ?_); (first | (with_reducible rfl) | (simp only [World.size_alloc, World.size_setCell, size_drewN]; done))) | (with_reducible refine Blk.alloc ?_ _) | (with_reducible refine Blk.drewN ?_ _) | (with_reducible refine Blk.drew ?_) | (refine Blk.other ?_ (by omega) _) | fail))
    have B3_3 : Blk w3 (w.heap.size + 1 + 1 + 1) 25 [.int .i64 px, .int .i64 py] := by (rw [h3]; repeat' (first | (with_reducible assumption) | ((with_reducible refine Blk.new ?_); (first | (with_reducible rfl) | (simp only [World.size_alloc, World.size_setCell, size_drewN]; done))) | (with_reducible refine Blk.alloc ?_ _) | (with_reducible refine Blk.drewN ?_ _) | (with_reducible refine Blk.drew ?_) | (refine Blk.other ?_ (by omega) _) | fail))
    have B3_4 : Blk w3 (w1.heap.size) 39 [.int .i64 k3, .bool m3, .int .i64 s3, .int .i64 x3, .int .i64 y3] := by (rw [h3]; repeat' (first | (with_reducible assumption) | ((with_reducible refine Blk.new ?_); (first | (with_reducible rfl) | (simp only [World.size_alloc, World.size_setCell, size_drewN]; done))) | (with_reducible refine Blk.alloc ?_ _) | (with_reducible refine Blk.drewN ?_ _) | (with_reducible refine Blk.drew ?_) | (refine Blk.other ?_ (by omega) _) | fail))
    have B3_5 : Blk w3 (w2.heap.size) 39 [.int .i64 k3, .bool m3, .int .i64 s3, .int .i64 x3, .int .i64 y3] := by (rw [h3]; repeat' (first | (with_reducible assumption) | ((with_reducible refine Blk.new ?_); (first | (with_reducible rfl) | (simp only [World.size_alloc, World.size_setCell, size_drewN]; done))) | (with_reducible refine Blk.alloc ?_ _) | (with_reducible refine Blk.drewN ?_ _) | (with_reducible refine Blk.drew ?_) | (refine Blk.other ?_ (by omega) _) | fail))
    have z3 := G3.size
    replace G3 := hide G3
    clear h3
    have t3_0 := B3_0.lt
    have d3_0_0 := B3_0.cell 0 rfl
    have e3_0_0 := B3_0.free 0
    have d3_0_1 := B3_0.cell 1 rfl
    have e3_0_1 := B3_0.free 1
    have d3_0_2 := B3_0.cell 2 rfl
    have e3_0_2 := B3_0.free 2
    have d3_0_3 := B3_0.cell 3 rfl
    have e3_0_3 := B3_0.free 3
    have d3_0_4 := B3_0.cell 4 rfl
    have e3_0_4 := B3_0.free 4
    have t3_1 := B3_1.lt
    have d3_1_0 := B3_1.cell 0 rfl
    have e3_1_0 := B3_1.free 0
    have d3_1_1 := B3_1.cell 1 rfl
    have e3_1_1 := B3_1.free 1
    have d3_1_2 := B3_1.cell 2 rfl
    have e3_1_2 := B3_1.free 2
    have d3_1_3 := B3_1.cell 3 rfl
    have e3_1_3 := B3_1.free 3
    have d3_1_4 := B3_1.cell 4 rfl
    have e3_1_4 := B3_1.free 4
    have t3_2 := B3_2.lt
    have d3_2_0 := B3_2.cell 0 rfl
    have e3_2_0 := B3_2.free 0
    have d3_2_1 := B3_2.cell 1 rfl
    have e3_2_1 := B3_2.free 1
    have d3_2_2 := B3_2.cell 2 rfl
    have e3_2_2 := B3_2.free 2
    have d3_2_3 := B3_2.cell 3 rfl
    have e3_2_3 := B3_2.free 3
    have t3_3 := B3_3.lt
    have d3_3_0 := B3_3.cell 0 rfl
    have e3_3_0 := B3_3.free 0
    have d3_3_1 := B3_3.cell 1 rfl
    have e3_3_1 := B3_3.free 1
    have t3_4 := B3_4.lt
    have d3_4_0 := B3_4.cell 0 rfl
    have e3_4_0 := B3_4.free 0
    have d3_4_1 := B3_4.cell 1 rfl
    have e3_4_1 := B3_4.free 1
    have d3_4_2 := B3_4.cell 2 rfl
    have e3_4_2 := B3_4.free 2
    have d3_4_3 := B3_4.cell 3 rfl
    have e3_4_3 := B3_4.free 3
    have d3_4_4 := B3_4.cell 4 rfl
    have e3_4_4 := B3_4.free 4
    have t3_5 := B3_5.lt
    have d3_5_0 := B3_5.cell 0 rfl
    have e3_5_0 := B3_5.free 0
    have d3_5_1 := B3_5.cell 1 rfl
    have e3_5_1 := B3_5.free 1
    have d3_5_2 := B3_5.cell 2 rfl
    have e3_5_2 := B3_5.free 2
    have d3_5_3 := B3_5.cell 3 rfl
    have e3_5_3 := B3_5.free 3
    have d3_5_4 := B3_5.cell 4 rfl
    have e3_5_4 := B3_5.free 4
    have g3_0_0 := fun m os => (B3_0.grow m os).cell 0 rfl
    have g3_0_1 := fun m os => (B3_0.grow m os).cell 1 rfl
    have g3_0_2 := fun m os => (B3_0.grow m os).cell 2 rfl
    have g3_0_3 := fun m os => (B3_0.grow m os).cell 3 rfl
    have g3_0_4 := fun m os => (B3_0.grow m os).cell 4 rfl
    have g3_1_0 := fun m os => (B3_1.grow m os).cell 0 rfl
    have g3_1_1 := fun m os => (B3_1.grow m os).cell 1 rfl
    have g3_1_2 := fun m os => (B3_1.grow m os).cell 2 rfl
    have g3_1_3 := fun m os => (B3_1.grow m os).cell 3 rfl
    have g3_1_4 := fun m os => (B3_1.grow m os).cell 4 rfl
    have g3_2_0 := fun m os => (B3_2.grow m os).cell 0 rfl
    have g3_2_1 := fun m os => (B3_2.grow m os).cell 1 rfl
    have g3_2_2 := fun m os => (B3_2.grow m os).cell 2 rfl
    have g3_2_3 := fun m os => (B3_2.grow m os).cell 3 rfl
    have g3_3_0 := fun m os => (B3_3.grow m os).cell 0 rfl
    have g3_3_1 := fun m os => (B3_3.grow m os).cell 1 rfl
    have g3_4_0 := fun m os => (B3_4.grow m os).cell 0 rfl
    have g3_4_1 := fun m os => (B3_4.grow m os).cell 1 rfl
    have g3_4_2 := fun m os => (B3_4.grow m os).cell 2 rfl
    have g3_4_3 := fun m os => (B3_4.grow m os).cell 3 rfl
    have g3_4_4 := fun m os => (B3_4.grow m os).cell 4 rfl
    have g3_5_0 := fun m os => (B3_5.grow m os).cell 0 rfl
    have g3_5_1 := fun m os => (B3_5.grow m os).cell 1 rfl
    have g3_5_2 := fun m os => (B3_5.grow m os).cell 2 rfl
    have g3_5_3 := fun m os => (B3_5.grow m os).cell 3 rfl
    have g3_5_4 := fun m os => (B3_5.grow m os).cell 4 rfl
    refine wp_region_calm (by kernel_rfl) (by kernel_rfl) ?_
    repeat (first | (refine lex_skip rfl (by rfl) ?_) | (refine lex_calm rfl (by rfl) (fun K hK => ?_); go_simp; first | (refine hK _ ?_; clear hK K) | (apply Exists.intro; refine ⟨fun _ _ => ?_, hK _ ?_⟩; (first | (with_reducible exact (V _).out) | (with_reducible exact (K3 _).out) | (with_reducible exact (K4 _).out) | (with_reducible exact (K5 _).out) | (with_reducible exact (K6 _).out) | (with_reducible exact (K7 _).out) | (with_reducible exact (A1 _).out)); clear hK K)))
    refine lex_nil ?_
    intro w4 G4
    have B4_0 : Blk w4 (w.heap.size) 39 [.int .i64 k1, .bool m1, .int .i64 s1, .int .i64 x1, .int .i64 y1] := B3_0.grew G4
    have B4_1 : Blk w4 (w.heap.size + 1) 39 [.int .i64 k2, .bool m2, .int .i64 s2, .int .i64 x2, .int .i64 y2] := B3_1.grew G4
    have B4_2 : Blk w4 (w.heap.size + 1 + 1) 23 [.int .i64 x, .int .i64 y, .int .i64 z, .int .i64 h] := B3_2.grew G4
    have B4_3 : Blk w4 (w.heap.size + 1 + 1 + 1) 25 [.int .i64 px, .int .i64 py] := B3_3.grew G4
    have B4_4 : Blk w4 (w1.heap.size) 39 [.int .i64 k3, .bool m3, .int .i64 s3, .int .i64 x3, .int .i64 y3] := B3_4.grew G4
    have B4_5 : Blk w4 (w2.heap.size) 39 [.int .i64 k3, .bool m3, .int .i64 s3, .int .i64 x3, .int .i64 y3] := B3_5.grew G4
    have z4 := G4.size
    replace G4 := hide G4
    have t4_0 := B4_0.lt
    have d4_0_0 := B4_0.cell 0 rfl
    have e4_0_0 := B4_0.free 0
    have d4_0_1 := B4_0.cell 1 rfl
    have e4_0_1 := B4_0.free 1
    have d4_0_2 := B4_0.cell 2 rfl
    have e4_0_2 := B4_0.free 2
    have d4_0_3 := B4_0.cell 3 rfl
    have e4_0_3 := B4_0.free 3
    have d4_0_4 := B4_0.cell 4 rfl
    have e4_0_4 := B4_0.free 4
    have t4_1 := B4_1.lt
    have d4_1_0 := B4_1.cell 0 rfl
    have e4_1_0 := B4_1.free 0
    have d4_1_1 := B4_1.cell 1 rfl
    have e4_1_1 := B4_1.free 1
    have d4_1_2 := B4_1.cell 2 rfl
    have e4_1_2 := B4_1.free 2
    have d4_1_3 := B4_1.cell 3 rfl
    have e4_1_3 := B4_1.free 3
    have d4_1_4 := B4_1.cell 4 rfl
    have e4_1_4 := B4_1.free 4
    have t4_2 := B4_2.lt
    have d4_2_0 := B4_2.cell 0 rfl
    have e4_2_0 := B4_2.free 0
    have d4_2_1 := B4_2.cell 1 rfl
    have e4_2_1 := B4_2.free 1
    have d4_2_2 := B4_2.cell 2 rfl
    have e4_2_2 := B4_2.free 2
    have d4_2_3 := B4_2.cell 3 rfl
    have e4_2_3 := B4_2.free 3
    have t4_3 := B4_3.lt
    have d4_3_0 := B4_3.cell 0 rfl
    have e4_3_0 := B4_3.free 0
    have d4_3_1 := B4_3.cell 1 rfl
    have e4_3_1 := B4_3.free 1
    have t4_4 := B4_4.lt
    have d4_4_0 := B4_4.cell 0 rfl
    have e4_4_0 := B4_4.free 0
    have d4_4_1 := B4_4.cell 1 rfl
    have e4_4_1 := B4_4.free 1
    have d4_4_2 := B4_4.cell 2 rfl
    have e4_4_2 := B4_4.free 2
    have d4_4_3 := B4_4.cell 3 rfl
    have e4_4_3 := B4_4.free 3
    have d4_4_4 := B4_4.cell 4 rfl
    have e4_4_4 := B4_4.free 4
    have t4_5 := B4_5.lt
    have d4_5_0 := B4_5.cell 0 rfl
    have e4_5_0 := B4_5.free 0
    have d4_5_1 := B4_5.cell 1 rfl
    have e4_5_1 := B4_5.free 1
    have d4_5_2 := B4_5.cell 2 rfl
    have e4_5_2 := B4_5.free 2
    have d4_5_3 := B4_5.cell 3 rfl
    have e4_5_3 := B4_5.free 3
    have d4_5_4 := B4_5.cell 4 rfl
    have e4_5_4 := B4_5.free 4
    go_wp2
    go_ret
    refine ⟨rfl, Grew.below ?_⟩
    repeat' (first | (with_reducible exact Grew.refl _) | (with_reducible refine Grew.setCell ?_ ?_ _) | (with_reducible refine Grew.drewN ?_ _) | (with_reducible refine Grew.alloc ?_ _) | (with_reducible refine Grew.trans ?_ G4.out) | (with_reducible refine Grew.trans ?_ G3.out) | (with_reducible refine Grew.trans ?_ G2.out) | (with_reducible refine Grew.trans ?_ G1.out) | (dsimp only; omega))

set_option maxRecDepth 100000 in
theorem lifted (os : Os) (started : os.Started) (H : Type) (enc : TypeId × Value → H) :
    ReturnsInHanded {} Try.checked os 6 .any (Rows.geometryTransformsSpec.pre6 enc Try.prog Try.f6 Rows.geometryTransformsRow.domain false) (Rows.geometryTransformsSpec.post enc Try.prog Try.f6 false true false false) := by
  refine returnsInHanded_of_change (C := Try.checked) own_knob started (by kernel_rfl) Try.func6
    (ChangeSpec.witness6 (enc := enc) (C := Try.checked) false ⟨#[], #[.agg #[.int .i64 0, .bool false, .int .i64 0, .int .i64 0, .int .i64 0], .agg #[.int .i64 0, .bool false, .int .i64 0, .int .i64 0, .int .i64 0], .agg #[.int .i64 0, .int .i64 0, .int .i64 0, .int .i64 0], .agg #[.int .i64 0, .int .i64 0]], []⟩ 8 (by kernel_rfl) (by kernel_rfl) (by kernel_rfl) (by kernel_rfl)) ?_
  intro W base args ds gs before hval0 hW hcnd _
  have hval : ∀ (j : Nat) t v, Try.f6.params[j]? = some t → args[j]? = some v → Value.okWide Try.prog W .any base t v := hval0
  have hW' := hW
  obtain ⟨p, q, hA0, hV, rfl, hfz, hnd⟩ := hW
  have hA : DataW.TrodAll enc Try.prog W 0 (fun _ => true) true Try.f6.params.toList args.toList ds p := hA0
  have hAk := hA
  rw [Try.params6] at hA hval
  obtain ⟨v0, vs0, d0, ds0, p0, q0, hargs, rfl, rfl, h0, r0⟩ := trodAll_cons hA
  obtain ⟨v1, vs1, d1, ds1, p1, q1, rfl, rfl, rfl, h1, r1⟩ := trodAll_cons r0
  obtain ⟨v2, vs2, d2, ds2, p2, q2, rfl, rfl, rfl, h2, r2⟩ := trodAll_cons r1
  obtain ⟨v3, vs3, d3, ds3, p3, q3, rfl, rfl, rfl, h3, r3⟩ := trodAll_cons r2
  obtain ⟨rfl, rfl, rfl⟩ := trodAll_nil r3
  obtain rfl : args = #[v0, v1, v2, v3] := by cases args; simp_all
  obtain ⟨rfl, rfl⟩ := trodVars_none hV
  obtain ⟨a0, rfl⟩ := open_transform (hval 0 39 v0 rfl rfl) h0
  obtain ⟨a1, rfl⟩ := open_transform (hval 1 39 v1 rfl rfl) h1
  obtain ⟨a2, rfl⟩ := open_rect (hval 2 23 v2 rfl rfl) h2
  obtain ⟨a3, rfl⟩ := open_point (hval 3 25 v3 rfl rfl) h3
  clear hA0 hval0
  simp only [List.append_nil] at hW'
  refine (walk a0 a1 a2 a3 W).mono fun e W' ⟨he, hg⟩ => ?_
  subst he
  have hargs' := kept_all hg _ _ _ _ (by rw [Try.params6]; intro t ht; simp only [List.mem_cons, List.not_mem_nil, or_false] at ht; (repeat' (rcases ht with rfl | ht)); all_goals first | (subst ht; exact ⟨by kernel_rfl, of_decide_eq_true (by kernel_rfl)⟩) | exact ⟨by kernel_rfl, of_decide_eq_true (by kernel_rfl)⟩) hAk (fun x hx => hW'.lt x (by simpa using hx))
  exact ⟨_, rfl, ⟨_, _, _, [], _, [], hW', trodAll_cons_mk (shut_bool Try.underlying4 _) trodAll_mk0, hargs', rfl, World.keptBut_mono (fun p hp => ⟨hp, Or.inr (by simpa using hp)⟩) (hg.frame _), fun h => by cases h⟩⟩

theorem over : Rows.geometryTransformsRow.holds Try.pinned (OpenSpec.ofChange Rows.geometryTransformsSpec) :=
  OpenClaim.holds_of_wide 6 Try.f6 rfl rfl rfl rfl rfl rfl rfl ⟨rfl, rfl, rfl, rfl, rfl⟩ rfl rfl rfl rfl rfl (by kernel_rfl) Try.func6 (by kernel_rfl)
    (of_decide_eq_true (by kernel_rfl)) (by unfold Func.isWrapper; first | (rw [if_pos (by decide +kernel)]; kernel_rfl) | (rw [if_neg (by decide +kernel)]; exact ⟨rfl, rfl⟩))
    (fun os started H enc _ => lifted os started H enc)

theorem proved : Rows.GeometryTransformsSaid :=
  over
#print axioms proved
end Go.Proofs.Ythldilikkogaoaa.geometryTransforms
