/- The law GeometryTurns returns true for all numbers and every rectangle, and leaves the arguments and all old memory as they were; no condition. -/
import Derived.Test.YthldilikkogaoaaRows
import Derived.Test.YthldilikkogaoaaGlNear
import Derived.Test.YthldilikkogaoaaGlSmall
import Derived.Test.YthldilikkogaoaaGlAwake
import Derived.Test.YthldilikkogaoaaGlOpen
import Derived.WalkKit
import Derived.ProofKit
import Derived.OpenShut
namespace Go.Proofs.Ythldilikkogaoaa.geometryTurns
open Go.ChangeShapes Go.WideShapes Go.ChangeAt Go.RowKit Go.Sort
set_option linter.unusedVariables false
set_option linter.unusedSimpArgs false

set_option maxHeartbeats 4000000 in
theorem walk (k s dx dy : Int) (m : Bool) (r : R) (w : World) :
    Calls Try.prog 9 #[.int .i64 k, .int .i64 s, .int .i64 dx, .int .i64 dy, .bool m, r.v] w fun e w' => e = .returned (.bool true) ∧ Below w.heap.size w w' := by
  obtain ⟨x, y, z, h⟩ := r
  have S := fun W => hide (small_any k s dx dy m W)
  have a1 := and63 z
  have a2 := and63 h
  have A1 := fun W => hide (awake_any W)
  have nt := (near_small k s dx dy m).1
  have nr := near_rect x y z h
  obtain ⟨L1, L2⟩ := turns_law nr
  obtain ⟨L3, b1, b2, b3⟩ := area_law nt nr
  have K1 := fun W => hide (Apply_any ⟨1, false, 1, 0, 0⟩ ⟨x.tmod 100, y.tmod 100, z % 64, h % 64⟩ W)
  generalize q1d : T.apply ⟨1, false, 1, 0, 0⟩ ⟨x.tmod 100, y.tmod 100, z % 64, h % 64⟩ = q1 at K1 L1
  have K2 := fun W => hide (Apply_any ⟨1, false, 1, 0, 0⟩ q1 W)
  generalize q2d : T.apply ⟨1, false, 1, 0, 0⟩ q1 = q2 at K2 L1
  have K3 := fun W => hide (Apply_any ⟨1, false, 1, 0, 0⟩ q2 W)
  generalize q3d : T.apply ⟨1, false, 1, 0, 0⟩ q2 = q3 at K3 L1
  have K4 := fun W => hide (Apply_any ⟨1, false, 1, 0, 0⟩ q3 W)
  rw [L1] at K4
  have K5 := fun W => hide (Apply_any ⟨0, true, 1, 0, 0⟩ ⟨x.tmod 100, y.tmod 100, z % 64, h % 64⟩ W)
  generalize q5d : T.apply ⟨0, true, 1, 0, 0⟩ ⟨x.tmod 100, y.tmod 100, z % 64, h % 64⟩ = q5 at K5 L2
  have K6 := fun W => hide (Apply_any ⟨0, true, 1, 0, 0⟩ q5 W)
  rw [L2] at K6
  have K7 := fun W => hide (Apply_any ⟨k % 4, m, 1 + s % 4, dx.tmod 1000, dy.tmod 1000⟩ ⟨x.tmod 100, y.tmod 100, z % 64, h % 64⟩ W)
  generalize T.apply ⟨k % 4, m, 1 + s % 4, dx.tmod 1000, dy.tmod 1000⟩ ⟨x.tmod 100, y.tmod 100, z % 64, h % 64⟩ = q7 at K7 L3
  clear q1d q2d q3d q5d nt nr L1 L2
  obtain ⟨p1, p2, p3, p4⟩ := q1
  obtain ⟨p5, p6, p7, p8⟩ := q2
  obtain ⟨o1, o2, o3, o4⟩ := q3
  obtain ⟨o5, o6, o7, o8⟩ := q5
  obtain ⟨i1, i2, i3, i4⟩ := q7
  simp only at L3 b1 b2 b3
  have v1 : IntKind.i64.wrap (z % 64 * (h % 64)) = z % 64 * (h % 64) := wr (by omega) (by omega)
  have v2 : IntKind.i64.wrap (z % 64 * (h % 64) * (1 + s % 4)) = z % 64 * (h % 64) * (1 + s % 4) := wr (by omega) (by omega)
  have v3 : IntKind.i64.wrap (z % 64 * (h % 64) * (1 + s % 4) * (1 + s % 4)) = z % 64 * (h % 64) * (1 + s % 4) * (1 + s % 4) := wr (by omega) (by omega)
  have v4 : IntKind.i64.wrap (i3 * i4) = i3 * i4 := by rw [L3]; exact v3
  go_enter Try.func9, Try.ntmps9
  go_wp2_with fail
  refine ((S _).out).mono ?_
  rintro e w1 ⟨rfl, G1⟩
  try (with_reducible replace G1 := Grew.undrawn G1)
  have B1_0 : Blk w1 (w.heap.size) 23 [.int .i64 x, .int .i64 y, .int .i64 z, .int .i64 h] := Blk.grew (by (repeat' (first | (with_reducible assumption) | ((with_reducible refine Blk.new ?_); (first | (with_reducible rfl) | (simp only [World.size_alloc, World.size_setCell, size_drewN]; done))) | (with_reducible refine Blk.alloc ?_ _) | (with_reducible refine Blk.drewN ?_ _) | (with_reducible refine Blk.drew ?_) | (refine Blk.other ?_ (by omega) _) | fail))) G1
  have z1 := G1.size
  try simp only [World.size_alloc, World.size_setCell, size_drewN] at z1
  replace G1 := hide G1
  have t1_0 := B1_0.lt
  have d1_0_0 := B1_0.cell 0 rfl
  have e1_0_0 := B1_0.free 0
  have d1_0_1 := B1_0.cell 1 rfl
  have e1_0_1 := B1_0.free 1
  have d1_0_2 := B1_0.cell 2 rfl
  have e1_0_2 := B1_0.free 2
  have d1_0_3 := B1_0.cell 3 rfl
  have e1_0_3 := B1_0.free 3
  go_wp2_with fail
  refine name_world fun w2 h2 => ?_
  have G2 : Grew w w2 := by
    rw [h2]
    repeat' (first | (with_reducible exact Grew.refl _) | (with_reducible refine Grew.setCell ?_ ?_ _) | (with_reducible refine Grew.drewN ?_ _) | (with_reducible refine Grew.alloc ?_ _) | (with_reducible refine Grew.trans ?_ G2.out) | (with_reducible refine Grew.trans ?_ G1.out) | (dsimp only; omega))
  have B2_0 : Blk w2 (w.heap.size) 23 [.int .i64 x, .int .i64 y, .int .i64 z, .int .i64 h] := by (rw [h2]; repeat' (first | (with_reducible assumption) | ((with_reducible refine Blk.new ?_); (first | (with_reducible rfl) | (simp only [World.size_alloc, World.size_setCell, size_drewN]; done))) | (with_reducible refine Blk.alloc ?_ _) | (with_reducible refine Blk.drewN ?_ _) | (with_reducible refine Blk.drew ?_) | (refine Blk.other ?_ (by omega) _) | fail))
  have B2_1 : Blk w2 (w1.heap.size) 39 [.int .i64 (k % 4), .bool m, .int .i64 (1 + s % 4), .int .i64 (dx.tmod 1000), .int .i64 (dy.tmod 1000)] := by (rw [h2]; repeat' (first | (with_reducible assumption) | ((with_reducible refine Blk.new ?_); (first | (with_reducible rfl) | (simp only [World.size_alloc, World.size_setCell, size_drewN]; done))) | (with_reducible refine Blk.alloc ?_ _) | (with_reducible refine Blk.drewN ?_ _) | (with_reducible refine Blk.drew ?_) | (refine Blk.other ?_ (by omega) _) | fail))
  have B2_2 : Blk w2 (w1.heap.size + 1) 23 [.int .i64 (x.tmod 100), .int .i64 (y.tmod 100), .int .i64 (z % 64), .int .i64 (h % 64)] := by (rw [h2]; repeat' (first | (with_reducible assumption) | ((with_reducible refine Blk.new ?_); (first | (with_reducible rfl) | (simp only [World.size_alloc, World.size_setCell, size_drewN]; done))) | (with_reducible refine Blk.alloc ?_ _) | (with_reducible refine Blk.drewN ?_ _) | (with_reducible refine Blk.drew ?_) | (refine Blk.other ?_ (by omega) _) | fail))
  have B2_3 : Blk w2 (w1.heap.size + 1 + 1) 39 [.int .i64 1, .bool false, .int .i64 1, .int .i64 0, .int .i64 0] := by (rw [h2]; repeat' (first | (with_reducible assumption) | ((with_reducible refine Blk.new ?_); (first | (with_reducible rfl) | (simp only [World.size_alloc, World.size_setCell, size_drewN]; done))) | (with_reducible refine Blk.alloc ?_ _) | (with_reducible refine Blk.drewN ?_ _) | (with_reducible refine Blk.drew ?_) | (refine Blk.other ?_ (by omega) _) | fail))
  have B2_4 : Blk w2 (w1.heap.size + 1 + 1 + 1) 39 [.int .i64 0, .bool true, .int .i64 1, .int .i64 0, .int .i64 0] := by (rw [h2]; repeat' (first | (with_reducible assumption) | ((with_reducible refine Blk.new ?_); (first | (with_reducible rfl) | (simp only [World.size_alloc, World.size_setCell, size_drewN]; done))) | (with_reducible refine Blk.alloc ?_ _) | (with_reducible refine Blk.drewN ?_ _) | (with_reducible refine Blk.drew ?_) | (refine Blk.other ?_ (by omega) _) | fail))
  have z2 := G2.size
  replace G2 := hide G2
  clear h2
  have t2_0 := B2_0.lt
  have d2_0_0 := B2_0.cell 0 rfl
  have e2_0_0 := B2_0.free 0
  have d2_0_1 := B2_0.cell 1 rfl
  have e2_0_1 := B2_0.free 1
  have d2_0_2 := B2_0.cell 2 rfl
  have e2_0_2 := B2_0.free 2
  have d2_0_3 := B2_0.cell 3 rfl
  have e2_0_3 := B2_0.free 3
  have t2_1 := B2_1.lt
  have d2_1_0 := B2_1.cell 0 rfl
  have e2_1_0 := B2_1.free 0
  have d2_1_1 := B2_1.cell 1 rfl
  have e2_1_1 := B2_1.free 1
  have d2_1_2 := B2_1.cell 2 rfl
  have e2_1_2 := B2_1.free 2
  have d2_1_3 := B2_1.cell 3 rfl
  have e2_1_3 := B2_1.free 3
  have d2_1_4 := B2_1.cell 4 rfl
  have e2_1_4 := B2_1.free 4
  have t2_2 := B2_2.lt
  have d2_2_0 := B2_2.cell 0 rfl
  have e2_2_0 := B2_2.free 0
  have d2_2_1 := B2_2.cell 1 rfl
  have e2_2_1 := B2_2.free 1
  have d2_2_2 := B2_2.cell 2 rfl
  have e2_2_2 := B2_2.free 2
  have d2_2_3 := B2_2.cell 3 rfl
  have e2_2_3 := B2_2.free 3
  have t2_3 := B2_3.lt
  have d2_3_0 := B2_3.cell 0 rfl
  have e2_3_0 := B2_3.free 0
  have d2_3_1 := B2_3.cell 1 rfl
  have e2_3_1 := B2_3.free 1
  have d2_3_2 := B2_3.cell 2 rfl
  have e2_3_2 := B2_3.free 2
  have d2_3_3 := B2_3.cell 3 rfl
  have e2_3_3 := B2_3.free 3
  have d2_3_4 := B2_3.cell 4 rfl
  have e2_3_4 := B2_3.free 4
  have t2_4 := B2_4.lt
  have d2_4_0 := B2_4.cell 0 rfl
  have e2_4_0 := B2_4.free 0
  have d2_4_1 := B2_4.cell 1 rfl
  have e2_4_1 := B2_4.free 1
  have d2_4_2 := B2_4.cell 2 rfl
  have e2_4_2 := B2_4.free 2
  have d2_4_3 := B2_4.cell 3 rfl
  have e2_4_3 := B2_4.free 3
  have d2_4_4 := B2_4.cell 4 rfl
  have e2_4_4 := B2_4.free 4
  have g2_0_0 := fun m os => (B2_0.grow m os).cell 0 rfl
  have g2_0_1 := fun m os => (B2_0.grow m os).cell 1 rfl
  have g2_0_2 := fun m os => (B2_0.grow m os).cell 2 rfl
  have g2_0_3 := fun m os => (B2_0.grow m os).cell 3 rfl
  have g2_1_0 := fun m os => (B2_1.grow m os).cell 0 rfl
  have g2_1_1 := fun m os => (B2_1.grow m os).cell 1 rfl
  have g2_1_2 := fun m os => (B2_1.grow m os).cell 2 rfl
  have g2_1_3 := fun m os => (B2_1.grow m os).cell 3 rfl
  have g2_1_4 := fun m os => (B2_1.grow m os).cell 4 rfl
  have g2_2_0 := fun m os => (B2_2.grow m os).cell 0 rfl
  have g2_2_1 := fun m os => (B2_2.grow m os).cell 1 rfl
  have g2_2_2 := fun m os => (B2_2.grow m os).cell 2 rfl
  have g2_2_3 := fun m os => (B2_2.grow m os).cell 3 rfl
  have g2_3_0 := fun m os => (B2_3.grow m os).cell 0 rfl
  have g2_3_1 := fun m os => (B2_3.grow m os).cell 1 rfl
  have g2_3_2 := fun m os => (B2_3.grow m os).cell 2 rfl
  have g2_3_3 := fun m os => (B2_3.grow m os).cell 3 rfl
  have g2_3_4 := fun m os => (B2_3.grow m os).cell 4 rfl
  have g2_4_0 := fun m os => (B2_4.grow m os).cell 0 rfl
  have g2_4_1 := fun m os => (B2_4.grow m os).cell 1 rfl
  have g2_4_2 := fun m os => (B2_4.grow m os).cell 2 rfl
  have g2_4_3 := fun m os => (B2_4.grow m os).cell 3 rfl
  have g2_4_4 := fun m os => (B2_4.grow m os).cell 4 rfl
  refine wp_region_made [⟨9, 10, 17, 23, [.int .i64 0, .int .i64 0, .int .i64 0, .int .i64 0], [.int .i64 (x.tmod 100), .int .i64 (y.tmod 100), .int .i64 (z % 64), .int .i64 (h % 64)]⟩] (by kernel_rfl) (by kernel_rfl) (by simp [madeSlots]) ?_
  repeat (first | (refine lex_skip rfl (by rfl) ?_) | (refine lex_calm rfl (by rfl) (fun K hK => ?_); go_simp; first | (refine hK _ ?_; clear hK K) | (apply Exists.intro; refine ⟨fun _ _ => ?_, hK _ ?_⟩; (first | (with_reducible exact (K1 _).out) | (with_reducible exact (K2 _).out) | (with_reducible exact (K3 _).out) | (with_reducible exact (K4 _).out)); clear hK K)))
  refine lex_alloc (m := ⟨9, 10, 17, 23, [.int .i64 0, .int .i64 0, .int .i64 0, .int .i64 0], [.int .i64 (x.tmod 100), .int .i64 (y.tmod 100), .int .i64 (z % 64), .int .i64 (h % 64)]⟩) (by kernel_rfl) (by simp) (by rfl) rfl ?_ ?_
  · intro ev w
    go_simp
  repeat (first | (refine lex_skip rfl (by rfl) ?_) | (refine lex_calm rfl (by rfl) (fun K hK => ?_); go_simp; first | (refine hK _ ?_; clear hK K) | (apply Exists.intro; refine ⟨fun _ _ => ?_, hK _ ?_⟩; (first | (with_reducible exact (K1 _).out) | (with_reducible exact (K2 _).out) | (with_reducible exact (K3 _).out) | (with_reducible exact (K4 _).out)); clear hK K)))
  refine lex_store (m := ⟨9, 10, 17, 23, [.int .i64 0, .int .i64 0, .int .i64 0, .int .i64 0], [.int .i64 (x.tmod 100), .int .i64 (y.tmod 100), .int .i64 (z % 64), .int .i64 (h % 64)]⟩) (by kernel_rfl) (by simp) (by rfl) rfl ?_ ?_
  · intro vs w b hv hB
    have d0 := hB.cell 0 rfl
    have e0 := hB.free 0
    have d1 := hB.cell 1 rfl
    have e1 := hB.free 1
    have d2 := hB.cell 2 rfl
    have e2 := hB.free 2
    have d3 := hB.cell 3 rfl
    have e3 := hB.free 3
    simp only [] at hv
    simp [go_sem, evS, madeSlots, List.lookup, setAll, *]
  repeat (first | (refine lex_skip rfl (by rfl) ?_) | (refine lex_calm rfl (by rfl) (fun K hK => ?_); go_simp; first | (refine hK _ ?_; clear hK K) | (apply Exists.intro; refine ⟨fun _ _ => ?_, hK _ ?_⟩; (first | (with_reducible exact (K1 _).out) | (with_reducible exact (K2 _).out) | (with_reducible exact (K3 _).out) | (with_reducible exact (K4 _).out)); clear hK K)))
  refine lex_nil ?_
  rintro vs w3 ⟨G3, hb, hne⟩
  obtain ⟨b3_0, hv0, s3_0, K3_0⟩ := hb ⟨9, 10, 17, 23, [.int .i64 0, .int .i64 0, .int .i64 0, .int .i64 0], [.int .i64 (x.tmod 100), .int .i64 (y.tmod 100), .int .i64 (z % 64), .int .i64 (h % 64)]⟩ (by simp) rfl
  simp only [fillS, madeSlots, List.map_cons, List.map_nil, List.foldl_cons, List.foldl_nil, hv0]
  clear hb hne hv0 vs
  have B3_0 : Blk w3 (w.heap.size) 23 [.int .i64 x, .int .i64 y, .int .i64 z, .int .i64 h] := B2_0.grew G3
  have B3_1 : Blk w3 (w1.heap.size) 39 [.int .i64 (k % 4), .bool m, .int .i64 (1 + s % 4), .int .i64 (dx.tmod 1000), .int .i64 (dy.tmod 1000)] := B2_1.grew G3
  have B3_2 : Blk w3 (w1.heap.size + 1) 23 [.int .i64 (x.tmod 100), .int .i64 (y.tmod 100), .int .i64 (z % 64), .int .i64 (h % 64)] := B2_2.grew G3
  have B3_3 : Blk w3 (w1.heap.size + 1 + 1) 39 [.int .i64 1, .bool false, .int .i64 1, .int .i64 0, .int .i64 0] := B2_3.grew G3
  have B3_4 : Blk w3 (w1.heap.size + 1 + 1 + 1) 39 [.int .i64 0, .bool true, .int .i64 1, .int .i64 0, .int .i64 0] := B2_4.grew G3
  have B3_5 : Blk w3 b3_0 23 [.int .i64 (x.tmod 100), .int .i64 (y.tmod 100), .int .i64 (z % 64), .int .i64 (h % 64)] := K3_0
  clear K3_0
  have z3 := G3.size
  replace G3 := hide G3
  have t3_0 := B3_0.lt
  have d3_0_0 := B3_0.cell 0 rfl
  have e3_0_0 := B3_0.free 0
  have d3_0_1 := B3_0.cell 1 rfl
  have e3_0_1 := B3_0.free 1
  have d3_0_2 := B3_0.cell 2 rfl
  have e3_0_2 := B3_0.free 2
  have d3_0_3 := B3_0.cell 3 rfl
  have e3_0_3 := B3_0.free 3
  have t3_1 := B3_1.lt
  have d3_1_0 := B3_1.cell 0 rfl
  have e3_1_0 := B3_1.free 0
  have d3_1_1 := B3_1.cell 1 rfl
  have e3_1_1 := B3_1.free 1
  have d3_1_2 := B3_1.cell 2 rfl
  have e3_1_2 := B3_1.free 2
  have d3_1_3 := B3_1.cell 3 rfl
  have e3_1_3 := B3_1.free 3
  have d3_1_4 := B3_1.cell 4 rfl
  have e3_1_4 := B3_1.free 4
  have t3_2 := B3_2.lt
  have d3_2_0 := B3_2.cell 0 rfl
  have e3_2_0 := B3_2.free 0
  have d3_2_1 := B3_2.cell 1 rfl
  have e3_2_1 := B3_2.free 1
  have d3_2_2 := B3_2.cell 2 rfl
  have e3_2_2 := B3_2.free 2
  have d3_2_3 := B3_2.cell 3 rfl
  have e3_2_3 := B3_2.free 3
  have t3_3 := B3_3.lt
  have d3_3_0 := B3_3.cell 0 rfl
  have e3_3_0 := B3_3.free 0
  have d3_3_1 := B3_3.cell 1 rfl
  have e3_3_1 := B3_3.free 1
  have d3_3_2 := B3_3.cell 2 rfl
  have e3_3_2 := B3_3.free 2
  have d3_3_3 := B3_3.cell 3 rfl
  have e3_3_3 := B3_3.free 3
  have d3_3_4 := B3_3.cell 4 rfl
  have e3_3_4 := B3_3.free 4
  have t3_4 := B3_4.lt
  have d3_4_0 := B3_4.cell 0 rfl
  have e3_4_0 := B3_4.free 0
  have d3_4_1 := B3_4.cell 1 rfl
  have e3_4_1 := B3_4.free 1
  have d3_4_2 := B3_4.cell 2 rfl
  have e3_4_2 := B3_4.free 2
  have d3_4_3 := B3_4.cell 3 rfl
  have e3_4_3 := B3_4.free 3
  have d3_4_4 := B3_4.cell 4 rfl
  have e3_4_4 := B3_4.free 4
  have t3_5 := B3_5.lt
  have d3_5_0 := B3_5.cell 0 rfl
  have e3_5_0 := B3_5.free 0
  have d3_5_1 := B3_5.cell 1 rfl
  have e3_5_1 := B3_5.free 1
  have d3_5_2 := B3_5.cell 2 rfl
  have e3_5_2 := B3_5.free 2
  have d3_5_3 := B3_5.cell 3 rfl
  have e3_5_3 := B3_5.free 3
  go_simp
  go_wp2_with fail
  have g3_0_0 := fun m os => (B3_0.grow m os).cell 0 rfl
  have g3_0_1 := fun m os => (B3_0.grow m os).cell 1 rfl
  have g3_0_2 := fun m os => (B3_0.grow m os).cell 2 rfl
  have g3_0_3 := fun m os => (B3_0.grow m os).cell 3 rfl
  have g3_1_0 := fun m os => (B3_1.grow m os).cell 0 rfl
  have g3_1_1 := fun m os => (B3_1.grow m os).cell 1 rfl
  have g3_1_2 := fun m os => (B3_1.grow m os).cell 2 rfl
  have g3_1_3 := fun m os => (B3_1.grow m os).cell 3 rfl
  have g3_1_4 := fun m os => (B3_1.grow m os).cell 4 rfl
  have g3_2_0 := fun m os => (B3_2.grow m os).cell 0 rfl
  have g3_2_1 := fun m os => (B3_2.grow m os).cell 1 rfl
  have g3_2_2 := fun m os => (B3_2.grow m os).cell 2 rfl
  have g3_2_3 := fun m os => (B3_2.grow m os).cell 3 rfl
  have g3_3_0 := fun m os => (B3_3.grow m os).cell 0 rfl
  have g3_3_1 := fun m os => (B3_3.grow m os).cell 1 rfl
  have g3_3_2 := fun m os => (B3_3.grow m os).cell 2 rfl
  have g3_3_3 := fun m os => (B3_3.grow m os).cell 3 rfl
  have g3_3_4 := fun m os => (B3_3.grow m os).cell 4 rfl
  have g3_4_0 := fun m os => (B3_4.grow m os).cell 0 rfl
  have g3_4_1 := fun m os => (B3_4.grow m os).cell 1 rfl
  have g3_4_2 := fun m os => (B3_4.grow m os).cell 2 rfl
  have g3_4_3 := fun m os => (B3_4.grow m os).cell 3 rfl
  have g3_4_4 := fun m os => (B3_4.grow m os).cell 4 rfl
  have g3_5_0 := fun m os => (B3_5.grow m os).cell 0 rfl
  have g3_5_1 := fun m os => (B3_5.grow m os).cell 1 rfl
  have g3_5_2 := fun m os => (B3_5.grow m os).cell 2 rfl
  have g3_5_3 := fun m os => (B3_5.grow m os).cell 3 rfl
  refine wp_region_made [⟨5, 6, 18, 23, [.int .i64 0, .int .i64 0, .int .i64 0, .int .i64 0], [.int .i64 (x.tmod 100), .int .i64 (y.tmod 100), .int .i64 (z % 64), .int .i64 (h % 64)]⟩] (by kernel_rfl) (by kernel_rfl) (by simp [madeSlots]) ?_
  repeat (first | (refine lex_skip rfl (by rfl) ?_) | (refine lex_calm rfl (by rfl) (fun K hK => ?_); go_simp; first | (refine hK _ ?_; clear hK K) | (apply Exists.intro; refine ⟨fun _ _ => ?_, hK _ ?_⟩; (first | (with_reducible exact (K5 _).out) | (with_reducible exact (K6 _).out)); clear hK K)))
  refine lex_alloc (m := ⟨5, 6, 18, 23, [.int .i64 0, .int .i64 0, .int .i64 0, .int .i64 0], [.int .i64 (x.tmod 100), .int .i64 (y.tmod 100), .int .i64 (z % 64), .int .i64 (h % 64)]⟩) (by kernel_rfl) (by simp) (by rfl) rfl ?_ ?_
  · intro ev w
    go_simp
  repeat (first | (refine lex_skip rfl (by rfl) ?_) | (refine lex_calm rfl (by rfl) (fun K hK => ?_); go_simp; first | (refine hK _ ?_; clear hK K) | (apply Exists.intro; refine ⟨fun _ _ => ?_, hK _ ?_⟩; (first | (with_reducible exact (K5 _).out) | (with_reducible exact (K6 _).out)); clear hK K)))
  refine lex_store (m := ⟨5, 6, 18, 23, [.int .i64 0, .int .i64 0, .int .i64 0, .int .i64 0], [.int .i64 (x.tmod 100), .int .i64 (y.tmod 100), .int .i64 (z % 64), .int .i64 (h % 64)]⟩) (by kernel_rfl) (by simp) (by rfl) rfl ?_ ?_
  · intro vs w b hv hB
    have d0 := hB.cell 0 rfl
    have e0 := hB.free 0
    have d1 := hB.cell 1 rfl
    have e1 := hB.free 1
    have d2 := hB.cell 2 rfl
    have e2 := hB.free 2
    have d3 := hB.cell 3 rfl
    have e3 := hB.free 3
    simp only [] at hv
    simp [go_sem, evS, madeSlots, List.lookup, setAll, *]
  repeat (first | (refine lex_skip rfl (by rfl) ?_) | (refine lex_calm rfl (by rfl) (fun K hK => ?_); go_simp; first | (refine hK _ ?_; clear hK K) | (apply Exists.intro; refine ⟨fun _ _ => ?_, hK _ ?_⟩; (first | (with_reducible exact (K5 _).out) | (with_reducible exact (K6 _).out)); clear hK K)))
  refine lex_nil ?_
  rintro vs w4 ⟨G4, hb, hne⟩
  obtain ⟨b4_0, hv0, s4_0, K4_0⟩ := hb ⟨5, 6, 18, 23, [.int .i64 0, .int .i64 0, .int .i64 0, .int .i64 0], [.int .i64 (x.tmod 100), .int .i64 (y.tmod 100), .int .i64 (z % 64), .int .i64 (h % 64)]⟩ (by simp) rfl
  simp only [fillS, madeSlots, List.map_cons, List.map_nil, List.foldl_cons, List.foldl_nil, hv0]
  clear hb hne hv0 vs
  have B4_0 : Blk w4 (w.heap.size) 23 [.int .i64 x, .int .i64 y, .int .i64 z, .int .i64 h] := B3_0.grew G4
  have B4_1 : Blk w4 (w1.heap.size) 39 [.int .i64 (k % 4), .bool m, .int .i64 (1 + s % 4), .int .i64 (dx.tmod 1000), .int .i64 (dy.tmod 1000)] := B3_1.grew G4
  have B4_2 : Blk w4 (w1.heap.size + 1) 23 [.int .i64 (x.tmod 100), .int .i64 (y.tmod 100), .int .i64 (z % 64), .int .i64 (h % 64)] := B3_2.grew G4
  have B4_3 : Blk w4 (w1.heap.size + 1 + 1) 39 [.int .i64 1, .bool false, .int .i64 1, .int .i64 0, .int .i64 0] := B3_3.grew G4
  have B4_4 : Blk w4 (w1.heap.size + 1 + 1 + 1) 39 [.int .i64 0, .bool true, .int .i64 1, .int .i64 0, .int .i64 0] := B3_4.grew G4
  have B4_5 : Blk w4 (b3_0) 23 [.int .i64 (x.tmod 100), .int .i64 (y.tmod 100), .int .i64 (z % 64), .int .i64 (h % 64)] := B3_5.grew G4
  have B4_6 : Blk w4 b4_0 23 [.int .i64 (x.tmod 100), .int .i64 (y.tmod 100), .int .i64 (z % 64), .int .i64 (h % 64)] := K4_0
  clear K4_0
  have z4 := G4.size
  replace G4 := hide G4
  have t4_0 := B4_0.lt
  have d4_0_0 := B4_0.cell 0 rfl
  have e4_0_0 := B4_0.free 0
  have d4_0_1 := B4_0.cell 1 rfl
  have e4_0_1 := B4_0.free 1
  have d4_0_2 := B4_0.cell 2 rfl
  have e4_0_2 := B4_0.free 2
  have d4_0_3 := B4_0.cell 3 rfl
  have e4_0_3 := B4_0.free 3
  have t4_1 := B4_1.lt
  have d4_1_0 := B4_1.cell 0 rfl
  have e4_1_0 := B4_1.free 0
  have d4_1_1 := B4_1.cell 1 rfl
  have e4_1_1 := B4_1.free 1
  have d4_1_2 := B4_1.cell 2 rfl
  have e4_1_2 := B4_1.free 2
  have d4_1_3 := B4_1.cell 3 rfl
  have e4_1_3 := B4_1.free 3
  have d4_1_4 := B4_1.cell 4 rfl
  have e4_1_4 := B4_1.free 4
  have t4_2 := B4_2.lt
  have d4_2_0 := B4_2.cell 0 rfl
  have e4_2_0 := B4_2.free 0
  have d4_2_1 := B4_2.cell 1 rfl
  have e4_2_1 := B4_2.free 1
  have d4_2_2 := B4_2.cell 2 rfl
  have e4_2_2 := B4_2.free 2
  have d4_2_3 := B4_2.cell 3 rfl
  have e4_2_3 := B4_2.free 3
  have t4_3 := B4_3.lt
  have d4_3_0 := B4_3.cell 0 rfl
  have e4_3_0 := B4_3.free 0
  have d4_3_1 := B4_3.cell 1 rfl
  have e4_3_1 := B4_3.free 1
  have d4_3_2 := B4_3.cell 2 rfl
  have e4_3_2 := B4_3.free 2
  have d4_3_3 := B4_3.cell 3 rfl
  have e4_3_3 := B4_3.free 3
  have d4_3_4 := B4_3.cell 4 rfl
  have e4_3_4 := B4_3.free 4
  have t4_4 := B4_4.lt
  have d4_4_0 := B4_4.cell 0 rfl
  have e4_4_0 := B4_4.free 0
  have d4_4_1 := B4_4.cell 1 rfl
  have e4_4_1 := B4_4.free 1
  have d4_4_2 := B4_4.cell 2 rfl
  have e4_4_2 := B4_4.free 2
  have d4_4_3 := B4_4.cell 3 rfl
  have e4_4_3 := B4_4.free 3
  have d4_4_4 := B4_4.cell 4 rfl
  have e4_4_4 := B4_4.free 4
  have t4_5 := B4_5.lt
  have d4_5_0 := B4_5.cell 0 rfl
  have e4_5_0 := B4_5.free 0
  have d4_5_1 := B4_5.cell 1 rfl
  have e4_5_1 := B4_5.free 1
  have d4_5_2 := B4_5.cell 2 rfl
  have e4_5_2 := B4_5.free 2
  have d4_5_3 := B4_5.cell 3 rfl
  have e4_5_3 := B4_5.free 3
  have t4_6 := B4_6.lt
  have d4_6_0 := B4_6.cell 0 rfl
  have e4_6_0 := B4_6.free 0
  have d4_6_1 := B4_6.cell 1 rfl
  have e4_6_1 := B4_6.free 1
  have d4_6_2 := B4_6.cell 2 rfl
  have e4_6_2 := B4_6.free 2
  have d4_6_3 := B4_6.cell 3 rfl
  have e4_6_3 := B4_6.free 3
  go_simp
  go_wp2_with fail
  refine ((K7 _).out).mono ?_
  rintro e w5 ⟨rfl, G5⟩
  try (with_reducible replace G5 := Grew.undrawn G5)
  have B5_0 : Blk w5 (w.heap.size) 23 [.int .i64 x, .int .i64 y, .int .i64 z, .int .i64 h] := Blk.grew (by (repeat' (first | (with_reducible assumption) | ((with_reducible refine Blk.new ?_); (first | (with_reducible rfl) | (simp only [World.size_alloc, World.size_setCell, size_drewN]; done))) | (with_reducible refine Blk.alloc ?_ _) | (with_reducible refine Blk.drewN ?_ _) | (with_reducible refine Blk.drew ?_) | (refine Blk.other ?_ (by omega) _) | fail))) G5
  have B5_1 : Blk w5 (w1.heap.size) 39 [.int .i64 (k % 4), .bool m, .int .i64 (1 + s % 4), .int .i64 (dx.tmod 1000), .int .i64 (dy.tmod 1000)] := Blk.grew (by (repeat' (first | (with_reducible assumption) | ((with_reducible refine Blk.new ?_); (first | (with_reducible rfl) | (simp only [World.size_alloc, World.size_setCell, size_drewN]; done))) | (with_reducible refine Blk.alloc ?_ _) | (with_reducible refine Blk.drewN ?_ _) | (with_reducible refine Blk.drew ?_) | (refine Blk.other ?_ (by omega) _) | fail))) G5
  have B5_2 : Blk w5 (w1.heap.size + 1) 23 [.int .i64 (x.tmod 100), .int .i64 (y.tmod 100), .int .i64 (z % 64), .int .i64 (h % 64)] := Blk.grew (by (repeat' (first | (with_reducible assumption) | ((with_reducible refine Blk.new ?_); (first | (with_reducible rfl) | (simp only [World.size_alloc, World.size_setCell, size_drewN]; done))) | (with_reducible refine Blk.alloc ?_ _) | (with_reducible refine Blk.drewN ?_ _) | (with_reducible refine Blk.drew ?_) | (refine Blk.other ?_ (by omega) _) | fail))) G5
  have B5_3 : Blk w5 (w1.heap.size + 1 + 1) 39 [.int .i64 1, .bool false, .int .i64 1, .int .i64 0, .int .i64 0] := Blk.grew (by (repeat' (first | (with_reducible assumption) | ((with_reducible refine Blk.new ?_); (first | (with_reducible rfl) | (simp only [World.size_alloc, World.size_setCell, size_drewN]; done))) | (with_reducible refine Blk.alloc ?_ _) | (with_reducible refine Blk.drewN ?_ _) | (with_reducible refine Blk.drew ?_) | (refine Blk.other ?_ (by omega) _) | fail))) G5
  have B5_4 : Blk w5 (w1.heap.size + 1 + 1 + 1) 39 [.int .i64 0, .bool true, .int .i64 1, .int .i64 0, .int .i64 0] := Blk.grew (by (repeat' (first | (with_reducible assumption) | ((with_reducible refine Blk.new ?_); (first | (with_reducible rfl) | (simp only [World.size_alloc, World.size_setCell, size_drewN]; done))) | (with_reducible refine Blk.alloc ?_ _) | (with_reducible refine Blk.drewN ?_ _) | (with_reducible refine Blk.drew ?_) | (refine Blk.other ?_ (by omega) _) | fail))) G5
  have B5_5 : Blk w5 (b3_0) 23 [.int .i64 (x.tmod 100), .int .i64 (y.tmod 100), .int .i64 (z % 64), .int .i64 (h % 64)] := Blk.grew (by (repeat' (first | (with_reducible assumption) | ((with_reducible refine Blk.new ?_); (first | (with_reducible rfl) | (simp only [World.size_alloc, World.size_setCell, size_drewN]; done))) | (with_reducible refine Blk.alloc ?_ _) | (with_reducible refine Blk.drewN ?_ _) | (with_reducible refine Blk.drew ?_) | (refine Blk.other ?_ (by omega) _) | fail))) G5
  have B5_6 : Blk w5 (b4_0) 23 [.int .i64 (x.tmod 100), .int .i64 (y.tmod 100), .int .i64 (z % 64), .int .i64 (h % 64)] := Blk.grew (by (repeat' (first | (with_reducible assumption) | ((with_reducible refine Blk.new ?_); (first | (with_reducible rfl) | (simp only [World.size_alloc, World.size_setCell, size_drewN]; done))) | (with_reducible refine Blk.alloc ?_ _) | (with_reducible refine Blk.drewN ?_ _) | (with_reducible refine Blk.drew ?_) | (refine Blk.other ?_ (by omega) _) | fail))) G5
  have z5 := G5.size
  try simp only [World.size_alloc, World.size_setCell, size_drewN] at z5
  replace G5 := hide G5
  have t5_0 := B5_0.lt
  have d5_0_0 := B5_0.cell 0 rfl
  have e5_0_0 := B5_0.free 0
  have d5_0_1 := B5_0.cell 1 rfl
  have e5_0_1 := B5_0.free 1
  have d5_0_2 := B5_0.cell 2 rfl
  have e5_0_2 := B5_0.free 2
  have d5_0_3 := B5_0.cell 3 rfl
  have e5_0_3 := B5_0.free 3
  have t5_1 := B5_1.lt
  have d5_1_0 := B5_1.cell 0 rfl
  have e5_1_0 := B5_1.free 0
  have d5_1_1 := B5_1.cell 1 rfl
  have e5_1_1 := B5_1.free 1
  have d5_1_2 := B5_1.cell 2 rfl
  have e5_1_2 := B5_1.free 2
  have d5_1_3 := B5_1.cell 3 rfl
  have e5_1_3 := B5_1.free 3
  have d5_1_4 := B5_1.cell 4 rfl
  have e5_1_4 := B5_1.free 4
  have t5_2 := B5_2.lt
  have d5_2_0 := B5_2.cell 0 rfl
  have e5_2_0 := B5_2.free 0
  have d5_2_1 := B5_2.cell 1 rfl
  have e5_2_1 := B5_2.free 1
  have d5_2_2 := B5_2.cell 2 rfl
  have e5_2_2 := B5_2.free 2
  have d5_2_3 := B5_2.cell 3 rfl
  have e5_2_3 := B5_2.free 3
  have t5_3 := B5_3.lt
  have d5_3_0 := B5_3.cell 0 rfl
  have e5_3_0 := B5_3.free 0
  have d5_3_1 := B5_3.cell 1 rfl
  have e5_3_1 := B5_3.free 1
  have d5_3_2 := B5_3.cell 2 rfl
  have e5_3_2 := B5_3.free 2
  have d5_3_3 := B5_3.cell 3 rfl
  have e5_3_3 := B5_3.free 3
  have d5_3_4 := B5_3.cell 4 rfl
  have e5_3_4 := B5_3.free 4
  have t5_4 := B5_4.lt
  have d5_4_0 := B5_4.cell 0 rfl
  have e5_4_0 := B5_4.free 0
  have d5_4_1 := B5_4.cell 1 rfl
  have e5_4_1 := B5_4.free 1
  have d5_4_2 := B5_4.cell 2 rfl
  have e5_4_2 := B5_4.free 2
  have d5_4_3 := B5_4.cell 3 rfl
  have e5_4_3 := B5_4.free 3
  have d5_4_4 := B5_4.cell 4 rfl
  have e5_4_4 := B5_4.free 4
  have t5_5 := B5_5.lt
  have d5_5_0 := B5_5.cell 0 rfl
  have e5_5_0 := B5_5.free 0
  have d5_5_1 := B5_5.cell 1 rfl
  have e5_5_1 := B5_5.free 1
  have d5_5_2 := B5_5.cell 2 rfl
  have e5_5_2 := B5_5.free 2
  have d5_5_3 := B5_5.cell 3 rfl
  have e5_5_3 := B5_5.free 3
  have t5_6 := B5_6.lt
  have d5_6_0 := B5_6.cell 0 rfl
  have e5_6_0 := B5_6.free 0
  have d5_6_1 := B5_6.cell 1 rfl
  have e5_6_1 := B5_6.free 1
  have d5_6_2 := B5_6.cell 2 rfl
  have e5_6_2 := B5_6.free 2
  have d5_6_3 := B5_6.cell 3 rfl
  have e5_6_3 := B5_6.free 3
  go_wp2_with fail
  refine ((A1 _).out).mono ?_
  rintro e w6 ⟨rfl, G6⟩
  try (with_reducible replace G6 := Grew.undrawn G6)
  have B6_0 : Blk w6 (w.heap.size) 23 [.int .i64 x, .int .i64 y, .int .i64 z, .int .i64 h] := Blk.grew (by (repeat' (first | (with_reducible assumption) | ((with_reducible refine Blk.new ?_); (first | (with_reducible rfl) | (simp only [World.size_alloc, World.size_setCell, size_drewN]; done))) | (with_reducible refine Blk.alloc ?_ _) | (with_reducible refine Blk.drewN ?_ _) | (with_reducible refine Blk.drew ?_) | (refine Blk.other ?_ (by omega) _) | fail))) G6
  have B6_1 : Blk w6 (w1.heap.size) 39 [.int .i64 (k % 4), .bool m, .int .i64 (1 + s % 4), .int .i64 (dx.tmod 1000), .int .i64 (dy.tmod 1000)] := Blk.grew (by (repeat' (first | (with_reducible assumption) | ((with_reducible refine Blk.new ?_); (first | (with_reducible rfl) | (simp only [World.size_alloc, World.size_setCell, size_drewN]; done))) | (with_reducible refine Blk.alloc ?_ _) | (with_reducible refine Blk.drewN ?_ _) | (with_reducible refine Blk.drew ?_) | (refine Blk.other ?_ (by omega) _) | fail))) G6
  have B6_2 : Blk w6 (w1.heap.size + 1) 23 [.int .i64 (x.tmod 100), .int .i64 (y.tmod 100), .int .i64 (z % 64), .int .i64 (h % 64)] := Blk.grew (by (repeat' (first | (with_reducible assumption) | ((with_reducible refine Blk.new ?_); (first | (with_reducible rfl) | (simp only [World.size_alloc, World.size_setCell, size_drewN]; done))) | (with_reducible refine Blk.alloc ?_ _) | (with_reducible refine Blk.drewN ?_ _) | (with_reducible refine Blk.drew ?_) | (refine Blk.other ?_ (by omega) _) | fail))) G6
  have B6_3 : Blk w6 (w1.heap.size + 1 + 1) 39 [.int .i64 1, .bool false, .int .i64 1, .int .i64 0, .int .i64 0] := Blk.grew (by (repeat' (first | (with_reducible assumption) | ((with_reducible refine Blk.new ?_); (first | (with_reducible rfl) | (simp only [World.size_alloc, World.size_setCell, size_drewN]; done))) | (with_reducible refine Blk.alloc ?_ _) | (with_reducible refine Blk.drewN ?_ _) | (with_reducible refine Blk.drew ?_) | (refine Blk.other ?_ (by omega) _) | fail))) G6
  have B6_4 : Blk w6 (w1.heap.size + 1 + 1 + 1) 39 [.int .i64 0, .bool true, .int .i64 1, .int .i64 0, .int .i64 0] := Blk.grew (by (repeat' (first | (with_reducible assumption) | ((with_reducible refine Blk.new ?_); (first | (with_reducible rfl) | (simp only [World.size_alloc, World.size_setCell, size_drewN]; done))) | (with_reducible refine Blk.alloc ?_ _) | (with_reducible refine Blk.drewN ?_ _) | (with_reducible refine Blk.drew ?_) | (refine Blk.other ?_ (by omega) _) | fail))) G6
  have B6_5 : Blk w6 (b3_0) 23 [.int .i64 (x.tmod 100), .int .i64 (y.tmod 100), .int .i64 (z % 64), .int .i64 (h % 64)] := Blk.grew (by (repeat' (first | (with_reducible assumption) | ((with_reducible refine Blk.new ?_); (first | (with_reducible rfl) | (simp only [World.size_alloc, World.size_setCell, size_drewN]; done))) | (with_reducible refine Blk.alloc ?_ _) | (with_reducible refine Blk.drewN ?_ _) | (with_reducible refine Blk.drew ?_) | (refine Blk.other ?_ (by omega) _) | fail))) G6
  have B6_6 : Blk w6 (b4_0) 23 [.int .i64 (x.tmod 100), .int .i64 (y.tmod 100), .int .i64 (z % 64), .int .i64 (h % 64)] := Blk.grew (by (repeat' (first | (with_reducible assumption) | ((with_reducible refine Blk.new ?_); (first | (with_reducible rfl) | (simp only [World.size_alloc, World.size_setCell, size_drewN]; done))) | (with_reducible refine Blk.alloc ?_ _) | (with_reducible refine Blk.drewN ?_ _) | (with_reducible refine Blk.drew ?_) | (refine Blk.other ?_ (by omega) _) | fail))) G6
  have z6 := G6.size
  try simp only [World.size_alloc, World.size_setCell, size_drewN] at z6
  replace G6 := hide G6
  have t6_0 := B6_0.lt
  have d6_0_0 := B6_0.cell 0 rfl
  have e6_0_0 := B6_0.free 0
  have d6_0_1 := B6_0.cell 1 rfl
  have e6_0_1 := B6_0.free 1
  have d6_0_2 := B6_0.cell 2 rfl
  have e6_0_2 := B6_0.free 2
  have d6_0_3 := B6_0.cell 3 rfl
  have e6_0_3 := B6_0.free 3
  have t6_1 := B6_1.lt
  have d6_1_0 := B6_1.cell 0 rfl
  have e6_1_0 := B6_1.free 0
  have d6_1_1 := B6_1.cell 1 rfl
  have e6_1_1 := B6_1.free 1
  have d6_1_2 := B6_1.cell 2 rfl
  have e6_1_2 := B6_1.free 2
  have d6_1_3 := B6_1.cell 3 rfl
  have e6_1_3 := B6_1.free 3
  have d6_1_4 := B6_1.cell 4 rfl
  have e6_1_4 := B6_1.free 4
  have t6_2 := B6_2.lt
  have d6_2_0 := B6_2.cell 0 rfl
  have e6_2_0 := B6_2.free 0
  have d6_2_1 := B6_2.cell 1 rfl
  have e6_2_1 := B6_2.free 1
  have d6_2_2 := B6_2.cell 2 rfl
  have e6_2_2 := B6_2.free 2
  have d6_2_3 := B6_2.cell 3 rfl
  have e6_2_3 := B6_2.free 3
  have t6_3 := B6_3.lt
  have d6_3_0 := B6_3.cell 0 rfl
  have e6_3_0 := B6_3.free 0
  have d6_3_1 := B6_3.cell 1 rfl
  have e6_3_1 := B6_3.free 1
  have d6_3_2 := B6_3.cell 2 rfl
  have e6_3_2 := B6_3.free 2
  have d6_3_3 := B6_3.cell 3 rfl
  have e6_3_3 := B6_3.free 3
  have d6_3_4 := B6_3.cell 4 rfl
  have e6_3_4 := B6_3.free 4
  have t6_4 := B6_4.lt
  have d6_4_0 := B6_4.cell 0 rfl
  have e6_4_0 := B6_4.free 0
  have d6_4_1 := B6_4.cell 1 rfl
  have e6_4_1 := B6_4.free 1
  have d6_4_2 := B6_4.cell 2 rfl
  have e6_4_2 := B6_4.free 2
  have d6_4_3 := B6_4.cell 3 rfl
  have e6_4_3 := B6_4.free 3
  have d6_4_4 := B6_4.cell 4 rfl
  have e6_4_4 := B6_4.free 4
  have t6_5 := B6_5.lt
  have d6_5_0 := B6_5.cell 0 rfl
  have e6_5_0 := B6_5.free 0
  have d6_5_1 := B6_5.cell 1 rfl
  have e6_5_1 := B6_5.free 1
  have d6_5_2 := B6_5.cell 2 rfl
  have e6_5_2 := B6_5.free 2
  have d6_5_3 := B6_5.cell 3 rfl
  have e6_5_3 := B6_5.free 3
  have t6_6 := B6_6.lt
  have d6_6_0 := B6_6.cell 0 rfl
  have e6_6_0 := B6_6.free 0
  have d6_6_1 := B6_6.cell 1 rfl
  have e6_6_1 := B6_6.free 1
  have d6_6_2 := B6_6.cell 2 rfl
  have e6_6_2 := B6_6.free 2
  have d6_6_3 := B6_6.cell 3 rfl
  have e6_6_3 := B6_6.free 3
  go_wp2
  go_ret
  refine ⟨rfl, Grew.below ?_⟩
  repeat' (first | (with_reducible exact Grew.refl _) | (with_reducible refine Grew.setCell ?_ ?_ _) | (with_reducible refine Grew.drewN ?_ _) | (with_reducible refine Grew.alloc ?_ _) | (with_reducible refine Grew.trans ?_ G6.out) | (with_reducible refine Grew.trans ?_ G5.out) | (with_reducible refine Grew.trans ?_ G4.out) | (with_reducible refine Grew.trans ?_ G3.out) | (with_reducible refine Grew.trans ?_ G2.out) | (with_reducible refine Grew.trans ?_ G1.out) | (dsimp only; omega))

set_option maxRecDepth 100000 in
theorem lifted (os : Os) (started : os.Started) (H : Type) (enc : TypeId × Value → H) :
    ReturnsInHanded {} Try.checked os 9 .any (Rows.geometryTurnsSpec.pre6 enc Try.prog Try.f9 Rows.geometryTurnsRow.domain false) (Rows.geometryTurnsSpec.post enc Try.prog Try.f9 false true false false) := by
  refine returnsInHanded_of_change (C := Try.checked) own_knob started (by kernel_rfl) Try.func9
    (ChangeSpec.witness6 (enc := enc) (C := Try.checked) false ⟨#[], #[.int .i64 0, .int .i64 0, .int .i64 0, .int .i64 0, .bool false, .agg #[.int .i64 0, .int .i64 0, .int .i64 0, .int .i64 0]], []⟩ 8 (by kernel_rfl) (by kernel_rfl) (by kernel_rfl) (by kernel_rfl)) ?_
  intro W base args ds gs before hval0 hW hcnd _
  have hval : ∀ (j : Nat) t v, Try.f9.params[j]? = some t → args[j]? = some v → Value.okWide Try.prog W .any base t v := hval0
  have hW' := hW
  obtain ⟨p, q, hA0, hV, rfl, hfz, hnd⟩ := hW
  have hA : DataW.TrodAll enc Try.prog W 0 (fun _ => true) true Try.f9.params.toList args.toList ds p := hA0
  have hAk := hA
  rw [Try.params9] at hA hval
  obtain ⟨v0, vs0, d0, ds0, p0, q0, hargs, rfl, rfl, h0, r0⟩ := trodAll_cons hA
  obtain ⟨v1, vs1, d1, ds1, p1, q1, rfl, rfl, rfl, h1, r1⟩ := trodAll_cons r0
  obtain ⟨v2, vs2, d2, ds2, p2, q2, rfl, rfl, rfl, h2, r2⟩ := trodAll_cons r1
  obtain ⟨v3, vs3, d3, ds3, p3, q3, rfl, rfl, rfl, h3, r3⟩ := trodAll_cons r2
  obtain ⟨v4, vs4, d4, ds4, p4, q4, rfl, rfl, rfl, h4, r4⟩ := trodAll_cons r3
  obtain ⟨v5, vs5, d5, ds5, p5, q5, rfl, rfl, rfl, h5, r5⟩ := trodAll_cons r4
  obtain ⟨rfl, rfl, rfl⟩ := trodAll_nil r5
  obtain rfl : args = #[v0, v1, v2, v3, v4, v5] := by cases args; simp_all
  obtain ⟨rfl, rfl⟩ := trodVars_none hV
  obtain ⟨a0, rfl, _, _, w0⟩ := open_int Try.underlying3 (hval 0 3 v0 rfl rfl) h0
  obtain ⟨a1, rfl, _, _, w1⟩ := open_int Try.underlying3 (hval 1 3 v1 rfl rfl) h1
  obtain ⟨a2, rfl, _, _, w2⟩ := open_int Try.underlying3 (hval 2 3 v2 rfl rfl) h2
  obtain ⟨a3, rfl, _, _, w3⟩ := open_int Try.underlying3 (hval 3 3 v3 rfl rfl) h3
  obtain ⟨a4, rfl, _⟩ := open_bool Try.underlying4 (hval 4 4 v4 rfl rfl) h4
  obtain ⟨a5, rfl⟩ := open_rect (hval 5 23 v5 rfl rfl) h5
  clear hA0 hval0
  simp only [List.append_nil] at hW'
  refine (walk a0 a1 a2 a3 a4 a5 W).mono fun e W' ⟨he, hg⟩ => ?_
  subst he
  have hargs' := kept_all hg _ _ _ _ (by rw [Try.params9]; intro t ht; simp only [List.mem_cons, List.not_mem_nil, or_false] at ht; (repeat' (rcases ht with rfl | ht)); all_goals first | (subst ht; exact ⟨by kernel_rfl, of_decide_eq_true (by kernel_rfl)⟩) | exact ⟨by kernel_rfl, of_decide_eq_true (by kernel_rfl)⟩) hAk (fun x hx => hW'.lt x (by simpa using hx))
  exact ⟨_, rfl, ⟨_, _, _, [], _, [], hW', trodAll_cons_mk (shut_bool Try.underlying4 _) trodAll_mk0, hargs', rfl, World.keptBut_mono (fun p hp => ⟨hp, Or.inr (by simpa using hp)⟩) (hg.frame _), fun h => by cases h⟩⟩

theorem over : Rows.geometryTurnsRow.holds Try.pinned (OpenSpec.ofChange Rows.geometryTurnsSpec) :=
  OpenClaim.holds_of_wide 9 Try.f9 rfl rfl rfl rfl rfl rfl rfl ⟨rfl, rfl, rfl, rfl, rfl⟩ rfl rfl rfl rfl rfl (by kernel_rfl) Try.func9 (by kernel_rfl)
    (of_decide_eq_true (by kernel_rfl)) (by unfold Func.isWrapper; first | (rw [if_pos (by decide +kernel)]; kernel_rfl) | (rw [if_neg (by decide +kernel)]; exact ⟨rfl, rfl⟩))
    (fun os started H enc _ => lifted os started H enc)

theorem proved : Rows.GeometryTurnsSaid :=
  over
#print axioms proved
end Go.Proofs.Ythldilikkogaoaa.geometryTurns
