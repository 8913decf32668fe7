/- The law GeometryCombines returns true for all numbers, every rectangle and every point, and leaves the arguments and all old memory as they were; no condition. -/
import Derived.Test.YthldilikkogaoaaRows
import Derived.Test.YthldilikkogaoaaGlNear
import Derived.Test.YthldilikkogaoaaGlSmall
import Derived.Test.YthldilikkogaoaaGlAwake
import Derived.Test.YthldilikkogaoaaGlArr
import Derived.WalkKit
import Derived.ProofKit
import Derived.OpenShut
namespace Go.Proofs.Ythldilikkogaoaa.geometryCombines
open Go.ChangeShapes Go.WideShapes Go.ChangeAt Go.RowKit Go.Sort
set_option linter.unusedVariables false
set_option linter.unusedSimpArgs false

set_option maxHeartbeats 4000000 in
theorem walk (k s dx dy k' s' dx' dy' : Int) (m m' : Bool) (r : R) (p : Pt) (w : World) :
    Calls Try.prog 8 #[.agg #[.int .i64 k, .int .i64 s, .int .i64 dx, .int .i64 dy], .agg #[.int .i64 k', .int .i64 s', .int .i64 dx', .int .i64 dy'], .bool m, .bool m', r.v, p.v] w fun e w' => e = .returned (.bool true) ∧ Below w.heap.size w w' := by
  obtain ⟨x, y, z, h⟩ := r
  obtain ⟨px, py⟩ := p
  have S1 := fun W => hide (small_any k s dx dy m W)
  have S2 := fun W => hide (small_any k' s' dx' dy' m' W)
  have a1 := and63 z
  have a2 := and63 h
  have A1 := fun W => hide (awake_any W)
  obtain ⟨n1, g1⟩ := near_small k s dx dy m
  obtain ⟨n2, g2⟩ := near_small k' s' dx' dy' m'
  have t1 := tm px (show (0 : Int) < 20000 by omega)
  have t2 := tm py (show (0 : Int) < 20000 by omega)
  obtain ⟨L1, L2, L3⟩ := comb_law (px := px.tmod 20000) (py := py.tmod 20000) n1 g1 n2 g2 (near_rect x y z h) (by omega) (by omega)
  have C := fun W => hide (Combine_any ⟨k % 4, m, 1 + s % 4, dx.tmod 1000, dy.tmod 1000⟩ ⟨k' % 4, m', 1 + s' % 4, dx'.tmod 1000, dy'.tmod 1000⟩ W)
  rw [L1] at C
  clear L1 n1 n2 g1 g2 t1 t2
  generalize T.comb ⟨k % 4, m, 1 + s % 4, dx.tmod 1000, dy.tmod 1000⟩ ⟨k' % 4, m', 1 + s' % 4, dx'.tmod 1000, dy'.tmod 1000⟩ = c at C L2 L3
  have K1 := fun W => hide (Apply_any c ⟨x.tmod 100, y.tmod 100, z % 64, h % 64⟩ W)
  rw [L2] at K1
  have K2 := fun W => hide (Apply_any ⟨k' % 4, m', 1 + s' % 4, dx'.tmod 1000, dy'.tmod 1000⟩ ⟨x.tmod 100, y.tmod 100, z % 64, h % 64⟩ W)
  have K3 := fun W => hide (Apply_any ⟨k % 4, m, 1 + s % 4, dx.tmod 1000, dy.tmod 1000⟩ (T.apply ⟨k' % 4, m', 1 + s' % 4, dx'.tmod 1000, dy'.tmod 1000⟩ ⟨x.tmod 100, y.tmod 100, z % 64, h % 64⟩) W)
  have K4 := fun W => hide (Back_any c ⟨px.tmod 20000, py.tmod 20000⟩ W)
  rw [L3] at K4
  have K5 := fun W => hide (Back_any ⟨k % 4, m, 1 + s % 4, dx.tmod 1000, dy.tmod 1000⟩ ⟨px.tmod 20000, py.tmod 20000⟩ W)
  have K6 := fun W => hide (Back_any ⟨k' % 4, m', 1 + s' % 4, dx'.tmod 1000, dy'.tmod 1000⟩ (T.back ⟨k % 4, m, 1 + s % 4, dx.tmod 1000, dy.tmod 1000⟩ ⟨px.tmod 20000, py.tmod 20000⟩) W)
  clear L2 L3
  generalize T.apply ⟨k % 4, m, 1 + s % 4, dx.tmod 1000, dy.tmod 1000⟩ (T.apply ⟨k' % 4, m', 1 + s' % 4, dx'.tmod 1000, dy'.tmod 1000⟩ ⟨x.tmod 100, y.tmod 100, z % 64, h % 64⟩) = q1 at K1 K3
  generalize T.apply ⟨k' % 4, m', 1 + s' % 4, dx'.tmod 1000, dy'.tmod 1000⟩ ⟨x.tmod 100, y.tmod 100, z % 64, h % 64⟩ = q2 at K2 K3
  generalize T.back ⟨k' % 4, m', 1 + s' % 4, dx'.tmod 1000, dy'.tmod 1000⟩ (T.back ⟨k % 4, m, 1 + s % 4, dx.tmod 1000, dy.tmod 1000⟩ ⟨px.tmod 20000, py.tmod 20000⟩) = q3 at K4 K6
  generalize T.back ⟨k % 4, m, 1 + s % 4, dx.tmod 1000, dy.tmod 1000⟩ ⟨px.tmod 20000, py.tmod 20000⟩ = q4 at K5 K6
  obtain ⟨ck, cm, cs, cx, cy⟩ := c
  obtain ⟨p1, p2, p3, p4⟩ := q1
  obtain ⟨p5, p6, p7, p8⟩ := q2
  obtain ⟨o1, o2⟩ := q3
  obtain ⟨o3, o4⟩ := q4
  go_enter Try.func8, Try.ntmps8
  go_wp2_with fail
  refine name_world fun w1 h1 => ?_
  have G1 : Grew w w1 := by
    rw [h1]
    repeat' (first | (with_reducible exact Grew.refl _) | (with_reducible refine Grew.setCell ?_ ?_ _) | (with_reducible refine Grew.drewN ?_ _) | (with_reducible refine Grew.alloc ?_ _) | (with_reducible refine Grew.trans ?_ G1.out) | (dsimp only; omega))
  have B1_0 : Blk w1 (w.heap.size) 49 [.int .i64 k, .int .i64 s, .int .i64 dx, .int .i64 dy] := by (rw [h1]; repeat' (first | (with_reducible assumption) | ((with_reducible refine Blk.new ?_); (first | (with_reducible rfl) | (simp only [World.size_alloc, World.size_setCell, size_drewN]; done))) | (with_reducible refine Blk.alloc ?_ _) | (with_reducible refine Blk.drewN ?_ _) | (with_reducible refine Blk.drew ?_) | (refine Blk.other ?_ (by omega) _) | fail))
  have B1_1 : Blk w1 (w.heap.size + 1) 49 [.int .i64 k', .int .i64 s', .int .i64 dx', .int .i64 dy'] := by (rw [h1]; repeat' (first | (with_reducible assumption) | ((with_reducible refine Blk.new ?_); (first | (with_reducible rfl) | (simp only [World.size_alloc, World.size_setCell, size_drewN]; done))) | (with_reducible refine Blk.alloc ?_ _) | (with_reducible refine Blk.drewN ?_ _) | (with_reducible refine Blk.drew ?_) | (refine Blk.other ?_ (by omega) _) | fail))
  have B1_2 : Blk w1 (w.heap.size + 1 + 1) 23 [.int .i64 x, .int .i64 y, .int .i64 z, .int .i64 h] := by (rw [h1]; repeat' (first | (with_reducible assumption) | ((with_reducible refine Blk.new ?_); (first | (with_reducible rfl) | (simp only [World.size_alloc, World.size_setCell, size_drewN]; done))) | (with_reducible refine Blk.alloc ?_ _) | (with_reducible refine Blk.drewN ?_ _) | (with_reducible refine Blk.drew ?_) | (refine Blk.other ?_ (by omega) _) | fail))
  have B1_3 : Blk w1 (w.heap.size + 1 + 1 + 1) 25 [.int .i64 px, .int .i64 py] := by (rw [h1]; repeat' (first | (with_reducible assumption) | ((with_reducible refine Blk.new ?_); (first | (with_reducible rfl) | (simp only [World.size_alloc, World.size_setCell, size_drewN]; done))) | (with_reducible refine Blk.alloc ?_ _) | (with_reducible refine Blk.drewN ?_ _) | (with_reducible refine Blk.drew ?_) | (refine Blk.other ?_ (by omega) _) | fail))
  have z1 := G1.size
  replace G1 := hide G1
  clear h1
  have t1_0 := B1_0.lt
  have d1_0_0 := B1_0.cell 0 rfl
  have e1_0_0 := B1_0.free 0
  have d1_0_1 := B1_0.cell 1 rfl
  have e1_0_1 := B1_0.free 1
  have d1_0_2 := B1_0.cell 2 rfl
  have e1_0_2 := B1_0.free 2
  have d1_0_3 := B1_0.cell 3 rfl
  have e1_0_3 := B1_0.free 3
  have t1_1 := B1_1.lt
  have d1_1_0 := B1_1.cell 0 rfl
  have e1_1_0 := B1_1.free 0
  have d1_1_1 := B1_1.cell 1 rfl
  have e1_1_1 := B1_1.free 1
  have d1_1_2 := B1_1.cell 2 rfl
  have e1_1_2 := B1_1.free 2
  have d1_1_3 := B1_1.cell 3 rfl
  have e1_1_3 := B1_1.free 3
  have t1_2 := B1_2.lt
  have d1_2_0 := B1_2.cell 0 rfl
  have e1_2_0 := B1_2.free 0
  have d1_2_1 := B1_2.cell 1 rfl
  have e1_2_1 := B1_2.free 1
  have d1_2_2 := B1_2.cell 2 rfl
  have e1_2_2 := B1_2.free 2
  have d1_2_3 := B1_2.cell 3 rfl
  have e1_2_3 := B1_2.free 3
  have t1_3 := B1_3.lt
  have d1_3_0 := B1_3.cell 0 rfl
  have e1_3_0 := B1_3.free 0
  have d1_3_1 := B1_3.cell 1 rfl
  have e1_3_1 := B1_3.free 1
  have g1_0_0 := fun m os => (B1_0.grow m os).cell 0 rfl
  have g1_0_1 := fun m os => (B1_0.grow m os).cell 1 rfl
  have g1_0_2 := fun m os => (B1_0.grow m os).cell 2 rfl
  have g1_0_3 := fun m os => (B1_0.grow m os).cell 3 rfl
  have g1_1_0 := fun m os => (B1_1.grow m os).cell 0 rfl
  have g1_1_1 := fun m os => (B1_1.grow m os).cell 1 rfl
  have g1_1_2 := fun m os => (B1_1.grow m os).cell 2 rfl
  have g1_1_3 := fun m os => (B1_1.grow m os).cell 3 rfl
  have g1_2_0 := fun m os => (B1_2.grow m os).cell 0 rfl
  have g1_2_1 := fun m os => (B1_2.grow m os).cell 1 rfl
  have g1_2_2 := fun m os => (B1_2.grow m os).cell 2 rfl
  have g1_2_3 := fun m os => (B1_2.grow m os).cell 3 rfl
  have g1_3_0 := fun m os => (B1_3.grow m os).cell 0 rfl
  have g1_3_1 := fun m os => (B1_3.grow m os).cell 1 rfl
  refine wp_region_made [⟨20, 22, 13, 39, [.int .i64 0, .bool false, .int .i64 0, .int .i64 0, .int .i64 0], [.int .i64 (k % 4), .bool m, .int .i64 (1 + s % 4), .int .i64 (dx.tmod 1000), .int .i64 (dy.tmod 1000)]⟩, ⟨21, 23, 14, 39, [.int .i64 0, .bool false, .int .i64 0, .int .i64 0, .int .i64 0], [.int .i64 (k' % 4), .bool m', .int .i64 (1 + s' % 4), .int .i64 (dx'.tmod 1000), .int .i64 (dy'.tmod 1000)]⟩] (by kernel_rfl) (by kernel_rfl) (by simp [madeSlots]) ?_
  repeat (first | (refine lex_skip rfl (by rfl) ?_) | (refine lex_calm rfl (by rfl) (fun K hK => ?_); go_simp; first | (refine hK _ ?_; clear hK K) | (apply Exists.intro; refine ⟨fun _ _ => ?_, hK _ ?_⟩; (first | (with_reducible exact (S1 _).out) | (with_reducible exact (S2 _).out)); clear hK K)))
  refine lex_alloc (m := ⟨20, 22, 13, 39, [.int .i64 0, .bool false, .int .i64 0, .int .i64 0, .int .i64 0], [.int .i64 (k % 4), .bool m, .int .i64 (1 + s % 4), .int .i64 (dx.tmod 1000), .int .i64 (dy.tmod 1000)]⟩) (by kernel_rfl) (by simp) (by rfl) rfl ?_ ?_
  · intro ev w
    go_simp
  repeat (first | (refine lex_skip rfl (by rfl) ?_) | (refine lex_calm rfl (by rfl) (fun K hK => ?_); go_simp; first | (refine hK _ ?_; clear hK K) | (apply Exists.intro; refine ⟨fun _ _ => ?_, hK _ ?_⟩; (first | (with_reducible exact (S1 _).out) | (with_reducible exact (S2 _).out)); clear hK K)))
  refine lex_alloc (m := ⟨21, 23, 14, 39, [.int .i64 0, .bool false, .int .i64 0, .int .i64 0, .int .i64 0], [.int .i64 (k' % 4), .bool m', .int .i64 (1 + s' % 4), .int .i64 (dx'.tmod 1000), .int .i64 (dy'.tmod 1000)]⟩) (by kernel_rfl) (by simp) (by rfl) rfl ?_ ?_
  · intro ev w
    go_simp
  repeat (first | (refine lex_skip rfl (by rfl) ?_) | (refine lex_calm rfl (by rfl) (fun K hK => ?_); go_simp; first | (refine hK _ ?_; clear hK K) | (apply Exists.intro; refine ⟨fun _ _ => ?_, hK _ ?_⟩; (first | (with_reducible exact (S1 _).out) | (with_reducible exact (S2 _).out)); clear hK K)))
  refine lex_store (m := ⟨20, 22, 13, 39, [.int .i64 0, .bool false, .int .i64 0, .int .i64 0, .int .i64 0], [.int .i64 (k % 4), .bool m, .int .i64 (1 + s % 4), .int .i64 (dx.tmod 1000), .int .i64 (dy.tmod 1000)]⟩) (by kernel_rfl) (by simp) (by rfl) rfl ?_ ?_
  · intro vs w b hv hB
    have d0 := hB.cell 0 rfl
    have e0 := hB.free 0
    have d1 := hB.cell 1 rfl
    have e1 := hB.free 1
    have d2 := hB.cell 2 rfl
    have e2 := hB.free 2
    have d3 := hB.cell 3 rfl
    have e3 := hB.free 3
    have d4 := hB.cell 4 rfl
    have e4 := hB.free 4
    simp only [] at hv
    simp [go_sem, evS, madeSlots, List.lookup, setAll, *]
  repeat (first | (refine lex_skip rfl (by rfl) ?_) | (refine lex_calm rfl (by rfl) (fun K hK => ?_); go_simp; first | (refine hK _ ?_; clear hK K) | (apply Exists.intro; refine ⟨fun _ _ => ?_, hK _ ?_⟩; (first | (with_reducible exact (S1 _).out) | (with_reducible exact (S2 _).out)); clear hK K)))
  refine lex_store (m := ⟨21, 23, 14, 39, [.int .i64 0, .bool false, .int .i64 0, .int .i64 0, .int .i64 0], [.int .i64 (k' % 4), .bool m', .int .i64 (1 + s' % 4), .int .i64 (dx'.tmod 1000), .int .i64 (dy'.tmod 1000)]⟩) (by kernel_rfl) (by simp) (by rfl) rfl ?_ ?_
  · intro vs w b hv hB
    have d0 := hB.cell 0 rfl
    have e0 := hB.free 0
    have d1 := hB.cell 1 rfl
    have e1 := hB.free 1
    have d2 := hB.cell 2 rfl
    have e2 := hB.free 2
    have d3 := hB.cell 3 rfl
    have e3 := hB.free 3
    have d4 := hB.cell 4 rfl
    have e4 := hB.free 4
    simp only [] at hv
    simp [go_sem, evS, madeSlots, List.lookup, setAll, *]
  repeat (first | (refine lex_skip rfl (by rfl) ?_) | (refine lex_calm rfl (by rfl) (fun K hK => ?_); go_simp; first | (refine hK _ ?_; clear hK K) | (apply Exists.intro; refine ⟨fun _ _ => ?_, hK _ ?_⟩; (first | (with_reducible exact (S1 _).out) | (with_reducible exact (S2 _).out)); clear hK K)))
  refine lex_nil ?_
  rintro vs w2 ⟨G2, hb, hne⟩
  obtain ⟨b2_0, hv0, s2_0, K2_0⟩ := hb ⟨20, 22, 13, 39, [.int .i64 0, .bool false, .int .i64 0, .int .i64 0, .int .i64 0], [.int .i64 (k % 4), .bool m, .int .i64 (1 + s % 4), .int .i64 (dx.tmod 1000), .int .i64 (dy.tmod 1000)]⟩ (by simp) rfl
  obtain ⟨b2_1, hv1, s2_1, K2_1⟩ := hb ⟨21, 23, 14, 39, [.int .i64 0, .bool false, .int .i64 0, .int .i64 0, .int .i64 0], [.int .i64 (k' % 4), .bool m', .int .i64 (1 + s' % 4), .int .i64 (dx'.tmod 1000), .int .i64 (dy'.tmod 1000)]⟩ (by simp) rfl
  have hn2_0_1 : b2_0 ≠ b2_1 := fun e => hne ⟨20, 22, 13, 39, [.int .i64 0, .bool false, .int .i64 0, .int .i64 0, .int .i64 0], [.int .i64 (k % 4), .bool m, .int .i64 (1 + s % 4), .int .i64 (dx.tmod 1000), .int .i64 (dy.tmod 1000)]⟩ (by simp) ⟨21, 23, 14, 39, [.int .i64 0, .bool false, .int .i64 0, .int .i64 0, .int .i64 0], [.int .i64 (k' % 4), .bool m', .int .i64 (1 + s' % 4), .int .i64 (dx'.tmod 1000), .int .i64 (dy'.tmod 1000)]⟩ (by simp) (by show (20 : Nat) ≠ 21; decide) rfl rfl (hv0.trans (e ▸ hv1.symm))
  simp only [fillS, madeSlots, List.map_cons, List.map_nil, List.foldl_cons, List.foldl_nil, hv0, hv1]
  clear hb hne hv0 hv1 vs
  have B2_0 : Blk w2 (w.heap.size) 49 [.int .i64 k, .int .i64 s, .int .i64 dx, .int .i64 dy] := B1_0.grew G2
  have B2_1 : Blk w2 (w.heap.size + 1) 49 [.int .i64 k', .int .i64 s', .int .i64 dx', .int .i64 dy'] := B1_1.grew G2
  have B2_2 : Blk w2 (w.heap.size + 1 + 1) 23 [.int .i64 x, .int .i64 y, .int .i64 z, .int .i64 h] := B1_2.grew G2
  have B2_3 : Blk w2 (w.heap.size + 1 + 1 + 1) 25 [.int .i64 px, .int .i64 py] := B1_3.grew G2
  have B2_4 : Blk w2 b2_0 39 [.int .i64 (k % 4), .bool m, .int .i64 (1 + s % 4), .int .i64 (dx.tmod 1000), .int .i64 (dy.tmod 1000)] := K2_0
  have B2_5 : Blk w2 b2_1 39 [.int .i64 (k' % 4), .bool m', .int .i64 (1 + s' % 4), .int .i64 (dx'.tmod 1000), .int .i64 (dy'.tmod 1000)] := K2_1
  clear K2_0 K2_1
  have z2 := G2.size
  replace G2 := hide G2
  have t2_0 := B2_0.lt
  have d2_0_0 := B2_0.cell 0 rfl
  have e2_0_0 := B2_0.free 0
  have d2_0_1 := B2_0.cell 1 rfl
  have e2_0_1 := B2_0.free 1
  have d2_0_2 := B2_0.cell 2 rfl
  have e2_0_2 := B2_0.free 2
  have d2_0_3 := B2_0.cell 3 rfl
  have e2_0_3 := B2_0.free 3
  have t2_1 := B2_1.lt
  have d2_1_0 := B2_1.cell 0 rfl
  have e2_1_0 := B2_1.free 0
  have d2_1_1 := B2_1.cell 1 rfl
  have e2_1_1 := B2_1.free 1
  have d2_1_2 := B2_1.cell 2 rfl
  have e2_1_2 := B2_1.free 2
  have d2_1_3 := B2_1.cell 3 rfl
  have e2_1_3 := B2_1.free 3
  have t2_2 := B2_2.lt
  have d2_2_0 := B2_2.cell 0 rfl
  have e2_2_0 := B2_2.free 0
  have d2_2_1 := B2_2.cell 1 rfl
  have e2_2_1 := B2_2.free 1
  have d2_2_2 := B2_2.cell 2 rfl
  have e2_2_2 := B2_2.free 2
  have d2_2_3 := B2_2.cell 3 rfl
  have e2_2_3 := B2_2.free 3
  have t2_3 := B2_3.lt
  have d2_3_0 := B2_3.cell 0 rfl
  have e2_3_0 := B2_3.free 0
  have d2_3_1 := B2_3.cell 1 rfl
  have e2_3_1 := B2_3.free 1
  have t2_4 := B2_4.lt
  have d2_4_0 := B2_4.cell 0 rfl
  have e2_4_0 := B2_4.free 0
  have d2_4_1 := B2_4.cell 1 rfl
  have e2_4_1 := B2_4.free 1
  have d2_4_2 := B2_4.cell 2 rfl
  have e2_4_2 := B2_4.free 2
  have d2_4_3 := B2_4.cell 3 rfl
  have e2_4_3 := B2_4.free 3
  have d2_4_4 := B2_4.cell 4 rfl
  have e2_4_4 := B2_4.free 4
  have t2_5 := B2_5.lt
  have d2_5_0 := B2_5.cell 0 rfl
  have e2_5_0 := B2_5.free 0
  have d2_5_1 := B2_5.cell 1 rfl
  have e2_5_1 := B2_5.free 1
  have d2_5_2 := B2_5.cell 2 rfl
  have e2_5_2 := B2_5.free 2
  have d2_5_3 := B2_5.cell 3 rfl
  have e2_5_3 := B2_5.free 3
  have d2_5_4 := B2_5.cell 4 rfl
  have e2_5_4 := B2_5.free 4
  go_simp
  go_wp2_with fail
  refine ((C _).out).mono ?_
  rintro e w3 ⟨rfl, G3⟩
  try (with_reducible replace G3 := Grew.undrawn G3)
  have B3_0 : Blk w3 (w.heap.size) 49 [.int .i64 k, .int .i64 s, .int .i64 dx, .int .i64 dy] := Blk.grew (by (repeat' (first | (with_reducible assumption) | ((with_reducible refine Blk.new ?_); (first | (with_reducible rfl) | (simp only [World.size_alloc, World.size_setCell, size_drewN]; done))) | (with_reducible refine Blk.alloc ?_ _) | (with_reducible refine Blk.drewN ?_ _) | (with_reducible refine Blk.drew ?_) | (refine Blk.other ?_ (by omega) _) | fail))) G3
  have B3_1 : Blk w3 (w.heap.size + 1) 49 [.int .i64 k', .int .i64 s', .int .i64 dx', .int .i64 dy'] := Blk.grew (by (repeat' (first | (with_reducible assumption) | ((with_reducible refine Blk.new ?_); (first | (with_reducible rfl) | (simp only [World.size_alloc, World.size_setCell, size_drewN]; done))) | (with_reducible refine Blk.alloc ?_ _) | (with_reducible refine Blk.drewN ?_ _) | (with_reducible refine Blk.drew ?_) | (refine Blk.other ?_ (by omega) _) | fail))) G3
  have B3_2 : Blk w3 (w.heap.size + 1 + 1) 23 [.int .i64 x, .int .i64 y, .int .i64 z, .int .i64 h] := Blk.grew (by (repeat' (first | (with_reducible assumption) | ((with_reducible refine Blk.new ?_); (first | (with_reducible rfl) | (simp only [World.size_alloc, World.size_setCell, size_drewN]; done))) | (with_reducible refine Blk.alloc ?_ _) | (with_reducible refine Blk.drewN ?_ _) | (with_reducible refine Blk.drew ?_) | (refine Blk.other ?_ (by omega) _) | fail))) G3
  have B3_3 : Blk w3 (w.heap.size + 1 + 1 + 1) 25 [.int .i64 px, .int .i64 py] := Blk.grew (by (repeat' (first | (with_reducible assumption) | ((with_reducible refine Blk.new ?_); (first | (with_reducible rfl) | (simp only [World.size_alloc, World.size_setCell, size_drewN]; done))) | (with_reducible refine Blk.alloc ?_ _) | (with_reducible refine Blk.drewN ?_ _) | (with_reducible refine Blk.drew ?_) | (refine Blk.other ?_ (by omega) _) | fail))) G3
  have B3_4 : Blk w3 (b2_0) 39 [.int .i64 (k % 4), .bool m, .int .i64 (1 + s % 4), .int .i64 (dx.tmod 1000), .int .i64 (dy.tmod 1000)] := Blk.grew (by (repeat' (first | (with_reducible assumption) | ((with_reducible refine Blk.new ?_); (first | (with_reducible rfl) | (simp only [World.size_alloc, World.size_setCell, size_drewN]; done))) | (with_reducible refine Blk.alloc ?_ _) | (with_reducible refine Blk.drewN ?_ _) | (with_reducible refine Blk.drew ?_) | (refine Blk.other ?_ (by omega) _) | fail))) G3
  have B3_5 : Blk w3 (b2_1) 39 [.int .i64 (k' % 4), .bool m', .int .i64 (1 + s' % 4), .int .i64 (dx'.tmod 1000), .int .i64 (dy'.tmod 1000)] := Blk.grew (by (repeat' (first | (with_reducible assumption) | ((with_reducible refine Blk.new ?_); (first | (with_reducible rfl) | (simp only [World.size_alloc, World.size_setCell, size_drewN]; done))) | (with_reducible refine Blk.alloc ?_ _) | (with_reducible refine Blk.drewN ?_ _) | (with_reducible refine Blk.drew ?_) | (refine Blk.other ?_ (by omega) _) | fail))) G3
  have z3 := G3.size
  try simp only [World.size_alloc, World.size_setCell, size_drewN] at z3
  replace G3 := hide G3
  have t3_0 := B3_0.lt
  have d3_0_0 := B3_0.cell 0 rfl
  have e3_0_0 := B3_0.free 0
  have d3_0_1 := B3_0.cell 1 rfl
  have e3_0_1 := B3_0.free 1
  have d3_0_2 := B3_0.cell 2 rfl
  have e3_0_2 := B3_0.free 2
  have d3_0_3 := B3_0.cell 3 rfl
  have e3_0_3 := B3_0.free 3
  have t3_1 := B3_1.lt
  have d3_1_0 := B3_1.cell 0 rfl
  have e3_1_0 := B3_1.free 0
  have d3_1_1 := B3_1.cell 1 rfl
  have e3_1_1 := B3_1.free 1
  have d3_1_2 := B3_1.cell 2 rfl
  have e3_1_2 := B3_1.free 2
  have d3_1_3 := B3_1.cell 3 rfl
  have e3_1_3 := B3_1.free 3
  have t3_2 := B3_2.lt
  have d3_2_0 := B3_2.cell 0 rfl
  have e3_2_0 := B3_2.free 0
  have d3_2_1 := B3_2.cell 1 rfl
  have e3_2_1 := B3_2.free 1
  have d3_2_2 := B3_2.cell 2 rfl
  have e3_2_2 := B3_2.free 2
  have d3_2_3 := B3_2.cell 3 rfl
  have e3_2_3 := B3_2.free 3
  have t3_3 := B3_3.lt
  have d3_3_0 := B3_3.cell 0 rfl
  have e3_3_0 := B3_3.free 0
  have d3_3_1 := B3_3.cell 1 rfl
  have e3_3_1 := B3_3.free 1
  have t3_4 := B3_4.lt
  have d3_4_0 := B3_4.cell 0 rfl
  have e3_4_0 := B3_4.free 0
  have d3_4_1 := B3_4.cell 1 rfl
  have e3_4_1 := B3_4.free 1
  have d3_4_2 := B3_4.cell 2 rfl
  have e3_4_2 := B3_4.free 2
  have d3_4_3 := B3_4.cell 3 rfl
  have e3_4_3 := B3_4.free 3
  have d3_4_4 := B3_4.cell 4 rfl
  have e3_4_4 := B3_4.free 4
  have t3_5 := B3_5.lt
  have d3_5_0 := B3_5.cell 0 rfl
  have e3_5_0 := B3_5.free 0
  have d3_5_1 := B3_5.cell 1 rfl
  have e3_5_1 := B3_5.free 1
  have d3_5_2 := B3_5.cell 2 rfl
  have e3_5_2 := B3_5.free 2
  have d3_5_3 := B3_5.cell 3 rfl
  have e3_5_3 := B3_5.free 3
  have d3_5_4 := B3_5.cell 4 rfl
  have e3_5_4 := B3_5.free 4
  go_wp2_with fail
  refine name_world fun w4 h4 => ?_
  have G4 : Grew w w4 := by
    rw [h4]
    repeat' (first | (with_reducible exact Grew.refl _) | (with_reducible refine Grew.setCell ?_ ?_ _) | (with_reducible refine Grew.drewN ?_ _) | (with_reducible refine Grew.alloc ?_ _) | (with_reducible refine Grew.trans ?_ G4.out) | (with_reducible refine Grew.trans ?_ G3.out) | (with_reducible refine Grew.trans ?_ G2.out) | (with_reducible refine Grew.trans ?_ G1.out) | (dsimp only; omega))
  have B4_0 : Blk w4 (b2_0) 39 [.int .i64 (k % 4), .bool m, .int .i64 (1 + s % 4), .int .i64 (dx.tmod 1000), .int .i64 (dy.tmod 1000)] := by (rw [h4]; repeat' (first | (with_reducible assumption) | ((with_reducible refine Blk.new ?_); (first | (with_reducible rfl) | (simp only [World.size_alloc, World.size_setCell, size_drewN]; done))) | (with_reducible refine Blk.alloc ?_ _) | (with_reducible refine Blk.drewN ?_ _) | (with_reducible refine Blk.drew ?_) | (refine Blk.other ?_ (by omega) _) | fail))
  have B4_1 : Blk w4 (b2_1) 39 [.int .i64 (k' % 4), .bool m', .int .i64 (1 + s' % 4), .int .i64 (dx'.tmod 1000), .int .i64 (dy'.tmod 1000)] := by (rw [h4]; repeat' (first | (with_reducible assumption) | ((with_reducible refine Blk.new ?_); (first | (with_reducible rfl) | (simp only [World.size_alloc, World.size_setCell, size_drewN]; done))) | (with_reducible refine Blk.alloc ?_ _) | (with_reducible refine Blk.drewN ?_ _) | (with_reducible refine Blk.drew ?_) | (refine Blk.other ?_ (by omega) _) | fail))
  have B4_2 : Blk w4 (w3.heap.size) 39 [.int .i64 ck, .bool cm, .int .i64 cs, .int .i64 cx, .int .i64 cy] := by (rw [h4]; repeat' (first | (with_reducible assumption) | ((with_reducible refine Blk.new ?_); (first | (with_reducible rfl) | (simp only [World.size_alloc, World.size_setCell, size_drewN]; done))) | (with_reducible refine Blk.alloc ?_ _) | (with_reducible refine Blk.drewN ?_ _) | (with_reducible refine Blk.drew ?_) | (refine Blk.other ?_ (by omega) _) | fail))
  have B4_3 : Blk w4 (w3.heap.size + 1) 23 [.int .i64 (x.tmod 100), .int .i64 (y.tmod 100), .int .i64 (z % 64), .int .i64 (h % 64)] := by (rw [h4]; repeat' (first | (with_reducible assumption) | ((with_reducible refine Blk.new ?_); (first | (with_reducible rfl) | (simp only [World.size_alloc, World.size_setCell, size_drewN]; done))) | (with_reducible refine Blk.alloc ?_ _) | (with_reducible refine Blk.drewN ?_ _) | (with_reducible refine Blk.drew ?_) | (refine Blk.other ?_ (by omega) _) | fail))
  have B4_4 : Blk w4 (w3.heap.size + 1 + 1) 25 [.int .i64 (px.tmod 20000), .int .i64 (py.tmod 20000)] := by (rw [h4]; repeat' (first | (with_reducible assumption) | ((with_reducible refine Blk.new ?_); (first | (with_reducible rfl) | (simp only [World.size_alloc, World.size_setCell, size_drewN]; done))) | (with_reducible refine Blk.alloc ?_ _) | (with_reducible refine Blk.drewN ?_ _) | (with_reducible refine Blk.drew ?_) | (refine Blk.other ?_ (by omega) _) | fail))
  have z4 := G4.size
  replace G4 := hide G4
  clear h4
  have t4_0 := B4_0.lt
  have d4_0_0 := B4_0.cell 0 rfl
  have e4_0_0 := B4_0.free 0
  have d4_0_1 := B4_0.cell 1 rfl
  have e4_0_1 := B4_0.free 1
  have d4_0_2 := B4_0.cell 2 rfl
  have e4_0_2 := B4_0.free 2
  have d4_0_3 := B4_0.cell 3 rfl
  have e4_0_3 := B4_0.free 3
  have d4_0_4 := B4_0.cell 4 rfl
  have e4_0_4 := B4_0.free 4
  have t4_1 := B4_1.lt
  have d4_1_0 := B4_1.cell 0 rfl
  have e4_1_0 := B4_1.free 0
  have d4_1_1 := B4_1.cell 1 rfl
  have e4_1_1 := B4_1.free 1
  have d4_1_2 := B4_1.cell 2 rfl
  have e4_1_2 := B4_1.free 2
  have d4_1_3 := B4_1.cell 3 rfl
  have e4_1_3 := B4_1.free 3
  have d4_1_4 := B4_1.cell 4 rfl
  have e4_1_4 := B4_1.free 4
  have t4_2 := B4_2.lt
  have d4_2_0 := B4_2.cell 0 rfl
  have e4_2_0 := B4_2.free 0
  have d4_2_1 := B4_2.cell 1 rfl
  have e4_2_1 := B4_2.free 1
  have d4_2_2 := B4_2.cell 2 rfl
  have e4_2_2 := B4_2.free 2
  have d4_2_3 := B4_2.cell 3 rfl
  have e4_2_3 := B4_2.free 3
  have d4_2_4 := B4_2.cell 4 rfl
  have e4_2_4 := B4_2.free 4
  have t4_3 := B4_3.lt
  have d4_3_0 := B4_3.cell 0 rfl
  have e4_3_0 := B4_3.free 0
  have d4_3_1 := B4_3.cell 1 rfl
  have e4_3_1 := B4_3.free 1
  have d4_3_2 := B4_3.cell 2 rfl
  have e4_3_2 := B4_3.free 2
  have d4_3_3 := B4_3.cell 3 rfl
  have e4_3_3 := B4_3.free 3
  have t4_4 := B4_4.lt
  have d4_4_0 := B4_4.cell 0 rfl
  have e4_4_0 := B4_4.free 0
  have d4_4_1 := B4_4.cell 1 rfl
  have e4_4_1 := B4_4.free 1
  have g4_0_0 := fun m os => (B4_0.grow m os).cell 0 rfl
  have g4_0_1 := fun m os => (B4_0.grow m os).cell 1 rfl
  have g4_0_2 := fun m os => (B4_0.grow m os).cell 2 rfl
  have g4_0_3 := fun m os => (B4_0.grow m os).cell 3 rfl
  have g4_0_4 := fun m os => (B4_0.grow m os).cell 4 rfl
  have g4_1_0 := fun m os => (B4_1.grow m os).cell 0 rfl
  have g4_1_1 := fun m os => (B4_1.grow m os).cell 1 rfl
  have g4_1_2 := fun m os => (B4_1.grow m os).cell 2 rfl
  have g4_1_3 := fun m os => (B4_1.grow m os).cell 3 rfl
  have g4_1_4 := fun m os => (B4_1.grow m os).cell 4 rfl
  have g4_2_0 := fun m os => (B4_2.grow m os).cell 0 rfl
  have g4_2_1 := fun m os => (B4_2.grow m os).cell 1 rfl
  have g4_2_2 := fun m os => (B4_2.grow m os).cell 2 rfl
  have g4_2_3 := fun m os => (B4_2.grow m os).cell 3 rfl
  have g4_2_4 := fun m os => (B4_2.grow m os).cell 4 rfl
  have g4_3_0 := fun m os => (B4_3.grow m os).cell 0 rfl
  have g4_3_1 := fun m os => (B4_3.grow m os).cell 1 rfl
  have g4_3_2 := fun m os => (B4_3.grow m os).cell 2 rfl
  have g4_3_3 := fun m os => (B4_3.grow m os).cell 3 rfl
  have g4_4_0 := fun m os => (B4_4.grow m os).cell 0 rfl
  have g4_4_1 := fun m os => (B4_4.grow m os).cell 1 rfl
  refine wp_region_calm (by kernel_rfl) (by kernel_rfl) ?_
  repeat (first | (refine lex_skip rfl (by rfl) ?_) | (refine lex_calm rfl (by rfl) (fun K hK => ?_); go_simp; first | (refine hK _ ?_; clear hK K) | (apply Exists.intro; refine ⟨fun _ _ => ?_, hK _ ?_⟩; (first | (with_reducible exact (K1 _).out) | (with_reducible exact (K2 _).out) | (with_reducible exact (K3 _).out) | (with_reducible exact (K4 _).out) | (with_reducible exact (K5 _).out) | (with_reducible exact (K6 _).out) | (with_reducible exact (A1 _).out)); clear hK K)))
  refine lex_nil ?_
  intro w5 G5
  have B5_0 : Blk w5 (b2_0) 39 [.int .i64 (k % 4), .bool m, .int .i64 (1 + s % 4), .int .i64 (dx.tmod 1000), .int .i64 (dy.tmod 1000)] := B4_0.grew G5
  have B5_1 : Blk w5 (b2_1) 39 [.int .i64 (k' % 4), .bool m', .int .i64 (1 + s' % 4), .int .i64 (dx'.tmod 1000), .int .i64 (dy'.tmod 1000)] := B4_1.grew G5
  have B5_2 : Blk w5 (w3.heap.size) 39 [.int .i64 ck, .bool cm, .int .i64 cs, .int .i64 cx, .int .i64 cy] := B4_2.grew G5
  have B5_3 : Blk w5 (w3.heap.size + 1) 23 [.int .i64 (x.tmod 100), .int .i64 (y.tmod 100), .int .i64 (z % 64), .int .i64 (h % 64)] := B4_3.grew G5
  have B5_4 : Blk w5 (w3.heap.size + 1 + 1) 25 [.int .i64 (px.tmod 20000), .int .i64 (py.tmod 20000)] := B4_4.grew G5
  have z5 := G5.size
  replace G5 := hide G5
  have t5_0 := B5_0.lt
  have d5_0_0 := B5_0.cell 0 rfl
  have e5_0_0 := B5_0.free 0
  have d5_0_1 := B5_0.cell 1 rfl
  have e5_0_1 := B5_0.free 1
  have d5_0_2 := B5_0.cell 2 rfl
  have e5_0_2 := B5_0.free 2
  have d5_0_3 := B5_0.cell 3 rfl
  have e5_0_3 := B5_0.free 3
  have d5_0_4 := B5_0.cell 4 rfl
  have e5_0_4 := B5_0.free 4
  have t5_1 := B5_1.lt
  have d5_1_0 := B5_1.cell 0 rfl
  have e5_1_0 := B5_1.free 0
  have d5_1_1 := B5_1.cell 1 rfl
  have e5_1_1 := B5_1.free 1
  have d5_1_2 := B5_1.cell 2 rfl
  have e5_1_2 := B5_1.free 2
  have d5_1_3 := B5_1.cell 3 rfl
  have e5_1_3 := B5_1.free 3
  have d5_1_4 := B5_1.cell 4 rfl
  have e5_1_4 := B5_1.free 4
  have t5_2 := B5_2.lt
  have d5_2_0 := B5_2.cell 0 rfl
  have e5_2_0 := B5_2.free 0
  have d5_2_1 := B5_2.cell 1 rfl
  have e5_2_1 := B5_2.free 1
  have d5_2_2 := B5_2.cell 2 rfl
  have e5_2_2 := B5_2.free 2
  have d5_2_3 := B5_2.cell 3 rfl
  have e5_2_3 := B5_2.free 3
  have d5_2_4 := B5_2.cell 4 rfl
  have e5_2_4 := B5_2.free 4
  have t5_3 := B5_3.lt
  have d5_3_0 := B5_3.cell 0 rfl
  have e5_3_0 := B5_3.free 0
  have d5_3_1 := B5_3.cell 1 rfl
  have e5_3_1 := B5_3.free 1
  have d5_3_2 := B5_3.cell 2 rfl
  have e5_3_2 := B5_3.free 2
  have d5_3_3 := B5_3.cell 3 rfl
  have e5_3_3 := B5_3.free 3
  have t5_4 := B5_4.lt
  have d5_4_0 := B5_4.cell 0 rfl
  have e5_4_0 := B5_4.free 0
  have d5_4_1 := B5_4.cell 1 rfl
  have e5_4_1 := B5_4.free 1
  go_wp2
  go_ret
  refine ⟨rfl, Grew.below ?_⟩
  repeat' (first | (with_reducible exact Grew.refl _) | (with_reducible refine Grew.setCell ?_ ?_ _) | (with_reducible refine Grew.drewN ?_ _) | (with_reducible refine Grew.alloc ?_ _) | (with_reducible refine Grew.trans ?_ G5.out) | (with_reducible refine Grew.trans ?_ G4.out) | (with_reducible refine Grew.trans ?_ G3.out) | (with_reducible refine Grew.trans ?_ G2.out) | (with_reducible refine Grew.trans ?_ G1.out) | (dsimp only; omega))

set_option maxRecDepth 100000 in
theorem lifted (os : Os) (started : os.Started) (H : Type) (enc : TypeId × Value → H) :
    ReturnsInHanded {} Try.checked os 8 .any (Rows.geometryCombinesSpec.pre6 enc Try.prog Try.f8 Rows.geometryCombinesRow.domain false) (Rows.geometryCombinesSpec.post enc Try.prog Try.f8 false true false false) := by
  refine returnsInHanded_of_change (C := Try.checked) own_knob started (by kernel_rfl) Try.func8
    (ChangeSpec.witness6 (enc := enc) (C := Try.checked) false ⟨#[], #[.agg #[.int .i64 0, .int .i64 0, .int .i64 0, .int .i64 0], .agg #[.int .i64 0, .int .i64 0, .int .i64 0, .int .i64 0], .bool false, .bool false, .agg #[.int .i64 0, .int .i64 0, .int .i64 0, .int .i64 0], .agg #[.int .i64 0, .int .i64 0]], []⟩ 8 (by kernel_rfl) (by kernel_rfl) (by kernel_rfl) (by kernel_rfl)) ?_
  intro W base args ds gs before hval0 hW hcnd _
  have hval : ∀ (j : Nat) t v, Try.f8.params[j]? = some t → args[j]? = some v → Value.okWide Try.prog W .any base t v := hval0
  have hW' := hW
  obtain ⟨p, q, hA0, hV, rfl, hfz, hnd⟩ := hW
  have hA : DataW.TrodAll enc Try.prog W 0 (fun _ => true) true Try.f8.params.toList args.toList ds p := hA0
  have hAk := hA
  rw [Try.params8] at hA hval
  obtain ⟨v0, vs0, d0, ds0, p0, q0, hargs, rfl, rfl, h0, r0⟩ := trodAll_cons hA
  obtain ⟨v1, vs1, d1, ds1, p1, q1, rfl, rfl, rfl, h1, r1⟩ := trodAll_cons r0
  obtain ⟨v2, vs2, d2, ds2, p2, q2, rfl, rfl, rfl, h2, r2⟩ := trodAll_cons r1
  obtain ⟨v3, vs3, d3, ds3, p3, q3, rfl, rfl, rfl, h3, r3⟩ := trodAll_cons r2
  obtain ⟨v4, vs4, d4, ds4, p4, q4, rfl, rfl, rfl, h4, r4⟩ := trodAll_cons r3
  obtain ⟨v5, vs5, d5, ds5, p5, q5, rfl, rfl, rfl, h5, r5⟩ := trodAll_cons r4
  obtain ⟨rfl, rfl, rfl⟩ := trodAll_nil r5
  obtain rfl : args = #[v0, v1, v2, v3, v4, v5] := by cases args; simp_all
  obtain ⟨rfl, rfl⟩ := trodVars_none hV
  obtain ⟨a0_0, a0_1, a0_2, a0_3, rfl⟩ := open_arr4 (hval 0 49 v0 rfl rfl) h0
  obtain ⟨a1_0, a1_1, a1_2, a1_3, rfl⟩ := open_arr4 (hval 1 49 v1 rfl rfl) h1
  obtain ⟨a2, rfl, _⟩ := open_bool Try.underlying4 (hval 2 4 v2 rfl rfl) h2
  obtain ⟨a3, rfl, _⟩ := open_bool Try.underlying4 (hval 3 4 v3 rfl rfl) h3
  obtain ⟨a4, rfl⟩ := open_rect (hval 4 23 v4 rfl rfl) h4
  obtain ⟨a5, rfl⟩ := open_point (hval 5 25 v5 rfl rfl) h5
  clear hA0 hval0
  simp only [List.append_nil] at hW'
  refine (walk a0_0 a0_1 a0_2 a0_3 a1_0 a1_1 a1_2 a1_3 a2 a3 a4 a5 W).mono fun e W' ⟨he, hg⟩ => ?_
  subst he
  have hargs' := kept_all hg _ _ _ _ (by rw [Try.params8]; intro t ht; simp only [List.mem_cons, List.not_mem_nil, or_false] at ht; (repeat' (rcases ht with rfl | ht)); all_goals first | (subst ht; exact ⟨by kernel_rfl, of_decide_eq_true (by kernel_rfl)⟩) | exact ⟨by kernel_rfl, of_decide_eq_true (by kernel_rfl)⟩) hAk (fun x hx => hW'.lt x (by simpa using hx))
  exact ⟨_, rfl, ⟨_, _, _, [], _, [], hW', trodAll_cons_mk (shut_bool Try.underlying4 _) trodAll_mk0, hargs', rfl, World.keptBut_mono (fun p hp => ⟨hp, Or.inr (by simpa using hp)⟩) (hg.frame _), fun h => by cases h⟩⟩

theorem over : Rows.geometryCombinesRow.holds Try.pinned (OpenSpec.ofChange Rows.geometryCombinesSpec) :=
  OpenClaim.holds_of_wide 8 Try.f8 rfl rfl rfl rfl rfl rfl rfl ⟨rfl, rfl, rfl, rfl, rfl⟩ rfl rfl rfl rfl rfl (by kernel_rfl) Try.func8 (by kernel_rfl)
    (of_decide_eq_true (by kernel_rfl)) (by unfold Func.isWrapper; first | (rw [if_pos (by decide +kernel)]; kernel_rfl) | (rw [if_neg (by decide +kernel)]; exact ⟨rfl, rfl⟩))
    (fun os started H enc _ => lifted os started H enc)

theorem proved : Rows.GeometryCombinesSaid :=
  over
#print axioms proved
end Go.Proofs.Ythldilikkogaoaa.geometryCombines
