/- What the reference's Intersect and Union return; no condition. -/
import Derived.Test.YthldilikkogaoaaGrA
import Derived.Test.YthldilikkogaoaaGeUni
import Derived.Test.YthldilikkogaoaaMix
namespace Go.Proofs.Ythldilikkogaoaa
open Go.RowKit Go.Sort
set_option linter.unusedSimpArgs false
set_option linter.unusedVariables false

theorem kept_ok (r : R) : r.kept.ok = true := by
  unfold R.kept
  split
  · assumption
  · rfl
theorem kept_empty (r : R) : r.kept.empty = r.empty := by
  unfold R.kept
  split
  · rfl
  · rename_i h; simp [R.empty, h]; decide
theorem isect_kept (a b : R) : isectR a b = fillR (max a.kept.x b.kept.x) (max a.kept.y b.kept.y) (min (a.kept.x + a.kept.w) (b.kept.x + b.kept.w)) (min (a.kept.y + a.kept.h) (b.kept.y + b.kept.h)) := by
  have h1 := R.bounds (kept_ok a)
  have h2 := R.bounds (kept_ok b)
  have e1 := kept_empty a
  have e2 := kept_empty b
  unfold isectR
  by_cases c : (a.empty || b.empty) = true
  · rw [if_pos c]
    unfold fillR
    rw [if_pos]
    rw [← e1, ← e2] at c
    simp only [R.empty, kept_ok, Bool.not_true, Bool.false_or, Bool.or_eq_true, beq_iff_eq] at c
    omega
  · rw [if_neg c]
    simp only [Bool.or_eq_true, not_or, Bool.not_eq_true] at c
    have k1 : a.kept = a := by unfold R.kept; rw [if_pos (R.full c.1).1]
    have k2 : b.kept = b := by unfold R.kept; rw [if_pos (R.full c.2).1]
    rw [k1, k2]

set_option maxHeartbeats 4000000 in
theorem rIntersect_any (a b : R) (w : World) :
    Calls Try.prog 17 #[a.v, b.v] w fun e w' => e = .returned (isectR a b).v ∧ Grew w w' := by
  have V := fun (r : R) W => hide (valid_any r W)
  have ok1 := kept_ok a
  have ok2 := kept_ok b
  have HE := isect_kept a b
  generalize ha : a.kept = a' at ok1 HE
  generalize hb : b.kept = b' at ok2 HE
  obtain ⟨x, y, z, h⟩ := a
  obtain ⟨x', y', z', h'⟩ := b
  have HA := hide ha
  have HB := hide hb
  clear ha hb
  obtain ⟨⟨b1, b2⟩, ⟨b3, b4⟩, ⟨b5, b6⟩, b7, b8⟩ := R.bounds ok1
  obtain ⟨⟨k1, k2⟩, ⟨k3, k4⟩, ⟨k5, k6⟩, k7, k8⟩ := R.bounds ok2
  obtain ⟨p, q, r, s⟩ := a'
  obtain ⟨p', q', r', s'⟩ := b'
  have VA : ∀ W, Hid (Calls Try.prog 38 #[.agg #[.int .i64 x, .int .i64 y, .int .i64 z, .int .i64 h]] W fun e w' => e = .returned (R.v ⟨p, q, r, s⟩) ∧ Grew W w') := fun W => by rw [← HA.out]; exact V ⟨x, y, z, h⟩ W
  have VB : ∀ W, Hid (Calls Try.prog 38 #[.agg #[.int .i64 x', .int .i64 y', .int .i64 z', .int .i64 h']] W fun e w' => e = .returned (R.v ⟨p', q', r', s'⟩) ∧ Grew W w') := fun W => by rw [← HB.out]; exact V ⟨x', y', z', h'⟩ W
  simp only at b1 b2 b3 b4 b5 b6 b7 b8 k1 k2 k3 k4 k5 k6 k7 k8
  clear V ok1 ok2
  have m1 := max_if p p'
  have m2 := max_if q q'
  have m3 := min_if (p + r) (p' + r')
  have m4 := min_if (q + s) (q' + s')
  have v1 : -1048576 ≤ max p p' ∧ max p p' ≤ 1048576 := by omega
  have v2 : -1048576 ≤ max q q' ∧ max q q' ≤ 1048576 := by omega
  have v3 : -1048576 ≤ min (p + r) (p' + r') ∧ min (p + r) (p' + r') ≤ 2097152 := by omega
  have v4 : -1048576 ≤ min (q + s) (q' + s') ∧ min (q + s) (q' + s') ≤ 2097152 := by omega
  replace HE := hide HE
  generalize max p p' = mx at m1 v1 HE
  generalize max q q' = my at m2 v2 HE
  generalize min (p + r) (p' + r') = nx at m3 v3 HE
  generalize min (q + s) (q' + s') = ny at m4 v4 HE
  obtain ⟨v1, v1'⟩ := v1
  obtain ⟨v2, v2'⟩ := v2
  obtain ⟨v3, v3'⟩ := v3
  obtain ⟨v4, v4'⟩ := v4

  by_cases t1 : nx - mx ≤ 0
  · have H : Hid (isectR ⟨x, y, z, h⟩ ⟨x', y', z', h'⟩ = R.zero) := by rw [Hid, HE.out]; exact if_pos (by omega)
    go_enter Try.func17, Try.ntmps17
    go_wp2_with fail
    go_wp2_with fail
    refine name_world fun w1 h1 => ?_
    have G1 : Grew w w1 := by
      rw [h1]
      repeat' (first | (with_reducible exact Grew.refl _) | (with_reducible refine Grew.setCell ?_ ?_ _) | (with_reducible refine Grew.drewN ?_ _) | (with_reducible refine Grew.alloc ?_ _) | (with_reducible refine Grew.trans ?_ G1.out) | (dsimp only; omega))
    have B1_0 : Blk w1 (w.heap.size) 23 [.int .i64 x, .int .i64 y, .int .i64 z, .int .i64 h] := by (rw [h1]; repeat' (first | (with_reducible assumption) | ((with_reducible refine Blk.new ?_); (first | (with_reducible rfl) | (simp only [World.size_alloc, World.size_setCell, size_drewN]; done))) | (with_reducible refine Blk.alloc ?_ _) | (with_reducible refine Blk.drewN ?_ _) | (with_reducible refine Blk.drew ?_) | (refine Blk.other ?_ (by omega) _) | fail))
    have B1_1 : Blk w1 (w.heap.size + 1) 23 [.int .i64 x', .int .i64 y', .int .i64 z', .int .i64 h'] := by (rw [h1]; repeat' (first | (with_reducible assumption) | ((with_reducible refine Blk.new ?_); (first | (with_reducible rfl) | (simp only [World.size_alloc, World.size_setCell, size_drewN]; done))) | (with_reducible refine Blk.alloc ?_ _) | (with_reducible refine Blk.drewN ?_ _) | (with_reducible refine Blk.drew ?_) | (refine Blk.other ?_ (by omega) _) | fail))
    have B1_2 : Blk w1 (w.heap.size + 1 + 1) 23 [.int .i64 0, .int .i64 0, .int .i64 0, .int .i64 0] := by (rw [h1]; repeat' (first | (with_reducible assumption) | ((with_reducible refine Blk.new ?_); (first | (with_reducible rfl) | (simp only [World.size_alloc, World.size_setCell, size_drewN]; done))) | (with_reducible refine Blk.alloc ?_ _) | (with_reducible refine Blk.drewN ?_ _) | (with_reducible refine Blk.drew ?_) | (refine Blk.other ?_ (by omega) _) | fail))
    have z1 := G1.size
    replace G1 := hide G1
    clear h1
    have t1_0 := B1_0.lt
    have d1_0_0 := B1_0.cell 0 rfl
    have e1_0_0 := B1_0.free 0
    have d1_0_1 := B1_0.cell 1 rfl
    have e1_0_1 := B1_0.free 1
    have d1_0_2 := B1_0.cell 2 rfl
    have e1_0_2 := B1_0.free 2
    have d1_0_3 := B1_0.cell 3 rfl
    have e1_0_3 := B1_0.free 3
    have t1_1 := B1_1.lt
    have d1_1_0 := B1_1.cell 0 rfl
    have e1_1_0 := B1_1.free 0
    have d1_1_1 := B1_1.cell 1 rfl
    have e1_1_1 := B1_1.free 1
    have d1_1_2 := B1_1.cell 2 rfl
    have e1_1_2 := B1_1.free 2
    have d1_1_3 := B1_1.cell 3 rfl
    have e1_1_3 := B1_1.free 3
    have t1_2 := B1_2.lt
    have d1_2_0 := B1_2.cell 0 rfl
    have e1_2_0 := B1_2.free 0
    have d1_2_1 := B1_2.cell 1 rfl
    have e1_2_1 := B1_2.free 1
    have d1_2_2 := B1_2.cell 2 rfl
    have e1_2_2 := B1_2.free 2
    have d1_2_3 := B1_2.cell 3 rfl
    have e1_2_3 := B1_2.free 3
    have g1_0_0 := fun m os => (B1_0.grow m os).cell 0 rfl
    have g1_0_1 := fun m os => (B1_0.grow m os).cell 1 rfl
    have g1_0_2 := fun m os => (B1_0.grow m os).cell 2 rfl
    have g1_0_3 := fun m os => (B1_0.grow m os).cell 3 rfl
    have g1_1_0 := fun m os => (B1_1.grow m os).cell 0 rfl
    have g1_1_1 := fun m os => (B1_1.grow m os).cell 1 rfl
    have g1_1_2 := fun m os => (B1_1.grow m os).cell 2 rfl
    have g1_1_3 := fun m os => (B1_1.grow m os).cell 3 rfl
    have g1_2_0 := fun m os => (B1_2.grow m os).cell 0 rfl
    have g1_2_1 := fun m os => (B1_2.grow m os).cell 1 rfl
    have g1_2_2 := fun m os => (B1_2.grow m os).cell 2 rfl
    have g1_2_3 := fun m os => (B1_2.grow m os).cell 3 rfl
    refine wp_region_stores 4 [fun W => (((W.setCell ⟨w.heap.size, 0, none⟩ (.int .i64 p)).setCell ⟨w.heap.size, 1, none⟩ (.int .i64 q)).setCell ⟨w.heap.size, 2, none⟩ (.int .i64 r)).setCell ⟨w.heap.size, 3, none⟩ (.int .i64 s), fun W => (((W.setCell ⟨w.heap.size + 1, 0, none⟩ (.int .i64 p')).setCell ⟨w.heap.size + 1, 1, none⟩ (.int .i64 q')).setCell ⟨w.heap.size + 1, 2, none⟩ (.int .i64 r')).setCell ⟨w.heap.size + 1, 3, none⟩ (.int .i64 s')] (by kernel_rfl) rfl (by kernel_rfl) (by kernel_rfl) (by kernel_rfl) ?_
    repeat (first | (refine lex_skip rfl (by rfl) ?_) | (refine lex_calm rfl (by rfl) (fun K hK => ?_); go_simp; first | (refine hK _ ?_; clear hK K) | (apply Exists.intro; refine ⟨fun _ _ => ?_, hK _ ?_⟩; (first | (with_reducible exact (VA _).out) | (with_reducible exact (VB _).out)); clear hK K)))
    refine lex_nil ?_
    refine stores_cons rfl ?_ ?_
    · intro w2 G2
      have B2_0 := B1_0.grew G2
      have B2_1 := B1_1.grew G2
      have B2_2 := B1_2.grew G2
      have d2_0_0 := B2_0.cell 0 rfl
      have e2_0_0 := B2_0.free 0
      have d2_0_1 := B2_0.cell 1 rfl
      have e2_0_1 := B2_0.free 1
      have d2_0_2 := B2_0.cell 2 rfl
      have e2_0_2 := B2_0.free 2
      have d2_0_3 := B2_0.cell 3 rfl
      have e2_0_3 := B2_0.free 3
      have d2_1_0 := B2_1.cell 0 rfl
      have e2_1_0 := B2_1.free 0
      have d2_1_1 := B2_1.cell 1 rfl
      have e2_1_1 := B2_1.free 1
      have d2_1_2 := B2_1.cell 2 rfl
      have e2_1_2 := B2_1.free 2
      have d2_1_3 := B2_1.cell 3 rfl
      have e2_1_3 := B2_1.free 3
      have d2_2_0 := B2_2.cell 0 rfl
      have e2_2_0 := B2_2.free 0
      have d2_2_1 := B2_2.cell 1 rfl
      have e2_2_1 := B2_2.free 1
      have d2_2_2 := B2_2.cell 2 rfl
      have e2_2_2 := B2_2.free 2
      have d2_2_3 := B2_2.cell 3 rfl
      have e2_2_3 := B2_2.free 3
      go_simp
    refine stores_cons rfl ?_ ?_
    · intro w2 G2
      have B2_0 := B1_0.grew G2
      have B2_1 := B1_1.grew G2
      have B2_2 := B1_2.grew G2
      have d2_0_0 := B2_0.cell 0 rfl
      have e2_0_0 := B2_0.free 0
      have d2_0_1 := B2_0.cell 1 rfl
      have e2_0_1 := B2_0.free 1
      have d2_0_2 := B2_0.cell 2 rfl
      have e2_0_2 := B2_0.free 2
      have d2_0_3 := B2_0.cell 3 rfl
      have e2_0_3 := B2_0.free 3
      have d2_1_0 := B2_1.cell 0 rfl
      have e2_1_0 := B2_1.free 0
      have d2_1_1 := B2_1.cell 1 rfl
      have e2_1_1 := B2_1.free 1
      have d2_1_2 := B2_1.cell 2 rfl
      have e2_1_2 := B2_1.free 2
      have d2_1_3 := B2_1.cell 3 rfl
      have e2_1_3 := B2_1.free 3
      have d2_2_0 := B2_2.cell 0 rfl
      have e2_2_0 := B2_2.free 0
      have d2_2_1 := B2_2.cell 1 rfl
      have e2_2_1 := B2_2.free 1
      have d2_2_2 := B2_2.cell 2 rfl
      have e2_2_2 := B2_2.free 2
      have d2_2_3 := B2_2.cell 3 rfl
      have e2_2_3 := B2_2.free 3
      go_simp
    refine stores_nil ?_
    intro w2 G2
    have B2_0 : Blk w2 (w.heap.size) 23 [.int .i64 x, .int .i64 y, .int .i64 z, .int .i64 h] := B1_0.grew G2
    have B2_1 : Blk w2 (w.heap.size + 1) 23 [.int .i64 x', .int .i64 y', .int .i64 z', .int .i64 h'] := B1_1.grew G2
    have B2_2 : Blk w2 (w.heap.size + 1 + 1) 23 [.int .i64 0, .int .i64 0, .int .i64 0, .int .i64 0] := B1_2.grew G2
    have z2 := G2.size
    replace G2 := hide G2
    simp only [Act.put]
    refine name_exit fun w3 h3 => ?_
    have G3 : Grew w w3 := by
      rw [h3]
      repeat' (first | (with_reducible exact Grew.refl _) | (with_reducible refine Grew.setCell ?_ ?_ _) | (with_reducible refine Grew.drewN ?_ _) | (with_reducible refine Grew.alloc ?_ _) | (with_reducible refine Grew.trans ?_ G3.out) | (with_reducible refine Grew.trans ?_ G2.out) | (with_reducible refine Grew.trans ?_ G1.out) | (dsimp only; omega))
    have B3_0 : Blk w3 (w.heap.size) 23 [.int .i64 p, .int .i64 q, .int .i64 r, .int .i64 s] := by (rw [h3]; (repeat' (first | (refine Blk.other ?_ (by omega) _) | fail)); refine Blk.set_as (vs := [.int .i64 p, .int .i64 q, .int .i64 r, .int .i64 h]) ?_ 3 (.int .i64 s) (by rfl); refine Blk.set_as (vs := [.int .i64 p, .int .i64 q, .int .i64 z, .int .i64 h]) ?_ 2 (.int .i64 r) (by rfl); refine Blk.set_as (vs := [.int .i64 p, .int .i64 y, .int .i64 z, .int .i64 h]) ?_ 1 (.int .i64 q) (by rfl); refine Blk.set_as (vs := [.int .i64 x, .int .i64 y, .int .i64 z, .int .i64 h]) ?_ 0 (.int .i64 p) (by rfl); repeat' (first | (with_reducible assumption) | ((with_reducible refine Blk.new ?_); (first | (with_reducible rfl) | (simp only [World.size_alloc, World.size_setCell, size_drewN]; done))) | (with_reducible refine Blk.alloc ?_ _) | (with_reducible refine Blk.drewN ?_ _) | (with_reducible refine Blk.drew ?_) | (refine Blk.other ?_ (by omega) _) | fail))
    have B3_1 : Blk w3 (w.heap.size + 1) 23 [.int .i64 p', .int .i64 q', .int .i64 r', .int .i64 s'] := by (rw [h3]; (repeat' (first | (refine Blk.other ?_ (by omega) _) | fail)); refine Blk.set_as (vs := [.int .i64 p', .int .i64 q', .int .i64 r', .int .i64 h']) ?_ 3 (.int .i64 s') (by rfl); refine Blk.set_as (vs := [.int .i64 p', .int .i64 q', .int .i64 z', .int .i64 h']) ?_ 2 (.int .i64 r') (by rfl); refine Blk.set_as (vs := [.int .i64 p', .int .i64 y', .int .i64 z', .int .i64 h']) ?_ 1 (.int .i64 q') (by rfl); refine Blk.set_as (vs := [.int .i64 x', .int .i64 y', .int .i64 z', .int .i64 h']) ?_ 0 (.int .i64 p') (by rfl); repeat' (first | (with_reducible assumption) | ((with_reducible refine Blk.new ?_); (first | (with_reducible rfl) | (simp only [World.size_alloc, World.size_setCell, size_drewN]; done))) | (with_reducible refine Blk.alloc ?_ _) | (with_reducible refine Blk.drewN ?_ _) | (with_reducible refine Blk.drew ?_) | (refine Blk.other ?_ (by omega) _) | fail))
    have B3_2 : Blk w3 (w.heap.size + 1 + 1) 23 [.int .i64 0, .int .i64 0, .int .i64 0, .int .i64 0] := by (rw [h3]; repeat' (first | (with_reducible assumption) | ((with_reducible refine Blk.new ?_); (first | (with_reducible rfl) | (simp only [World.size_alloc, World.size_setCell, size_drewN]; done))) | (with_reducible refine Blk.alloc ?_ _) | (with_reducible refine Blk.drewN ?_ _) | (with_reducible refine Blk.drew ?_) | (refine Blk.other ?_ (by omega) _) | fail))
    have z3 := G3.size
    replace G3 := hide G3
    clear h3
    have t3_0 := B3_0.lt
    have d3_0_0 := B3_0.cell 0 rfl
    have e3_0_0 := B3_0.free 0
    have d3_0_1 := B3_0.cell 1 rfl
    have e3_0_1 := B3_0.free 1
    have d3_0_2 := B3_0.cell 2 rfl
    have e3_0_2 := B3_0.free 2
    have d3_0_3 := B3_0.cell 3 rfl
    have e3_0_3 := B3_0.free 3
    have t3_1 := B3_1.lt
    have d3_1_0 := B3_1.cell 0 rfl
    have e3_1_0 := B3_1.free 0
    have d3_1_1 := B3_1.cell 1 rfl
    have e3_1_1 := B3_1.free 1
    have d3_1_2 := B3_1.cell 2 rfl
    have e3_1_2 := B3_1.free 2
    have d3_1_3 := B3_1.cell 3 rfl
    have e3_1_3 := B3_1.free 3
    have t3_2 := B3_2.lt
    have d3_2_0 := B3_2.cell 0 rfl
    have e3_2_0 := B3_2.free 0
    have d3_2_1 := B3_2.cell 1 rfl
    have e3_2_1 := B3_2.free 1
    have d3_2_2 := B3_2.cell 2 rfl
    have e3_2_2 := B3_2.free 2
    have d3_2_3 := B3_2.cell 3 rfl
    have e3_2_3 := B3_2.free 3
    go_wp2_with fail
    have g3_0_0 := fun m os => (B3_0.grow m os).cell 0 rfl
    have g3_0_1 := fun m os => (B3_0.grow m os).cell 1 rfl
    have g3_0_2 := fun m os => (B3_0.grow m os).cell 2 rfl
    have g3_0_3 := fun m os => (B3_0.grow m os).cell 3 rfl
    have g3_1_0 := fun m os => (B3_1.grow m os).cell 0 rfl
    have g3_1_1 := fun m os => (B3_1.grow m os).cell 1 rfl
    have g3_1_2 := fun m os => (B3_1.grow m os).cell 2 rfl
    have g3_1_3 := fun m os => (B3_1.grow m os).cell 3 rfl
    have g3_2_0 := fun m os => (B3_2.grow m os).cell 0 rfl
    have g3_2_1 := fun m os => (B3_2.grow m os).cell 1 rfl
    have g3_2_2 := fun m os => (B3_2.grow m os).cell 2 rfl
    have g3_2_3 := fun m os => (B3_2.grow m os).cell 3 rfl
    refine wp_region_calm (by kernel_rfl) (by kernel_rfl) ?_
    repeat (first | (refine lex_skip rfl (by rfl) ?_) | (refine lex_calm rfl (by rfl) (fun K hK => ?_); go_simp; first | (refine hK _ ?_; clear hK K) | (apply Exists.intro; refine ⟨fun _ _ => ?_, hK _ ?_⟩; (fail); clear hK K)))
    refine lex_nil ?_
    intro w4 G4
    have B4_0 : Blk w4 (w.heap.size) 23 [.int .i64 p, .int .i64 q, .int .i64 r, .int .i64 s] := B3_0.grew G4
    have B4_1 : Blk w4 (w.heap.size + 1) 23 [.int .i64 p', .int .i64 q', .int .i64 r', .int .i64 s'] := B3_1.grew G4
    have B4_2 : Blk w4 (w.heap.size + 1 + 1) 23 [.int .i64 0, .int .i64 0, .int .i64 0, .int .i64 0] := B3_2.grew G4
    have z4 := G4.size
    replace G4 := hide G4
    have t4_0 := B4_0.lt
    have d4_0_0 := B4_0.cell 0 rfl
    have e4_0_0 := B4_0.free 0
    have d4_0_1 := B4_0.cell 1 rfl
    have e4_0_1 := B4_0.free 1
    have d4_0_2 := B4_0.cell 2 rfl
    have e4_0_2 := B4_0.free 2
    have d4_0_3 := B4_0.cell 3 rfl
    have e4_0_3 := B4_0.free 3
    have t4_1 := B4_1.lt
    have d4_1_0 := B4_1.cell 0 rfl
    have e4_1_0 := B4_1.free 0
    have d4_1_1 := B4_1.cell 1 rfl
    have e4_1_1 := B4_1.free 1
    have d4_1_2 := B4_1.cell 2 rfl
    have e4_1_2 := B4_1.free 2
    have d4_1_3 := B4_1.cell 3 rfl
    have e4_1_3 := B4_1.free 3
    have t4_2 := B4_2.lt
    have d4_2_0 := B4_2.cell 0 rfl
    have e4_2_0 := B4_2.free 0
    have d4_2_1 := B4_2.cell 1 rfl
    have e4_2_1 := B4_2.free 1
    have d4_2_2 := B4_2.cell 2 rfl
    have e4_2_2 := B4_2.free 2
    have d4_2_3 := B4_2.cell 3 rfl
    have e4_2_3 := B4_2.free 3
    go_wp2_with fail
    refine name_world fun w5 h5 => ?_
    have G5 : Grew w w5 := by
      rw [h5]
      repeat' (first | (with_reducible exact Grew.refl _) | (with_reducible refine Grew.setCell ?_ ?_ _) | (with_reducible refine Grew.drewN ?_ _) | (with_reducible refine Grew.alloc ?_ _) | (with_reducible refine Grew.trans ?_ G5.out) | (with_reducible refine Grew.trans ?_ G4.out) | (with_reducible refine Grew.trans ?_ G3.out) | (with_reducible refine Grew.trans ?_ G2.out) | (with_reducible refine Grew.trans ?_ G1.out) | (dsimp only; omega))
    have B5_0 : Blk w5 (w.heap.size) 23 [.int .i64 p, .int .i64 q, .int .i64 r, .int .i64 s] := by (rw [h5]; repeat' (first | (with_reducible assumption) | ((with_reducible refine Blk.new ?_); (first | (with_reducible rfl) | (simp only [World.size_alloc, World.size_setCell, size_drewN]; done))) | (with_reducible refine Blk.alloc ?_ _) | (with_reducible refine Blk.drewN ?_ _) | (with_reducible refine Blk.drew ?_) | (refine Blk.other ?_ (by omega) _) | fail))
    have B5_1 : Blk w5 (w.heap.size + 1) 23 [.int .i64 p', .int .i64 q', .int .i64 r', .int .i64 s'] := by (rw [h5]; repeat' (first | (with_reducible assumption) | ((with_reducible refine Blk.new ?_); (first | (with_reducible rfl) | (simp only [World.size_alloc, World.size_setCell, size_drewN]; done))) | (with_reducible refine Blk.alloc ?_ _) | (with_reducible refine Blk.drewN ?_ _) | (with_reducible refine Blk.drew ?_) | (refine Blk.other ?_ (by omega) _) | fail))
    have B5_2 : Blk w5 (w.heap.size + 1 + 1) 23 [.int .i64 0, .int .i64 0, .int .i64 0, .int .i64 0] := by (rw [h5]; repeat' (first | (with_reducible assumption) | ((with_reducible refine Blk.new ?_); (first | (with_reducible rfl) | (simp only [World.size_alloc, World.size_setCell, size_drewN]; done))) | (with_reducible refine Blk.alloc ?_ _) | (with_reducible refine Blk.drewN ?_ _) | (with_reducible refine Blk.drew ?_) | (refine Blk.other ?_ (by omega) _) | fail))
    have z5 := G5.size
    replace G5 := hide G5
    clear h5
    have t5_0 := B5_0.lt
    have d5_0_0 := B5_0.cell 0 rfl
    have e5_0_0 := B5_0.free 0
    have d5_0_1 := B5_0.cell 1 rfl
    have e5_0_1 := B5_0.free 1
    have d5_0_2 := B5_0.cell 2 rfl
    have e5_0_2 := B5_0.free 2
    have d5_0_3 := B5_0.cell 3 rfl
    have e5_0_3 := B5_0.free 3
    have t5_1 := B5_1.lt
    have d5_1_0 := B5_1.cell 0 rfl
    have e5_1_0 := B5_1.free 0
    have d5_1_1 := B5_1.cell 1 rfl
    have e5_1_1 := B5_1.free 1
    have d5_1_2 := B5_1.cell 2 rfl
    have e5_1_2 := B5_1.free 2
    have d5_1_3 := B5_1.cell 3 rfl
    have e5_1_3 := B5_1.free 3
    have t5_2 := B5_2.lt
    have d5_2_0 := B5_2.cell 0 rfl
    have e5_2_0 := B5_2.free 0
    have d5_2_1 := B5_2.cell 1 rfl
    have e5_2_1 := B5_2.free 1
    have d5_2_2 := B5_2.cell 2 rfl
    have e5_2_2 := B5_2.free 2
    have d5_2_3 := B5_2.cell 3 rfl
    have e5_2_3 := B5_2.free 3
    have g5_0_0 := fun m os => (B5_0.grow m os).cell 0 rfl
    have g5_0_1 := fun m os => (B5_0.grow m os).cell 1 rfl
    have g5_0_2 := fun m os => (B5_0.grow m os).cell 2 rfl
    have g5_0_3 := fun m os => (B5_0.grow m os).cell 3 rfl
    have g5_1_0 := fun m os => (B5_1.grow m os).cell 0 rfl
    have g5_1_1 := fun m os => (B5_1.grow m os).cell 1 rfl
    have g5_1_2 := fun m os => (B5_1.grow m os).cell 2 rfl
    have g5_1_3 := fun m os => (B5_1.grow m os).cell 3 rfl
    have g5_2_0 := fun m os => (B5_2.grow m os).cell 0 rfl
    have g5_2_1 := fun m os => (B5_2.grow m os).cell 1 rfl
    have g5_2_2 := fun m os => (B5_2.grow m os).cell 2 rfl
    have g5_2_3 := fun m os => (B5_2.grow m os).cell 3 rfl
    refine wp_region_calm (by kernel_rfl) (by kernel_rfl) ?_
    repeat (first | (refine lex_skip rfl (by rfl) ?_) | (refine lex_calm rfl (by rfl) (fun K hK => ?_); go_simp; first | (refine hK _ ?_; clear hK K) | (apply Exists.intro; refine ⟨fun _ _ => ?_, hK _ ?_⟩; (fail); clear hK K)))
    refine lex_nil ?_
    intro w6 G6
    have B6_0 : Blk w6 (w.heap.size) 23 [.int .i64 p, .int .i64 q, .int .i64 r, .int .i64 s] := B5_0.grew G6
    have B6_1 : Blk w6 (w.heap.size + 1) 23 [.int .i64 p', .int .i64 q', .int .i64 r', .int .i64 s'] := B5_1.grew G6
    have B6_2 : Blk w6 (w.heap.size + 1 + 1) 23 [.int .i64 0, .int .i64 0, .int .i64 0, .int .i64 0] := B5_2.grew G6
    have z6 := G6.size
    replace G6 := hide G6
    have t6_0 := B6_0.lt
    have d6_0_0 := B6_0.cell 0 rfl
    have e6_0_0 := B6_0.free 0
    have d6_0_1 := B6_0.cell 1 rfl
    have e6_0_1 := B6_0.free 1
    have d6_0_2 := B6_0.cell 2 rfl
    have e6_0_2 := B6_0.free 2
    have d6_0_3 := B6_0.cell 3 rfl
    have e6_0_3 := B6_0.free 3
    have t6_1 := B6_1.lt
    have d6_1_0 := B6_1.cell 0 rfl
    have e6_1_0 := B6_1.free 0
    have d6_1_1 := B6_1.cell 1 rfl
    have e6_1_1 := B6_1.free 1
    have d6_1_2 := B6_1.cell 2 rfl
    have e6_1_2 := B6_1.free 2
    have d6_1_3 := B6_1.cell 3 rfl
    have e6_1_3 := B6_1.free 3
    have t6_2 := B6_2.lt
    have d6_2_0 := B6_2.cell 0 rfl
    have e6_2_0 := B6_2.free 0
    have d6_2_1 := B6_2.cell 1 rfl
    have e6_2_1 := B6_2.free 1
    have d6_2_2 := B6_2.cell 2 rfl
    have e6_2_2 := B6_2.free 2
    have d6_2_3 := B6_2.cell 3 rfl
    have e6_2_3 := B6_2.free 3
    go_wp2
    all_goals
      rw [H.out]
      refine bodyPost_ret (v := R.zero.v) (by simp [results, Try.results17, go_sem, R.zero, d6_0_0, d6_0_1, d6_0_2, d6_0_3, d6_1_0, d6_1_1, d6_1_2, d6_1_3, d6_2_0, d6_2_1, d6_2_2, d6_2_3, t6_0, t6_1, t6_2]) rfl ⟨rfl, ?_⟩
      repeat' (first | (with_reducible exact Grew.refl _) | (with_reducible refine Grew.setCell ?_ ?_ _) | (with_reducible refine Grew.drewN ?_ _) | (with_reducible refine Grew.alloc ?_ _) | (with_reducible refine Grew.trans ?_ G6.out) | (with_reducible refine Grew.trans ?_ G5.out) | (with_reducible refine Grew.trans ?_ G4.out) | (with_reducible refine Grew.trans ?_ G3.out) | (with_reducible refine Grew.trans ?_ G2.out) | (with_reducible refine Grew.trans ?_ G1.out) | (dsimp only; omega))
  · by_cases t2 : ny - my ≤ 0
    · have H : Hid (isectR ⟨x, y, z, h⟩ ⟨x', y', z', h'⟩ = R.zero) := by rw [Hid, HE.out]; exact if_pos (by omega)
      go_enter Try.func17, Try.ntmps17
      go_wp2_with fail
      go_wp2_with fail
      refine name_world fun w1 h1 => ?_
      have G1 : Grew w w1 := by
        rw [h1]
        repeat' (first | (with_reducible exact Grew.refl _) | (with_reducible refine Grew.setCell ?_ ?_ _) | (with_reducible refine Grew.drewN ?_ _) | (with_reducible refine Grew.alloc ?_ _) | (with_reducible refine Grew.trans ?_ G1.out) | (dsimp only; omega))
      have B1_0 : Blk w1 (w.heap.size) 23 [.int .i64 x, .int .i64 y, .int .i64 z, .int .i64 h] := by (rw [h1]; repeat' (first | (with_reducible assumption) | ((with_reducible refine Blk.new ?_); (first | (with_reducible rfl) | (simp only [World.size_alloc, World.size_setCell, size_drewN]; done))) | (with_reducible refine Blk.alloc ?_ _) | (with_reducible refine Blk.drewN ?_ _) | (with_reducible refine Blk.drew ?_) | (refine Blk.other ?_ (by omega) _) | fail))
      have B1_1 : Blk w1 (w.heap.size + 1) 23 [.int .i64 x', .int .i64 y', .int .i64 z', .int .i64 h'] := by (rw [h1]; repeat' (first | (with_reducible assumption) | ((with_reducible refine Blk.new ?_); (first | (with_reducible rfl) | (simp only [World.size_alloc, World.size_setCell, size_drewN]; done))) | (with_reducible refine Blk.alloc ?_ _) | (with_reducible refine Blk.drewN ?_ _) | (with_reducible refine Blk.drew ?_) | (refine Blk.other ?_ (by omega) _) | fail))
      have B1_2 : Blk w1 (w.heap.size + 1 + 1) 23 [.int .i64 0, .int .i64 0, .int .i64 0, .int .i64 0] := by (rw [h1]; repeat' (first | (with_reducible assumption) | ((with_reducible refine Blk.new ?_); (first | (with_reducible rfl) | (simp only [World.size_alloc, World.size_setCell, size_drewN]; done))) | (with_reducible refine Blk.alloc ?_ _) | (with_reducible refine Blk.drewN ?_ _) | (with_reducible refine Blk.drew ?_) | (refine Blk.other ?_ (by omega) _) | fail))
      have z1 := G1.size
      replace G1 := hide G1
      clear h1
      have t1_0 := B1_0.lt
      have d1_0_0 := B1_0.cell 0 rfl
      have e1_0_0 := B1_0.free 0
      have d1_0_1 := B1_0.cell 1 rfl
      have e1_0_1 := B1_0.free 1
      have d1_0_2 := B1_0.cell 2 rfl
      have e1_0_2 := B1_0.free 2
      have d1_0_3 := B1_0.cell 3 rfl
      have e1_0_3 := B1_0.free 3
      have t1_1 := B1_1.lt
      have d1_1_0 := B1_1.cell 0 rfl
      have e1_1_0 := B1_1.free 0
      have d1_1_1 := B1_1.cell 1 rfl
      have e1_1_1 := B1_1.free 1
      have d1_1_2 := B1_1.cell 2 rfl
      have e1_1_2 := B1_1.free 2
      have d1_1_3 := B1_1.cell 3 rfl
      have e1_1_3 := B1_1.free 3
      have t1_2 := B1_2.lt
      have d1_2_0 := B1_2.cell 0 rfl
      have e1_2_0 := B1_2.free 0
      have d1_2_1 := B1_2.cell 1 rfl
      have e1_2_1 := B1_2.free 1
      have d1_2_2 := B1_2.cell 2 rfl
      have e1_2_2 := B1_2.free 2
      have d1_2_3 := B1_2.cell 3 rfl
      have e1_2_3 := B1_2.free 3
      have g1_0_0 := fun m os => (B1_0.grow m os).cell 0 rfl
      have g1_0_1 := fun m os => (B1_0.grow m os).cell 1 rfl
      have g1_0_2 := fun m os => (B1_0.grow m os).cell 2 rfl
      have g1_0_3 := fun m os => (B1_0.grow m os).cell 3 rfl
      have g1_1_0 := fun m os => (B1_1.grow m os).cell 0 rfl
      have g1_1_1 := fun m os => (B1_1.grow m os).cell 1 rfl
      have g1_1_2 := fun m os => (B1_1.grow m os).cell 2 rfl
      have g1_1_3 := fun m os => (B1_1.grow m os).cell 3 rfl
      have g1_2_0 := fun m os => (B1_2.grow m os).cell 0 rfl
      have g1_2_1 := fun m os => (B1_2.grow m os).cell 1 rfl
      have g1_2_2 := fun m os => (B1_2.grow m os).cell 2 rfl
      have g1_2_3 := fun m os => (B1_2.grow m os).cell 3 rfl
      refine wp_region_stores 4 [fun W => (((W.setCell ⟨w.heap.size, 0, none⟩ (.int .i64 p)).setCell ⟨w.heap.size, 1, none⟩ (.int .i64 q)).setCell ⟨w.heap.size, 2, none⟩ (.int .i64 r)).setCell ⟨w.heap.size, 3, none⟩ (.int .i64 s), fun W => (((W.setCell ⟨w.heap.size + 1, 0, none⟩ (.int .i64 p')).setCell ⟨w.heap.size + 1, 1, none⟩ (.int .i64 q')).setCell ⟨w.heap.size + 1, 2, none⟩ (.int .i64 r')).setCell ⟨w.heap.size + 1, 3, none⟩ (.int .i64 s')] (by kernel_rfl) rfl (by kernel_rfl) (by kernel_rfl) (by kernel_rfl) ?_
      repeat (first | (refine lex_skip rfl (by rfl) ?_) | (refine lex_calm rfl (by rfl) (fun K hK => ?_); go_simp; first | (refine hK _ ?_; clear hK K) | (apply Exists.intro; refine ⟨fun _ _ => ?_, hK _ ?_⟩; (first | (with_reducible exact (VA _).out) | (with_reducible exact (VB _).out)); clear hK K)))
      refine lex_nil ?_
      refine stores_cons rfl ?_ ?_
      · intro w2 G2
        have B2_0 := B1_0.grew G2
        have B2_1 := B1_1.grew G2
        have B2_2 := B1_2.grew G2
        have d2_0_0 := B2_0.cell 0 rfl
        have e2_0_0 := B2_0.free 0
        have d2_0_1 := B2_0.cell 1 rfl
        have e2_0_1 := B2_0.free 1
        have d2_0_2 := B2_0.cell 2 rfl
        have e2_0_2 := B2_0.free 2
        have d2_0_3 := B2_0.cell 3 rfl
        have e2_0_3 := B2_0.free 3
        have d2_1_0 := B2_1.cell 0 rfl
        have e2_1_0 := B2_1.free 0
        have d2_1_1 := B2_1.cell 1 rfl
        have e2_1_1 := B2_1.free 1
        have d2_1_2 := B2_1.cell 2 rfl
        have e2_1_2 := B2_1.free 2
        have d2_1_3 := B2_1.cell 3 rfl
        have e2_1_3 := B2_1.free 3
        have d2_2_0 := B2_2.cell 0 rfl
        have e2_2_0 := B2_2.free 0
        have d2_2_1 := B2_2.cell 1 rfl
        have e2_2_1 := B2_2.free 1
        have d2_2_2 := B2_2.cell 2 rfl
        have e2_2_2 := B2_2.free 2
        have d2_2_3 := B2_2.cell 3 rfl
        have e2_2_3 := B2_2.free 3
        go_simp
      refine stores_cons rfl ?_ ?_
      · intro w2 G2
        have B2_0 := B1_0.grew G2
        have B2_1 := B1_1.grew G2
        have B2_2 := B1_2.grew G2
        have d2_0_0 := B2_0.cell 0 rfl
        have e2_0_0 := B2_0.free 0
        have d2_0_1 := B2_0.cell 1 rfl
        have e2_0_1 := B2_0.free 1
        have d2_0_2 := B2_0.cell 2 rfl
        have e2_0_2 := B2_0.free 2
        have d2_0_3 := B2_0.cell 3 rfl
        have e2_0_3 := B2_0.free 3
        have d2_1_0 := B2_1.cell 0 rfl
        have e2_1_0 := B2_1.free 0
        have d2_1_1 := B2_1.cell 1 rfl
        have e2_1_1 := B2_1.free 1
        have d2_1_2 := B2_1.cell 2 rfl
        have e2_1_2 := B2_1.free 2
        have d2_1_3 := B2_1.cell 3 rfl
        have e2_1_3 := B2_1.free 3
        have d2_2_0 := B2_2.cell 0 rfl
        have e2_2_0 := B2_2.free 0
        have d2_2_1 := B2_2.cell 1 rfl
        have e2_2_1 := B2_2.free 1
        have d2_2_2 := B2_2.cell 2 rfl
        have e2_2_2 := B2_2.free 2
        have d2_2_3 := B2_2.cell 3 rfl
        have e2_2_3 := B2_2.free 3
        go_simp
      refine stores_nil ?_
      intro w2 G2
      have B2_0 : Blk w2 (w.heap.size) 23 [.int .i64 x, .int .i64 y, .int .i64 z, .int .i64 h] := B1_0.grew G2
      have B2_1 : Blk w2 (w.heap.size + 1) 23 [.int .i64 x', .int .i64 y', .int .i64 z', .int .i64 h'] := B1_1.grew G2
      have B2_2 : Blk w2 (w.heap.size + 1 + 1) 23 [.int .i64 0, .int .i64 0, .int .i64 0, .int .i64 0] := B1_2.grew G2
      have z2 := G2.size
      replace G2 := hide G2
      simp only [Act.put]
      refine name_exit fun w3 h3 => ?_
      have G3 : Grew w w3 := by
        rw [h3]
        repeat' (first | (with_reducible exact Grew.refl _) | (with_reducible refine Grew.setCell ?_ ?_ _) | (with_reducible refine Grew.drewN ?_ _) | (with_reducible refine Grew.alloc ?_ _) | (with_reducible refine Grew.trans ?_ G3.out) | (with_reducible refine Grew.trans ?_ G2.out) | (with_reducible refine Grew.trans ?_ G1.out) | (dsimp only; omega))
      have B3_0 : Blk w3 (w.heap.size) 23 [.int .i64 p, .int .i64 q, .int .i64 r, .int .i64 s] := by (rw [h3]; (repeat' (first | (refine Blk.other ?_ (by omega) _) | fail)); refine Blk.set_as (vs := [.int .i64 p, .int .i64 q, .int .i64 r, .int .i64 h]) ?_ 3 (.int .i64 s) (by rfl); refine Blk.set_as (vs := [.int .i64 p, .int .i64 q, .int .i64 z, .int .i64 h]) ?_ 2 (.int .i64 r) (by rfl); refine Blk.set_as (vs := [.int .i64 p, .int .i64 y, .int .i64 z, .int .i64 h]) ?_ 1 (.int .i64 q) (by rfl); refine Blk.set_as (vs := [.int .i64 x, .int .i64 y, .int .i64 z, .int .i64 h]) ?_ 0 (.int .i64 p) (by rfl); repeat' (first | (with_reducible assumption) | ((with_reducible refine Blk.new ?_); (first | (with_reducible rfl) | (simp only [World.size_alloc, World.size_setCell, size_drewN]; done))) | (with_reducible refine Blk.alloc ?_ _) | (with_reducible refine Blk.drewN ?_ _) | (with_reducible refine Blk.drew ?_) | (refine Blk.other ?_ (by omega) _) | fail))
      have B3_1 : Blk w3 (w.heap.size + 1) 23 [.int .i64 p', .int .i64 q', .int .i64 r', .int .i64 s'] := by (rw [h3]; (repeat' (first | (refine Blk.other ?_ (by omega) _) | fail)); refine Blk.set_as (vs := [.int .i64 p', .int .i64 q', .int .i64 r', .int .i64 h']) ?_ 3 (.int .i64 s') (by rfl); refine Blk.set_as (vs := [.int .i64 p', .int .i64 q', .int .i64 z', .int .i64 h']) ?_ 2 (.int .i64 r') (by rfl); refine Blk.set_as (vs := [.int .i64 p', .int .i64 y', .int .i64 z', .int .i64 h']) ?_ 1 (.int .i64 q') (by rfl); refine Blk.set_as (vs := [.int .i64 x', .int .i64 y', .int .i64 z', .int .i64 h']) ?_ 0 (.int .i64 p') (by rfl); repeat' (first | (with_reducible assumption) | ((with_reducible refine Blk.new ?_); (first | (with_reducible rfl) | (simp only [World.size_alloc, World.size_setCell, size_drewN]; done))) | (with_reducible refine Blk.alloc ?_ _) | (with_reducible refine Blk.drewN ?_ _) | (with_reducible refine Blk.drew ?_) | (refine Blk.other ?_ (by omega) _) | fail))
      have B3_2 : Blk w3 (w.heap.size + 1 + 1) 23 [.int .i64 0, .int .i64 0, .int .i64 0, .int .i64 0] := by (rw [h3]; repeat' (first | (with_reducible assumption) | ((with_reducible refine Blk.new ?_); (first | (with_reducible rfl) | (simp only [World.size_alloc, World.size_setCell, size_drewN]; done))) | (with_reducible refine Blk.alloc ?_ _) | (with_reducible refine Blk.drewN ?_ _) | (with_reducible refine Blk.drew ?_) | (refine Blk.other ?_ (by omega) _) | fail))
      have z3 := G3.size
      replace G3 := hide G3
      clear h3
      have t3_0 := B3_0.lt
      have d3_0_0 := B3_0.cell 0 rfl
      have e3_0_0 := B3_0.free 0
      have d3_0_1 := B3_0.cell 1 rfl
      have e3_0_1 := B3_0.free 1
      have d3_0_2 := B3_0.cell 2 rfl
      have e3_0_2 := B3_0.free 2
      have d3_0_3 := B3_0.cell 3 rfl
      have e3_0_3 := B3_0.free 3
      have t3_1 := B3_1.lt
      have d3_1_0 := B3_1.cell 0 rfl
      have e3_1_0 := B3_1.free 0
      have d3_1_1 := B3_1.cell 1 rfl
      have e3_1_1 := B3_1.free 1
      have d3_1_2 := B3_1.cell 2 rfl
      have e3_1_2 := B3_1.free 2
      have d3_1_3 := B3_1.cell 3 rfl
      have e3_1_3 := B3_1.free 3
      have t3_2 := B3_2.lt
      have d3_2_0 := B3_2.cell 0 rfl
      have e3_2_0 := B3_2.free 0
      have d3_2_1 := B3_2.cell 1 rfl
      have e3_2_1 := B3_2.free 1
      have d3_2_2 := B3_2.cell 2 rfl
      have e3_2_2 := B3_2.free 2
      have d3_2_3 := B3_2.cell 3 rfl
      have e3_2_3 := B3_2.free 3
      go_wp2_with fail
      have g3_0_0 := fun m os => (B3_0.grow m os).cell 0 rfl
      have g3_0_1 := fun m os => (B3_0.grow m os).cell 1 rfl
      have g3_0_2 := fun m os => (B3_0.grow m os).cell 2 rfl
      have g3_0_3 := fun m os => (B3_0.grow m os).cell 3 rfl
      have g3_1_0 := fun m os => (B3_1.grow m os).cell 0 rfl
      have g3_1_1 := fun m os => (B3_1.grow m os).cell 1 rfl
      have g3_1_2 := fun m os => (B3_1.grow m os).cell 2 rfl
      have g3_1_3 := fun m os => (B3_1.grow m os).cell 3 rfl
      have g3_2_0 := fun m os => (B3_2.grow m os).cell 0 rfl
      have g3_2_1 := fun m os => (B3_2.grow m os).cell 1 rfl
      have g3_2_2 := fun m os => (B3_2.grow m os).cell 2 rfl
      have g3_2_3 := fun m os => (B3_2.grow m os).cell 3 rfl
      refine wp_region_calm (by kernel_rfl) (by kernel_rfl) ?_
      repeat (first | (refine lex_skip rfl (by rfl) ?_) | (refine lex_calm rfl (by rfl) (fun K hK => ?_); go_simp; first | (refine hK _ ?_; clear hK K) | (apply Exists.intro; refine ⟨fun _ _ => ?_, hK _ ?_⟩; (fail); clear hK K)))
      refine lex_nil ?_
      intro w4 G4
      have B4_0 : Blk w4 (w.heap.size) 23 [.int .i64 p, .int .i64 q, .int .i64 r, .int .i64 s] := B3_0.grew G4
      have B4_1 : Blk w4 (w.heap.size + 1) 23 [.int .i64 p', .int .i64 q', .int .i64 r', .int .i64 s'] := B3_1.grew G4
      have B4_2 : Blk w4 (w.heap.size + 1 + 1) 23 [.int .i64 0, .int .i64 0, .int .i64 0, .int .i64 0] := B3_2.grew G4
      have z4 := G4.size
      replace G4 := hide G4
      have t4_0 := B4_0.lt
      have d4_0_0 := B4_0.cell 0 rfl
      have e4_0_0 := B4_0.free 0
      have d4_0_1 := B4_0.cell 1 rfl
      have e4_0_1 := B4_0.free 1
      have d4_0_2 := B4_0.cell 2 rfl
      have e4_0_2 := B4_0.free 2
      have d4_0_3 := B4_0.cell 3 rfl
      have e4_0_3 := B4_0.free 3
      have t4_1 := B4_1.lt
      have d4_1_0 := B4_1.cell 0 rfl
      have e4_1_0 := B4_1.free 0
      have d4_1_1 := B4_1.cell 1 rfl
      have e4_1_1 := B4_1.free 1
      have d4_1_2 := B4_1.cell 2 rfl
      have e4_1_2 := B4_1.free 2
      have d4_1_3 := B4_1.cell 3 rfl
      have e4_1_3 := B4_1.free 3
      have t4_2 := B4_2.lt
      have d4_2_0 := B4_2.cell 0 rfl
      have e4_2_0 := B4_2.free 0
      have d4_2_1 := B4_2.cell 1 rfl
      have e4_2_1 := B4_2.free 1
      have d4_2_2 := B4_2.cell 2 rfl
      have e4_2_2 := B4_2.free 2
      have d4_2_3 := B4_2.cell 3 rfl
      have e4_2_3 := B4_2.free 3
      go_wp2_with fail
      refine name_world fun w5 h5 => ?_
      have G5 : Grew w w5 := by
        rw [h5]
        repeat' (first | (with_reducible exact Grew.refl _) | (with_reducible refine Grew.setCell ?_ ?_ _) | (with_reducible refine Grew.drewN ?_ _) | (with_reducible refine Grew.alloc ?_ _) | (with_reducible refine Grew.trans ?_ G5.out) | (with_reducible refine Grew.trans ?_ G4.out) | (with_reducible refine Grew.trans ?_ G3.out) | (with_reducible refine Grew.trans ?_ G2.out) | (with_reducible refine Grew.trans ?_ G1.out) | (dsimp only; omega))
      have B5_0 : Blk w5 (w.heap.size) 23 [.int .i64 p, .int .i64 q, .int .i64 r, .int .i64 s] := by (rw [h5]; repeat' (first | (with_reducible assumption) | ((with_reducible refine Blk.new ?_); (first | (with_reducible rfl) | (simp only [World.size_alloc, World.size_setCell, size_drewN]; done))) | (with_reducible refine Blk.alloc ?_ _) | (with_reducible refine Blk.drewN ?_ _) | (with_reducible refine Blk.drew ?_) | (refine Blk.other ?_ (by omega) _) | fail))
      have B5_1 : Blk w5 (w.heap.size + 1) 23 [.int .i64 p', .int .i64 q', .int .i64 r', .int .i64 s'] := by (rw [h5]; repeat' (first | (with_reducible assumption) | ((with_reducible refine Blk.new ?_); (first | (with_reducible rfl) | (simp only [World.size_alloc, World.size_setCell, size_drewN]; done))) | (with_reducible refine Blk.alloc ?_ _) | (with_reducible refine Blk.drewN ?_ _) | (with_reducible refine Blk.drew ?_) | (refine Blk.other ?_ (by omega) _) | fail))
      have B5_2 : Blk w5 (w.heap.size + 1 + 1) 23 [.int .i64 0, .int .i64 0, .int .i64 0, .int .i64 0] := by (rw [h5]; repeat' (first | (with_reducible assumption) | ((with_reducible refine Blk.new ?_); (first | (with_reducible rfl) | (simp only [World.size_alloc, World.size_setCell, size_drewN]; done))) | (with_reducible refine Blk.alloc ?_ _) | (with_reducible refine Blk.drewN ?_ _) | (with_reducible refine Blk.drew ?_) | (refine Blk.other ?_ (by omega) _) | fail))
      have z5 := G5.size
      replace G5 := hide G5
      clear h5
      have t5_0 := B5_0.lt
      have d5_0_0 := B5_0.cell 0 rfl
      have e5_0_0 := B5_0.free 0
      have d5_0_1 := B5_0.cell 1 rfl
      have e5_0_1 := B5_0.free 1
      have d5_0_2 := B5_0.cell 2 rfl
      have e5_0_2 := B5_0.free 2
      have d5_0_3 := B5_0.cell 3 rfl
      have e5_0_3 := B5_0.free 3
      have t5_1 := B5_1.lt
      have d5_1_0 := B5_1.cell 0 rfl
      have e5_1_0 := B5_1.free 0
      have d5_1_1 := B5_1.cell 1 rfl
      have e5_1_1 := B5_1.free 1
      have d5_1_2 := B5_1.cell 2 rfl
      have e5_1_2 := B5_1.free 2
      have d5_1_3 := B5_1.cell 3 rfl
      have e5_1_3 := B5_1.free 3
      have t5_2 := B5_2.lt
      have d5_2_0 := B5_2.cell 0 rfl
      have e5_2_0 := B5_2.free 0
      have d5_2_1 := B5_2.cell 1 rfl
      have e5_2_1 := B5_2.free 1
      have d5_2_2 := B5_2.cell 2 rfl
      have e5_2_2 := B5_2.free 2
      have d5_2_3 := B5_2.cell 3 rfl
      have e5_2_3 := B5_2.free 3
      have g5_0_0 := fun m os => (B5_0.grow m os).cell 0 rfl
      have g5_0_1 := fun m os => (B5_0.grow m os).cell 1 rfl
      have g5_0_2 := fun m os => (B5_0.grow m os).cell 2 rfl
      have g5_0_3 := fun m os => (B5_0.grow m os).cell 3 rfl
      have g5_1_0 := fun m os => (B5_1.grow m os).cell 0 rfl
      have g5_1_1 := fun m os => (B5_1.grow m os).cell 1 rfl
      have g5_1_2 := fun m os => (B5_1.grow m os).cell 2 rfl
      have g5_1_3 := fun m os => (B5_1.grow m os).cell 3 rfl
      have g5_2_0 := fun m os => (B5_2.grow m os).cell 0 rfl
      have g5_2_1 := fun m os => (B5_2.grow m os).cell 1 rfl
      have g5_2_2 := fun m os => (B5_2.grow m os).cell 2 rfl
      have g5_2_3 := fun m os => (B5_2.grow m os).cell 3 rfl
      refine wp_region_calm (by kernel_rfl) (by kernel_rfl) ?_
      repeat (first | (refine lex_skip rfl (by rfl) ?_) | (refine lex_calm rfl (by rfl) (fun K hK => ?_); go_simp; first | (refine hK _ ?_; clear hK K) | (apply Exists.intro; refine ⟨fun _ _ => ?_, hK _ ?_⟩; (fail); clear hK K)))
      refine lex_nil ?_
      intro w6 G6
      have B6_0 : Blk w6 (w.heap.size) 23 [.int .i64 p, .int .i64 q, .int .i64 r, .int .i64 s] := B5_0.grew G6
      have B6_1 : Blk w6 (w.heap.size + 1) 23 [.int .i64 p', .int .i64 q', .int .i64 r', .int .i64 s'] := B5_1.grew G6
      have B6_2 : Blk w6 (w.heap.size + 1 + 1) 23 [.int .i64 0, .int .i64 0, .int .i64 0, .int .i64 0] := B5_2.grew G6
      have z6 := G6.size
      replace G6 := hide G6
      have t6_0 := B6_0.lt
      have d6_0_0 := B6_0.cell 0 rfl
      have e6_0_0 := B6_0.free 0
      have d6_0_1 := B6_0.cell 1 rfl
      have e6_0_1 := B6_0.free 1
      have d6_0_2 := B6_0.cell 2 rfl
      have e6_0_2 := B6_0.free 2
      have d6_0_3 := B6_0.cell 3 rfl
      have e6_0_3 := B6_0.free 3
      have t6_1 := B6_1.lt
      have d6_1_0 := B6_1.cell 0 rfl
      have e6_1_0 := B6_1.free 0
      have d6_1_1 := B6_1.cell 1 rfl
      have e6_1_1 := B6_1.free 1
      have d6_1_2 := B6_1.cell 2 rfl
      have e6_1_2 := B6_1.free 2
      have d6_1_3 := B6_1.cell 3 rfl
      have e6_1_3 := B6_1.free 3
      have t6_2 := B6_2.lt
      have d6_2_0 := B6_2.cell 0 rfl
      have e6_2_0 := B6_2.free 0
      have d6_2_1 := B6_2.cell 1 rfl
      have e6_2_1 := B6_2.free 1
      have d6_2_2 := B6_2.cell 2 rfl
      have e6_2_2 := B6_2.free 2
      have d6_2_3 := B6_2.cell 3 rfl
      have e6_2_3 := B6_2.free 3
      go_wp2
      rw [H.out]
      refine bodyPost_ret (v := R.zero.v) (by simp [results, Try.results17, go_sem, R.zero, d6_0_0, d6_0_1, d6_0_2, d6_0_3, d6_1_0, d6_1_1, d6_1_2, d6_1_3, d6_2_0, d6_2_1, d6_2_2, d6_2_3, t6_0, t6_1, t6_2]) rfl ⟨rfl, ?_⟩
      repeat' (first | (with_reducible exact Grew.refl _) | (with_reducible refine Grew.setCell ?_ ?_ _) | (with_reducible refine Grew.drewN ?_ _) | (with_reducible refine Grew.alloc ?_ _) | (with_reducible refine Grew.trans ?_ G6.out) | (with_reducible refine Grew.trans ?_ G5.out) | (with_reducible refine Grew.trans ?_ G4.out) | (with_reducible refine Grew.trans ?_ G3.out) | (with_reducible refine Grew.trans ?_ G2.out) | (with_reducible refine Grew.trans ?_ G1.out) | (dsimp only; omega))
    · have H : Hid (isectR ⟨x, y, z, h⟩ ⟨x', y', z', h'⟩ = ⟨mx, my, nx - mx, ny - my⟩) := by rw [Hid, HE.out]; exact if_neg (by omega)
      go_enter Try.func17, Try.ntmps17
      go_wp2_with fail
      go_wp2_with fail
      refine name_world fun w1 h1 => ?_
      have G1 : Grew w w1 := by
        rw [h1]
        repeat' (first | (with_reducible exact Grew.refl _) | (with_reducible refine Grew.setCell ?_ ?_ _) | (with_reducible refine Grew.drewN ?_ _) | (with_reducible refine Grew.alloc ?_ _) | (with_reducible refine Grew.trans ?_ G1.out) | (dsimp only; omega))
      have B1_0 : Blk w1 (w.heap.size) 23 [.int .i64 x, .int .i64 y, .int .i64 z, .int .i64 h] := by (rw [h1]; repeat' (first | (with_reducible assumption) | ((with_reducible refine Blk.new ?_); (first | (with_reducible rfl) | (simp only [World.size_alloc, World.size_setCell, size_drewN]; done))) | (with_reducible refine Blk.alloc ?_ _) | (with_reducible refine Blk.drewN ?_ _) | (with_reducible refine Blk.drew ?_) | (refine Blk.other ?_ (by omega) _) | fail))
      have B1_1 : Blk w1 (w.heap.size + 1) 23 [.int .i64 x', .int .i64 y', .int .i64 z', .int .i64 h'] := by (rw [h1]; repeat' (first | (with_reducible assumption) | ((with_reducible refine Blk.new ?_); (first | (with_reducible rfl) | (simp only [World.size_alloc, World.size_setCell, size_drewN]; done))) | (with_reducible refine Blk.alloc ?_ _) | (with_reducible refine Blk.drewN ?_ _) | (with_reducible refine Blk.drew ?_) | (refine Blk.other ?_ (by omega) _) | fail))
      have B1_2 : Blk w1 (w.heap.size + 1 + 1) 23 [.int .i64 0, .int .i64 0, .int .i64 0, .int .i64 0] := by (rw [h1]; repeat' (first | (with_reducible assumption) | ((with_reducible refine Blk.new ?_); (first | (with_reducible rfl) | (simp only [World.size_alloc, World.size_setCell, size_drewN]; done))) | (with_reducible refine Blk.alloc ?_ _) | (with_reducible refine Blk.drewN ?_ _) | (with_reducible refine Blk.drew ?_) | (refine Blk.other ?_ (by omega) _) | fail))
      have z1 := G1.size
      replace G1 := hide G1
      clear h1
      have t1_0 := B1_0.lt
      have d1_0_0 := B1_0.cell 0 rfl
      have e1_0_0 := B1_0.free 0
      have d1_0_1 := B1_0.cell 1 rfl
      have e1_0_1 := B1_0.free 1
      have d1_0_2 := B1_0.cell 2 rfl
      have e1_0_2 := B1_0.free 2
      have d1_0_3 := B1_0.cell 3 rfl
      have e1_0_3 := B1_0.free 3
      have t1_1 := B1_1.lt
      have d1_1_0 := B1_1.cell 0 rfl
      have e1_1_0 := B1_1.free 0
      have d1_1_1 := B1_1.cell 1 rfl
      have e1_1_1 := B1_1.free 1
      have d1_1_2 := B1_1.cell 2 rfl
      have e1_1_2 := B1_1.free 2
      have d1_1_3 := B1_1.cell 3 rfl
      have e1_1_3 := B1_1.free 3
      have t1_2 := B1_2.lt
      have d1_2_0 := B1_2.cell 0 rfl
      have e1_2_0 := B1_2.free 0
      have d1_2_1 := B1_2.cell 1 rfl
      have e1_2_1 := B1_2.free 1
      have d1_2_2 := B1_2.cell 2 rfl
      have e1_2_2 := B1_2.free 2
      have d1_2_3 := B1_2.cell 3 rfl
      have e1_2_3 := B1_2.free 3
      have g1_0_0 := fun m os => (B1_0.grow m os).cell 0 rfl
      have g1_0_1 := fun m os => (B1_0.grow m os).cell 1 rfl
      have g1_0_2 := fun m os => (B1_0.grow m os).cell 2 rfl
      have g1_0_3 := fun m os => (B1_0.grow m os).cell 3 rfl
      have g1_1_0 := fun m os => (B1_1.grow m os).cell 0 rfl
      have g1_1_1 := fun m os => (B1_1.grow m os).cell 1 rfl
      have g1_1_2 := fun m os => (B1_1.grow m os).cell 2 rfl
      have g1_1_3 := fun m os => (B1_1.grow m os).cell 3 rfl
      have g1_2_0 := fun m os => (B1_2.grow m os).cell 0 rfl
      have g1_2_1 := fun m os => (B1_2.grow m os).cell 1 rfl
      have g1_2_2 := fun m os => (B1_2.grow m os).cell 2 rfl
      have g1_2_3 := fun m os => (B1_2.grow m os).cell 3 rfl
      refine wp_region_stores 4 [fun W => (((W.setCell ⟨w.heap.size, 0, none⟩ (.int .i64 p)).setCell ⟨w.heap.size, 1, none⟩ (.int .i64 q)).setCell ⟨w.heap.size, 2, none⟩ (.int .i64 r)).setCell ⟨w.heap.size, 3, none⟩ (.int .i64 s), fun W => (((W.setCell ⟨w.heap.size + 1, 0, none⟩ (.int .i64 p')).setCell ⟨w.heap.size + 1, 1, none⟩ (.int .i64 q')).setCell ⟨w.heap.size + 1, 2, none⟩ (.int .i64 r')).setCell ⟨w.heap.size + 1, 3, none⟩ (.int .i64 s')] (by kernel_rfl) rfl (by kernel_rfl) (by kernel_rfl) (by kernel_rfl) ?_
      repeat (first | (refine lex_skip rfl (by rfl) ?_) | (refine lex_calm rfl (by rfl) (fun K hK => ?_); go_simp; first | (refine hK _ ?_; clear hK K) | (apply Exists.intro; refine ⟨fun _ _ => ?_, hK _ ?_⟩; (first | (with_reducible exact (VA _).out) | (with_reducible exact (VB _).out)); clear hK K)))
      refine lex_nil ?_
      refine stores_cons rfl ?_ ?_
      · intro w2 G2
        have B2_0 := B1_0.grew G2
        have B2_1 := B1_1.grew G2
        have B2_2 := B1_2.grew G2
        have d2_0_0 := B2_0.cell 0 rfl
        have e2_0_0 := B2_0.free 0
        have d2_0_1 := B2_0.cell 1 rfl
        have e2_0_1 := B2_0.free 1
        have d2_0_2 := B2_0.cell 2 rfl
        have e2_0_2 := B2_0.free 2
        have d2_0_3 := B2_0.cell 3 rfl
        have e2_0_3 := B2_0.free 3
        have d2_1_0 := B2_1.cell 0 rfl
        have e2_1_0 := B2_1.free 0
        have d2_1_1 := B2_1.cell 1 rfl
        have e2_1_1 := B2_1.free 1
        have d2_1_2 := B2_1.cell 2 rfl
        have e2_1_2 := B2_1.free 2
        have d2_1_3 := B2_1.cell 3 rfl
        have e2_1_3 := B2_1.free 3
        have d2_2_0 := B2_2.cell 0 rfl
        have e2_2_0 := B2_2.free 0
        have d2_2_1 := B2_2.cell 1 rfl
        have e2_2_1 := B2_2.free 1
        have d2_2_2 := B2_2.cell 2 rfl
        have e2_2_2 := B2_2.free 2
        have d2_2_3 := B2_2.cell 3 rfl
        have e2_2_3 := B2_2.free 3
        go_simp
      refine stores_cons rfl ?_ ?_
      · intro w2 G2
        have B2_0 := B1_0.grew G2
        have B2_1 := B1_1.grew G2
        have B2_2 := B1_2.grew G2
        have d2_0_0 := B2_0.cell 0 rfl
        have e2_0_0 := B2_0.free 0
        have d2_0_1 := B2_0.cell 1 rfl
        have e2_0_1 := B2_0.free 1
        have d2_0_2 := B2_0.cell 2 rfl
        have e2_0_2 := B2_0.free 2
        have d2_0_3 := B2_0.cell 3 rfl
        have e2_0_3 := B2_0.free 3
        have d2_1_0 := B2_1.cell 0 rfl
        have e2_1_0 := B2_1.free 0
        have d2_1_1 := B2_1.cell 1 rfl
        have e2_1_1 := B2_1.free 1
        have d2_1_2 := B2_1.cell 2 rfl
        have e2_1_2 := B2_1.free 2
        have d2_1_3 := B2_1.cell 3 rfl
        have e2_1_3 := B2_1.free 3
        have d2_2_0 := B2_2.cell 0 rfl
        have e2_2_0 := B2_2.free 0
        have d2_2_1 := B2_2.cell 1 rfl
        have e2_2_1 := B2_2.free 1
        have d2_2_2 := B2_2.cell 2 rfl
        have e2_2_2 := B2_2.free 2
        have d2_2_3 := B2_2.cell 3 rfl
        have e2_2_3 := B2_2.free 3
        go_simp
      refine stores_nil ?_
      intro w2 G2
      have B2_0 : Blk w2 (w.heap.size) 23 [.int .i64 x, .int .i64 y, .int .i64 z, .int .i64 h] := B1_0.grew G2
      have B2_1 : Blk w2 (w.heap.size + 1) 23 [.int .i64 x', .int .i64 y', .int .i64 z', .int .i64 h'] := B1_1.grew G2
      have B2_2 : Blk w2 (w.heap.size + 1 + 1) 23 [.int .i64 0, .int .i64 0, .int .i64 0, .int .i64 0] := B1_2.grew G2
      have z2 := G2.size
      replace G2 := hide G2
      simp only [Act.put]
      refine name_exit fun w3 h3 => ?_
      have G3 : Grew w w3 := by
        rw [h3]
        repeat' (first | (with_reducible exact Grew.refl _) | (with_reducible refine Grew.setCell ?_ ?_ _) | (with_reducible refine Grew.drewN ?_ _) | (with_reducible refine Grew.alloc ?_ _) | (with_reducible refine Grew.trans ?_ G3.out) | (with_reducible refine Grew.trans ?_ G2.out) | (with_reducible refine Grew.trans ?_ G1.out) | (dsimp only; omega))
      have B3_0 : Blk w3 (w.heap.size) 23 [.int .i64 p, .int .i64 q, .int .i64 r, .int .i64 s] := by (rw [h3]; (repeat' (first | (refine Blk.other ?_ (by omega) _) | fail)); refine Blk.set_as (vs := [.int .i64 p, .int .i64 q, .int .i64 r, .int .i64 h]) ?_ 3 (.int .i64 s) (by rfl); refine Blk.set_as (vs := [.int .i64 p, .int .i64 q, .int .i64 z, .int .i64 h]) ?_ 2 (.int .i64 r) (by rfl); refine Blk.set_as (vs := [.int .i64 p, .int .i64 y, .int .i64 z, .int .i64 h]) ?_ 1 (.int .i64 q) (by rfl); refine Blk.set_as (vs := [.int .i64 x, .int .i64 y, .int .i64 z, .int .i64 h]) ?_ 0 (.int .i64 p) (by rfl); repeat' (first | (with_reducible assumption) | ((with_reducible refine Blk.new ?_); (first | (with_reducible rfl) | (simp only [World.size_alloc, World.size_setCell, size_drewN]; done))) | (with_reducible refine Blk.alloc ?_ _) | (with_reducible refine Blk.drewN ?_ _) | (with_reducible refine Blk.drew ?_) | (refine Blk.other ?_ (by omega) _) | fail))
      have B3_1 : Blk w3 (w.heap.size + 1) 23 [.int .i64 p', .int .i64 q', .int .i64 r', .int .i64 s'] := by (rw [h3]; (repeat' (first | (refine Blk.other ?_ (by omega) _) | fail)); refine Blk.set_as (vs := [.int .i64 p', .int .i64 q', .int .i64 r', .int .i64 h']) ?_ 3 (.int .i64 s') (by rfl); refine Blk.set_as (vs := [.int .i64 p', .int .i64 q', .int .i64 z', .int .i64 h']) ?_ 2 (.int .i64 r') (by rfl); refine Blk.set_as (vs := [.int .i64 p', .int .i64 y', .int .i64 z', .int .i64 h']) ?_ 1 (.int .i64 q') (by rfl); refine Blk.set_as (vs := [.int .i64 x', .int .i64 y', .int .i64 z', .int .i64 h']) ?_ 0 (.int .i64 p') (by rfl); repeat' (first | (with_reducible assumption) | ((with_reducible refine Blk.new ?_); (first | (with_reducible rfl) | (simp only [World.size_alloc, World.size_setCell, size_drewN]; done))) | (with_reducible refine Blk.alloc ?_ _) | (with_reducible refine Blk.drewN ?_ _) | (with_reducible refine Blk.drew ?_) | (refine Blk.other ?_ (by omega) _) | fail))
      have B3_2 : Blk w3 (w.heap.size + 1 + 1) 23 [.int .i64 0, .int .i64 0, .int .i64 0, .int .i64 0] := by (rw [h3]; repeat' (first | (with_reducible assumption) | ((with_reducible refine Blk.new ?_); (first | (with_reducible rfl) | (simp only [World.size_alloc, World.size_setCell, size_drewN]; done))) | (with_reducible refine Blk.alloc ?_ _) | (with_reducible refine Blk.drewN ?_ _) | (with_reducible refine Blk.drew ?_) | (refine Blk.other ?_ (by omega) _) | fail))
      have z3 := G3.size
      replace G3 := hide G3
      clear h3
      have t3_0 := B3_0.lt
      have d3_0_0 := B3_0.cell 0 rfl
      have e3_0_0 := B3_0.free 0
      have d3_0_1 := B3_0.cell 1 rfl
      have e3_0_1 := B3_0.free 1
      have d3_0_2 := B3_0.cell 2 rfl
      have e3_0_2 := B3_0.free 2
      have d3_0_3 := B3_0.cell 3 rfl
      have e3_0_3 := B3_0.free 3
      have t3_1 := B3_1.lt
      have d3_1_0 := B3_1.cell 0 rfl
      have e3_1_0 := B3_1.free 0
      have d3_1_1 := B3_1.cell 1 rfl
      have e3_1_1 := B3_1.free 1
      have d3_1_2 := B3_1.cell 2 rfl
      have e3_1_2 := B3_1.free 2
      have d3_1_3 := B3_1.cell 3 rfl
      have e3_1_3 := B3_1.free 3
      have t3_2 := B3_2.lt
      have d3_2_0 := B3_2.cell 0 rfl
      have e3_2_0 := B3_2.free 0
      have d3_2_1 := B3_2.cell 1 rfl
      have e3_2_1 := B3_2.free 1
      have d3_2_2 := B3_2.cell 2 rfl
      have e3_2_2 := B3_2.free 2
      have d3_2_3 := B3_2.cell 3 rfl
      have e3_2_3 := B3_2.free 3
      go_wp2_with fail
      have g3_0_0 := fun m os => (B3_0.grow m os).cell 0 rfl
      have g3_0_1 := fun m os => (B3_0.grow m os).cell 1 rfl
      have g3_0_2 := fun m os => (B3_0.grow m os).cell 2 rfl
      have g3_0_3 := fun m os => (B3_0.grow m os).cell 3 rfl
      have g3_1_0 := fun m os => (B3_1.grow m os).cell 0 rfl
      have g3_1_1 := fun m os => (B3_1.grow m os).cell 1 rfl
      have g3_1_2 := fun m os => (B3_1.grow m os).cell 2 rfl
      have g3_1_3 := fun m os => (B3_1.grow m os).cell 3 rfl
      have g3_2_0 := fun m os => (B3_2.grow m os).cell 0 rfl
      have g3_2_1 := fun m os => (B3_2.grow m os).cell 1 rfl
      have g3_2_2 := fun m os => (B3_2.grow m os).cell 2 rfl
      have g3_2_3 := fun m os => (B3_2.grow m os).cell 3 rfl
      refine wp_region_calm (by kernel_rfl) (by kernel_rfl) ?_
      repeat (first | (refine lex_skip rfl (by rfl) ?_) | (refine lex_calm rfl (by rfl) (fun K hK => ?_); go_simp; first | (refine hK _ ?_; clear hK K) | (apply Exists.intro; refine ⟨fun _ _ => ?_, hK _ ?_⟩; (fail); clear hK K)))
      refine lex_nil ?_
      intro w4 G4
      have B4_0 : Blk w4 (w.heap.size) 23 [.int .i64 p, .int .i64 q, .int .i64 r, .int .i64 s] := B3_0.grew G4
      have B4_1 : Blk w4 (w.heap.size + 1) 23 [.int .i64 p', .int .i64 q', .int .i64 r', .int .i64 s'] := B3_1.grew G4
      have B4_2 : Blk w4 (w.heap.size + 1 + 1) 23 [.int .i64 0, .int .i64 0, .int .i64 0, .int .i64 0] := B3_2.grew G4
      have z4 := G4.size
      replace G4 := hide G4
      have t4_0 := B4_0.lt
      have d4_0_0 := B4_0.cell 0 rfl
      have e4_0_0 := B4_0.free 0
      have d4_0_1 := B4_0.cell 1 rfl
      have e4_0_1 := B4_0.free 1
      have d4_0_2 := B4_0.cell 2 rfl
      have e4_0_2 := B4_0.free 2
      have d4_0_3 := B4_0.cell 3 rfl
      have e4_0_3 := B4_0.free 3
      have t4_1 := B4_1.lt
      have d4_1_0 := B4_1.cell 0 rfl
      have e4_1_0 := B4_1.free 0
      have d4_1_1 := B4_1.cell 1 rfl
      have e4_1_1 := B4_1.free 1
      have d4_1_2 := B4_1.cell 2 rfl
      have e4_1_2 := B4_1.free 2
      have d4_1_3 := B4_1.cell 3 rfl
      have e4_1_3 := B4_1.free 3
      have t4_2 := B4_2.lt
      have d4_2_0 := B4_2.cell 0 rfl
      have e4_2_0 := B4_2.free 0
      have d4_2_1 := B4_2.cell 1 rfl
      have e4_2_1 := B4_2.free 1
      have d4_2_2 := B4_2.cell 2 rfl
      have e4_2_2 := B4_2.free 2
      have d4_2_3 := B4_2.cell 3 rfl
      have e4_2_3 := B4_2.free 3
      go_wp2_with fail
      refine name_world fun w5 h5 => ?_
      have G5 : Grew w w5 := by
        rw [h5]
        repeat' (first | (with_reducible exact Grew.refl _) | (with_reducible refine Grew.setCell ?_ ?_ _) | (with_reducible refine Grew.drewN ?_ _) | (with_reducible refine Grew.alloc ?_ _) | (with_reducible refine Grew.trans ?_ G5.out) | (with_reducible refine Grew.trans ?_ G4.out) | (with_reducible refine Grew.trans ?_ G3.out) | (with_reducible refine Grew.trans ?_ G2.out) | (with_reducible refine Grew.trans ?_ G1.out) | (dsimp only; omega))
      have B5_0 : Blk w5 (w.heap.size) 23 [.int .i64 p, .int .i64 q, .int .i64 r, .int .i64 s] := by (rw [h5]; repeat' (first | (with_reducible assumption) | ((with_reducible refine Blk.new ?_); (first | (with_reducible rfl) | (simp only [World.size_alloc, World.size_setCell, size_drewN]; done))) | (with_reducible refine Blk.alloc ?_ _) | (with_reducible refine Blk.drewN ?_ _) | (with_reducible refine Blk.drew ?_) | (refine Blk.other ?_ (by omega) _) | fail))
      have B5_1 : Blk w5 (w.heap.size + 1) 23 [.int .i64 p', .int .i64 q', .int .i64 r', .int .i64 s'] := by (rw [h5]; repeat' (first | (with_reducible assumption) | ((with_reducible refine Blk.new ?_); (first | (with_reducible rfl) | (simp only [World.size_alloc, World.size_setCell, size_drewN]; done))) | (with_reducible refine Blk.alloc ?_ _) | (with_reducible refine Blk.drewN ?_ _) | (with_reducible refine Blk.drew ?_) | (refine Blk.other ?_ (by omega) _) | fail))
      have B5_2 : Blk w5 (w.heap.size + 1 + 1) 23 [.int .i64 0, .int .i64 0, .int .i64 0, .int .i64 0] := by (rw [h5]; repeat' (first | (with_reducible assumption) | ((with_reducible refine Blk.new ?_); (first | (with_reducible rfl) | (simp only [World.size_alloc, World.size_setCell, size_drewN]; done))) | (with_reducible refine Blk.alloc ?_ _) | (with_reducible refine Blk.drewN ?_ _) | (with_reducible refine Blk.drew ?_) | (refine Blk.other ?_ (by omega) _) | fail))
      have z5 := G5.size
      replace G5 := hide G5
      clear h5
      have t5_0 := B5_0.lt
      have d5_0_0 := B5_0.cell 0 rfl
      have e5_0_0 := B5_0.free 0
      have d5_0_1 := B5_0.cell 1 rfl
      have e5_0_1 := B5_0.free 1
      have d5_0_2 := B5_0.cell 2 rfl
      have e5_0_2 := B5_0.free 2
      have d5_0_3 := B5_0.cell 3 rfl
      have e5_0_3 := B5_0.free 3
      have t5_1 := B5_1.lt
      have d5_1_0 := B5_1.cell 0 rfl
      have e5_1_0 := B5_1.free 0
      have d5_1_1 := B5_1.cell 1 rfl
      have e5_1_1 := B5_1.free 1
      have d5_1_2 := B5_1.cell 2 rfl
      have e5_1_2 := B5_1.free 2
      have d5_1_3 := B5_1.cell 3 rfl
      have e5_1_3 := B5_1.free 3
      have t5_2 := B5_2.lt
      have d5_2_0 := B5_2.cell 0 rfl
      have e5_2_0 := B5_2.free 0
      have d5_2_1 := B5_2.cell 1 rfl
      have e5_2_1 := B5_2.free 1
      have d5_2_2 := B5_2.cell 2 rfl
      have e5_2_2 := B5_2.free 2
      have d5_2_3 := B5_2.cell 3 rfl
      have e5_2_3 := B5_2.free 3
      have g5_0_0 := fun m os => (B5_0.grow m os).cell 0 rfl
      have g5_0_1 := fun m os => (B5_0.grow m os).cell 1 rfl
      have g5_0_2 := fun m os => (B5_0.grow m os).cell 2 rfl
      have g5_0_3 := fun m os => (B5_0.grow m os).cell 3 rfl
      have g5_1_0 := fun m os => (B5_1.grow m os).cell 0 rfl
      have g5_1_1 := fun m os => (B5_1.grow m os).cell 1 rfl
      have g5_1_2 := fun m os => (B5_1.grow m os).cell 2 rfl
      have g5_1_3 := fun m os => (B5_1.grow m os).cell 3 rfl
      have g5_2_0 := fun m os => (B5_2.grow m os).cell 0 rfl
      have g5_2_1 := fun m os => (B5_2.grow m os).cell 1 rfl
      have g5_2_2 := fun m os => (B5_2.grow m os).cell 2 rfl
      have g5_2_3 := fun m os => (B5_2.grow m os).cell 3 rfl
      refine wp_region_calm (by kernel_rfl) (by kernel_rfl) ?_
      repeat (first | (refine lex_skip rfl (by rfl) ?_) | (refine lex_calm rfl (by rfl) (fun K hK => ?_); go_simp; first | (refine hK _ ?_; clear hK K) | (apply Exists.intro; refine ⟨fun _ _ => ?_, hK _ ?_⟩; (fail); clear hK K)))
      refine lex_nil ?_
      intro w6 G6
      have B6_0 : Blk w6 (w.heap.size) 23 [.int .i64 p, .int .i64 q, .int .i64 r, .int .i64 s] := B5_0.grew G6
      have B6_1 : Blk w6 (w.heap.size + 1) 23 [.int .i64 p', .int .i64 q', .int .i64 r', .int .i64 s'] := B5_1.grew G6
      have B6_2 : Blk w6 (w.heap.size + 1 + 1) 23 [.int .i64 0, .int .i64 0, .int .i64 0, .int .i64 0] := B5_2.grew G6
      have z6 := G6.size
      replace G6 := hide G6
      have t6_0 := B6_0.lt
      have d6_0_0 := B6_0.cell 0 rfl
      have e6_0_0 := B6_0.free 0
      have d6_0_1 := B6_0.cell 1 rfl
      have e6_0_1 := B6_0.free 1
      have d6_0_2 := B6_0.cell 2 rfl
      have e6_0_2 := B6_0.free 2
      have d6_0_3 := B6_0.cell 3 rfl
      have e6_0_3 := B6_0.free 3
      have t6_1 := B6_1.lt
      have d6_1_0 := B6_1.cell 0 rfl
      have e6_1_0 := B6_1.free 0
      have d6_1_1 := B6_1.cell 1 rfl
      have e6_1_1 := B6_1.free 1
      have d6_1_2 := B6_1.cell 2 rfl
      have e6_1_2 := B6_1.free 2
      have d6_1_3 := B6_1.cell 3 rfl
      have e6_1_3 := B6_1.free 3
      have t6_2 := B6_2.lt
      have d6_2_0 := B6_2.cell 0 rfl
      have e6_2_0 := B6_2.free 0
      have d6_2_1 := B6_2.cell 1 rfl
      have e6_2_1 := B6_2.free 1
      have d6_2_2 := B6_2.cell 2 rfl
      have e6_2_2 := B6_2.free 2
      have d6_2_3 := B6_2.cell 3 rfl
      have e6_2_3 := B6_2.free 3
      go_wp2
      rw [H.out]
      refine bodyPost_ret (v := R.v ⟨mx, my, nx - mx, ny - my⟩) (by simp [results, Try.results17, go_sem, R.zero, d6_0_0, d6_0_1, d6_0_2, d6_0_3, d6_1_0, d6_1_1, d6_1_2, d6_1_3, d6_2_0, d6_2_1, d6_2_2, d6_2_3, t6_0, t6_1, t6_2]) rfl ⟨rfl, ?_⟩
      repeat' (first | (with_reducible exact Grew.refl _) | (with_reducible refine Grew.setCell ?_ ?_ _) | (with_reducible refine Grew.drewN ?_ _) | (with_reducible refine Grew.alloc ?_ _) | (with_reducible refine Grew.trans ?_ G6.out) | (with_reducible refine Grew.trans ?_ G5.out) | (with_reducible refine Grew.trans ?_ G4.out) | (with_reducible refine Grew.trans ?_ G3.out) | (with_reducible refine Grew.trans ?_ G2.out) | (with_reducible refine Grew.trans ?_ G1.out) | (dsimp only; omega))
end Go.Proofs.Ythldilikkogaoaa
