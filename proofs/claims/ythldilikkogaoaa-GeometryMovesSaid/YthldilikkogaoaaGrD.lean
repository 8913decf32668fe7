/- What the reference's Shrink and Shift return; no condition. -/
import Derived.Test.YthldilikkogaoaaGrB
import Derived.Test.YthldilikkogaoaaGeSh
import Derived.Deep.Cut
namespace Go.Proofs.Ythldilikkogaoaa
open Go.RowKit Go.Sort
set_option linter.unusedSimpArgs false
set_option linter.unusedVariables false

theorem ways8 (il it ir ib : Int) : il < 0 ∨ (¬ il < 0 ∧ 1048576 < il) ∨ (¬ il < 0 ∧ ¬ 1048576 < il ∧ it < 0) ∨ (¬ il < 0 ∧ ¬ 1048576 < il ∧ ¬ it < 0 ∧ 1048576 < it) ∨ (¬ il < 0 ∧ ¬ 1048576 < il ∧ ¬ it < 0 ∧ ¬ 1048576 < it ∧ ir < 0) ∨ (¬ il < 0 ∧ ¬ 1048576 < il ∧ ¬ it < 0 ∧ ¬ 1048576 < it ∧ ¬ ir < 0 ∧ 1048576 < ir) ∨ (¬ il < 0 ∧ ¬ 1048576 < il ∧ ¬ it < 0 ∧ ¬ 1048576 < it ∧ ¬ ir < 0 ∧ ¬ 1048576 < ir ∧ ib < 0) ∨ (¬ il < 0 ∧ ¬ 1048576 < il ∧ ¬ it < 0 ∧ ¬ 1048576 < it ∧ ¬ ir < 0 ∧ ¬ 1048576 < ir ∧ ¬ ib < 0 ∧ 1048576 < ib) ∨ (¬ il < 0 ∧ ¬ 1048576 < il ∧ ¬ it < 0 ∧ ¬ 1048576 < it ∧ ¬ ir < 0 ∧ ¬ 1048576 < ir ∧ ¬ ib < 0 ∧ ¬ 1048576 < ib) := by
  by_cases k0 : il < 0
  · exact Or.inl k0
  by_cases k1 : 1048576 < il
  · exact Or.inr (Or.inl ⟨k0, k1⟩)
  by_cases k2 : it < 0
  · exact Or.inr (Or.inr (Or.inl ⟨k0, k1, k2⟩))
  by_cases k3 : 1048576 < it
  · exact Or.inr (Or.inr (Or.inr (Or.inl ⟨k0, k1, k2, k3⟩)))
  by_cases k4 : ir < 0
  · exact Or.inr (Or.inr (Or.inr (Or.inr (Or.inl ⟨k0, k1, k2, k3, k4⟩))))
  by_cases k5 : 1048576 < ir
  · exact Or.inr (Or.inr (Or.inr (Or.inr (Or.inr (Or.inl ⟨k0, k1, k2, k3, k4, k5⟩)))))
  by_cases k6 : ib < 0
  · exact Or.inr (Or.inr (Or.inr (Or.inr (Or.inr (Or.inr (Or.inl ⟨k0, k1, k2, k3, k4, k5, k6⟩))))))
  by_cases k7 : 1048576 < ib
  · exact Or.inr (Or.inr (Or.inr (Or.inr (Or.inr (Or.inr (Or.inr (Or.inl ⟨k0, k1, k2, k3, k4, k5, k6, k7⟩)))))))
  exact Or.inr (Or.inr (Or.inr (Or.inr (Or.inr (Or.inr (Or.inr (Or.inr (⟨k0, k1, k2, k3, k4, k5, k6, k7⟩))))))))
theorem shrink_kept (a : R) (il it ir ib : Int) : shrinkR a il it ir ib = if lenB il && lenB it && lenB ir && lenB ib then
    (if a.kept.w - il - ir ≤ 0 ∨ a.kept.h - it - ib ≤ 0 then R.zero else ⟨a.kept.x + il, a.kept.y + it, a.kept.w - il - ir, a.kept.h - it - ib⟩) else R.zero := by
  unfold shrinkR R.kept
  cases c : (lenB il && lenB it && lenB ir && lenB ib) with
  | false =>
    have : (a.ok && lenB il && lenB it && lenB ir && lenB ib) = false := by
      cases a.ok <;> simp_all
    rw [if_neg (by rw [this]; exact Bool.false_ne_true), if_neg (by exact Bool.false_ne_true)]
  | true =>
    simp only [Bool.and_eq_true] at c
    obtain ⟨⟨⟨k1, k2⟩, k3⟩, k4⟩ := c
    have e1 := inB_iff.1 k1
    have e2 := inB_iff.1 k2
    have e3 := inB_iff.1 k3
    have e4 := inB_iff.1 k4
    cases h : a.ok with
    | true =>
      simp only [h, k1, k2, k3, k4, Bool.and_self, if_true]
      unfold fillR
      by_cases z : a.w - il - ir ≤ 0 ∨ a.h - it - ib ≤ 0
      · rw [if_pos z, if_pos (by omega)]
      · rw [if_neg z, if_neg (by omega)]
        congr 1 <;> omega
    | false =>
      simp only [h, Bool.false_and, Bool.false_eq_true, if_false, if_true]
      rw [if_pos (by show (0 : Int) - il - ir ≤ 0 ∨ (0 : Int) - it - ib ≤ 0; omega)]

set_option maxHeartbeats 4000000 in
theorem rShrink_b0 (x y z h p q r s il it ir ib : Int) (w : World) (VA : ∀ W, Hid (Calls Try.prog 38 #[.agg #[.int .i64 x, .int .i64 y, .int .i64 z, .int .i64 h]] W fun e w' => e = .returned (.agg #[.int .i64 p, .int .i64 q, .int .i64 r, .int .i64 s]) ∧ Grew W w')) (k0 : il < 0) :
    Calls Try.prog 22 #[.agg #[.int .i64 x, .int .i64 y, .int .i64 z, .int .i64 h], .agg #[.int .i64 il, .int .i64 it, .int .i64 ir, .int .i64 ib]] w fun e w' => e = .returned (.agg #[.int .i64 0, .int .i64 0, .int .i64 0, .int .i64 0]) ∧ Grew w w' := by
  go_enter Try.func22, Try.ntmps22
  go_wp2_with fail
  refine ((VA _).out).mono ?_
  rintro e w1 ⟨rfl, G1⟩
  try (with_reducible replace G1 := Grew.undrawn G1)
  have B1_0 : Blk w1 (w.heap.size) 23 [.int .i64 x, .int .i64 y, .int .i64 z, .int .i64 h] := Blk.grew (by (repeat' (first | (with_reducible assumption) | ((with_reducible refine Blk.new ?_); (first | (with_reducible rfl) | (simp only [World.size_alloc, World.size_setCell, size_drewN]; done))) | (with_reducible refine Blk.alloc ?_ _) | (with_reducible refine Blk.drewN ?_ _) | (with_reducible refine Blk.drew ?_) | (refine Blk.other ?_ (by omega) _) | fail))) G1
  have B1_1 : Blk w1 (w.heap.size + 1) 34 [.int .i64 il, .int .i64 it, .int .i64 ir, .int .i64 ib] := Blk.grew (by (repeat' (first | (with_reducible assumption) | ((with_reducible refine Blk.new ?_); (first | (with_reducible rfl) | (simp only [World.size_alloc, World.size_setCell, size_drewN]; done))) | (with_reducible refine Blk.alloc ?_ _) | (with_reducible refine Blk.drewN ?_ _) | (with_reducible refine Blk.drew ?_) | (refine Blk.other ?_ (by omega) _) | fail))) G1
  have B1_2 : Blk w1 (w.heap.size + 1 + 1) 23 [.int .i64 0, .int .i64 0, .int .i64 0, .int .i64 0] := Blk.grew (by (repeat' (first | (with_reducible assumption) | ((with_reducible refine Blk.new ?_); (first | (with_reducible rfl) | (simp only [World.size_alloc, World.size_setCell, size_drewN]; done))) | (with_reducible refine Blk.alloc ?_ _) | (with_reducible refine Blk.drewN ?_ _) | (with_reducible refine Blk.drew ?_) | (refine Blk.other ?_ (by omega) _) | fail))) G1
  have z1 := G1.size
  try simp only [World.size_alloc, World.size_setCell, size_drewN] at z1
  replace G1 := hide G1
  have t1_0 := B1_0.lt
  have d1_0_0 := B1_0.cell 0 rfl
  have e1_0_0 := B1_0.free 0
  have d1_0_1 := B1_0.cell 1 rfl
  have e1_0_1 := B1_0.free 1
  have d1_0_2 := B1_0.cell 2 rfl
  have e1_0_2 := B1_0.free 2
  have d1_0_3 := B1_0.cell 3 rfl
  have e1_0_3 := B1_0.free 3
  have t1_1 := B1_1.lt
  have d1_1_0 := B1_1.cell 0 rfl
  have e1_1_0 := B1_1.free 0
  have d1_1_1 := B1_1.cell 1 rfl
  have e1_1_1 := B1_1.free 1
  have d1_1_2 := B1_1.cell 2 rfl
  have e1_1_2 := B1_1.free 2
  have d1_1_3 := B1_1.cell 3 rfl
  have e1_1_3 := B1_1.free 3
  have t1_2 := B1_2.lt
  have d1_2_0 := B1_2.cell 0 rfl
  have e1_2_0 := B1_2.free 0
  have d1_2_1 := B1_2.cell 1 rfl
  have e1_2_1 := B1_2.free 1
  have d1_2_2 := B1_2.cell 2 rfl
  have e1_2_2 := B1_2.free 2
  have d1_2_3 := B1_2.cell 3 rfl
  have e1_2_3 := B1_2.free 3
  go_wp2
  refine bodyPost_ret (v := R.zero.v) (by simp [results, Try.results22, go_sem, R.zero, d1_0_0, d1_0_1, d1_0_2, d1_0_3, d1_1_0, d1_1_1, d1_1_2, d1_1_3, d1_2_0, d1_2_1, d1_2_2, d1_2_3, t1_0, t1_1, t1_2]) rfl ⟨rfl, ?_⟩
  repeat' (first | (with_reducible exact Grew.refl _) | (with_reducible refine Grew.setCell ?_ ?_ _) | (with_reducible refine Grew.drewN ?_ _) | (with_reducible refine Grew.alloc ?_ _) | (with_reducible refine Grew.trans ?_ G1.out) | (dsimp only; omega))

set_option maxHeartbeats 4000000 in
theorem rShrink_b1 (x y z h p q r s il it ir ib : Int) (w : World) (VA : ∀ W, Hid (Calls Try.prog 38 #[.agg #[.int .i64 x, .int .i64 y, .int .i64 z, .int .i64 h]] W fun e w' => e = .returned (.agg #[.int .i64 p, .int .i64 q, .int .i64 r, .int .i64 s]) ∧ Grew W w')) (k0 : ¬ il < 0) (k1 : 1048576 < il) :
    Calls Try.prog 22 #[.agg #[.int .i64 x, .int .i64 y, .int .i64 z, .int .i64 h], .agg #[.int .i64 il, .int .i64 it, .int .i64 ir, .int .i64 ib]] w fun e w' => e = .returned (.agg #[.int .i64 0, .int .i64 0, .int .i64 0, .int .i64 0]) ∧ Grew w w' := by
  go_enter Try.func22, Try.ntmps22
  go_wp2_with fail
  refine ((VA _).out).mono ?_
  rintro e w1 ⟨rfl, G1⟩
  try (with_reducible replace G1 := Grew.undrawn G1)
  have B1_0 : Blk w1 (w.heap.size) 23 [.int .i64 x, .int .i64 y, .int .i64 z, .int .i64 h] := Blk.grew (by (repeat' (first | (with_reducible assumption) | ((with_reducible refine Blk.new ?_); (first | (with_reducible rfl) | (simp only [World.size_alloc, World.size_setCell, size_drewN]; done))) | (with_reducible refine Blk.alloc ?_ _) | (with_reducible refine Blk.drewN ?_ _) | (with_reducible refine Blk.drew ?_) | (refine Blk.other ?_ (by omega) _) | fail))) G1
  have B1_1 : Blk w1 (w.heap.size + 1) 34 [.int .i64 il, .int .i64 it, .int .i64 ir, .int .i64 ib] := Blk.grew (by (repeat' (first | (with_reducible assumption) | ((with_reducible refine Blk.new ?_); (first | (with_reducible rfl) | (simp only [World.size_alloc, World.size_setCell, size_drewN]; done))) | (with_reducible refine Blk.alloc ?_ _) | (with_reducible refine Blk.drewN ?_ _) | (with_reducible refine Blk.drew ?_) | (refine Blk.other ?_ (by omega) _) | fail))) G1
  have B1_2 : Blk w1 (w.heap.size + 1 + 1) 23 [.int .i64 0, .int .i64 0, .int .i64 0, .int .i64 0] := Blk.grew (by (repeat' (first | (with_reducible assumption) | ((with_reducible refine Blk.new ?_); (first | (with_reducible rfl) | (simp only [World.size_alloc, World.size_setCell, size_drewN]; done))) | (with_reducible refine Blk.alloc ?_ _) | (with_reducible refine Blk.drewN ?_ _) | (with_reducible refine Blk.drew ?_) | (refine Blk.other ?_ (by omega) _) | fail))) G1
  have z1 := G1.size
  try simp only [World.size_alloc, World.size_setCell, size_drewN] at z1
  replace G1 := hide G1
  have t1_0 := B1_0.lt
  have d1_0_0 := B1_0.cell 0 rfl
  have e1_0_0 := B1_0.free 0
  have d1_0_1 := B1_0.cell 1 rfl
  have e1_0_1 := B1_0.free 1
  have d1_0_2 := B1_0.cell 2 rfl
  have e1_0_2 := B1_0.free 2
  have d1_0_3 := B1_0.cell 3 rfl
  have e1_0_3 := B1_0.free 3
  have t1_1 := B1_1.lt
  have d1_1_0 := B1_1.cell 0 rfl
  have e1_1_0 := B1_1.free 0
  have d1_1_1 := B1_1.cell 1 rfl
  have e1_1_1 := B1_1.free 1
  have d1_1_2 := B1_1.cell 2 rfl
  have e1_1_2 := B1_1.free 2
  have d1_1_3 := B1_1.cell 3 rfl
  have e1_1_3 := B1_1.free 3
  have t1_2 := B1_2.lt
  have d1_2_0 := B1_2.cell 0 rfl
  have e1_2_0 := B1_2.free 0
  have d1_2_1 := B1_2.cell 1 rfl
  have e1_2_1 := B1_2.free 1
  have d1_2_2 := B1_2.cell 2 rfl
  have e1_2_2 := B1_2.free 2
  have d1_2_3 := B1_2.cell 3 rfl
  have e1_2_3 := B1_2.free 3
  go_wp2
  refine bodyPost_ret (v := R.zero.v) (by simp [results, Try.results22, go_sem, R.zero, d1_0_0, d1_0_1, d1_0_2, d1_0_3, d1_1_0, d1_1_1, d1_1_2, d1_1_3, d1_2_0, d1_2_1, d1_2_2, d1_2_3, t1_0, t1_1, t1_2]) rfl ⟨rfl, ?_⟩
  repeat' (first | (with_reducible exact Grew.refl _) | (with_reducible refine Grew.setCell ?_ ?_ _) | (with_reducible refine Grew.drewN ?_ _) | (with_reducible refine Grew.alloc ?_ _) | (with_reducible refine Grew.trans ?_ G1.out) | (dsimp only; omega))

set_option maxHeartbeats 4000000 in
theorem rShrink_b2 (x y z h p q r s il it ir ib : Int) (w : World) (VA : ∀ W, Hid (Calls Try.prog 38 #[.agg #[.int .i64 x, .int .i64 y, .int .i64 z, .int .i64 h]] W fun e w' => e = .returned (.agg #[.int .i64 p, .int .i64 q, .int .i64 r, .int .i64 s]) ∧ Grew W w')) (k0 : ¬ il < 0) (k1 : ¬ 1048576 < il) (k2 : it < 0) :
    Calls Try.prog 22 #[.agg #[.int .i64 x, .int .i64 y, .int .i64 z, .int .i64 h], .agg #[.int .i64 il, .int .i64 it, .int .i64 ir, .int .i64 ib]] w fun e w' => e = .returned (.agg #[.int .i64 0, .int .i64 0, .int .i64 0, .int .i64 0]) ∧ Grew w w' := by
  go_enter Try.func22, Try.ntmps22
  go_wp2_with fail
  refine ((VA _).out).mono ?_
  rintro e w1 ⟨rfl, G1⟩
  try (with_reducible replace G1 := Grew.undrawn G1)
  have B1_0 : Blk w1 (w.heap.size) 23 [.int .i64 x, .int .i64 y, .int .i64 z, .int .i64 h] := Blk.grew (by (repeat' (first | (with_reducible assumption) | ((with_reducible refine Blk.new ?_); (first | (with_reducible rfl) | (simp only [World.size_alloc, World.size_setCell, size_drewN]; done))) | (with_reducible refine Blk.alloc ?_ _) | (with_reducible refine Blk.drewN ?_ _) | (with_reducible refine Blk.drew ?_) | (refine Blk.other ?_ (by omega) _) | fail))) G1
  have B1_1 : Blk w1 (w.heap.size + 1) 34 [.int .i64 il, .int .i64 it, .int .i64 ir, .int .i64 ib] := Blk.grew (by (repeat' (first | (with_reducible assumption) | ((with_reducible refine Blk.new ?_); (first | (with_reducible rfl) | (simp only [World.size_alloc, World.size_setCell, size_drewN]; done))) | (with_reducible refine Blk.alloc ?_ _) | (with_reducible refine Blk.drewN ?_ _) | (with_reducible refine Blk.drew ?_) | (refine Blk.other ?_ (by omega) _) | fail))) G1
  have B1_2 : Blk w1 (w.heap.size + 1 + 1) 23 [.int .i64 0, .int .i64 0, .int .i64 0, .int .i64 0] := Blk.grew (by (repeat' (first | (with_reducible assumption) | ((with_reducible refine Blk.new ?_); (first | (with_reducible rfl) | (simp only [World.size_alloc, World.size_setCell, size_drewN]; done))) | (with_reducible refine Blk.alloc ?_ _) | (with_reducible refine Blk.drewN ?_ _) | (with_reducible refine Blk.drew ?_) | (refine Blk.other ?_ (by omega) _) | fail))) G1
  have z1 := G1.size
  try simp only [World.size_alloc, World.size_setCell, size_drewN] at z1
  replace G1 := hide G1
  have t1_0 := B1_0.lt
  have d1_0_0 := B1_0.cell 0 rfl
  have e1_0_0 := B1_0.free 0
  have d1_0_1 := B1_0.cell 1 rfl
  have e1_0_1 := B1_0.free 1
  have d1_0_2 := B1_0.cell 2 rfl
  have e1_0_2 := B1_0.free 2
  have d1_0_3 := B1_0.cell 3 rfl
  have e1_0_3 := B1_0.free 3
  have t1_1 := B1_1.lt
  have d1_1_0 := B1_1.cell 0 rfl
  have e1_1_0 := B1_1.free 0
  have d1_1_1 := B1_1.cell 1 rfl
  have e1_1_1 := B1_1.free 1
  have d1_1_2 := B1_1.cell 2 rfl
  have e1_1_2 := B1_1.free 2
  have d1_1_3 := B1_1.cell 3 rfl
  have e1_1_3 := B1_1.free 3
  have t1_2 := B1_2.lt
  have d1_2_0 := B1_2.cell 0 rfl
  have e1_2_0 := B1_2.free 0
  have d1_2_1 := B1_2.cell 1 rfl
  have e1_2_1 := B1_2.free 1
  have d1_2_2 := B1_2.cell 2 rfl
  have e1_2_2 := B1_2.free 2
  have d1_2_3 := B1_2.cell 3 rfl
  have e1_2_3 := B1_2.free 3
  go_wp2
  refine bodyPost_ret (v := R.zero.v) (by simp [results, Try.results22, go_sem, R.zero, d1_0_0, d1_0_1, d1_0_2, d1_0_3, d1_1_0, d1_1_1, d1_1_2, d1_1_3, d1_2_0, d1_2_1, d1_2_2, d1_2_3, t1_0, t1_1, t1_2]) rfl ⟨rfl, ?_⟩
  repeat' (first | (with_reducible exact Grew.refl _) | (with_reducible refine Grew.setCell ?_ ?_ _) | (with_reducible refine Grew.drewN ?_ _) | (with_reducible refine Grew.alloc ?_ _) | (with_reducible refine Grew.trans ?_ G1.out) | (dsimp only; omega))

set_option maxHeartbeats 4000000 in
theorem rShrink_b3 (x y z h p q r s il it ir ib : Int) (w : World) (VA : ∀ W, Hid (Calls Try.prog 38 #[.agg #[.int .i64 x, .int .i64 y, .int .i64 z, .int .i64 h]] W fun e w' => e = .returned (.agg #[.int .i64 p, .int .i64 q, .int .i64 r, .int .i64 s]) ∧ Grew W w')) (k0 : ¬ il < 0) (k1 : ¬ 1048576 < il) (k2 : ¬ it < 0) (k3 : 1048576 < it) :
    Calls Try.prog 22 #[.agg #[.int .i64 x, .int .i64 y, .int .i64 z, .int .i64 h], .agg #[.int .i64 il, .int .i64 it, .int .i64 ir, .int .i64 ib]] w fun e w' => e = .returned (.agg #[.int .i64 0, .int .i64 0, .int .i64 0, .int .i64 0]) ∧ Grew w w' := by
  go_enter Try.func22, Try.ntmps22
  go_wp2_with fail
  refine ((VA _).out).mono ?_
  rintro e w1 ⟨rfl, G1⟩
  try (with_reducible replace G1 := Grew.undrawn G1)
  have B1_0 : Blk w1 (w.heap.size) 23 [.int .i64 x, .int .i64 y, .int .i64 z, .int .i64 h] := Blk.grew (by (repeat' (first | (with_reducible assumption) | ((with_reducible refine Blk.new ?_); (first | (with_reducible rfl) | (simp only [World.size_alloc, World.size_setCell, size_drewN]; done))) | (with_reducible refine Blk.alloc ?_ _) | (with_reducible refine Blk.drewN ?_ _) | (with_reducible refine Blk.drew ?_) | (refine Blk.other ?_ (by omega) _) | fail))) G1
  have B1_1 : Blk w1 (w.heap.size + 1) 34 [.int .i64 il, .int .i64 it, .int .i64 ir, .int .i64 ib] := Blk.grew (by (repeat' (first | (with_reducible assumption) | ((with_reducible refine Blk.new ?_); (first | (with_reducible rfl) | (simp only [World.size_alloc, World.size_setCell, size_drewN]; done))) | (with_reducible refine Blk.alloc ?_ _) | (with_reducible refine Blk.drewN ?_ _) | (with_reducible refine Blk.drew ?_) | (refine Blk.other ?_ (by omega) _) | fail))) G1
  have B1_2 : Blk w1 (w.heap.size + 1 + 1) 23 [.int .i64 0, .int .i64 0, .int .i64 0, .int .i64 0] := Blk.grew (by (repeat' (first | (with_reducible assumption) | ((with_reducible refine Blk.new ?_); (first | (with_reducible rfl) | (simp only [World.size_alloc, World.size_setCell, size_drewN]; done))) | (with_reducible refine Blk.alloc ?_ _) | (with_reducible refine Blk.drewN ?_ _) | (with_reducible refine Blk.drew ?_) | (refine Blk.other ?_ (by omega) _) | fail))) G1
  have z1 := G1.size
  try simp only [World.size_alloc, World.size_setCell, size_drewN] at z1
  replace G1 := hide G1
  have t1_0 := B1_0.lt
  have d1_0_0 := B1_0.cell 0 rfl
  have e1_0_0 := B1_0.free 0
  have d1_0_1 := B1_0.cell 1 rfl
  have e1_0_1 := B1_0.free 1
  have d1_0_2 := B1_0.cell 2 rfl
  have e1_0_2 := B1_0.free 2
  have d1_0_3 := B1_0.cell 3 rfl
  have e1_0_3 := B1_0.free 3
  have t1_1 := B1_1.lt
  have d1_1_0 := B1_1.cell 0 rfl
  have e1_1_0 := B1_1.free 0
  have d1_1_1 := B1_1.cell 1 rfl
  have e1_1_1 := B1_1.free 1
  have d1_1_2 := B1_1.cell 2 rfl
  have e1_1_2 := B1_1.free 2
  have d1_1_3 := B1_1.cell 3 rfl
  have e1_1_3 := B1_1.free 3
  have t1_2 := B1_2.lt
  have d1_2_0 := B1_2.cell 0 rfl
  have e1_2_0 := B1_2.free 0
  have d1_2_1 := B1_2.cell 1 rfl
  have e1_2_1 := B1_2.free 1
  have d1_2_2 := B1_2.cell 2 rfl
  have e1_2_2 := B1_2.free 2
  have d1_2_3 := B1_2.cell 3 rfl
  have e1_2_3 := B1_2.free 3
  go_wp2
  refine bodyPost_ret (v := R.zero.v) (by simp [results, Try.results22, go_sem, R.zero, d1_0_0, d1_0_1, d1_0_2, d1_0_3, d1_1_0, d1_1_1, d1_1_2, d1_1_3, d1_2_0, d1_2_1, d1_2_2, d1_2_3, t1_0, t1_1, t1_2]) rfl ⟨rfl, ?_⟩
  repeat' (first | (with_reducible exact Grew.refl _) | (with_reducible refine Grew.setCell ?_ ?_ _) | (with_reducible refine Grew.drewN ?_ _) | (with_reducible refine Grew.alloc ?_ _) | (with_reducible refine Grew.trans ?_ G1.out) | (dsimp only; omega))

set_option maxHeartbeats 4000000 in
theorem rShrink_b4 (x y z h p q r s il it ir ib : Int) (w : World) (VA : ∀ W, Hid (Calls Try.prog 38 #[.agg #[.int .i64 x, .int .i64 y, .int .i64 z, .int .i64 h]] W fun e w' => e = .returned (.agg #[.int .i64 p, .int .i64 q, .int .i64 r, .int .i64 s]) ∧ Grew W w')) (k0 : ¬ il < 0) (k1 : ¬ 1048576 < il) (k2 : ¬ it < 0) (k3 : ¬ 1048576 < it) (k4 : ir < 0) :
    Calls Try.prog 22 #[.agg #[.int .i64 x, .int .i64 y, .int .i64 z, .int .i64 h], .agg #[.int .i64 il, .int .i64 it, .int .i64 ir, .int .i64 ib]] w fun e w' => e = .returned (.agg #[.int .i64 0, .int .i64 0, .int .i64 0, .int .i64 0]) ∧ Grew w w' := by
  go_enter Try.func22, Try.ntmps22
  go_wp2_with fail
  refine ((VA _).out).mono ?_
  rintro e w1 ⟨rfl, G1⟩
  try (with_reducible replace G1 := Grew.undrawn G1)
  have B1_0 : Blk w1 (w.heap.size) 23 [.int .i64 x, .int .i64 y, .int .i64 z, .int .i64 h] := Blk.grew (by (repeat' (first | (with_reducible assumption) | ((with_reducible refine Blk.new ?_); (first | (with_reducible rfl) | (simp only [World.size_alloc, World.size_setCell, size_drewN]; done))) | (with_reducible refine Blk.alloc ?_ _) | (with_reducible refine Blk.drewN ?_ _) | (with_reducible refine Blk.drew ?_) | (refine Blk.other ?_ (by omega) _) | fail))) G1
  have B1_1 : Blk w1 (w.heap.size + 1) 34 [.int .i64 il, .int .i64 it, .int .i64 ir, .int .i64 ib] := Blk.grew (by (repeat' (first | (with_reducible assumption) | ((with_reducible refine Blk.new ?_); (first | (with_reducible rfl) | (simp only [World.size_alloc, World.size_setCell, size_drewN]; done))) | (with_reducible refine Blk.alloc ?_ _) | (with_reducible refine Blk.drewN ?_ _) | (with_reducible refine Blk.drew ?_) | (refine Blk.other ?_ (by omega) _) | fail))) G1
  have B1_2 : Blk w1 (w.heap.size + 1 + 1) 23 [.int .i64 0, .int .i64 0, .int .i64 0, .int .i64 0] := Blk.grew (by (repeat' (first | (with_reducible assumption) | ((with_reducible refine Blk.new ?_); (first | (with_reducible rfl) | (simp only [World.size_alloc, World.size_setCell, size_drewN]; done))) | (with_reducible refine Blk.alloc ?_ _) | (with_reducible refine Blk.drewN ?_ _) | (with_reducible refine Blk.drew ?_) | (refine Blk.other ?_ (by omega) _) | fail))) G1
  have z1 := G1.size
  try simp only [World.size_alloc, World.size_setCell, size_drewN] at z1
  replace G1 := hide G1
  have t1_0 := B1_0.lt
  have d1_0_0 := B1_0.cell 0 rfl
  have e1_0_0 := B1_0.free 0
  have d1_0_1 := B1_0.cell 1 rfl
  have e1_0_1 := B1_0.free 1
  have d1_0_2 := B1_0.cell 2 rfl
  have e1_0_2 := B1_0.free 2
  have d1_0_3 := B1_0.cell 3 rfl
  have e1_0_3 := B1_0.free 3
  have t1_1 := B1_1.lt
  have d1_1_0 := B1_1.cell 0 rfl
  have e1_1_0 := B1_1.free 0
  have d1_1_1 := B1_1.cell 1 rfl
  have e1_1_1 := B1_1.free 1
  have d1_1_2 := B1_1.cell 2 rfl
  have e1_1_2 := B1_1.free 2
  have d1_1_3 := B1_1.cell 3 rfl
  have e1_1_3 := B1_1.free 3
  have t1_2 := B1_2.lt
  have d1_2_0 := B1_2.cell 0 rfl
  have e1_2_0 := B1_2.free 0
  have d1_2_1 := B1_2.cell 1 rfl
  have e1_2_1 := B1_2.free 1
  have d1_2_2 := B1_2.cell 2 rfl
  have e1_2_2 := B1_2.free 2
  have d1_2_3 := B1_2.cell 3 rfl
  have e1_2_3 := B1_2.free 3
  go_wp2
  refine bodyPost_ret (v := R.zero.v) (by simp [results, Try.results22, go_sem, R.zero, d1_0_0, d1_0_1, d1_0_2, d1_0_3, d1_1_0, d1_1_1, d1_1_2, d1_1_3, d1_2_0, d1_2_1, d1_2_2, d1_2_3, t1_0, t1_1, t1_2]) rfl ⟨rfl, ?_⟩
  repeat' (first | (with_reducible exact Grew.refl _) | (with_reducible refine Grew.setCell ?_ ?_ _) | (with_reducible refine Grew.drewN ?_ _) | (with_reducible refine Grew.alloc ?_ _) | (with_reducible refine Grew.trans ?_ G1.out) | (dsimp only; omega))

set_option maxHeartbeats 4000000 in
theorem rShrink_b5 (x y z h p q r s il it ir ib : Int) (w : World) (VA : ∀ W, Hid (Calls Try.prog 38 #[.agg #[.int .i64 x, .int .i64 y, .int .i64 z, .int .i64 h]] W fun e w' => e = .returned (.agg #[.int .i64 p, .int .i64 q, .int .i64 r, .int .i64 s]) ∧ Grew W w')) (k0 : ¬ il < 0) (k1 : ¬ 1048576 < il) (k2 : ¬ it < 0) (k3 : ¬ 1048576 < it) (k4 : ¬ ir < 0) (k5 : 1048576 < ir) :
    Calls Try.prog 22 #[.agg #[.int .i64 x, .int .i64 y, .int .i64 z, .int .i64 h], .agg #[.int .i64 il, .int .i64 it, .int .i64 ir, .int .i64 ib]] w fun e w' => e = .returned (.agg #[.int .i64 0, .int .i64 0, .int .i64 0, .int .i64 0]) ∧ Grew w w' := by
  go_enter Try.func22, Try.ntmps22
  go_wp2_with fail
  refine ((VA _).out).mono ?_
  rintro e w1 ⟨rfl, G1⟩
  try (with_reducible replace G1 := Grew.undrawn G1)
  have B1_0 : Blk w1 (w.heap.size) 23 [.int .i64 x, .int .i64 y, .int .i64 z, .int .i64 h] := Blk.grew (by (repeat' (first | (with_reducible assumption) | ((with_reducible refine Blk.new ?_); (first | (with_reducible rfl) | (simp only [World.size_alloc, World.size_setCell, size_drewN]; done))) | (with_reducible refine Blk.alloc ?_ _) | (with_reducible refine Blk.drewN ?_ _) | (with_reducible refine Blk.drew ?_) | (refine Blk.other ?_ (by omega) _) | fail))) G1
  have B1_1 : Blk w1 (w.heap.size + 1) 34 [.int .i64 il, .int .i64 it, .int .i64 ir, .int .i64 ib] := Blk.grew (by (repeat' (first | (with_reducible assumption) | ((with_reducible refine Blk.new ?_); (first | (with_reducible rfl) | (simp only [World.size_alloc, World.size_setCell, size_drewN]; done))) | (with_reducible refine Blk.alloc ?_ _) | (with_reducible refine Blk.drewN ?_ _) | (with_reducible refine Blk.drew ?_) | (refine Blk.other ?_ (by omega) _) | fail))) G1
  have B1_2 : Blk w1 (w.heap.size + 1 + 1) 23 [.int .i64 0, .int .i64 0, .int .i64 0, .int .i64 0] := Blk.grew (by (repeat' (first | (with_reducible assumption) | ((with_reducible refine Blk.new ?_); (first | (with_reducible rfl) | (simp only [World.size_alloc, World.size_setCell, size_drewN]; done))) | (with_reducible refine Blk.alloc ?_ _) | (with_reducible refine Blk.drewN ?_ _) | (with_reducible refine Blk.drew ?_) | (refine Blk.other ?_ (by omega) _) | fail))) G1
  have z1 := G1.size
  try simp only [World.size_alloc, World.size_setCell, size_drewN] at z1
  replace G1 := hide G1
  have t1_0 := B1_0.lt
  have d1_0_0 := B1_0.cell 0 rfl
  have e1_0_0 := B1_0.free 0
  have d1_0_1 := B1_0.cell 1 rfl
  have e1_0_1 := B1_0.free 1
  have d1_0_2 := B1_0.cell 2 rfl
  have e1_0_2 := B1_0.free 2
  have d1_0_3 := B1_0.cell 3 rfl
  have e1_0_3 := B1_0.free 3
  have t1_1 := B1_1.lt
  have d1_1_0 := B1_1.cell 0 rfl
  have e1_1_0 := B1_1.free 0
  have d1_1_1 := B1_1.cell 1 rfl
  have e1_1_1 := B1_1.free 1
  have d1_1_2 := B1_1.cell 2 rfl
  have e1_1_2 := B1_1.free 2
  have d1_1_3 := B1_1.cell 3 rfl
  have e1_1_3 := B1_1.free 3
  have t1_2 := B1_2.lt
  have d1_2_0 := B1_2.cell 0 rfl
  have e1_2_0 := B1_2.free 0
  have d1_2_1 := B1_2.cell 1 rfl
  have e1_2_1 := B1_2.free 1
  have d1_2_2 := B1_2.cell 2 rfl
  have e1_2_2 := B1_2.free 2
  have d1_2_3 := B1_2.cell 3 rfl
  have e1_2_3 := B1_2.free 3
  go_wp2
  refine bodyPost_ret (v := R.zero.v) (by simp [results, Try.results22, go_sem, R.zero, d1_0_0, d1_0_1, d1_0_2, d1_0_3, d1_1_0, d1_1_1, d1_1_2, d1_1_3, d1_2_0, d1_2_1, d1_2_2, d1_2_3, t1_0, t1_1, t1_2]) rfl ⟨rfl, ?_⟩
  repeat' (first | (with_reducible exact Grew.refl _) | (with_reducible refine Grew.setCell ?_ ?_ _) | (with_reducible refine Grew.drewN ?_ _) | (with_reducible refine Grew.alloc ?_ _) | (with_reducible refine Grew.trans ?_ G1.out) | (dsimp only; omega))

set_option maxHeartbeats 4000000 in
theorem rShrink_b6 (x y z h p q r s il it ir ib : Int) (w : World) (VA : ∀ W, Hid (Calls Try.prog 38 #[.agg #[.int .i64 x, .int .i64 y, .int .i64 z, .int .i64 h]] W fun e w' => e = .returned (.agg #[.int .i64 p, .int .i64 q, .int .i64 r, .int .i64 s]) ∧ Grew W w')) (k0 : ¬ il < 0) (k1 : ¬ 1048576 < il) (k2 : ¬ it < 0) (k3 : ¬ 1048576 < it) (k4 : ¬ ir < 0) (k5 : ¬ 1048576 < ir) (k6 : ib < 0) :
    Calls Try.prog 22 #[.agg #[.int .i64 x, .int .i64 y, .int .i64 z, .int .i64 h], .agg #[.int .i64 il, .int .i64 it, .int .i64 ir, .int .i64 ib]] w fun e w' => e = .returned (.agg #[.int .i64 0, .int .i64 0, .int .i64 0, .int .i64 0]) ∧ Grew w w' := by
  go_enter Try.func22, Try.ntmps22
  go_wp2_with fail
  refine ((VA _).out).mono ?_
  rintro e w1 ⟨rfl, G1⟩
  try (with_reducible replace G1 := Grew.undrawn G1)
  have B1_0 : Blk w1 (w.heap.size) 23 [.int .i64 x, .int .i64 y, .int .i64 z, .int .i64 h] := Blk.grew (by (repeat' (first | (with_reducible assumption) | ((with_reducible refine Blk.new ?_); (first | (with_reducible rfl) | (simp only [World.size_alloc, World.size_setCell, size_drewN]; done))) | (with_reducible refine Blk.alloc ?_ _) | (with_reducible refine Blk.drewN ?_ _) | (with_reducible refine Blk.drew ?_) | (refine Blk.other ?_ (by omega) _) | fail))) G1
  have B1_1 : Blk w1 (w.heap.size + 1) 34 [.int .i64 il, .int .i64 it, .int .i64 ir, .int .i64 ib] := Blk.grew (by (repeat' (first | (with_reducible assumption) | ((with_reducible refine Blk.new ?_); (first | (with_reducible rfl) | (simp only [World.size_alloc, World.size_setCell, size_drewN]; done))) | (with_reducible refine Blk.alloc ?_ _) | (with_reducible refine Blk.drewN ?_ _) | (with_reducible refine Blk.drew ?_) | (refine Blk.other ?_ (by omega) _) | fail))) G1
  have B1_2 : Blk w1 (w.heap.size + 1 + 1) 23 [.int .i64 0, .int .i64 0, .int .i64 0, .int .i64 0] := Blk.grew (by (repeat' (first | (with_reducible assumption) | ((with_reducible refine Blk.new ?_); (first | (with_reducible rfl) | (simp only [World.size_alloc, World.size_setCell, size_drewN]; done))) | (with_reducible refine Blk.alloc ?_ _) | (with_reducible refine Blk.drewN ?_ _) | (with_reducible refine Blk.drew ?_) | (refine Blk.other ?_ (by omega) _) | fail))) G1
  have z1 := G1.size
  try simp only [World.size_alloc, World.size_setCell, size_drewN] at z1
  replace G1 := hide G1
  have t1_0 := B1_0.lt
  have d1_0_0 := B1_0.cell 0 rfl
  have e1_0_0 := B1_0.free 0
  have d1_0_1 := B1_0.cell 1 rfl
  have e1_0_1 := B1_0.free 1
  have d1_0_2 := B1_0.cell 2 rfl
  have e1_0_2 := B1_0.free 2
  have d1_0_3 := B1_0.cell 3 rfl
  have e1_0_3 := B1_0.free 3
  have t1_1 := B1_1.lt
  have d1_1_0 := B1_1.cell 0 rfl
  have e1_1_0 := B1_1.free 0
  have d1_1_1 := B1_1.cell 1 rfl
  have e1_1_1 := B1_1.free 1
  have d1_1_2 := B1_1.cell 2 rfl
  have e1_1_2 := B1_1.free 2
  have d1_1_3 := B1_1.cell 3 rfl
  have e1_1_3 := B1_1.free 3
  have t1_2 := B1_2.lt
  have d1_2_0 := B1_2.cell 0 rfl
  have e1_2_0 := B1_2.free 0
  have d1_2_1 := B1_2.cell 1 rfl
  have e1_2_1 := B1_2.free 1
  have d1_2_2 := B1_2.cell 2 rfl
  have e1_2_2 := B1_2.free 2
  have d1_2_3 := B1_2.cell 3 rfl
  have e1_2_3 := B1_2.free 3
  go_wp2
  refine bodyPost_ret (v := R.zero.v) (by simp [results, Try.results22, go_sem, R.zero, d1_0_0, d1_0_1, d1_0_2, d1_0_3, d1_1_0, d1_1_1, d1_1_2, d1_1_3, d1_2_0, d1_2_1, d1_2_2, d1_2_3, t1_0, t1_1, t1_2]) rfl ⟨rfl, ?_⟩
  repeat' (first | (with_reducible exact Grew.refl _) | (with_reducible refine Grew.setCell ?_ ?_ _) | (with_reducible refine Grew.drewN ?_ _) | (with_reducible refine Grew.alloc ?_ _) | (with_reducible refine Grew.trans ?_ G1.out) | (dsimp only; omega))

set_option maxHeartbeats 4000000 in
theorem rShrink_b7 (x y z h p q r s il it ir ib : Int) (w : World) (VA : ∀ W, Hid (Calls Try.prog 38 #[.agg #[.int .i64 x, .int .i64 y, .int .i64 z, .int .i64 h]] W fun e w' => e = .returned (.agg #[.int .i64 p, .int .i64 q, .int .i64 r, .int .i64 s]) ∧ Grew W w')) (k0 : ¬ il < 0) (k1 : ¬ 1048576 < il) (k2 : ¬ it < 0) (k3 : ¬ 1048576 < it) (k4 : ¬ ir < 0) (k5 : ¬ 1048576 < ir) (k6 : ¬ ib < 0) (k7 : 1048576 < ib) :
    Calls Try.prog 22 #[.agg #[.int .i64 x, .int .i64 y, .int .i64 z, .int .i64 h], .agg #[.int .i64 il, .int .i64 it, .int .i64 ir, .int .i64 ib]] w fun e w' => e = .returned (.agg #[.int .i64 0, .int .i64 0, .int .i64 0, .int .i64 0]) ∧ Grew w w' := by
  go_enter Try.func22, Try.ntmps22
  go_wp2_with fail
  refine ((VA _).out).mono ?_
  rintro e w1 ⟨rfl, G1⟩
  try (with_reducible replace G1 := Grew.undrawn G1)
  have B1_0 : Blk w1 (w.heap.size) 23 [.int .i64 x, .int .i64 y, .int .i64 z, .int .i64 h] := Blk.grew (by (repeat' (first | (with_reducible assumption) | ((with_reducible refine Blk.new ?_); (first | (with_reducible rfl) | (simp only [World.size_alloc, World.size_setCell, size_drewN]; done))) | (with_reducible refine Blk.alloc ?_ _) | (with_reducible refine Blk.drewN ?_ _) | (with_reducible refine Blk.drew ?_) | (refine Blk.other ?_ (by omega) _) | fail))) G1
  have B1_1 : Blk w1 (w.heap.size + 1) 34 [.int .i64 il, .int .i64 it, .int .i64 ir, .int .i64 ib] := Blk.grew (by (repeat' (first | (with_reducible assumption) | ((with_reducible refine Blk.new ?_); (first | (with_reducible rfl) | (simp only [World.size_alloc, World.size_setCell, size_drewN]; done))) | (with_reducible refine Blk.alloc ?_ _) | (with_reducible refine Blk.drewN ?_ _) | (with_reducible refine Blk.drew ?_) | (refine Blk.other ?_ (by omega) _) | fail))) G1
  have B1_2 : Blk w1 (w.heap.size + 1 + 1) 23 [.int .i64 0, .int .i64 0, .int .i64 0, .int .i64 0] := Blk.grew (by (repeat' (first | (with_reducible assumption) | ((with_reducible refine Blk.new ?_); (first | (with_reducible rfl) | (simp only [World.size_alloc, World.size_setCell, size_drewN]; done))) | (with_reducible refine Blk.alloc ?_ _) | (with_reducible refine Blk.drewN ?_ _) | (with_reducible refine Blk.drew ?_) | (refine Blk.other ?_ (by omega) _) | fail))) G1
  have z1 := G1.size
  try simp only [World.size_alloc, World.size_setCell, size_drewN] at z1
  replace G1 := hide G1
  have t1_0 := B1_0.lt
  have d1_0_0 := B1_0.cell 0 rfl
  have e1_0_0 := B1_0.free 0
  have d1_0_1 := B1_0.cell 1 rfl
  have e1_0_1 := B1_0.free 1
  have d1_0_2 := B1_0.cell 2 rfl
  have e1_0_2 := B1_0.free 2
  have d1_0_3 := B1_0.cell 3 rfl
  have e1_0_3 := B1_0.free 3
  have t1_1 := B1_1.lt
  have d1_1_0 := B1_1.cell 0 rfl
  have e1_1_0 := B1_1.free 0
  have d1_1_1 := B1_1.cell 1 rfl
  have e1_1_1 := B1_1.free 1
  have d1_1_2 := B1_1.cell 2 rfl
  have e1_1_2 := B1_1.free 2
  have d1_1_3 := B1_1.cell 3 rfl
  have e1_1_3 := B1_1.free 3
  have t1_2 := B1_2.lt
  have d1_2_0 := B1_2.cell 0 rfl
  have e1_2_0 := B1_2.free 0
  have d1_2_1 := B1_2.cell 1 rfl
  have e1_2_1 := B1_2.free 1
  have d1_2_2 := B1_2.cell 2 rfl
  have e1_2_2 := B1_2.free 2
  have d1_2_3 := B1_2.cell 3 rfl
  have e1_2_3 := B1_2.free 3
  go_wp2
  refine bodyPost_ret (v := R.zero.v) (by simp [results, Try.results22, go_sem, R.zero, d1_0_0, d1_0_1, d1_0_2, d1_0_3, d1_1_0, d1_1_1, d1_1_2, d1_1_3, d1_2_0, d1_2_1, d1_2_2, d1_2_3, t1_0, t1_1, t1_2]) rfl ⟨rfl, ?_⟩
  repeat' (first | (with_reducible exact Grew.refl _) | (with_reducible refine Grew.setCell ?_ ?_ _) | (with_reducible refine Grew.drewN ?_ _) | (with_reducible refine Grew.alloc ?_ _) | (with_reducible refine Grew.trans ?_ G1.out) | (dsimp only; omega))

set_option maxHeartbeats 4000000 in
theorem rShrink_g1 (x y z h p q r s il it ir ib : Int) (w : World) (VA : ∀ W, Hid (Calls Try.prog 38 #[.agg #[.int .i64 x, .int .i64 y, .int .i64 z, .int .i64 h]] W fun e w' => e = .returned (.agg #[.int .i64 p, .int .i64 q, .int .i64 r, .int .i64 s]) ∧ Grew W w')) (k0 : ¬ il < 0) (k1 : ¬ 1048576 < il) (k2 : ¬ it < 0) (k3 : ¬ 1048576 < it) (k4 : ¬ ir < 0) (k5 : ¬ 1048576 < ir) (k6 : ¬ ib < 0) (k7 : ¬ 1048576 < ib) (b1 : -1048576 ≤ p) (b2 : p ≤ 1048576) (b3 : -1048576 ≤ q) (b4 : q ≤ 1048576) (b5 : 0 ≤ r) (b6 : r ≤ 1048576) (b7 : 0 ≤ s) (b8 : s ≤ 1048576) (c1 : r - il - ir ≤ 0) :
    Calls Try.prog 22 #[.agg #[.int .i64 x, .int .i64 y, .int .i64 z, .int .i64 h], .agg #[.int .i64 il, .int .i64 it, .int .i64 ir, .int .i64 ib]] w fun e w' => e = .returned (.agg #[.int .i64 0, .int .i64 0, .int .i64 0, .int .i64 0]) ∧ Grew w w' := by
  go_enter Try.func22, Try.ntmps22
  go_wp2_with fail
  refine ((VA _).out).mono ?_
  rintro e w1 ⟨rfl, G1⟩
  try (with_reducible replace G1 := Grew.undrawn G1)
  have B1_0 : Blk w1 (w.heap.size) 23 [.int .i64 x, .int .i64 y, .int .i64 z, .int .i64 h] := Blk.grew (by (repeat' (first | (with_reducible assumption) | ((with_reducible refine Blk.new ?_); (first | (with_reducible rfl) | (simp only [World.size_alloc, World.size_setCell, size_drewN]; done))) | (with_reducible refine Blk.alloc ?_ _) | (with_reducible refine Blk.drewN ?_ _) | (with_reducible refine Blk.drew ?_) | (refine Blk.other ?_ (by omega) _) | fail))) G1
  have B1_1 : Blk w1 (w.heap.size + 1) 34 [.int .i64 il, .int .i64 it, .int .i64 ir, .int .i64 ib] := Blk.grew (by (repeat' (first | (with_reducible assumption) | ((with_reducible refine Blk.new ?_); (first | (with_reducible rfl) | (simp only [World.size_alloc, World.size_setCell, size_drewN]; done))) | (with_reducible refine Blk.alloc ?_ _) | (with_reducible refine Blk.drewN ?_ _) | (with_reducible refine Blk.drew ?_) | (refine Blk.other ?_ (by omega) _) | fail))) G1
  have B1_2 : Blk w1 (w.heap.size + 1 + 1) 23 [.int .i64 0, .int .i64 0, .int .i64 0, .int .i64 0] := Blk.grew (by (repeat' (first | (with_reducible assumption) | ((with_reducible refine Blk.new ?_); (first | (with_reducible rfl) | (simp only [World.size_alloc, World.size_setCell, size_drewN]; done))) | (with_reducible refine Blk.alloc ?_ _) | (with_reducible refine Blk.drewN ?_ _) | (with_reducible refine Blk.drew ?_) | (refine Blk.other ?_ (by omega) _) | fail))) G1
  have z1 := G1.size
  try simp only [World.size_alloc, World.size_setCell, size_drewN] at z1
  replace G1 := hide G1
  have t1_0 := B1_0.lt
  have d1_0_0 := B1_0.cell 0 rfl
  have e1_0_0 := B1_0.free 0
  have d1_0_1 := B1_0.cell 1 rfl
  have e1_0_1 := B1_0.free 1
  have d1_0_2 := B1_0.cell 2 rfl
  have e1_0_2 := B1_0.free 2
  have d1_0_3 := B1_0.cell 3 rfl
  have e1_0_3 := B1_0.free 3
  have t1_1 := B1_1.lt
  have d1_1_0 := B1_1.cell 0 rfl
  have e1_1_0 := B1_1.free 0
  have d1_1_1 := B1_1.cell 1 rfl
  have e1_1_1 := B1_1.free 1
  have d1_1_2 := B1_1.cell 2 rfl
  have e1_1_2 := B1_1.free 2
  have d1_1_3 := B1_1.cell 3 rfl
  have e1_1_3 := B1_1.free 3
  have t1_2 := B1_2.lt
  have d1_2_0 := B1_2.cell 0 rfl
  have e1_2_0 := B1_2.free 0
  have d1_2_1 := B1_2.cell 1 rfl
  have e1_2_1 := B1_2.free 1
  have d1_2_2 := B1_2.cell 2 rfl
  have e1_2_2 := B1_2.free 2
  have d1_2_3 := B1_2.cell 3 rfl
  have e1_2_3 := B1_2.free 3
  go_upto_region 2 with fail
  refine name_world fun w2 h2 => ?_
  have G2 : Grew w w2 := by
    rw [h2]
    repeat' (first | (with_reducible exact Grew.refl _) | (with_reducible refine Grew.setCell ?_ ?_ _) | (with_reducible refine Grew.drewN ?_ _) | (with_reducible refine Grew.alloc ?_ _) | (with_reducible refine Grew.trans ?_ G2.out) | (with_reducible refine Grew.trans ?_ G1.out) | (dsimp only; omega))
  have B2_0 : Blk w2 (w.heap.size) 23 [.int .i64 p, .int .i64 q, .int .i64 r, .int .i64 s] := by (rw [h2]; (repeat' (first | (refine Blk.other ?_ (by omega) _) | fail)); refine Blk.set_as (vs := [.int .i64 p, .int .i64 q, .int .i64 r, .int .i64 h]) ?_ 3 (.int .i64 s) (by rfl); refine Blk.set_as (vs := [.int .i64 p, .int .i64 q, .int .i64 z, .int .i64 h]) ?_ 2 (.int .i64 r) (by rfl); refine Blk.set_as (vs := [.int .i64 p, .int .i64 y, .int .i64 z, .int .i64 h]) ?_ 1 (.int .i64 q) (by rfl); refine Blk.set_as (vs := [.int .i64 x, .int .i64 y, .int .i64 z, .int .i64 h]) ?_ 0 (.int .i64 p) (by rfl); repeat' (first | (with_reducible assumption) | ((with_reducible refine Blk.new ?_); (first | (with_reducible rfl) | (simp only [World.size_alloc, World.size_setCell, size_drewN]; done))) | (with_reducible refine Blk.alloc ?_ _) | (with_reducible refine Blk.drewN ?_ _) | (with_reducible refine Blk.drew ?_) | (refine Blk.other ?_ (by omega) _) | fail))
  have B2_1 : Blk w2 (w.heap.size + 1) 34 [.int .i64 il, .int .i64 it, .int .i64 ir, .int .i64 ib] := by (rw [h2]; repeat' (first | (with_reducible assumption) | ((with_reducible refine Blk.new ?_); (first | (with_reducible rfl) | (simp only [World.size_alloc, World.size_setCell, size_drewN]; done))) | (with_reducible refine Blk.alloc ?_ _) | (with_reducible refine Blk.drewN ?_ _) | (with_reducible refine Blk.drew ?_) | (refine Blk.other ?_ (by omega) _) | fail))
  have B2_2 : Blk w2 (w.heap.size + 1 + 1) 23 [.int .i64 0, .int .i64 0, .int .i64 0, .int .i64 0] := by (rw [h2]; repeat' (first | (with_reducible assumption) | ((with_reducible refine Blk.new ?_); (first | (with_reducible rfl) | (simp only [World.size_alloc, World.size_setCell, size_drewN]; done))) | (with_reducible refine Blk.alloc ?_ _) | (with_reducible refine Blk.drewN ?_ _) | (with_reducible refine Blk.drew ?_) | (refine Blk.other ?_ (by omega) _) | fail))
  have z2 := G2.size
  replace G2 := hide G2
  clear h2
  have t2_0 := B2_0.lt
  have d2_0_0 := B2_0.cell 0 rfl
  have e2_0_0 := B2_0.free 0
  have d2_0_1 := B2_0.cell 1 rfl
  have e2_0_1 := B2_0.free 1
  have d2_0_2 := B2_0.cell 2 rfl
  have e2_0_2 := B2_0.free 2
  have d2_0_3 := B2_0.cell 3 rfl
  have e2_0_3 := B2_0.free 3
  have t2_1 := B2_1.lt
  have d2_1_0 := B2_1.cell 0 rfl
  have e2_1_0 := B2_1.free 0
  have d2_1_1 := B2_1.cell 1 rfl
  have e2_1_1 := B2_1.free 1
  have d2_1_2 := B2_1.cell 2 rfl
  have e2_1_2 := B2_1.free 2
  have d2_1_3 := B2_1.cell 3 rfl
  have e2_1_3 := B2_1.free 3
  have t2_2 := B2_2.lt
  have d2_2_0 := B2_2.cell 0 rfl
  have e2_2_0 := B2_2.free 0
  have d2_2_1 := B2_2.cell 1 rfl
  have e2_2_1 := B2_2.free 1
  have d2_2_2 := B2_2.cell 2 rfl
  have e2_2_2 := B2_2.free 2
  have d2_2_3 := B2_2.cell 3 rfl
  have e2_2_3 := B2_2.free 3
  go_wp2
  refine bodyPost_ret (v := R.zero.v) (by simp [results, Try.results22, go_sem, R.zero, d2_0_0, d2_0_1, d2_0_2, d2_0_3, d2_1_0, d2_1_1, d2_1_2, d2_1_3, d2_2_0, d2_2_1, d2_2_2, d2_2_3, t2_0, t2_1, t2_2]) rfl ⟨rfl, ?_⟩
  repeat' (first | (with_reducible exact Grew.refl _) | (with_reducible refine Grew.setCell ?_ ?_ _) | (with_reducible refine Grew.drewN ?_ _) | (with_reducible refine Grew.alloc ?_ _) | (with_reducible refine Grew.trans ?_ G2.out) | (with_reducible refine Grew.trans ?_ G1.out) | (dsimp only; omega))

set_option maxHeartbeats 4000000 in
theorem rShrink_g2 (x y z h p q r s il it ir ib : Int) (w : World) (VA : ∀ W, Hid (Calls Try.prog 38 #[.agg #[.int .i64 x, .int .i64 y, .int .i64 z, .int .i64 h]] W fun e w' => e = .returned (.agg #[.int .i64 p, .int .i64 q, .int .i64 r, .int .i64 s]) ∧ Grew W w')) (k0 : ¬ il < 0) (k1 : ¬ 1048576 < il) (k2 : ¬ it < 0) (k3 : ¬ 1048576 < it) (k4 : ¬ ir < 0) (k5 : ¬ 1048576 < ir) (k6 : ¬ ib < 0) (k7 : ¬ 1048576 < ib) (b1 : -1048576 ≤ p) (b2 : p ≤ 1048576) (b3 : -1048576 ≤ q) (b4 : q ≤ 1048576) (b5 : 0 ≤ r) (b6 : r ≤ 1048576) (b7 : 0 ≤ s) (b8 : s ≤ 1048576) (c1 : ¬ r - il - ir ≤ 0) (c2 : s - it - ib ≤ 0) :
    Calls Try.prog 22 #[.agg #[.int .i64 x, .int .i64 y, .int .i64 z, .int .i64 h], .agg #[.int .i64 il, .int .i64 it, .int .i64 ir, .int .i64 ib]] w fun e w' => e = .returned (.agg #[.int .i64 0, .int .i64 0, .int .i64 0, .int .i64 0]) ∧ Grew w w' := by
  go_enter Try.func22, Try.ntmps22
  go_wp2_with fail
  refine ((VA _).out).mono ?_
  rintro e w1 ⟨rfl, G1⟩
  try (with_reducible replace G1 := Grew.undrawn G1)
  have B1_0 : Blk w1 (w.heap.size) 23 [.int .i64 x, .int .i64 y, .int .i64 z, .int .i64 h] := Blk.grew (by (repeat' (first | (with_reducible assumption) | ((with_reducible refine Blk.new ?_); (first | (with_reducible rfl) | (simp only [World.size_alloc, World.size_setCell, size_drewN]; done))) | (with_reducible refine Blk.alloc ?_ _) | (with_reducible refine Blk.drewN ?_ _) | (with_reducible refine Blk.drew ?_) | (refine Blk.other ?_ (by omega) _) | fail))) G1
  have B1_1 : Blk w1 (w.heap.size + 1) 34 [.int .i64 il, .int .i64 it, .int .i64 ir, .int .i64 ib] := Blk.grew (by (repeat' (first | (with_reducible assumption) | ((with_reducible refine Blk.new ?_); (first | (with_reducible rfl) | (simp only [World.size_alloc, World.size_setCell, size_drewN]; done))) | (with_reducible refine Blk.alloc ?_ _) | (with_reducible refine Blk.drewN ?_ _) | (with_reducible refine Blk.drew ?_) | (refine Blk.other ?_ (by omega) _) | fail))) G1
  have B1_2 : Blk w1 (w.heap.size + 1 + 1) 23 [.int .i64 0, .int .i64 0, .int .i64 0, .int .i64 0] := Blk.grew (by (repeat' (first | (with_reducible assumption) | ((with_reducible refine Blk.new ?_); (first | (with_reducible rfl) | (simp only [World.size_alloc, World.size_setCell, size_drewN]; done))) | (with_reducible refine Blk.alloc ?_ _) | (with_reducible refine Blk.drewN ?_ _) | (with_reducible refine Blk.drew ?_) | (refine Blk.other ?_ (by omega) _) | fail))) G1
  have z1 := G1.size
  try simp only [World.size_alloc, World.size_setCell, size_drewN] at z1
  replace G1 := hide G1
  have t1_0 := B1_0.lt
  have d1_0_0 := B1_0.cell 0 rfl
  have e1_0_0 := B1_0.free 0
  have d1_0_1 := B1_0.cell 1 rfl
  have e1_0_1 := B1_0.free 1
  have d1_0_2 := B1_0.cell 2 rfl
  have e1_0_2 := B1_0.free 2
  have d1_0_3 := B1_0.cell 3 rfl
  have e1_0_3 := B1_0.free 3
  have t1_1 := B1_1.lt
  have d1_1_0 := B1_1.cell 0 rfl
  have e1_1_0 := B1_1.free 0
  have d1_1_1 := B1_1.cell 1 rfl
  have e1_1_1 := B1_1.free 1
  have d1_1_2 := B1_1.cell 2 rfl
  have e1_1_2 := B1_1.free 2
  have d1_1_3 := B1_1.cell 3 rfl
  have e1_1_3 := B1_1.free 3
  have t1_2 := B1_2.lt
  have d1_2_0 := B1_2.cell 0 rfl
  have e1_2_0 := B1_2.free 0
  have d1_2_1 := B1_2.cell 1 rfl
  have e1_2_1 := B1_2.free 1
  have d1_2_2 := B1_2.cell 2 rfl
  have e1_2_2 := B1_2.free 2
  have d1_2_3 := B1_2.cell 3 rfl
  have e1_2_3 := B1_2.free 3
  go_upto_region 2 with fail
  refine name_world fun w2 h2 => ?_
  have G2 : Grew w w2 := by
    rw [h2]
    repeat' (first | (with_reducible exact Grew.refl _) | (with_reducible refine Grew.setCell ?_ ?_ _) | (with_reducible refine Grew.drewN ?_ _) | (with_reducible refine Grew.alloc ?_ _) | (with_reducible refine Grew.trans ?_ G2.out) | (with_reducible refine Grew.trans ?_ G1.out) | (dsimp only; omega))
  have B2_0 : Blk w2 (w.heap.size) 23 [.int .i64 p, .int .i64 q, .int .i64 r, .int .i64 s] := by (rw [h2]; (repeat' (first | (refine Blk.other ?_ (by omega) _) | fail)); refine Blk.set_as (vs := [.int .i64 p, .int .i64 q, .int .i64 r, .int .i64 h]) ?_ 3 (.int .i64 s) (by rfl); refine Blk.set_as (vs := [.int .i64 p, .int .i64 q, .int .i64 z, .int .i64 h]) ?_ 2 (.int .i64 r) (by rfl); refine Blk.set_as (vs := [.int .i64 p, .int .i64 y, .int .i64 z, .int .i64 h]) ?_ 1 (.int .i64 q) (by rfl); refine Blk.set_as (vs := [.int .i64 x, .int .i64 y, .int .i64 z, .int .i64 h]) ?_ 0 (.int .i64 p) (by rfl); repeat' (first | (with_reducible assumption) | ((with_reducible refine Blk.new ?_); (first | (with_reducible rfl) | (simp only [World.size_alloc, World.size_setCell, size_drewN]; done))) | (with_reducible refine Blk.alloc ?_ _) | (with_reducible refine Blk.drewN ?_ _) | (with_reducible refine Blk.drew ?_) | (refine Blk.other ?_ (by omega) _) | fail))
  have B2_1 : Blk w2 (w.heap.size + 1) 34 [.int .i64 il, .int .i64 it, .int .i64 ir, .int .i64 ib] := by (rw [h2]; repeat' (first | (with_reducible assumption) | ((with_reducible refine Blk.new ?_); (first | (with_reducible rfl) | (simp only [World.size_alloc, World.size_setCell, size_drewN]; done))) | (with_reducible refine Blk.alloc ?_ _) | (with_reducible refine Blk.drewN ?_ _) | (with_reducible refine Blk.drew ?_) | (refine Blk.other ?_ (by omega) _) | fail))
  have B2_2 : Blk w2 (w.heap.size + 1 + 1) 23 [.int .i64 0, .int .i64 0, .int .i64 0, .int .i64 0] := by (rw [h2]; repeat' (first | (with_reducible assumption) | ((with_reducible refine Blk.new ?_); (first | (with_reducible rfl) | (simp only [World.size_alloc, World.size_setCell, size_drewN]; done))) | (with_reducible refine Blk.alloc ?_ _) | (with_reducible refine Blk.drewN ?_ _) | (with_reducible refine Blk.drew ?_) | (refine Blk.other ?_ (by omega) _) | fail))
  have z2 := G2.size
  replace G2 := hide G2
  clear h2
  have t2_0 := B2_0.lt
  have d2_0_0 := B2_0.cell 0 rfl
  have e2_0_0 := B2_0.free 0
  have d2_0_1 := B2_0.cell 1 rfl
  have e2_0_1 := B2_0.free 1
  have d2_0_2 := B2_0.cell 2 rfl
  have e2_0_2 := B2_0.free 2
  have d2_0_3 := B2_0.cell 3 rfl
  have e2_0_3 := B2_0.free 3
  have t2_1 := B2_1.lt
  have d2_1_0 := B2_1.cell 0 rfl
  have e2_1_0 := B2_1.free 0
  have d2_1_1 := B2_1.cell 1 rfl
  have e2_1_1 := B2_1.free 1
  have d2_1_2 := B2_1.cell 2 rfl
  have e2_1_2 := B2_1.free 2
  have d2_1_3 := B2_1.cell 3 rfl
  have e2_1_3 := B2_1.free 3
  have t2_2 := B2_2.lt
  have d2_2_0 := B2_2.cell 0 rfl
  have e2_2_0 := B2_2.free 0
  have d2_2_1 := B2_2.cell 1 rfl
  have e2_2_1 := B2_2.free 1
  have d2_2_2 := B2_2.cell 2 rfl
  have e2_2_2 := B2_2.free 2
  have d2_2_3 := B2_2.cell 3 rfl
  have e2_2_3 := B2_2.free 3
  go_wp2
  refine bodyPost_ret (v := R.zero.v) (by simp [results, Try.results22, go_sem, R.zero, d2_0_0, d2_0_1, d2_0_2, d2_0_3, d2_1_0, d2_1_1, d2_1_2, d2_1_3, d2_2_0, d2_2_1, d2_2_2, d2_2_3, t2_0, t2_1, t2_2]) rfl ⟨rfl, ?_⟩
  repeat' (first | (with_reducible exact Grew.refl _) | (with_reducible refine Grew.setCell ?_ ?_ _) | (with_reducible refine Grew.drewN ?_ _) | (with_reducible refine Grew.alloc ?_ _) | (with_reducible refine Grew.trans ?_ G2.out) | (with_reducible refine Grew.trans ?_ G1.out) | (dsimp only; omega))

set_option maxHeartbeats 4000000 in
theorem rShrink_g3 (x y z h p q r s il it ir ib : Int) (w : World) (VA : ∀ W, Hid (Calls Try.prog 38 #[.agg #[.int .i64 x, .int .i64 y, .int .i64 z, .int .i64 h]] W fun e w' => e = .returned (.agg #[.int .i64 p, .int .i64 q, .int .i64 r, .int .i64 s]) ∧ Grew W w')) (k0 : ¬ il < 0) (k1 : ¬ 1048576 < il) (k2 : ¬ it < 0) (k3 : ¬ 1048576 < it) (k4 : ¬ ir < 0) (k5 : ¬ 1048576 < ir) (k6 : ¬ ib < 0) (k7 : ¬ 1048576 < ib) (b1 : -1048576 ≤ p) (b2 : p ≤ 1048576) (b3 : -1048576 ≤ q) (b4 : q ≤ 1048576) (b5 : 0 ≤ r) (b6 : r ≤ 1048576) (b7 : 0 ≤ s) (b8 : s ≤ 1048576) (c1 : ¬ r - il - ir ≤ 0) (c2 : ¬ s - it - ib ≤ 0) :
    Calls Try.prog 22 #[.agg #[.int .i64 x, .int .i64 y, .int .i64 z, .int .i64 h], .agg #[.int .i64 il, .int .i64 it, .int .i64 ir, .int .i64 ib]] w fun e w' => e = .returned (.agg #[.int .i64 (p + il), .int .i64 (q + it), .int .i64 (r - il - ir), .int .i64 (s - it - ib)]) ∧ Grew w w' := by
  go_enter Try.func22, Try.ntmps22
  go_wp2_with fail
  refine ((VA _).out).mono ?_
  rintro e w1 ⟨rfl, G1⟩
  try (with_reducible replace G1 := Grew.undrawn G1)
  have B1_0 : Blk w1 (w.heap.size) 23 [.int .i64 x, .int .i64 y, .int .i64 z, .int .i64 h] := Blk.grew (by (repeat' (first | (with_reducible assumption) | ((with_reducible refine Blk.new ?_); (first | (with_reducible rfl) | (simp only [World.size_alloc, World.size_setCell, size_drewN]; done))) | (with_reducible refine Blk.alloc ?_ _) | (with_reducible refine Blk.drewN ?_ _) | (with_reducible refine Blk.drew ?_) | (refine Blk.other ?_ (by omega) _) | fail))) G1
  have B1_1 : Blk w1 (w.heap.size + 1) 34 [.int .i64 il, .int .i64 it, .int .i64 ir, .int .i64 ib] := Blk.grew (by (repeat' (first | (with_reducible assumption) | ((with_reducible refine Blk.new ?_); (first | (with_reducible rfl) | (simp only [World.size_alloc, World.size_setCell, size_drewN]; done))) | (with_reducible refine Blk.alloc ?_ _) | (with_reducible refine Blk.drewN ?_ _) | (with_reducible refine Blk.drew ?_) | (refine Blk.other ?_ (by omega) _) | fail))) G1
  have B1_2 : Blk w1 (w.heap.size + 1 + 1) 23 [.int .i64 0, .int .i64 0, .int .i64 0, .int .i64 0] := Blk.grew (by (repeat' (first | (with_reducible assumption) | ((with_reducible refine Blk.new ?_); (first | (with_reducible rfl) | (simp only [World.size_alloc, World.size_setCell, size_drewN]; done))) | (with_reducible refine Blk.alloc ?_ _) | (with_reducible refine Blk.drewN ?_ _) | (with_reducible refine Blk.drew ?_) | (refine Blk.other ?_ (by omega) _) | fail))) G1
  have z1 := G1.size
  try simp only [World.size_alloc, World.size_setCell, size_drewN] at z1
  replace G1 := hide G1
  have t1_0 := B1_0.lt
  have d1_0_0 := B1_0.cell 0 rfl
  have e1_0_0 := B1_0.free 0
  have d1_0_1 := B1_0.cell 1 rfl
  have e1_0_1 := B1_0.free 1
  have d1_0_2 := B1_0.cell 2 rfl
  have e1_0_2 := B1_0.free 2
  have d1_0_3 := B1_0.cell 3 rfl
  have e1_0_3 := B1_0.free 3
  have t1_1 := B1_1.lt
  have d1_1_0 := B1_1.cell 0 rfl
  have e1_1_0 := B1_1.free 0
  have d1_1_1 := B1_1.cell 1 rfl
  have e1_1_1 := B1_1.free 1
  have d1_1_2 := B1_1.cell 2 rfl
  have e1_1_2 := B1_1.free 2
  have d1_1_3 := B1_1.cell 3 rfl
  have e1_1_3 := B1_1.free 3
  have t1_2 := B1_2.lt
  have d1_2_0 := B1_2.cell 0 rfl
  have e1_2_0 := B1_2.free 0
  have d1_2_1 := B1_2.cell 1 rfl
  have e1_2_1 := B1_2.free 1
  have d1_2_2 := B1_2.cell 2 rfl
  have e1_2_2 := B1_2.free 2
  have d1_2_3 := B1_2.cell 3 rfl
  have e1_2_3 := B1_2.free 3
  go_upto_region 2 with fail
  refine name_world fun w2 h2 => ?_
  have G2 : Grew w w2 := by
    rw [h2]
    repeat' (first | (with_reducible exact Grew.refl _) | (with_reducible refine Grew.setCell ?_ ?_ _) | (with_reducible refine Grew.drewN ?_ _) | (with_reducible refine Grew.alloc ?_ _) | (with_reducible refine Grew.trans ?_ G2.out) | (with_reducible refine Grew.trans ?_ G1.out) | (dsimp only; omega))
  have B2_0 : Blk w2 (w.heap.size) 23 [.int .i64 p, .int .i64 q, .int .i64 r, .int .i64 s] := by (rw [h2]; (repeat' (first | (refine Blk.other ?_ (by omega) _) | fail)); refine Blk.set_as (vs := [.int .i64 p, .int .i64 q, .int .i64 r, .int .i64 h]) ?_ 3 (.int .i64 s) (by rfl); refine Blk.set_as (vs := [.int .i64 p, .int .i64 q, .int .i64 z, .int .i64 h]) ?_ 2 (.int .i64 r) (by rfl); refine Blk.set_as (vs := [.int .i64 p, .int .i64 y, .int .i64 z, .int .i64 h]) ?_ 1 (.int .i64 q) (by rfl); refine Blk.set_as (vs := [.int .i64 x, .int .i64 y, .int .i64 z, .int .i64 h]) ?_ 0 (.int .i64 p) (by rfl); repeat' (first | (with_reducible assumption) | ((with_reducible refine Blk.new ?_); (first | (with_reducible rfl) | (simp only [World.size_alloc, World.size_setCell, size_drewN]; done))) | (with_reducible refine Blk.alloc ?_ _) | (with_reducible refine Blk.drewN ?_ _) | (with_reducible refine Blk.drew ?_) | (refine Blk.other ?_ (by omega) _) | fail))
  have B2_1 : Blk w2 (w.heap.size + 1) 34 [.int .i64 il, .int .i64 it, .int .i64 ir, .int .i64 ib] := by (rw [h2]; repeat' (first | (with_reducible assumption) | ((with_reducible refine Blk.new ?_); (first | (with_reducible rfl) | (simp only [World.size_alloc, World.size_setCell, size_drewN]; done))) | (with_reducible refine Blk.alloc ?_ _) | (with_reducible refine Blk.drewN ?_ _) | (with_reducible refine Blk.drew ?_) | (refine Blk.other ?_ (by omega) _) | fail))
  have B2_2 : Blk w2 (w.heap.size + 1 + 1) 23 [.int .i64 0, .int .i64 0, .int .i64 0, .int .i64 0] := by (rw [h2]; repeat' (first | (with_reducible assumption) | ((with_reducible refine Blk.new ?_); (first | (with_reducible rfl) | (simp only [World.size_alloc, World.size_setCell, size_drewN]; done))) | (with_reducible refine Blk.alloc ?_ _) | (with_reducible refine Blk.drewN ?_ _) | (with_reducible refine Blk.drew ?_) | (refine Blk.other ?_ (by omega) _) | fail))
  have z2 := G2.size
  replace G2 := hide G2
  clear h2
  have t2_0 := B2_0.lt
  have d2_0_0 := B2_0.cell 0 rfl
  have e2_0_0 := B2_0.free 0
  have d2_0_1 := B2_0.cell 1 rfl
  have e2_0_1 := B2_0.free 1
  have d2_0_2 := B2_0.cell 2 rfl
  have e2_0_2 := B2_0.free 2
  have d2_0_3 := B2_0.cell 3 rfl
  have e2_0_3 := B2_0.free 3
  have t2_1 := B2_1.lt
  have d2_1_0 := B2_1.cell 0 rfl
  have e2_1_0 := B2_1.free 0
  have d2_1_1 := B2_1.cell 1 rfl
  have e2_1_1 := B2_1.free 1
  have d2_1_2 := B2_1.cell 2 rfl
  have e2_1_2 := B2_1.free 2
  have d2_1_3 := B2_1.cell 3 rfl
  have e2_1_3 := B2_1.free 3
  have t2_2 := B2_2.lt
  have d2_2_0 := B2_2.cell 0 rfl
  have e2_2_0 := B2_2.free 0
  have d2_2_1 := B2_2.cell 1 rfl
  have e2_2_1 := B2_2.free 1
  have d2_2_2 := B2_2.cell 2 rfl
  have e2_2_2 := B2_2.free 2
  have d2_2_3 := B2_2.cell 3 rfl
  have e2_2_3 := B2_2.free 3
  go_wp2
  refine bodyPost_ret (v := R.v ⟨p + il, q + it, r - il - ir, s - it - ib⟩) (by simp [results, Try.results22, go_sem, R.zero, d2_0_0, d2_0_1, d2_0_2, d2_0_3, d2_1_0, d2_1_1, d2_1_2, d2_1_3, d2_2_0, d2_2_1, d2_2_2, d2_2_3, t2_0, t2_1, t2_2]) rfl ⟨rfl, ?_⟩
  repeat' (first | (with_reducible exact Grew.refl _) | (with_reducible refine Grew.setCell ?_ ?_ _) | (with_reducible refine Grew.drewN ?_ _) | (with_reducible refine Grew.alloc ?_ _) | (with_reducible refine Grew.trans ?_ G2.out) | (with_reducible refine Grew.trans ?_ G1.out) | (dsimp only; omega))

theorem rShrink_any (a : R) (il it ir ib : Int) (w : World) :
    Calls Try.prog 22 #[a.v, .agg #[.int .i64 il, .int .i64 it, .int .i64 ir, .int .i64 ib]] w fun e w' => e = .returned (shrinkR a il it ir ib).v ∧ Grew w w' := by
  have VA := fun W => hide (valid_any a W)
  have ok1 := kept_ok a
  have HE := hide (shrink_kept a il it ir ib)
  generalize a.kept = a' at ok1 HE VA
  obtain ⟨⟨b1, b2⟩, ⟨b3, b4⟩, ⟨b5, b6⟩, b7, b8⟩ := R.bounds ok1
  clear ok1
  obtain ⟨x, y, z, h⟩ := a
  obtain ⟨p, q, r, s⟩ := a'
  simp only at b1 b2 b3 b4 b5 b6 b7 b8
  rcases ways8 il it ir ib with hc | hc | hc | hc | hc | hc | hc | hc | hc
  · have H : shrinkR ⟨x, y, z, h⟩ il it ir ib = R.zero := by
      have : lenB il = false := by cases e : lenB il with
        | false => rfl
        | true => have := inB_iff.1 e; omega
      rw [HE.out, this]; simp
    have k0 := hc
    rw [H]; exact rShrink_b0 x y z h p q r s il it ir ib w VA k0
  · have H : shrinkR ⟨x, y, z, h⟩ il it ir ib = R.zero := by
      have : lenB il = false := by cases e : lenB il with
        | false => rfl
        | true => have := inB_iff.1 e; omega
      rw [HE.out, this]; simp
    obtain ⟨k0, k1⟩ := hc
    rw [H]; exact rShrink_b1 x y z h p q r s il it ir ib w VA k0 k1
  · have H : shrinkR ⟨x, y, z, h⟩ il it ir ib = R.zero := by
      have : lenB it = false := by cases e : lenB it with
        | false => rfl
        | true => have := inB_iff.1 e; omega
      rw [HE.out, this]; simp
    obtain ⟨k0, k1, k2⟩ := hc
    rw [H]; exact rShrink_b2 x y z h p q r s il it ir ib w VA k0 k1 k2
  · have H : shrinkR ⟨x, y, z, h⟩ il it ir ib = R.zero := by
      have : lenB it = false := by cases e : lenB it with
        | false => rfl
        | true => have := inB_iff.1 e; omega
      rw [HE.out, this]; simp
    obtain ⟨k0, k1, k2, k3⟩ := hc
    rw [H]; exact rShrink_b3 x y z h p q r s il it ir ib w VA k0 k1 k2 k3
  · have H : shrinkR ⟨x, y, z, h⟩ il it ir ib = R.zero := by
      have : lenB ir = false := by cases e : lenB ir with
        | false => rfl
        | true => have := inB_iff.1 e; omega
      rw [HE.out, this]; simp
    obtain ⟨k0, k1, k2, k3, k4⟩ := hc
    rw [H]; exact rShrink_b4 x y z h p q r s il it ir ib w VA k0 k1 k2 k3 k4
  · have H : shrinkR ⟨x, y, z, h⟩ il it ir ib = R.zero := by
      have : lenB ir = false := by cases e : lenB ir with
        | false => rfl
        | true => have := inB_iff.1 e; omega
      rw [HE.out, this]; simp
    obtain ⟨k0, k1, k2, k3, k4, k5⟩ := hc
    rw [H]; exact rShrink_b5 x y z h p q r s il it ir ib w VA k0 k1 k2 k3 k4 k5
  · have H : shrinkR ⟨x, y, z, h⟩ il it ir ib = R.zero := by
      have : lenB ib = false := by cases e : lenB ib with
        | false => rfl
        | true => have := inB_iff.1 e; omega
      rw [HE.out, this]; simp
    obtain ⟨k0, k1, k2, k3, k4, k5, k6⟩ := hc
    rw [H]; exact rShrink_b6 x y z h p q r s il it ir ib w VA k0 k1 k2 k3 k4 k5 k6
  · have H : shrinkR ⟨x, y, z, h⟩ il it ir ib = R.zero := by
      have : lenB ib = false := by cases e : lenB ib with
        | false => rfl
        | true => have := inB_iff.1 e; omega
      rw [HE.out, this]; simp
    obtain ⟨k0, k1, k2, k3, k4, k5, k6, k7⟩ := hc
    rw [H]; exact rShrink_b7 x y z h p q r s il it ir ib w VA k0 k1 k2 k3 k4 k5 k6 k7
  · obtain ⟨k0, k1, k2, k3, k4, k5, k6, k7⟩ := hc
    have H0 : shrinkR ⟨x, y, z, h⟩ il it ir ib = if r - il - ir ≤ 0 ∨ s - it - ib ≤ 0 then R.zero else ⟨p + il, q + it, r - il - ir, s - it - ib⟩ := by
      rw [HE.out, if_pos (by simp only [Bool.and_eq_true]; exact ⟨⟨⟨inB_iff.2 (by omega), inB_iff.2 (by omega)⟩, inB_iff.2 (by omega)⟩, inB_iff.2 (by omega)⟩)]
    by_cases c1 : r - il - ir ≤ 0
    · rw [H0, if_pos (.inl c1)]; exact rShrink_g1 x y z h p q r s il it ir ib w VA k0 k1 k2 k3 k4 k5 k6 k7 b1 b2 b3 b4 b5 b6 b7 b8 c1
    · by_cases c2 : s - it - ib ≤ 0
      · rw [H0, if_pos (.inr c2)]; exact rShrink_g2 x y z h p q r s il it ir ib w VA k0 k1 k2 k3 k4 k5 k6 k7 b1 b2 b3 b4 b5 b6 b7 b8 c1 c2
      · rw [H0, if_neg (by omega)]; exact rShrink_g3 x y z h p q r s il it ir ib w VA k0 k1 k2 k3 k4 k5 k6 k7 b1 b2 b3 b4 b5 b6 b7 b8 c1 c2

end Go.Proofs.Ythldilikkogaoaa
