/- What Intersect and Union of package geometry return; no condition. -/
import Derived.Test.YthldilikkogaoaaGeRects
namespace Go.Proofs.Ythldilikkogaoaa
open Go.RowKit Go.Sort
set_option linter.unusedSimpArgs false

def isectR (a b : R) : R := if a.empty || b.empty then R.zero else fillR (max a.x b.x) (max a.y b.y) (min (a.x + a.w) (b.x + b.w)) (min (a.y + a.h) (b.y + b.h))
def unionR (a b : R) : R := if a.empty && b.empty then R.zero else if a.empty then b else if b.empty then a else fillR (min a.x b.x) (min a.y b.y) (max (a.x + a.w) (b.x + b.w)) (max (a.y + a.h) (b.y + b.h))
theorem max_if (a b : Int) : (if a < b then b else a) = max a b := by split <;> omega
theorem min_if (a b : Int) : (if b < a then b else a) = min a b := by split <;> omega

set_option maxHeartbeats 4000000 in
theorem Intersect_any (a b : R) (w : World) :
    Calls Try.prog 16 #[a.v, b.v] w fun e w' => e = .returned (isectR a b).v ∧ Grew w w' := by
  obtain ⟨x, y, z, h⟩ := a
  obtain ⟨x', y', z', h'⟩ := b
  have E1 := fun W => hide (Empty_any ⟨x, y, z, h⟩ W)
  have E2 := fun W => hide (Empty_any ⟨x', y', z', h'⟩ W)
  by_cases c1 : (R.mk x y z h).empty = true
  · have H : Hid (isectR ⟨x, y, z, h⟩ ⟨x', y', z', h'⟩ = R.zero) := by simp [Hid, isectR, c1]
    go_enter Try.func16, Try.ntmps16
    go_wp2_with fail
    refine ((E1 _).out).mono ?_
    rintro e w1 ⟨rfl, G1⟩
    try (with_reducible replace G1 := Grew.undrawn G1)
    obtain ⟨c1, f1⟩ := G1.cells
    have z1 := G1.size
    try simp only [World.size_alloc, World.size_setCell, size_drewN] at z1
    replace G1 := hide G1
    have l1_w_0 : w.heap.size < w1.heap.size := by omega
    have l1_w_1 : w.heap.size + 1 < w1.heap.size := by omega
    have l1_w_2 : w.heap.size + 1 + 1 < w1.heap.size := by omega
    go_wp2
    rw [H.out]
    refine bodyPost_ret (v := R.zero.v) (by simp [results, Try.results16, go_sem, R.zero, c1, l1_w_0, l1_w_1, l1_w_2]) rfl ⟨rfl, ?_⟩
    repeat' (first | (with_reducible exact Grew.refl _) | (with_reducible refine Grew.setCell ?_ ?_ _) | (with_reducible refine Grew.drewN ?_ _) | (with_reducible refine Grew.alloc ?_ _) | (with_reducible refine Grew.trans ?_ G1.out) | (dsimp only; omega))
  · have c1 : (R.mk x y z h).empty = false := by simpa using c1
    by_cases c2 : (R.mk x' y' z' h').empty = true
    · have H : Hid (isectR ⟨x, y, z, h⟩ ⟨x', y', z', h'⟩ = R.zero) := by simp [Hid, isectR, c2]
      go_enter Try.func16, Try.ntmps16
      go_wp2_with fail
      refine ((E1 _).out).mono ?_
      rintro e w1 ⟨rfl, G1⟩
      try (with_reducible replace G1 := Grew.undrawn G1)
      obtain ⟨c1, f1⟩ := G1.cells
      have z1 := G1.size
      try simp only [World.size_alloc, World.size_setCell, size_drewN] at z1
      replace G1 := hide G1
      have l1_w_0 : w.heap.size < w1.heap.size := by omega
      have l1_w_1 : w.heap.size + 1 < w1.heap.size := by omega
      have l1_w_2 : w.heap.size + 1 + 1 < w1.heap.size := by omega
      go_wp2_with fail
      refine ((E2 _).out).mono ?_
      rintro e w2 ⟨rfl, G2⟩
      try (with_reducible replace G2 := Grew.undrawn G2)
      obtain ⟨c2, f2⟩ := G2.cells
      have z2 := G2.size
      try simp only [World.size_alloc, World.size_setCell, size_drewN] at z2
      replace G2 := hide G2
      have l2_w_0 : w.heap.size < w2.heap.size := by omega
      have l2_w_1 : w.heap.size + 1 < w2.heap.size := by omega
      have l2_w_2 : w.heap.size + 1 + 1 < w2.heap.size := by omega
      go_wp2
      rw [H.out]
      refine bodyPost_ret (v := R.zero.v) (by simp [results, Try.results16, go_sem, R.zero, c1, c2, l1_w_0, l1_w_1, l1_w_2, l2_w_0, l2_w_1, l2_w_2]) rfl ⟨rfl, ?_⟩
      repeat' (first | (with_reducible exact Grew.refl _) | (with_reducible refine Grew.setCell ?_ ?_ _) | (with_reducible refine Grew.drewN ?_ _) | (with_reducible refine Grew.alloc ?_ _) | (with_reducible refine Grew.trans ?_ G2.out) | (with_reducible refine Grew.trans ?_ G1.out) | (dsimp only; omega))
    · have c2 : (R.mk x' y' z' h').empty = false := by simpa using c2
      obtain ⟨⟨b1, b2⟩, ⟨b3, b4⟩, ⟨b5, b6⟩, b7, b8⟩ := R.bounds (R.full c1).1
      obtain ⟨⟨d1, d2⟩, ⟨d3, d4⟩, ⟨d5, d6⟩, d7, d8⟩ := R.bounds (R.full c2).1
      simp only at b1 b2 b3 b4 b5 b6 b7 b8 d1 d2 d3 d4 d5 d6 d7 d8
      have H : Hid (isectR ⟨x, y, z, h⟩ ⟨x', y', z', h'⟩ = fillR (max x x') (max y y') (min (x + z) (x' + z')) (min (y + h) (y' + h'))) := by simp [Hid, isectR, c1, c2]
      have m1 := max_if x x'
      have m2 := max_if y y'
      have m3 := min_if (x + z) (x' + z')
      have m4 := min_if (y + h) (y' + h')
      have F := fun W => hide (filled_any (max x x') (max y y') (min (x + z) (x' + z')) (min (y + h) (y' + h')) W (by omega) (by omega) (by omega) (by omega) (by omega) (by omega) (by omega) (by omega))
      revert H F
      generalize max x x' = mx at m1 ⊢
      generalize max y y' = my at m2 ⊢
      generalize min (x + z) (x' + z') = nx at m3 ⊢
      generalize min (y + h) (y' + h') = ny at m4 ⊢
      intro H F
      generalize fillR mx my nx ny = res at H F
      obtain ⟨r1, r2, r3, r4⟩ := res
      go_enter Try.func16, Try.ntmps16
      go_wp2_with fail
      refine ((E1 _).out).mono ?_
      rintro e w1 ⟨rfl, G1⟩
      try (with_reducible replace G1 := Grew.undrawn G1)
      obtain ⟨c1, f1⟩ := G1.cells
      have z1 := G1.size
      try simp only [World.size_alloc, World.size_setCell, size_drewN] at z1
      replace G1 := hide G1
      have l1_w_0 : w.heap.size < w1.heap.size := by omega
      have l1_w_1 : w.heap.size + 1 < w1.heap.size := by omega
      have l1_w_2 : w.heap.size + 1 + 1 < w1.heap.size := by omega
      go_wp2_with fail
      refine ((E2 _).out).mono ?_
      rintro e w2 ⟨rfl, G2⟩
      try (with_reducible replace G2 := Grew.undrawn G2)
      obtain ⟨c2, f2⟩ := G2.cells
      have z2 := G2.size
      try simp only [World.size_alloc, World.size_setCell, size_drewN] at z2
      replace G2 := hide G2
      have l2_w_0 : w.heap.size < w2.heap.size := by omega
      have l2_w_1 : w.heap.size + 1 < w2.heap.size := by omega
      have l2_w_2 : w.heap.size + 1 + 1 < w2.heap.size := by omega
      go_wp2_with fail
      go_quiet (fail)
      go_wp2_with fail
      go_quiet (fail)
      go_wp2_with fail
      refine ((F _).out).mono ?_
      rintro e w3 ⟨rfl, G3⟩
      try (with_reducible replace G3 := Grew.undrawn G3)
      obtain ⟨c3, f3⟩ := G3.cells
      have z3 := G3.size
      try simp only [World.size_alloc, World.size_setCell, size_drewN] at z3
      replace G3 := hide G3
      have l3_w_0 : w.heap.size < w3.heap.size := by omega
      have l3_w_1 : w.heap.size + 1 < w3.heap.size := by omega
      have l3_w_2 : w.heap.size + 1 + 1 < w3.heap.size := by omega
      go_wp2
      rw [H.out]
      refine bodyPost_ret (v := R.v ⟨r1, r2, r3, r4⟩) (by simp [results, Try.results16, go_sem, R.zero, c1, c2, c3, l1_w_0, l1_w_1, l1_w_2, l2_w_0, l2_w_1, l2_w_2, l3_w_0, l3_w_1, l3_w_2]) rfl ⟨rfl, ?_⟩
      repeat' (first | (with_reducible exact Grew.refl _) | (with_reducible refine Grew.setCell ?_ ?_ _) | (with_reducible refine Grew.drewN ?_ _) | (with_reducible refine Grew.alloc ?_ _) | (with_reducible refine Grew.trans ?_ G3.out) | (with_reducible refine Grew.trans ?_ G2.out) | (with_reducible refine Grew.trans ?_ G1.out) | (dsimp only; omega))
end Go.Proofs.Ythldilikkogaoaa
