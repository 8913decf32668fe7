/- What Contains of package geometry returns; no condition. -/
import Derived.Test.YthldilikkogaoaaGeRects
namespace Go.Proofs.Ythldilikkogaoaa
open Go.RowKit Go.Sort
set_option linter.unusedSimpArgs false
set_option linter.unusedVariables false

def R.has (r : R) (px py : Int) : Bool := r.ok && decide (r.x ≤ px ∧ px < r.x + r.w ∧ r.y ≤ py ∧ py < r.y + r.h)
theorem chain4 (p q r s : Prop) : (p ∧ q ∧ r ∧ s) ∨ ¬ p ∨ (p ∧ ¬ q) ∨ (p ∧ q ∧ ¬ r) ∨ (p ∧ q ∧ r ∧ ¬ s) := by
  by_cases p <;> by_cases q <;> by_cases r <;> by_cases s <;> simp_all

set_option maxHeartbeats 4000000 in
theorem Contains_any (r : R) (px py : Int) (w : World) :
    Calls Try.prog 14 #[r.v, .agg #[.int .i64 px, .int .i64 py]] w fun e w' => e = .returned (.bool (r.has px py)) ∧ Grew w w' := by
  obtain ⟨x, y, z, h⟩ := r
  by_cases h0 : rectB x y z h = true
  · have V := fun W => hide (Validate_ok x y z h W h0)
    obtain ⟨⟨b1, b2⟩, ⟨b3, b4⟩, ⟨b5, b6⟩, b7, b8⟩ := R.bounds (r := ⟨x, y, z, h⟩) h0
    simp only at b1 b2 b3 b4 b5 b6 b7 b8
    rcases chain4 (x ≤ px) (px < x + z) (y ≤ py) (py < y + h) with hc | hc | hc | hc | hc
    · have H : Hid ((R.mk x y z h).has px py = true) := by simp [Hid, R.has, R.ok, h0]; omega
      clear h0
      obtain ⟨k1, k2, k3, k4⟩ := hc
      go_enter Try.func14, Try.ntmps14
      go_wp2_with fail
      refine ((V _).out).mono ?_
      rintro e w1 ⟨rfl, G1⟩
      try (with_reducible replace G1 := Grew.undrawn G1)
      obtain ⟨c1, f1⟩ := G1.cells
      have z1 := G1.size
      try simp only [World.size_alloc, World.size_setCell, size_drewN] at z1
      replace G1 := hide G1
      have l1_w_0 : w.heap.size < w1.heap.size := by omega
      have l1_w_1 : w.heap.size + 1 < w1.heap.size := by omega
      go_wp2
      go_ret
      refine ⟨ret_bool H.out.symm, ?_⟩
      repeat' (first | (with_reducible exact Grew.refl _) | (with_reducible refine Grew.setCell ?_ ?_ _) | (with_reducible refine Grew.drewN ?_ _) | (with_reducible refine Grew.alloc ?_ _) | (with_reducible refine Grew.trans ?_ G1.out) | (dsimp only; omega))
    all_goals
      have H : Hid ((R.mk x y z h).has px py = false) := by simp [Hid, R.has, R.ok, h0]; omega
      clear h0
      first | obtain ⟨k1, k2, k3, k4⟩ := hc | obtain ⟨k1, k2, k3⟩ := hc | obtain ⟨k1, k2⟩ := hc | skip
      go_enter Try.func14, Try.ntmps14
      go_wp2_with fail
      refine ((V _).out).mono ?_
      rintro e w1 ⟨rfl, G1⟩
      try (with_reducible replace G1 := Grew.undrawn G1)
      obtain ⟨c1, f1⟩ := G1.cells
      have z1 := G1.size
      try simp only [World.size_alloc, World.size_setCell, size_drewN] at z1
      replace G1 := hide G1
      have l1_w_0 : w.heap.size < w1.heap.size := by omega
      have l1_w_1 : w.heap.size + 1 < w1.heap.size := by omega
      go_wp2
      go_ret
      refine ⟨by first | exact ret_bool H.out.symm | exact ret_bool (by rw [H.out]; simp only [decide_eq_false_iff_not]; omega), ?_⟩
      repeat' (first | (with_reducible exact Grew.refl _) | (with_reducible refine Grew.setCell ?_ ?_ _) | (with_reducible refine Grew.drewN ?_ _) | (with_reducible refine Grew.alloc ?_ _) | (with_reducible refine Grew.trans ?_ G1.out) | (dsimp only; omega))
  · have h0 : rectB x y z h = false := by simpa using h0
    have V := fun W => hide (Validate_bad x y z h W h0)
    have H : Hid ((R.mk x y z h).has px py = false) := by simp [Hid, R.has, R.ok, h0]
    clear h0
    go_enter Try.func14, Try.ntmps14
    go_wp2_with fail
    refine ((V _).out).mono ?_
    rintro e w1 ⟨rfl, G1⟩
    try (with_reducible replace G1 := Grew.undrawn G1)
    obtain ⟨c1, f1⟩ := G1.cells
    have z1 := G1.size
    try simp only [World.size_alloc, World.size_setCell, size_drewN] at z1
    replace G1 := hide G1
    have l1_w_0 : w.heap.size < w1.heap.size := by omega
    have l1_w_1 : w.heap.size + 1 < w1.heap.size := by omega
    go_wp2
    go_ret
    refine ⟨ret_bool H.out.symm, ?_⟩
    repeat' (first | (with_reducible exact Grew.refl _) | (with_reducible refine Grew.setCell ?_ ?_ _) | (with_reducible refine Grew.drewN ?_ _) | (with_reducible refine Grew.alloc ?_ _) | (with_reducible refine Grew.trans ?_ G1.out) | (dsimp only; omega))
end Go.Proofs.Ythldilikkogaoaa
