/- What Shrink and Shift of package geometry return; no condition. -/
import Derived.Test.YthldilikkogaoaaGeRects
namespace Go.Proofs.Ythldilikkogaoaa
open Go.RowKit Go.Sort
set_option linter.unusedSimpArgs false
set_option linter.unusedVariables false
theorem chainf (p q r s : Bool) : (p = true ∧ q = true ∧ r = true ∧ s = true) ∨ p = false ∨ (p = true ∧ q = false) ∨ (p = true ∧ q = true ∧ r = false) ∨ (p = true ∧ q = true ∧ r = true ∧ s = false) := by
  cases p <;> cases q <;> cases r <;> cases s <;> simp

def shrinkR (r : R) (il it ir ib : Int) : R :=
  if r.ok && lenB il && lenB it && lenB ir && lenB ib then fillR (r.x + il) (r.y + it) (r.x + r.w - ir) (r.y + r.h - ib) else R.zero

set_option maxHeartbeats 4000000 in
theorem Shrink_any (r : R) (il it ir ib : Int) (w : World) :
    Calls Try.prog 21 #[r.v, .agg #[.int .i64 il, .int .i64 it, .int .i64 ir, .int .i64 ib]] w fun e w' => e = .returned (shrinkR r il it ir ib).v ∧ Grew w w' := by
  obtain ⟨x, y, z, h⟩ := r
  by_cases h0 : rectB x y z h = true
  · have V := fun W => hide (Validate_ok x y z h W h0)
    obtain ⟨⟨b1, b2⟩, ⟨b3, b4⟩, ⟨b5, b6⟩, b7, b8⟩ := R.bounds (r := ⟨x, y, z, h⟩) h0
    simp only at b1 b2 b3 b4 b5 b6 b7 b8
    rcases chainf (lenB il) (lenB it) (lenB ir) (lenB ib) with hc | hc | hc | hc | hc
    · have H : Hid (shrinkR ⟨x, y, z, h⟩ il it ir ib = fillR (x + il) (y + it) (x + z - ir) (y + h - ib)) := by simp [Hid, shrinkR, R.ok, h0, hc]
      obtain ⟨k1, k2, k3, k4⟩ := hc
      have e1 := inB_iff.1 k1
      have e2 := inB_iff.1 k2
      have e3 := inB_iff.1 k3
      have e4 := inB_iff.1 k4
      have F := fun W => hide (filled_any (x + il) (y + it) (x + z - ir) (y + h - ib) W (by omega) (by omega) (by omega) (by omega) (by omega) (by omega) (by omega) (by omega))
      generalize fillR (x + il) (y + it) (x + z - ir) (y + h - ib) = res at H F
      obtain ⟨r1, r2, r3, r4⟩ := res
      clear h0
      have i0 : ∀ w, (Instr.index 49 (.agg #[.int .i64 il, .int .i64 it, .int .i64 ir, .int .i64 ib]) (.int .i64 0)).run Try.prog w = .ok (.int .i64 il) w := fun _ => by kernel_rfl
      have i1 : ∀ w, (Instr.index 49 (.agg #[.int .i64 il, .int .i64 it, .int .i64 ir, .int .i64 ib]) (.int .i64 1)).run Try.prog w = .ok (.int .i64 it) w := fun _ => by kernel_rfl
      have i2 : ∀ w, (Instr.index 49 (.agg #[.int .i64 il, .int .i64 it, .int .i64 ir, .int .i64 ib]) (.int .i64 2)).run Try.prog w = .ok (.int .i64 ir) w := fun _ => by kernel_rfl
      have i3 : ∀ w, (Instr.index 49 (.agg #[.int .i64 il, .int .i64 it, .int .i64 ir, .int .i64 ib]) (.int .i64 3)).run Try.prog w = .ok (.int .i64 ib) w := fun _ => by kernel_rfl
      go_enter Try.func21, Try.ntmps21
      go_wp2_with fail
      refine ((V _).out).mono ?_
      rintro e w1 ⟨rfl, G1⟩
      try (with_reducible replace G1 := Grew.undrawn G1)
      obtain ⟨c1, f1⟩ := G1.cells
      have z1 := G1.size
      try simp only [World.size_alloc, World.size_setCell, size_drewN] at z1
      replace G1 := hide G1
      have l1_w_0 : w.heap.size < w1.heap.size := by omega
      have l1_w_1 : w.heap.size + 1 < w1.heap.size := by omega
      have l1_w_2 : w.heap.size + 1 + 1 < w1.heap.size := by omega
      go_wp2_with fail
      refine wp_loop_rounds 5 ?_
      rw [rounds_succ]
      go_wp2_with fail
      refine (length_any _ _).mono ?_
      rintro e _ ⟨rfl, rfl⟩
      go_wp2_with fail
      rw [rounds_succ]
      go_wp2_with fail
      refine (length_any _ _).mono ?_
      rintro e _ ⟨rfl, rfl⟩
      go_wp2_with fail
      rw [rounds_succ]
      go_wp2_with fail
      refine (length_any _ _).mono ?_
      rintro e _ ⟨rfl, rfl⟩
      go_wp2_with fail
      rw [rounds_succ]
      go_wp2_with fail
      refine (length_any _ _).mono ?_
      rintro e _ ⟨rfl, rfl⟩
      go_wp2_with fail
      rw [rounds_succ]
      go_wp2_with fail
      refine ((F _).out).mono ?_
      rintro e w2 ⟨rfl, G2⟩
      try (with_reducible replace G2 := Grew.undrawn G2)
      obtain ⟨c2, f2⟩ := G2.cells
      have z2 := G2.size
      try simp only [World.size_alloc, World.size_setCell, size_drewN] at z2
      replace G2 := hide G2
      have l2_w_0 : w.heap.size < w2.heap.size := by omega
      have l2_w_1 : w.heap.size + 1 < w2.heap.size := by omega
      have l2_w_2 : w.heap.size + 1 + 1 < w2.heap.size := by omega
      go_wp2
      rw [H.out]
      refine bodyPost_ret (v := R.v ⟨r1, r2, r3, r4⟩) (by simp [results, Try.results21, go_sem, R.zero, c1, c2, l1_w_0, l1_w_1, l1_w_2, l2_w_0, l2_w_1, l2_w_2]) rfl ⟨rfl, ?_⟩
      repeat' (first | (with_reducible exact Grew.refl _) | (with_reducible refine Grew.setCell ?_ ?_ _) | (with_reducible refine Grew.drewN ?_ _) | (with_reducible refine Grew.alloc ?_ _) | (with_reducible refine Grew.trans ?_ G2.out) | (with_reducible refine Grew.trans ?_ G1.out) | (dsimp only; omega))
    · have H : Hid (shrinkR ⟨x, y, z, h⟩ il it ir ib = R.zero) := by simp [Hid, shrinkR, R.ok, h0, hc]
      have k1 := hc
      clear hc
      clear h0
      have i0 : ∀ w, (Instr.index 49 (.agg #[.int .i64 il, .int .i64 it, .int .i64 ir, .int .i64 ib]) (.int .i64 0)).run Try.prog w = .ok (.int .i64 il) w := fun _ => by kernel_rfl
      have i1 : ∀ w, (Instr.index 49 (.agg #[.int .i64 il, .int .i64 it, .int .i64 ir, .int .i64 ib]) (.int .i64 1)).run Try.prog w = .ok (.int .i64 it) w := fun _ => by kernel_rfl
      have i2 : ∀ w, (Instr.index 49 (.agg #[.int .i64 il, .int .i64 it, .int .i64 ir, .int .i64 ib]) (.int .i64 2)).run Try.prog w = .ok (.int .i64 ir) w := fun _ => by kernel_rfl
      have i3 : ∀ w, (Instr.index 49 (.agg #[.int .i64 il, .int .i64 it, .int .i64 ir, .int .i64 ib]) (.int .i64 3)).run Try.prog w = .ok (.int .i64 ib) w := fun _ => by kernel_rfl
      go_enter Try.func21, Try.ntmps21
      go_wp2_with fail
      refine ((V _).out).mono ?_
      rintro e w1 ⟨rfl, G1⟩
      try (with_reducible replace G1 := Grew.undrawn G1)
      obtain ⟨c1, f1⟩ := G1.cells
      have z1 := G1.size
      try simp only [World.size_alloc, World.size_setCell, size_drewN] at z1
      replace G1 := hide G1
      have l1_w_0 : w.heap.size < w1.heap.size := by omega
      have l1_w_1 : w.heap.size + 1 < w1.heap.size := by omega
      have l1_w_2 : w.heap.size + 1 + 1 < w1.heap.size := by omega
      go_wp2_with fail
      refine wp_loop_rounds 5 ?_
      rw [rounds_succ]
      go_wp2_with fail
      refine (length_any _ _).mono ?_
      rintro e _ ⟨rfl, rfl⟩
      go_wp2
      rw [H.out]
      refine bodyPost_ret (v := R.zero.v) (by simp [results, Try.results21, go_sem, R.zero, c1, l1_w_0, l1_w_1, l1_w_2]) rfl ⟨rfl, ?_⟩
      repeat' (first | (with_reducible exact Grew.refl _) | (with_reducible refine Grew.setCell ?_ ?_ _) | (with_reducible refine Grew.drewN ?_ _) | (with_reducible refine Grew.alloc ?_ _) | (with_reducible refine Grew.trans ?_ G1.out) | (dsimp only; omega))
    · have H : Hid (shrinkR ⟨x, y, z, h⟩ il it ir ib = R.zero) := by simp [Hid, shrinkR, R.ok, h0, hc]
      obtain ⟨k1, k2⟩ := hc
      clear h0
      have i0 : ∀ w, (Instr.index 49 (.agg #[.int .i64 il, .int .i64 it, .int .i64 ir, .int .i64 ib]) (.int .i64 0)).run Try.prog w = .ok (.int .i64 il) w := fun _ => by kernel_rfl
      have i1 : ∀ w, (Instr.index 49 (.agg #[.int .i64 il, .int .i64 it, .int .i64 ir, .int .i64 ib]) (.int .i64 1)).run Try.prog w = .ok (.int .i64 it) w := fun _ => by kernel_rfl
      have i2 : ∀ w, (Instr.index 49 (.agg #[.int .i64 il, .int .i64 it, .int .i64 ir, .int .i64 ib]) (.int .i64 2)).run Try.prog w = .ok (.int .i64 ir) w := fun _ => by kernel_rfl
      have i3 : ∀ w, (Instr.index 49 (.agg #[.int .i64 il, .int .i64 it, .int .i64 ir, .int .i64 ib]) (.int .i64 3)).run Try.prog w = .ok (.int .i64 ib) w := fun _ => by kernel_rfl
      go_enter Try.func21, Try.ntmps21
      go_wp2_with fail
      refine ((V _).out).mono ?_
      rintro e w1 ⟨rfl, G1⟩
      try (with_reducible replace G1 := Grew.undrawn G1)
      obtain ⟨c1, f1⟩ := G1.cells
      have z1 := G1.size
      try simp only [World.size_alloc, World.size_setCell, size_drewN] at z1
      replace G1 := hide G1
      have l1_w_0 : w.heap.size < w1.heap.size := by omega
      have l1_w_1 : w.heap.size + 1 < w1.heap.size := by omega
      have l1_w_2 : w.heap.size + 1 + 1 < w1.heap.size := by omega
      go_wp2_with fail
      refine wp_loop_rounds 5 ?_
      rw [rounds_succ]
      go_wp2_with fail
      refine (length_any _ _).mono ?_
      rintro e _ ⟨rfl, rfl⟩
      go_wp2_with fail
      rw [rounds_succ]
      go_wp2_with fail
      refine (length_any _ _).mono ?_
      rintro e _ ⟨rfl, rfl⟩
      go_wp2
      rw [H.out]
      refine bodyPost_ret (v := R.zero.v) (by simp [results, Try.results21, go_sem, R.zero, c1, l1_w_0, l1_w_1, l1_w_2]) rfl ⟨rfl, ?_⟩
      repeat' (first | (with_reducible exact Grew.refl _) | (with_reducible refine Grew.setCell ?_ ?_ _) | (with_reducible refine Grew.drewN ?_ _) | (with_reducible refine Grew.alloc ?_ _) | (with_reducible refine Grew.trans ?_ G1.out) | (dsimp only; omega))
    · have H : Hid (shrinkR ⟨x, y, z, h⟩ il it ir ib = R.zero) := by simp [Hid, shrinkR, R.ok, h0, hc]
      obtain ⟨k1, k2, k3⟩ := hc
      clear h0
      have i0 : ∀ w, (Instr.index 49 (.agg #[.int .i64 il, .int .i64 it, .int .i64 ir, .int .i64 ib]) (.int .i64 0)).run Try.prog w = .ok (.int .i64 il) w := fun _ => by kernel_rfl
      have i1 : ∀ w, (Instr.index 49 (.agg #[.int .i64 il, .int .i64 it, .int .i64 ir, .int .i64 ib]) (.int .i64 1)).run Try.prog w = .ok (.int .i64 it) w := fun _ => by kernel_rfl
      have i2 : ∀ w, (Instr.index 49 (.agg #[.int .i64 il, .int .i64 it, .int .i64 ir, .int .i64 ib]) (.int .i64 2)).run Try.prog w = .ok (.int .i64 ir) w := fun _ => by kernel_rfl
      have i3 : ∀ w, (Instr.index 49 (.agg #[.int .i64 il, .int .i64 it, .int .i64 ir, .int .i64 ib]) (.int .i64 3)).run Try.prog w = .ok (.int .i64 ib) w := fun _ => by kernel_rfl
      go_enter Try.func21, Try.ntmps21
      go_wp2_with fail
      refine ((V _).out).mono ?_
      rintro e w1 ⟨rfl, G1⟩
      try (with_reducible replace G1 := Grew.undrawn G1)
      obtain ⟨c1, f1⟩ := G1.cells
      have z1 := G1.size
      try simp only [World.size_alloc, World.size_setCell, size_drewN] at z1
      replace G1 := hide G1
      have l1_w_0 : w.heap.size < w1.heap.size := by omega
      have l1_w_1 : w.heap.size + 1 < w1.heap.size := by omega
      have l1_w_2 : w.heap.size + 1 + 1 < w1.heap.size := by omega
      go_wp2_with fail
      refine wp_loop_rounds 5 ?_
      rw [rounds_succ]
      go_wp2_with fail
      refine (length_any _ _).mono ?_
      rintro e _ ⟨rfl, rfl⟩
      go_wp2_with fail
      rw [rounds_succ]
      go_wp2_with fail
      refine (length_any _ _).mono ?_
      rintro e _ ⟨rfl, rfl⟩
      go_wp2_with fail
      rw [rounds_succ]
      go_wp2_with fail
      refine (length_any _ _).mono ?_
      rintro e _ ⟨rfl, rfl⟩
      go_wp2
      rw [H.out]
      refine bodyPost_ret (v := R.zero.v) (by simp [results, Try.results21, go_sem, R.zero, c1, l1_w_0, l1_w_1, l1_w_2]) rfl ⟨rfl, ?_⟩
      repeat' (first | (with_reducible exact Grew.refl _) | (with_reducible refine Grew.setCell ?_ ?_ _) | (with_reducible refine Grew.drewN ?_ _) | (with_reducible refine Grew.alloc ?_ _) | (with_reducible refine Grew.trans ?_ G1.out) | (dsimp only; omega))
    · have H : Hid (shrinkR ⟨x, y, z, h⟩ il it ir ib = R.zero) := by simp [Hid, shrinkR, R.ok, h0, hc]
      obtain ⟨k1, k2, k3, k4⟩ := hc
      clear h0
      have i0 : ∀ w, (Instr.index 49 (.agg #[.int .i64 il, .int .i64 it, .int .i64 ir, .int .i64 ib]) (.int .i64 0)).run Try.prog w = .ok (.int .i64 il) w := fun _ => by kernel_rfl
      have i1 : ∀ w, (Instr.index 49 (.agg #[.int .i64 il, .int .i64 it, .int .i64 ir, .int .i64 ib]) (.int .i64 1)).run Try.prog w = .ok (.int .i64 it) w := fun _ => by kernel_rfl
      have i2 : ∀ w, (Instr.index 49 (.agg #[.int .i64 il, .int .i64 it, .int .i64 ir, .int .i64 ib]) (.int .i64 2)).run Try.prog w = .ok (.int .i64 ir) w := fun _ => by kernel_rfl
      have i3 : ∀ w, (Instr.index 49 (.agg #[.int .i64 il, .int .i64 it, .int .i64 ir, .int .i64 ib]) (.int .i64 3)).run Try.prog w = .ok (.int .i64 ib) w := fun _ => by kernel_rfl
      go_enter Try.func21, Try.ntmps21
      go_wp2_with fail
      refine ((V _).out).mono ?_
      rintro e w1 ⟨rfl, G1⟩
      try (with_reducible replace G1 := Grew.undrawn G1)
      obtain ⟨c1, f1⟩ := G1.cells
      have z1 := G1.size
      try simp only [World.size_alloc, World.size_setCell, size_drewN] at z1
      replace G1 := hide G1
      have l1_w_0 : w.heap.size < w1.heap.size := by omega
      have l1_w_1 : w.heap.size + 1 < w1.heap.size := by omega
      have l1_w_2 : w.heap.size + 1 + 1 < w1.heap.size := by omega
      go_wp2_with fail
      refine wp_loop_rounds 5 ?_
      rw [rounds_succ]
      go_wp2_with fail
      refine (length_any _ _).mono ?_
      rintro e _ ⟨rfl, rfl⟩
      go_wp2_with fail
      rw [rounds_succ]
      go_wp2_with fail
      refine (length_any _ _).mono ?_
      rintro e _ ⟨rfl, rfl⟩
      go_wp2_with fail
      rw [rounds_succ]
      go_wp2_with fail
      refine (length_any _ _).mono ?_
      rintro e _ ⟨rfl, rfl⟩
      go_wp2_with fail
      rw [rounds_succ]
      go_wp2_with fail
      refine (length_any _ _).mono ?_
      rintro e _ ⟨rfl, rfl⟩
      go_wp2
      rw [H.out]
      refine bodyPost_ret (v := R.zero.v) (by simp [results, Try.results21, go_sem, R.zero, c1, l1_w_0, l1_w_1, l1_w_2]) rfl ⟨rfl, ?_⟩
      repeat' (first | (with_reducible exact Grew.refl _) | (with_reducible refine Grew.setCell ?_ ?_ _) | (with_reducible refine Grew.drewN ?_ _) | (with_reducible refine Grew.alloc ?_ _) | (with_reducible refine Grew.trans ?_ G1.out) | (dsimp only; omega))
  · have h0 : rectB x y z h = false := by simpa using h0
    have V := fun W => hide (Validate_bad x y z h W h0)
    have H : Hid (shrinkR ⟨x, y, z, h⟩ il it ir ib = R.zero) := by simp [Hid, shrinkR, R.ok, h0]
    clear h0
    go_enter Try.func21, Try.ntmps21
    go_wp2_with fail
    refine ((V _).out).mono ?_
    rintro e w1 ⟨rfl, G1⟩
    try (with_reducible replace G1 := Grew.undrawn G1)
    obtain ⟨c1, f1⟩ := G1.cells
    have z1 := G1.size
    try simp only [World.size_alloc, World.size_setCell, size_drewN] at z1
    replace G1 := hide G1
    have l1_w_0 : w.heap.size < w1.heap.size := by omega
    have l1_w_1 : w.heap.size + 1 < w1.heap.size := by omega
    have l1_w_2 : w.heap.size + 1 + 1 < w1.heap.size := by omega
    go_wp2
    rw [H.out]
    refine bodyPost_ret (v := R.zero.v) (by simp [results, Try.results21, go_sem, R.zero, c1, l1_w_0, l1_w_1, l1_w_2]) rfl ⟨rfl, ?_⟩
    repeat' (first | (with_reducible exact Grew.refl _) | (with_reducible refine Grew.setCell ?_ ?_ _) | (with_reducible refine Grew.drewN ?_ _) | (with_reducible refine Grew.alloc ?_ _) | (with_reducible refine Grew.trans ?_ G1.out) | (dsimp only; omega))

def shiftR (r : R) (dx dy : Int) : R := if reachB dx && reachB dy then (R.mk (r.kept.x + dx) (r.kept.y + dy) r.kept.w r.kept.h).kept else R.zero

set_option maxHeartbeats 4000000 in
theorem Shift_any (r : R) (dx dy : Int) (w : World) :
    Calls Try.prog 23 #[r.v, .int .i64 dx, .int .i64 dy] w fun e w' => e = .returned (shiftR r dx dy).v ∧ Grew w w' := by
  obtain ⟨x, y, z, h⟩ := r
  by_cases g1 : reachB dx = true
  · by_cases g2 : reachB dy = true
    · have e1 := inB_iff.1 g1
      have e2 := inB_iff.1 g2
      by_cases h0 : rectB x y z h = true
      · have V := fun W => hide (Validate_ok x y z h W h0)
        obtain ⟨⟨b1, b2⟩, ⟨b3, b4⟩, ⟨b5, b6⟩, b7, b8⟩ := R.bounds (r := ⟨x, y, z, h⟩) h0
        simp only at b1 b2 b3 b4 b5 b6 b7 b8
        by_cases h1 : rectB (x + dx) (y + dy) z h = true
        · have V2 := fun W => hide (Validate_ok (x + dx) (y + dy) z h W h1)
          have H : Hid (shiftR ⟨x, y, z, h⟩ dx dy = ⟨x + dx, y + dy, z, h⟩) := by simp [Hid, shiftR, R.kept, R.ok, h0, g1, g2, h1]
          clear h0 h1
          go_enter Try.func23, Try.ntmps23
          go_wp2_with fail
          refine (reachable_any _ _).mono ?_
          rintro e _ ⟨rfl, rfl⟩
          go_wp2_with fail
          refine (reachable_any _ _).mono ?_
          rintro e _ ⟨rfl, rfl⟩
          go_wp2_with fail
          refine ((V _).out).mono ?_
          rintro e w1 ⟨rfl, G1⟩
          try (with_reducible replace G1 := Grew.undrawn G1)
          obtain ⟨c1, f1⟩ := G1.cells
          have z1 := G1.size
          try simp only [World.size_alloc, World.size_setCell, size_drewN] at z1
          replace G1 := hide G1
          have l1_w_0 : w.heap.size < w1.heap.size := by omega
          have l1_w_1 : w.heap.size + 1 < w1.heap.size := by omega
          go_wp2_with fail
          refine ((V2 _).out).mono ?_
          rintro e w2 ⟨rfl, G2⟩
          try (with_reducible replace G2 := Grew.undrawn G2)
          obtain ⟨c2, f2⟩ := G2.cells
          have z2 := G2.size
          try simp only [World.size_alloc, World.size_setCell, size_drewN] at z2
          replace G2 := hide G2
          have l2_w_0 : w.heap.size < w2.heap.size := by omega
          have l2_w_1 : w.heap.size + 1 < w2.heap.size := by omega
          have l2_w1_0 : w1.heap.size < w2.heap.size := by omega
          go_wp2
          rw [H.out]
          refine bodyPost_ret (v := R.v ⟨x + dx, y + dy, z, h⟩) (by simp [results, Try.results23, go_sem, R.zero, c1, c2, l1_w_0, l1_w_1, l2_w_0, l2_w_1, l2_w1_0]) rfl ⟨rfl, ?_⟩
          repeat' (first | (with_reducible exact Grew.refl _) | (with_reducible refine Grew.setCell ?_ ?_ _) | (with_reducible refine Grew.drewN ?_ _) | (with_reducible refine Grew.alloc ?_ _) | (with_reducible refine Grew.trans ?_ G2.out) | (with_reducible refine Grew.trans ?_ G1.out) | (dsimp only; omega))
        · have h1 : rectB (x + dx) (y + dy) z h = false := by simpa using h1
          have V2 := fun W => hide (Validate_bad (x + dx) (y + dy) z h W h1)
          have H : Hid (shiftR ⟨x, y, z, h⟩ dx dy = R.zero) := by simp [Hid, shiftR, R.kept, R.ok, h0, g1, g2, h1]
          clear h0 h1
          go_enter Try.func23, Try.ntmps23
          go_wp2_with fail
          refine (reachable_any _ _).mono ?_
          rintro e _ ⟨rfl, rfl⟩
          go_wp2_with fail
          refine (reachable_any _ _).mono ?_
          rintro e _ ⟨rfl, rfl⟩
          go_wp2_with fail
          refine ((V _).out).mono ?_
          rintro e w1 ⟨rfl, G1⟩
          try (with_reducible replace G1 := Grew.undrawn G1)
          obtain ⟨c1, f1⟩ := G1.cells
          have z1 := G1.size
          try simp only [World.size_alloc, World.size_setCell, size_drewN] at z1
          replace G1 := hide G1
          have l1_w_0 : w.heap.size < w1.heap.size := by omega
          have l1_w_1 : w.heap.size + 1 < w1.heap.size := by omega
          go_wp2_with fail
          refine ((V2 _).out).mono ?_
          rintro e w2 ⟨rfl, G2⟩
          try (with_reducible replace G2 := Grew.undrawn G2)
          obtain ⟨c2, f2⟩ := G2.cells
          have z2 := G2.size
          try simp only [World.size_alloc, World.size_setCell, size_drewN] at z2
          replace G2 := hide G2
          have l2_w_0 : w.heap.size < w2.heap.size := by omega
          have l2_w_1 : w.heap.size + 1 < w2.heap.size := by omega
          have l2_w1_0 : w1.heap.size < w2.heap.size := by omega
          go_wp2
          rw [H.out]
          refine bodyPost_ret (v := R.zero.v) (by simp [results, Try.results23, go_sem, R.zero, c1, c2, l1_w_0, l1_w_1, l2_w_0, l2_w_1, l2_w1_0]) rfl ⟨rfl, ?_⟩
          repeat' (first | (with_reducible exact Grew.refl _) | (with_reducible refine Grew.setCell ?_ ?_ _) | (with_reducible refine Grew.drewN ?_ _) | (with_reducible refine Grew.alloc ?_ _) | (with_reducible refine Grew.trans ?_ G2.out) | (with_reducible refine Grew.trans ?_ G1.out) | (dsimp only; omega))
      · have h0 : rectB x y z h = false := by simpa using h0
        have V := fun W => hide (Validate_bad x y z h W h0)
        by_cases h1 : rectB dx dy 0 0 = true
        · have V2 := fun W => hide (Validate_ok dx dy 0 0 W h1)
          have H : Hid (shiftR ⟨x, y, z, h⟩ dx dy = ⟨dx, dy, 0, 0⟩) := by simp [Hid, shiftR, R.kept, R.ok, h0, g1, g2, h1, R.zero]
          clear h0 h1
          go_enter Try.func23, Try.ntmps23
          go_wp2_with fail
          refine (reachable_any _ _).mono ?_
          rintro e _ ⟨rfl, rfl⟩
          go_wp2_with fail
          refine (reachable_any _ _).mono ?_
          rintro e _ ⟨rfl, rfl⟩
          go_wp2_with fail
          refine ((V _).out).mono ?_
          rintro e w1 ⟨rfl, G1⟩
          try (with_reducible replace G1 := Grew.undrawn G1)
          obtain ⟨c1, f1⟩ := G1.cells
          have z1 := G1.size
          try simp only [World.size_alloc, World.size_setCell, size_drewN] at z1
          replace G1 := hide G1
          have l1_w_0 : w.heap.size < w1.heap.size := by omega
          have l1_w_1 : w.heap.size + 1 < w1.heap.size := by omega
          have d1_w_0_0 : w1.cell? ⟨w.heap.size, 0, none⟩ = some (.int .i64 x) := by simp [go_sem, c1, l1_w_0, l1_w_1]
          have d1_w_0_1 : w1.cell? ⟨w.heap.size, 1, none⟩ = some (.int .i64 y) := by simp [go_sem, c1, l1_w_0, l1_w_1]
          have d1_w_0_2 : w1.cell? ⟨w.heap.size, 2, none⟩ = some (.int .i64 z) := by simp [go_sem, c1, l1_w_0, l1_w_1]
          have d1_w_0_3 : w1.cell? ⟨w.heap.size, 3, none⟩ = some (.int .i64 h) := by simp [go_sem, c1, l1_w_0, l1_w_1]
          go_wp2_with fail
          refine ((V2 _).out).mono ?_
          rintro e w2 ⟨rfl, G2⟩
          try (with_reducible replace G2 := Grew.undrawn G2)
          obtain ⟨c2, f2⟩ := G2.cells
          have z2 := G2.size
          try simp only [World.size_alloc, World.size_setCell, size_drewN] at z2
          replace G2 := hide G2
          have l2_w_0 : w.heap.size < w2.heap.size := by omega
          have l2_w_1 : w.heap.size + 1 < w2.heap.size := by omega
          have l2_w1_0 : w1.heap.size < w2.heap.size := by omega
          go_wp2
          rw [H.out]
          refine bodyPost_ret (v := R.v ⟨dx, dy, 0, 0⟩) (by simp [results, Try.results23, go_sem, R.zero, c1, c2, l1_w_0, l1_w_1, l2_w_0, l2_w_1, l2_w1_0]) rfl ⟨rfl, ?_⟩
          repeat' (first | (with_reducible exact Grew.refl _) | (with_reducible refine Grew.setCell ?_ ?_ _) | (with_reducible refine Grew.drewN ?_ _) | (with_reducible refine Grew.alloc ?_ _) | (with_reducible refine Grew.trans ?_ G2.out) | (with_reducible refine Grew.trans ?_ G1.out) | (dsimp only; omega))
        · have h1 : rectB dx dy 0 0 = false := by simpa using h1
          have V2 := fun W => hide (Validate_bad dx dy 0 0 W h1)
          have H : Hid (shiftR ⟨x, y, z, h⟩ dx dy = R.zero) := by simp [Hid, shiftR, R.kept, R.ok, h0, g1, g2, h1, R.zero]
          clear h0 h1
          go_enter Try.func23, Try.ntmps23
          go_wp2_with fail
          refine (reachable_any _ _).mono ?_
          rintro e _ ⟨rfl, rfl⟩
          go_wp2_with fail
          refine (reachable_any _ _).mono ?_
          rintro e _ ⟨rfl, rfl⟩
          go_wp2_with fail
          refine ((V _).out).mono ?_
          rintro e w1 ⟨rfl, G1⟩
          try (with_reducible replace G1 := Grew.undrawn G1)
          obtain ⟨c1, f1⟩ := G1.cells
          have z1 := G1.size
          try simp only [World.size_alloc, World.size_setCell, size_drewN] at z1
          replace G1 := hide G1
          have l1_w_0 : w.heap.size < w1.heap.size := by omega
          have l1_w_1 : w.heap.size + 1 < w1.heap.size := by omega
          have d1_w_0_0 : w1.cell? ⟨w.heap.size, 0, none⟩ = some (.int .i64 x) := by simp [go_sem, c1, l1_w_0, l1_w_1]
          have d1_w_0_1 : w1.cell? ⟨w.heap.size, 1, none⟩ = some (.int .i64 y) := by simp [go_sem, c1, l1_w_0, l1_w_1]
          have d1_w_0_2 : w1.cell? ⟨w.heap.size, 2, none⟩ = some (.int .i64 z) := by simp [go_sem, c1, l1_w_0, l1_w_1]
          have d1_w_0_3 : w1.cell? ⟨w.heap.size, 3, none⟩ = some (.int .i64 h) := by simp [go_sem, c1, l1_w_0, l1_w_1]
          go_wp2_with fail
          refine ((V2 _).out).mono ?_
          rintro e w2 ⟨rfl, G2⟩
          try (with_reducible replace G2 := Grew.undrawn G2)
          obtain ⟨c2, f2⟩ := G2.cells
          have z2 := G2.size
          try simp only [World.size_alloc, World.size_setCell, size_drewN] at z2
          replace G2 := hide G2
          have l2_w_0 : w.heap.size < w2.heap.size := by omega
          have l2_w_1 : w.heap.size + 1 < w2.heap.size := by omega
          have l2_w1_0 : w1.heap.size < w2.heap.size := by omega
          go_wp2
          rw [H.out]
          refine bodyPost_ret (v := R.zero.v) (by simp [results, Try.results23, go_sem, R.zero, c1, c2, l1_w_0, l1_w_1, l2_w_0, l2_w_1, l2_w1_0]) rfl ⟨rfl, ?_⟩
          repeat' (first | (with_reducible exact Grew.refl _) | (with_reducible refine Grew.setCell ?_ ?_ _) | (with_reducible refine Grew.drewN ?_ _) | (with_reducible refine Grew.alloc ?_ _) | (with_reducible refine Grew.trans ?_ G2.out) | (with_reducible refine Grew.trans ?_ G1.out) | (dsimp only; omega))
    · have g2 : reachB dy = false := by simpa using g2
      have H : Hid (shiftR ⟨x, y, z, h⟩ dx dy = R.zero) := by simp [Hid, shiftR, g1, g2]
      go_enter Try.func23, Try.ntmps23
      go_wp2_with fail
      refine (reachable_any _ _).mono ?_
      rintro e _ ⟨rfl, rfl⟩
      go_wp2_with fail
      refine (reachable_any _ _).mono ?_
      rintro e _ ⟨rfl, rfl⟩
      go_wp2
      rw [H.out]
      refine bodyPost_ret (v := R.zero.v) (by simp [results, Try.results23, go_sem, R.zero]) rfl ⟨rfl, ?_⟩
      repeat' (first | (with_reducible exact Grew.refl _) | (with_reducible refine Grew.setCell ?_ ?_ _) | (with_reducible refine Grew.drewN ?_ _) | (with_reducible refine Grew.alloc ?_ _) | (dsimp only; omega))
  · have g1 : reachB dx = false := by simpa using g1
    have H : Hid (shiftR ⟨x, y, z, h⟩ dx dy = R.zero) := by simp [Hid, shiftR, g1]
    go_enter Try.func23, Try.ntmps23
    go_wp2_with fail
    refine (reachable_any _ _).mono ?_
    rintro e _ ⟨rfl, rfl⟩
    go_wp2
    rw [H.out]
    refine bodyPost_ret (v := R.zero.v) (by simp [results, Try.results23, go_sem, R.zero]) rfl ⟨rfl, ?_⟩
    repeat' (first | (with_reducible exact Grew.refl _) | (with_reducible refine Grew.setCell ?_ ?_ _) | (with_reducible refine Grew.drewN ?_ _) | (with_reducible refine Grew.alloc ?_ _) | (dsimp only; omega))
end Go.Proofs.Ythldilikkogaoaa
