/- What the small reference functions of layer 2 return; no condition. -/
import Derived.Test.YthldilikkogaoaaGeCont
import Derived.Test.YthldilikkogaoaaGeRects
namespace Go.Proofs.Ythldilikkogaoaa
open Go.RowKit Go.Sort
set_option linter.unusedSimpArgs false
set_option linter.unusedVariables false

set_option maxHeartbeats 4000000 in
theorem rwithin_any (x n : Int) (w : World) (h1 : 0 ≤ n) (h2 : n ≤ 1099511627776) :
    Calls Try.prog 36 #[.int .i64 x, .int .i64 n] w fun e w' => e = .returned (.bool (inB x (-n) n)) ∧ w = w' := by
  by_cases c1 : -n ≤ x
  · by_cases c2 : x ≤ n
    · have H : Hid (inB x (-n) n = true) := by simp [Hid, inB, c1, c2]
      go_enter Try.func36, Try.ntmps36
      go_wp2
      go_ret
      exact ⟨ret_bool H.out.symm, rfl⟩
    · have H : Hid (inB x (-n) n = false) := by simp [Hid, inB]; omega
      go_enter Try.func36, Try.ntmps36
      go_wp2
      go_ret
      exact ⟨ret_bool H.out.symm, rfl⟩
  · have H : Hid (inB x (-n) n = false) := by simp [Hid, inB]; omega
    go_enter Try.func36, Try.ntmps36
    go_wp2
    go_ret
    exact ⟨ret_bool H.out.symm, rfl⟩

theorem chain6 (a b : Bool) (p q r s : Prop) : (a = true ∧ b = true ∧ p ∧ q ∧ r ∧ s) ∨ a = false ∨ (a = true ∧ b = false) ∨ (a = true ∧ b = true ∧ ¬ p) ∨ (a = true ∧ b = true ∧ p ∧ ¬ q) ∨ (a = true ∧ b = true ∧ p ∧ q ∧ ¬ r) ∨ (a = true ∧ b = true ∧ p ∧ q ∧ r ∧ ¬ s) := by
  cases a <;> cases b <;> by_cases p <;> by_cases q <;> by_cases r <;> by_cases s <;> simp_all

set_option maxHeartbeats 4000000 in
theorem ValidRect_any (r : R) (w : World) :
    Calls Try.prog 11 #[r.v] w fun e w' => e = .returned (.bool r.ok) ∧ Grew w w' := by
  obtain ⟨x, y, z, h⟩ := r
  have W : ∀ (t : Int) W, Calls Try.prog 36 #[.int .i64 t, .int .i64 1048576] W fun e w' => e = .returned (.bool (nearB t)) ∧ W = w' := fun t W => rwithin_any t 1048576 W (by omega) (by omega)
  rcases chain6 (nearB x) (nearB y) (0 ≤ z) (z ≤ 1048576) (0 ≤ h) (h ≤ 1048576) with hc | hc | hc | hc | hc | hc | hc
  · have H : Hid ((R.mk x y z h).ok = true) := by obtain ⟨k1, k2, k3, k4, k5, k6⟩ := hc; simp [Hid, R.ok, rectB, lenB, inB, k1, k2]; omega
    obtain ⟨k1, k2, k3, k4, k5, k6⟩ := hc
    have W := fun t W' => hide (W t W')
    go_enter Try.func11, Try.ntmps11
    go_wp2_with fail
    refine ((W x _).out).mono ?_
    rintro e _ ⟨rfl, rfl⟩
    go_wp2_with fail
    refine ((W y _).out).mono ?_
    rintro e _ ⟨rfl, rfl⟩
    go_wp2
    go_ret
    refine ⟨ret_bool H.out.symm, ?_⟩
    repeat' (first | (with_reducible exact Grew.refl _) | (with_reducible refine Grew.setCell ?_ ?_ _) | (with_reducible refine Grew.drewN ?_ _) | (with_reducible refine Grew.alloc ?_ _) | (dsimp only; omega))
  · have H : Hid ((R.mk x y z h).ok = false) := by simp [Hid, R.ok, rectB, hc]
    have W := fun t W' => hide (W t W')
    go_enter Try.func11, Try.ntmps11
    go_wp2_with fail
    refine ((W x _).out).mono ?_
    rintro e _ ⟨rfl, rfl⟩
    go_wp2
    go_ret
    refine ⟨ret_bool H.out.symm, ?_⟩
    repeat' (first | (with_reducible exact Grew.refl _) | (with_reducible refine Grew.setCell ?_ ?_ _) | (with_reducible refine Grew.drewN ?_ _) | (with_reducible refine Grew.alloc ?_ _) | (dsimp only; omega))
  all_goals
    have H : Hid ((R.mk x y z h).ok = false) := by
      first | (obtain ⟨k1, k2, k3, k4, k5, k6⟩ := hc; simp [Hid, R.ok, rectB, lenB, inB, k1, k2]; omega) | (obtain ⟨k1, k2, k3, k4, k5⟩ := hc; simp [Hid, R.ok, rectB, lenB, inB, k1, k2]; omega) | (obtain ⟨k1, k2, k3, k4⟩ := hc; simp [Hid, R.ok, rectB, lenB, inB, k1, k2]; omega) | (obtain ⟨k1, k2, k3⟩ := hc; simp [Hid, R.ok, rectB, lenB, inB, k1, k2]; omega) | (obtain ⟨k1, k2⟩ := hc; simp [Hid, R.ok, rectB, k1, k2])
    first | obtain ⟨k1, k2, k3, k4, k5, k6⟩ := hc | obtain ⟨k1, k2, k3, k4, k5⟩ := hc | obtain ⟨k1, k2, k3, k4⟩ := hc | obtain ⟨k1, k2, k3⟩ := hc | obtain ⟨k1, k2⟩ := hc
    have W := fun t W' => hide (W t W')
    go_enter Try.func11, Try.ntmps11
    go_wp2_with fail
    refine ((W x _).out).mono ?_
    rintro e _ ⟨rfl, rfl⟩
    go_wp2_with fail
    refine ((W y _).out).mono ?_
    rintro e _ ⟨rfl, rfl⟩
    go_wp2
    go_ret
    refine ⟨by first | exact ret_bool H.out.symm | exact ret_bool (by rw [H.out]; simp only [decide_eq_false_iff_not]; omega), ?_⟩
    repeat' (first | (with_reducible exact Grew.refl _) | (with_reducible refine Grew.setCell ?_ ?_ _) | (with_reducible refine Grew.drewN ?_ _) | (with_reducible refine Grew.alloc ?_ _) | (dsimp only; omega))

set_option maxHeartbeats 4000000 in
theorem rEmpty_any (r : R) (w : World) :
    Calls Try.prog 13 #[r.v] w fun e w' => e = .returned (.bool r.empty) ∧ Grew w w' := by
  have V := fun W => hide (ValidRect_any r W)
  have H0 : Hid (r.empty = (!r.ok || r.w == 0 || r.h == 0)) := rfl
  obtain ⟨x, y, z, h⟩ := r
  have H0 : Hid ((R.mk x y z h).empty = (!(R.mk x y z h).ok || z == 0 || h == 0)) := rfl
  by_cases c0 : (R.mk x y z h).ok = true
  · by_cases c1 : (z == 0) = true
    · have H : Hid ((R.mk x y z h).empty = true) := by rw [H0.out, c0, c1]; rfl
      go_enter Try.func13, Try.ntmps13
      go_wp2_with fail
      refine ((V _).out).mono ?_
      rintro e w1 ⟨rfl, G1⟩
      try (with_reducible replace G1 := Grew.undrawn G1)
      obtain ⟨c1, f1⟩ := G1.cells
      have z1 := G1.size
      try simp only [World.size_alloc, World.size_setCell, size_drewN] at z1
      replace G1 := hide G1
      have l1_w_0 : w.heap.size < w1.heap.size := by omega
      go_wp2
      go_ret
      refine ⟨ret_bool H.out.symm, ?_⟩
      repeat' (first | (with_reducible exact Grew.refl _) | (with_reducible refine Grew.setCell ?_ ?_ _) | (with_reducible refine Grew.drewN ?_ _) | (with_reducible refine Grew.alloc ?_ _) | (with_reducible refine Grew.trans ?_ G1.out) | (dsimp only; omega))
    · have c1 : (z == 0) = false := by simpa using c1
      have H : Hid ((R.mk x y z h).empty = (h == 0)) := by rw [H0.out, c0, c1]; rfl
      go_enter Try.func13, Try.ntmps13
      go_wp2_with fail
      refine ((V _).out).mono ?_
      rintro e w1 ⟨rfl, G1⟩
      try (with_reducible replace G1 := Grew.undrawn G1)
      obtain ⟨c1, f1⟩ := G1.cells
      have z1 := G1.size
      try simp only [World.size_alloc, World.size_setCell, size_drewN] at z1
      replace G1 := hide G1
      have l1_w_0 : w.heap.size < w1.heap.size := by omega
      go_wp2
      go_ret
      refine ⟨ret_bool H.out.symm, ?_⟩
      repeat' (first | (with_reducible exact Grew.refl _) | (with_reducible refine Grew.setCell ?_ ?_ _) | (with_reducible refine Grew.drewN ?_ _) | (with_reducible refine Grew.alloc ?_ _) | (with_reducible refine Grew.trans ?_ G1.out) | (dsimp only; omega))
  · have c0 : (R.mk x y z h).ok = false := by simpa using c0
    have H : Hid ((R.mk x y z h).empty = true) := by rw [H0.out, c0]; rfl
    go_enter Try.func13, Try.ntmps13
    go_wp2_with fail
    refine ((V _).out).mono ?_
    rintro e w1 ⟨rfl, G1⟩
    try (with_reducible replace G1 := Grew.undrawn G1)
    obtain ⟨c1, f1⟩ := G1.cells
    have z1 := G1.size
    try simp only [World.size_alloc, World.size_setCell, size_drewN] at z1
    replace G1 := hide G1
    have l1_w_0 : w.heap.size < w1.heap.size := by omega
    go_wp2
    go_ret
    refine ⟨ret_bool H.out.symm, ?_⟩
    repeat' (first | (with_reducible exact Grew.refl _) | (with_reducible refine Grew.setCell ?_ ?_ _) | (with_reducible refine Grew.drewN ?_ _) | (with_reducible refine Grew.alloc ?_ _) | (with_reducible refine Grew.trans ?_ G1.out) | (dsimp only; omega))

set_option maxHeartbeats 4000000 in
theorem rContains_any (r : R) (px py : Int) (w : World) :
    Calls Try.prog 15 #[r.v, .agg #[.int .i64 px, .int .i64 py]] w fun e w' => e = .returned (.bool (r.has px py)) ∧ Grew w w' := by
  have V := fun W => hide (ValidRect_any r W)
  obtain ⟨x, y, z, h⟩ := r
  by_cases h0 : (R.mk x y z h).ok = true
  · obtain ⟨⟨b1, b2⟩, ⟨b3, b4⟩, ⟨b5, b6⟩, b7, b8⟩ := R.bounds (r := ⟨x, y, z, h⟩) h0
    simp only at b1 b2 b3 b4 b5 b6 b7 b8
    rcases chain4 (x ≤ px) (px < x + z) (y ≤ py) (py < y + h) with hc | hc | hc | hc | hc
    · have H : Hid ((R.mk x y z h).has px py = true) := by simp [Hid, R.has, h0]; omega
      obtain ⟨k1, k2, k3, k4⟩ := hc
      go_enter Try.func15, Try.ntmps15
      go_wp2_with fail
      refine ((V _).out).mono ?_
      rintro e w1 ⟨rfl, G1⟩
      try (with_reducible replace G1 := Grew.undrawn G1)
      obtain ⟨c1, f1⟩ := G1.cells
      have z1 := G1.size
      try simp only [World.size_alloc, World.size_setCell, size_drewN] at z1
      replace G1 := hide G1
      have l1_w_0 : w.heap.size < w1.heap.size := by omega
      have l1_w_1 : w.heap.size + 1 < w1.heap.size := by omega
      go_wp2
      go_ret
      refine ⟨ret_bool H.out.symm, ?_⟩
      repeat' (first | (with_reducible exact Grew.refl _) | (with_reducible refine Grew.setCell ?_ ?_ _) | (with_reducible refine Grew.drewN ?_ _) | (with_reducible refine Grew.alloc ?_ _) | (with_reducible refine Grew.trans ?_ G1.out) | (dsimp only; omega))
    all_goals
      have H : Hid ((R.mk x y z h).has px py = false) := by simp [Hid, R.has, h0]; omega
      first | obtain ⟨k1, k2, k3, k4⟩ := hc | obtain ⟨k1, k2, k3⟩ := hc | obtain ⟨k1, k2⟩ := hc | skip
      go_enter Try.func15, Try.ntmps15
      go_wp2_with fail
      refine ((V _).out).mono ?_
      rintro e w1 ⟨rfl, G1⟩
      try (with_reducible replace G1 := Grew.undrawn G1)
      obtain ⟨c1, f1⟩ := G1.cells
      have z1 := G1.size
      try simp only [World.size_alloc, World.size_setCell, size_drewN] at z1
      replace G1 := hide G1
      have l1_w_0 : w.heap.size < w1.heap.size := by omega
      have l1_w_1 : w.heap.size + 1 < w1.heap.size := by omega
      go_wp2
      go_ret
      refine ⟨by first | exact ret_bool H.out.symm | exact ret_bool (by rw [H.out]; simp only [decide_eq_false_iff_not]; omega), ?_⟩
      repeat' (first | (with_reducible exact Grew.refl _) | (with_reducible refine Grew.setCell ?_ ?_ _) | (with_reducible refine Grew.drewN ?_ _) | (with_reducible refine Grew.alloc ?_ _) | (with_reducible refine Grew.trans ?_ G1.out) | (dsimp only; omega))
  · have h0 : (R.mk x y z h).ok = false := by simpa using h0
    have H : Hid ((R.mk x y z h).has px py = false) := by simp [Hid, R.has, h0]
    go_enter Try.func15, Try.ntmps15
    go_wp2_with fail
    refine ((V _).out).mono ?_
    rintro e w1 ⟨rfl, G1⟩
    try (with_reducible replace G1 := Grew.undrawn G1)
    obtain ⟨c1, f1⟩ := G1.cells
    have z1 := G1.size
    try simp only [World.size_alloc, World.size_setCell, size_drewN] at z1
    replace G1 := hide G1
    have l1_w_0 : w.heap.size < w1.heap.size := by omega
    have l1_w_1 : w.heap.size + 1 < w1.heap.size := by omega
    go_wp2
    go_ret
    refine ⟨ret_bool H.out.symm, ?_⟩
    repeat' (first | (with_reducible exact Grew.refl _) | (with_reducible refine Grew.setCell ?_ ?_ _) | (with_reducible refine Grew.drewN ?_ _) | (with_reducible refine Grew.alloc ?_ _) | (with_reducible refine Grew.trans ?_ G1.out) | (dsimp only; omega))

set_option maxHeartbeats 4000000 in
theorem valid_any (r : R) (w : World) :
    Calls Try.prog 38 #[r.v] w fun e w' => e = .returned r.kept.v ∧ Grew w w' := by
  have V := fun W => hide (ValidRect_any r W)
  obtain ⟨x, y, z, h⟩ := r
  by_cases h0 : (R.mk x y z h).ok = true
  · have H : Hid ((R.mk x y z h).kept = ⟨x, y, z, h⟩) := by simp [Hid, R.kept, h0]
    go_enter Try.func38, Try.ntmps38
    go_wp2_with fail
    refine ((V _).out).mono ?_
    rintro e w1 ⟨rfl, G1⟩
    try (with_reducible replace G1 := Grew.undrawn G1)
    obtain ⟨c1, f1⟩ := G1.cells
    have z1 := G1.size
    try simp only [World.size_alloc, World.size_setCell, size_drewN] at z1
    replace G1 := hide G1
    have l1_w_0 : w.heap.size < w1.heap.size := by omega
    have l1_w_1 : w.heap.size + 1 < w1.heap.size := by omega
    go_wp2
    rw [H.out]
    refine bodyPost_ret (v := R.v ⟨x, y, z, h⟩) (by simp [results, Try.results38, go_sem, R.zero, c1, l1_w_0, l1_w_1]) rfl ⟨rfl, ?_⟩
    repeat' (first | (with_reducible exact Grew.refl _) | (with_reducible refine Grew.setCell ?_ ?_ _) | (with_reducible refine Grew.drewN ?_ _) | (with_reducible refine Grew.alloc ?_ _) | (with_reducible refine Grew.trans ?_ G1.out) | (dsimp only; omega))
  · have h0 : (R.mk x y z h).ok = false := by simpa using h0
    have H : Hid ((R.mk x y z h).kept = R.zero) := by simp [Hid, R.kept, h0]
    go_enter Try.func38, Try.ntmps38
    go_wp2_with fail
    refine ((V _).out).mono ?_
    rintro e w1 ⟨rfl, G1⟩
    try (with_reducible replace G1 := Grew.undrawn G1)
    obtain ⟨c1, f1⟩ := G1.cells
    have z1 := G1.size
    try simp only [World.size_alloc, World.size_setCell, size_drewN] at z1
    replace G1 := hide G1
    have l1_w_0 : w.heap.size < w1.heap.size := by omega
    have l1_w_1 : w.heap.size + 1 < w1.heap.size := by omega
    go_wp2
    rw [H.out]
    refine bodyPost_ret (v := R.zero.v) (by simp [results, Try.results38, go_sem, R.zero, c1, l1_w_0, l1_w_1]) rfl ⟨rfl, ?_⟩
    repeat' (first | (with_reducible exact Grew.refl _) | (with_reducible refine Grew.setCell ?_ ?_ _) | (with_reducible refine Grew.drewN ?_ _) | (with_reducible refine Grew.alloc ?_ _) | (with_reducible refine Grew.trans ?_ G1.out) | (dsimp only; omega))
end Go.Proofs.Ythldilikkogaoaa
