/- What ValidTransform, ValidPoint, corner and Floor of the references return; conditions: corner's transform is valid and its coordinates in range; Floor's divisor is from 1 to 16. -/
import Derived.Test.YthldilikkogaoaaGtC
import Derived.Test.YthldilikkogaoaaGrA
namespace Go.Proofs.Ythldilikkogaoaa
open Go.RowKit Go.Sort
set_option linter.unusedSimpArgs false
set_option linter.unusedVariables false

theorem chain6b (p q r s : Prop) (a b : Bool) : (p ∧ q ∧ r ∧ s ∧ a = true ∧ b = true) ∨ ¬ p ∨ (p ∧ ¬ q) ∨ (p ∧ q ∧ ¬ r) ∨ (p ∧ q ∧ r ∧ ¬ s) ∨ (p ∧ q ∧ r ∧ s ∧ a = false) ∨ (p ∧ q ∧ r ∧ s ∧ a = true ∧ b = false) := by
  cases a <;> cases b <;> by_cases p <;> by_cases q <;> by_cases r <;> by_cases s <;> simp_all

set_option maxHeartbeats 4000000 in
theorem ValidTransform_any (t : T) (w : World) :
    Calls Try.prog 28 #[t.v] w fun e w' => e = .returned (.bool t.ok) ∧ Grew w w' := by
  obtain ⟨k, m, s, x, y⟩ := t
  have H0 : Hid ((T.mk k m s x y).ok = (inB k 0 3 && inB s 1 16 && nearB x && nearB y)) := rfl
  have W0 : ∀ (t : Int) W, Calls Try.prog 36 #[.int .i64 t, .int .i64 1048576] W fun e w' => e = .returned (.bool (nearB t)) ∧ W = w' := fun t W => rwithin_any t 1048576 W (by omega) (by omega)
  have W := fun t W' => hide (W0 t W')
  clear W0
  rcases chain6b (0 ≤ k) (k ≤ 3) (1 ≤ s) (s ≤ 16) (nearB x) (nearB y) with hc | hc | hc | hc | hc | hc | hc
  · obtain ⟨k1, k2, k3, k4, k5, k6⟩ := hc
    have H : Hid ((T.mk k m s x y).ok = true) := by rw [Hid, H0.out, k5, k6, inB_iff.2 ⟨k1, k2⟩, inB_iff.2 ⟨k3, k4⟩]; rfl
    go_enter Try.func28, Try.ntmps28
    go_wp2_with fail
    refine ((W x _).out).mono ?_
    rintro e _ ⟨rfl, rfl⟩
    go_wp2_with fail
    refine ((W y _).out).mono ?_
    rintro e _ ⟨rfl, rfl⟩
    go_wp2
    go_ret
    refine ⟨ret_bool H.out.symm, ?_⟩
    repeat' (first | (with_reducible exact Grew.refl _) | (with_reducible refine Grew.setCell ?_ ?_ _) | (with_reducible refine Grew.drewN ?_ _) | (with_reducible refine Grew.alloc ?_ _) | (dsimp only; omega))
  · have k1 := hc
    clear hc
    have H : Hid ((T.mk k m s x y).ok = false) := by
      have : inB k 0 3 = false := by cases e : inB k 0 3 with
        | false => rfl
        | true => have := inB_iff.1 e; omega
      rw [Hid, H0.out, this]; simp
    go_enter Try.func28, Try.ntmps28
    go_wp2
    go_ret
    refine ⟨by first | exact ret_bool H.out.symm | exact ret_bool (by rw [H.out]; simp only [decide_eq_false_iff_not]; omega), ?_⟩
    repeat' (first | (with_reducible exact Grew.refl _) | (with_reducible refine Grew.setCell ?_ ?_ _) | (with_reducible refine Grew.drewN ?_ _) | (with_reducible refine Grew.alloc ?_ _) | (dsimp only; omega))
  · obtain ⟨k1, k2⟩ := hc
    have H : Hid ((T.mk k m s x y).ok = false) := by
      have : inB k 0 3 = false := by cases e : inB k 0 3 with
        | false => rfl
        | true => have := inB_iff.1 e; omega
      rw [Hid, H0.out, this]; simp
    go_enter Try.func28, Try.ntmps28
    go_wp2
    go_ret
    refine ⟨by first | exact ret_bool H.out.symm | exact ret_bool (by rw [H.out]; simp only [decide_eq_false_iff_not]; omega), ?_⟩
    repeat' (first | (with_reducible exact Grew.refl _) | (with_reducible refine Grew.setCell ?_ ?_ _) | (with_reducible refine Grew.drewN ?_ _) | (with_reducible refine Grew.alloc ?_ _) | (dsimp only; omega))
  · obtain ⟨k1, k2, k3⟩ := hc
    have H : Hid ((T.mk k m s x y).ok = false) := by
      have : inB s 1 16 = false := by cases e : inB s 1 16 with
        | false => rfl
        | true => have := inB_iff.1 e; omega
      rw [Hid, H0.out, this]; simp
    go_enter Try.func28, Try.ntmps28
    go_wp2
    go_ret
    refine ⟨by first | exact ret_bool H.out.symm | exact ret_bool (by rw [H.out]; simp only [decide_eq_false_iff_not]; omega), ?_⟩
    repeat' (first | (with_reducible exact Grew.refl _) | (with_reducible refine Grew.setCell ?_ ?_ _) | (with_reducible refine Grew.drewN ?_ _) | (with_reducible refine Grew.alloc ?_ _) | (dsimp only; omega))
  · obtain ⟨k1, k2, k3, k4⟩ := hc
    have H : Hid ((T.mk k m s x y).ok = false) := by
      have : inB s 1 16 = false := by cases e : inB s 1 16 with
        | false => rfl
        | true => have := inB_iff.1 e; omega
      rw [Hid, H0.out, this]; simp
    go_enter Try.func28, Try.ntmps28
    go_wp2
    go_ret
    refine ⟨by first | exact ret_bool H.out.symm | exact ret_bool (by rw [H.out]; simp only [decide_eq_false_iff_not]; omega), ?_⟩
    repeat' (first | (with_reducible exact Grew.refl _) | (with_reducible refine Grew.setCell ?_ ?_ _) | (with_reducible refine Grew.drewN ?_ _) | (with_reducible refine Grew.alloc ?_ _) | (dsimp only; omega))
  · obtain ⟨k1, k2, k3, k4, k5⟩ := hc
    have H : Hid ((T.mk k m s x y).ok = false) := by rw [Hid, H0.out, k5]; simp
    go_enter Try.func28, Try.ntmps28
    go_wp2_with fail
    refine ((W x _).out).mono ?_
    rintro e _ ⟨rfl, rfl⟩
    go_wp2
    go_ret
    refine ⟨by first | exact ret_bool H.out.symm | exact ret_bool (by rw [H.out]; simp only [decide_eq_false_iff_not]; omega), ?_⟩
    repeat' (first | (with_reducible exact Grew.refl _) | (with_reducible refine Grew.setCell ?_ ?_ _) | (with_reducible refine Grew.drewN ?_ _) | (with_reducible refine Grew.alloc ?_ _) | (dsimp only; omega))
  · obtain ⟨k1, k2, k3, k4, k5, k6⟩ := hc
    have H : Hid ((T.mk k m s x y).ok = false) := by rw [Hid, H0.out, k6]; simp
    go_enter Try.func28, Try.ntmps28
    go_wp2_with fail
    refine ((W x _).out).mono ?_
    rintro e _ ⟨rfl, rfl⟩
    go_wp2_with fail
    refine ((W y _).out).mono ?_
    rintro e _ ⟨rfl, rfl⟩
    go_wp2
    go_ret
    refine ⟨by first | exact ret_bool H.out.symm | exact ret_bool (by rw [H.out]; simp only [decide_eq_false_iff_not]; omega), ?_⟩
    repeat' (first | (with_reducible exact Grew.refl _) | (with_reducible refine Grew.setCell ?_ ?_ _) | (with_reducible refine Grew.drewN ?_ _) | (with_reducible refine Grew.alloc ?_ _) | (dsimp only; omega))

set_option maxHeartbeats 4000000 in
theorem ValidPoint_any (p : Pt) (w : World) :
    Calls Try.prog 44 #[p.v] w fun e w' => e = .returned (.bool (reachB p.x && reachB p.y)) ∧ Grew w w' := by
  obtain ⟨x, y⟩ := p
  have W0 : ∀ (t : Int) W, Calls Try.prog 36 #[.int .i64 t, .int .i64 2097152] W fun e w' => e = .returned (.bool (reachB t)) ∧ W = w' := fun t W => rwithin_any t 2097152 W (by omega) (by omega)
  have W := fun t W' => hide (W0 t W')
  clear W0
  cases c : reachB x with
  | true =>
    have H : Hid ((reachB x && reachB y) = reachB y) := by rw [Hid, c]; rfl
    go_enter Try.func44, Try.ntmps44
    go_wp2_with fail
    refine ((W x _).out).mono ?_
    rintro e _ ⟨rfl, rfl⟩
    go_wp2_with fail
    refine ((W y _).out).mono ?_
    rintro e _ ⟨rfl, rfl⟩
    go_wp2
    go_ret
    refine ⟨rfl, ?_⟩
    repeat' (first | (with_reducible exact Grew.refl _) | (with_reducible refine Grew.setCell ?_ ?_ _) | (with_reducible refine Grew.drewN ?_ _) | (with_reducible refine Grew.alloc ?_ _) | (dsimp only; omega))
  | false =>
    go_enter Try.func44, Try.ntmps44
    go_wp2_with fail
    refine ((W x _).out).mono ?_
    rintro e _ ⟨rfl, rfl⟩
    go_wp2
    go_ret
    refine ⟨rfl, ?_⟩
    repeat' (first | (with_reducible exact Grew.refl _) | (with_reducible refine Grew.setCell ?_ ?_ _) | (with_reducible refine Grew.drewN ?_ _) | (with_reducible refine Grew.alloc ?_ _) | (dsimp only; omega))

set_option maxHeartbeats 4000000 in
theorem corner_any (t : T) (x y : Int) (w : World) (h : t.ok = true) (hx1 : -16777216 ≤ x) (hx2 : x ≤ 16777216) (hy1 : -16777216 ≤ y) (hy2 : y ≤ 16777216) :
    Calls Try.prog 41 #[t.v, .int .i64 x, .int .i64 y] w fun e w' => e = .returned (.tuple #[.int .i64 (t.imx x y), .int .i64 (t.imy x y)]) ∧ Grew w w' := by
  obtain ⟨k, m, s, dx, dy⟩ := t
  obtain ⟨h1, ⟨s1, s2⟩, ⟨d1, d2⟩, d3, d4⟩ := T.bounds h
  simp only at h1 s1 s2 d1 d2 d3 d4
  clear h
  obtain ⟨p1, p2⟩ := mul_bd hx1 hx2 s1 s2
  obtain ⟨p3, p4⟩ := mul_bd hy1 hy2 s1 s2
  obtain ⟨p5, p6⟩ := mul_bd (show -16777216 ≤ -x by omega) (show -x ≤ 16777216 by omega) s1 s2
  obtain ⟨p7, p8⟩ := mul_bd (show -16777216 ≤ -y by omega) (show -y ≤ 16777216 by omega) s1 s2
  cases m <;> rcases four h1 with rfl | rfl | rfl | rfl
  · have H1 : Hid ((T.mk 0 false s dx dy).imx x y = x * s + dx) := by simp [Hid, T.imx, rx, mir]
    have H2 : Hid ((T.mk 0 false s dx dy).imy x y = y * s + dy) := by simp [Hid, T.imy, ry, mir]
    clear h1
    go_enter Try.func41, Try.ntmps41
    go_wp2_with fail
    refine wp_loop_rounds 1 ?_
    rw [rounds_succ]
    go_wp2_with fail
    go_quiet (fail)
    go_wp2
    go_ret2
    rw [H1.out, H2.out]
    refine ⟨rfl, ?_⟩
    repeat' (first | (with_reducible exact Grew.refl _) | (with_reducible refine Grew.setCell ?_ ?_ _) | (with_reducible refine Grew.drewN ?_ _) | (with_reducible refine Grew.alloc ?_ _) | (dsimp only; omega))
  · have H1 : Hid ((T.mk 1 false s dx dy).imx x y = -y * s + dx) := by simp [Hid, T.imx, rx, mir]
    have H2 : Hid ((T.mk 1 false s dx dy).imy x y = x * s + dy) := by simp [Hid, T.imy, ry, mir]
    clear h1
    go_enter Try.func41, Try.ntmps41
    go_wp2_with fail
    refine wp_loop_rounds 2 ?_
    rw [rounds_succ]
    go_wp2_with fail
    rw [rounds_succ]
    go_wp2_with fail
    go_quiet (fail)
    go_wp2
    go_ret2
    rw [H1.out, H2.out]
    refine ⟨rfl, ?_⟩
    repeat' (first | (with_reducible exact Grew.refl _) | (with_reducible refine Grew.setCell ?_ ?_ _) | (with_reducible refine Grew.drewN ?_ _) | (with_reducible refine Grew.alloc ?_ _) | (dsimp only; omega))
  · have H1 : Hid ((T.mk 2 false s dx dy).imx x y = -x * s + dx) := by simp [Hid, T.imx, rx, mir]
    have H2 : Hid ((T.mk 2 false s dx dy).imy x y = -y * s + dy) := by simp [Hid, T.imy, ry, mir]
    clear h1
    go_enter Try.func41, Try.ntmps41
    go_wp2_with fail
    refine wp_loop_rounds 3 ?_
    rw [rounds_succ]
    go_wp2_with fail
    rw [rounds_succ]
    go_wp2_with fail
    rw [rounds_succ]
    go_wp2_with fail
    go_quiet (fail)
    go_wp2
    go_ret2
    rw [H1.out, H2.out]
    refine ⟨rfl, ?_⟩
    repeat' (first | (with_reducible exact Grew.refl _) | (with_reducible refine Grew.setCell ?_ ?_ _) | (with_reducible refine Grew.drewN ?_ _) | (with_reducible refine Grew.alloc ?_ _) | (dsimp only; omega))
  · have H1 : Hid ((T.mk 3 false s dx dy).imx x y = y * s + dx) := by simp [Hid, T.imx, rx, mir]
    have H2 : Hid ((T.mk 3 false s dx dy).imy x y = -x * s + dy) := by simp [Hid, T.imy, ry, mir]
    clear h1
    go_enter Try.func41, Try.ntmps41
    go_wp2_with fail
    refine wp_loop_rounds 4 ?_
    rw [rounds_succ]
    go_wp2_with fail
    rw [rounds_succ]
    go_wp2_with fail
    rw [rounds_succ]
    go_wp2_with fail
    rw [rounds_succ]
    go_wp2_with fail
    go_quiet (fail)
    go_wp2
    go_ret2
    rw [H1.out, H2.out]
    refine ⟨rfl, ?_⟩
    repeat' (first | (with_reducible exact Grew.refl _) | (with_reducible refine Grew.setCell ?_ ?_ _) | (with_reducible refine Grew.drewN ?_ _) | (with_reducible refine Grew.alloc ?_ _) | (dsimp only; omega))
  · have H1 : Hid ((T.mk 0 true s dx dy).imx x y = -x * s + dx) := by simp [Hid, T.imx, rx, mir]
    have H2 : Hid ((T.mk 0 true s dx dy).imy x y = y * s + dy) := by simp [Hid, T.imy, ry, mir]
    clear h1
    go_enter Try.func41, Try.ntmps41
    go_wp2_with fail
    refine wp_loop_rounds 1 ?_
    rw [rounds_succ]
    go_wp2_with fail
    go_quiet (fail)
    go_wp2
    go_ret2
    rw [H1.out, H2.out]
    refine ⟨rfl, ?_⟩
    repeat' (first | (with_reducible exact Grew.refl _) | (with_reducible refine Grew.setCell ?_ ?_ _) | (with_reducible refine Grew.drewN ?_ _) | (with_reducible refine Grew.alloc ?_ _) | (dsimp only; omega))
  · have H1 : Hid ((T.mk 1 true s dx dy).imx x y = -y * s + dx) := by simp [Hid, T.imx, rx, mir]
    have H2 : Hid ((T.mk 1 true s dx dy).imy x y = -x * s + dy) := by simp [Hid, T.imy, ry, mir]
    clear h1
    go_enter Try.func41, Try.ntmps41
    go_wp2_with fail
    refine wp_loop_rounds 2 ?_
    rw [rounds_succ]
    go_wp2_with fail
    rw [rounds_succ]
    go_wp2_with fail
    go_quiet (fail)
    go_wp2
    go_ret2
    rw [H1.out, H2.out]
    refine ⟨rfl, ?_⟩
    repeat' (first | (with_reducible exact Grew.refl _) | (with_reducible refine Grew.setCell ?_ ?_ _) | (with_reducible refine Grew.drewN ?_ _) | (with_reducible refine Grew.alloc ?_ _) | (dsimp only; omega))
  · have H1 : Hid ((T.mk 2 true s dx dy).imx x y = x * s + dx) := by simp [Hid, T.imx, rx, mir]
    have H2 : Hid ((T.mk 2 true s dx dy).imy x y = -y * s + dy) := by simp [Hid, T.imy, ry, mir]
    clear h1
    go_enter Try.func41, Try.ntmps41
    go_wp2_with fail
    refine wp_loop_rounds 3 ?_
    rw [rounds_succ]
    go_wp2_with fail
    rw [rounds_succ]
    go_wp2_with fail
    rw [rounds_succ]
    go_wp2_with fail
    go_quiet (fail)
    go_wp2
    go_ret2
    rw [H1.out, H2.out]
    refine ⟨rfl, ?_⟩
    repeat' (first | (with_reducible exact Grew.refl _) | (with_reducible refine Grew.setCell ?_ ?_ _) | (with_reducible refine Grew.drewN ?_ _) | (with_reducible refine Grew.alloc ?_ _) | (dsimp only; omega))
  · have H1 : Hid ((T.mk 3 true s dx dy).imx x y = y * s + dx) := by simp [Hid, T.imx, rx, mir]
    have H2 : Hid ((T.mk 3 true s dx dy).imy x y = x * s + dy) := by simp [Hid, T.imy, ry, mir]
    clear h1
    go_enter Try.func41, Try.ntmps41
    go_wp2_with fail
    refine wp_loop_rounds 4 ?_
    rw [rounds_succ]
    go_wp2_with fail
    rw [rounds_succ]
    go_wp2_with fail
    rw [rounds_succ]
    go_wp2_with fail
    rw [rounds_succ]
    go_wp2_with fail
    go_quiet (fail)
    go_wp2
    go_ret2
    rw [H1.out, H2.out]
    refine ⟨rfl, ?_⟩
    repeat' (first | (with_reducible exact Grew.refl _) | (with_reducible refine Grew.setCell ?_ ?_ _) | (with_reducible refine Grew.drewN ?_ _) | (with_reducible refine Grew.alloc ?_ _) | (dsimp only; omega))

theorem floor_pos (a b : Int) (hb : 1 ≤ b) (h : 0 ≤ a) : a.tdiv b = a / b := Int.tdiv_eq_ediv_of_nonneg h
theorem floor_dvd (a b : Int) (hb : 1 ≤ b) (h : a.tmod b = 0) : a.tdiv b = a / b := by
  have e := Int.tdiv_eq_ediv (a := a) (b := b)
  have hd : b ∣ a := Int.dvd_of_tmod_eq_zero h
  rw [if_pos (.inr hd)] at e
  omega
theorem floor_neg (a b : Int) (hb : 1 ≤ b) (h : a < 0) (h0 : ¬ a.tmod b = 0) : a.tdiv b - 1 = a / b := by
  have e := Int.tdiv_eq_ediv (a := a) (b := b)
  have hd : ¬ b ∣ a := fun hd => h0 (Int.tmod_eq_zero_of_dvd hd)
  rw [if_neg (by omega), Int.sign_eq_one_of_pos (by omega)] at e
  omega
set_option maxHeartbeats 4000000 in
theorem Floor_any (a b : Int) (w : World) (h1 : 1 ≤ b) (h2 : b ≤ 16) (h3 : -16777216 ≤ a) (h4 : a ≤ 16777216) :
    Calls Try.prog 45 #[.int .i64 a, .int .i64 b] w fun e w' => e = .returned (.int .i64 (a / b)) ∧ Grew w w' := by
  have b1 := tm_bd a b h1 h2
  have b4 := div_bd a b h1 ⟨h3, h4⟩
  have e1 : IntKind.i64.wrap (a.tmod b) = a.tmod b := wr (by omega) (by omega)
  have e3 : IntKind.i64.wrap (a / b) = a / b := wr (by omega) (by omega)
  have hb0 : ¬ b = 0 := by omega
  have hb1 : (b == 0) = false := by simpa using hb0
  have hb2 : ¬ b < 0 := by omega
  by_cases c1 : a.tmod b = 0
  · have F := floor_dvd a b h1 c1
    have c2 : (a.tmod b != 0) = false := by simp [c1]
    clear c1
    go_enter Try.func45, Try.ntmps45
    go_wp2
    go_ret
    exact ⟨rfl, Grew.refl _⟩
  · have c2 : (a.tmod b != 0) = true := by simp [c1]
    by_cases c3 : a < 0
    · have F := floor_neg a b h1 c3 c1
      have b5 : -16777217 ≤ a.tdiv b ∧ a.tdiv b ≤ 16777217 := by omega
      have e4 : IntKind.i64.wrap (a.tdiv b) = a.tdiv b := wr (by omega) (by omega)
      have e5 : IntKind.i64.wrap (a.tdiv b - 1) = a.tdiv b - 1 := wr (by omega) (by omega)
      replace F := hide F
      clear c1
      go_enter Try.func45, Try.ntmps45
      go_wp2
      go_ret
      exact ⟨ret_int F.out, Grew.refl _⟩
    · have F := floor_pos a b h1 (by omega)
      clear c1
      go_enter Try.func45, Try.ntmps45
      go_wp2
      all_goals (go_ret; exact ⟨rfl, Grew.refl _⟩)
end Go.Proofs.Ythldilikkogaoaa
