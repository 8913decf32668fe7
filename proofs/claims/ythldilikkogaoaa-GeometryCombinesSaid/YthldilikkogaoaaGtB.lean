/- What stepOf and Apply of package geometry return; conditions of stepOf: the size is from 1 to 16, the number within 2^24. -/
import Derived.Test.YthldilikkogaoaaGtA
import Derived.Test.YthldilikkogaoaaGeUni
namespace Go.Proofs.Ythldilikkogaoaa
open Go.RowKit Go.Sort
set_option linter.unusedSimpArgs false
set_option linter.unusedVariables false

theorem rest_eq (x s : Int) (hs : 1 ≤ s) : (x.tmod s + s).tmod s = x % s := by
  have hr := Int.emod_nonneg x (show s ≠ 0 by omega)
  have hl := Int.emod_lt_of_pos x (show 0 < s by omega)
  have e := Int.tmod_eq_emod (a := x) (b := s)
  have hn : (s.natAbs : Int) = s := by omega
  by_cases c : 0 ≤ x ∨ s ∣ x
  · rw [if_pos c] at e
    have e' : x.tmod s = x % s := by omega
    rw [e', Int.tmod_eq_emod_of_nonneg (by omega)]
    simp [Int.add_emod_right]
  · rw [if_neg c, hn] at e
    rw [e, Int.sub_add_cancel, Int.tmod_eq_emod_of_nonneg hr]
    exact Int.emod_eq_of_lt hr hl
theorem step_eq (x s : Int) (hs : 1 ≤ s) : (x - x % s).tdiv s = x / s := by
  have h : x - x % s = s * (x / s) := by have := Int.emod_add_mul_ediv x s; omega
  rw [h, Int.mul_tdiv_cancel_left _ (by omega)]
theorem tm_bd (x s : Int) (h1 : 1 ≤ s) (h2 : s ≤ 16) : -16 ≤ x.tmod s ∧ x.tmod s ≤ 16 := by
  have hr := Int.emod_nonneg x (show s ≠ 0 by omega)
  have hl := Int.emod_lt_of_pos x (show 0 < s by omega)
  have e := Int.tmod_eq_emod (a := x) (b := s)
  split at e <;> omega
theorem div_bd (x s : Int) (h1 : 1 ≤ s) (h : -16777216 ≤ x ∧ x ≤ 16777216) : -16777216 ≤ x / s ∧ x / s ≤ 16777216 := by
  refine ⟨?_, ?_⟩
  · rw [Int.le_ediv_iff_mul_le (by omega)]
    have := Int.mul_le_mul_of_nonneg_left h1 (show (0 : Int) ≤ 16777216 by omega)
    omega
  · have := Int.ediv_le_ediv (c := s) (by omega) h.2
    have h2 := Int.ediv_le_self s (show (0 : Int) ≤ 16777216 by omega)
    omega

set_option maxHeartbeats 4000000 in
theorem stepOf_any (x s : Int) (w : World) (h1 : 1 ≤ s) (h2 : s ≤ 16) (h3 : -16777216 ≤ x) (h4 : x ≤ 16777216) :
    Calls Try.prog 43 #[.int .i64 x, .int .i64 s] w fun e w' => e = .returned (.int .i64 (x / s)) ∧ w = w' := by
  have b1 := tm_bd x s h1 h2
  have b2 := Int.emod_nonneg x (show s ≠ 0 by omega)
  have b3 := Int.emod_lt_of_pos x (show 0 < s by omega)
  have b4 := div_bd x s h1 ⟨h3, h4⟩
  have R := rest_eq x s h1
  have S := step_eq x s h1
  have e1 : IntKind.i64.wrap (x.tmod s) = x.tmod s := wr (by omega) (by omega)
  have e2 : IntKind.i64.wrap (x % s) = x % s := wr (by omega) (by omega)
  have e3 : IntKind.i64.wrap (x / s) = x / s := wr (by omega) (by omega)
  have e4 : IntKind.i64.wrap (x.tmod s + s) = x.tmod s + s := wr (by omega) (by omega)
  have e5 : IntKind.i64.wrap (x - x % s) = x - x % s := wr (by omega) (by omega)
  have hb0 : ¬ s = 0 := by omega
  have hb1 : (s == 0) = false := by simpa using hb0
  go_enter Try.func43, Try.ntmps43
  go_wp2
  go_ret
  exact ⟨rfl, rfl⟩

def T.apply (t : T) (r : R) : R := if t.ok && r.ok then
    ⟨min (t.imx r.x r.y) (t.imx (r.x + r.w) (r.y + r.h)), min (t.imy r.x r.y) (t.imy (r.x + r.w) (r.y + r.h)),
     max (t.imx r.x r.y) (t.imx (r.x + r.w) (r.y + r.h)) - min (t.imx r.x r.y) (t.imx (r.x + r.w) (r.y + r.h)),
     max (t.imy r.x r.y) (t.imy (r.x + r.w) (r.y + r.h)) - min (t.imy r.x r.y) (t.imy (r.x + r.w) (r.y + r.h))⟩ else R.zero

theorem rot_bd {k x y : Int} (h : -16777216 ≤ x ∧ x ≤ 16777216) (h' : -16777216 ≤ y ∧ y ≤ 16777216) : (-16777216 ≤ rx k x y ∧ rx k x y ≤ 16777216) ∧ (-16777216 ≤ ry k x y ∧ ry k x y ≤ 16777216) := by
  unfold rx ry; repeat' split
  all_goals omega
theorem T.im_bd {t : T} (h : t.ok = true) {x y : Int} (hx : -16777216 ≤ x ∧ x ≤ 16777216) (hy : -16777216 ≤ y ∧ y ≤ 16777216) :
    (-536870912 ≤ t.imx x y ∧ t.imx x y ≤ 536870912) ∧ (-536870912 ≤ t.imy x y ∧ t.imy x y ≤ 536870912) := by
  obtain ⟨_, ⟨s1, s2⟩, d1, d2⟩ := T.bounds h
  have hm : -16777216 ≤ mir t.mirror x ∧ mir t.mirror x ≤ 16777216 := by unfold mir; split <;> omega
  obtain ⟨q1, q2⟩ := rot_bd (k := t.turn) hm hy
  have p1 := mul_bd q1.1 q1.2 s1 s2
  have p2 := mul_bd q2.1 q2.2 s1 s2
  unfold T.imx T.imy
  omega

set_option maxHeartbeats 4000000 in
theorem Apply_any (t : T) (r : R) (w : World) :
    Calls Try.prog 29 #[t.v, r.v] w fun e w' => e = .returned (t.apply r).v ∧ Grew w w' := by
  by_cases c1 : t.ok = true
  · have V1 := fun W => hide (Check_ok t W c1)
    by_cases c2 : r.ok = true
    · have V2 := fun W => hide (Validate_ok r.x r.y r.w r.h W c2)
      obtain ⟨⟨b1, b2⟩, ⟨b3, b4⟩, ⟨b5, b6⟩, b7, b8⟩ := R.bounds c2
      have I1 := fun W => hide (image_any t r.x r.y W c1 (by omega) (by omega) (by omega) (by omega))
      have I2 := fun W => hide (image_any t (r.x + r.w) (r.y + r.h) W c1 (by omega) (by omega) (by omega) (by omega))
      obtain ⟨q1, q2⟩ := T.im_bd c1 (x := r.x) (y := r.y) (by omega) (by omega)
      obtain ⟨q3, q4⟩ := T.im_bd c1 (x := r.x + r.w) (y := r.y + r.h) (by omega) (by omega)
      have H : Hid (t.apply r = _) := if_pos (show (t.ok && r.ok) = true by rw [c1, c2]; rfl)
      clear c1 c2
      obtain ⟨k, m, s, dx, dy⟩ := t
      obtain ⟨x, y, z, h⟩ := r
      simp only at b1 b2 b3 b4 b5 b6 b7 b8 I1 I2 q1 q2 q3 q4 V1 V2 H
      generalize (T.mk k m s dx dy).imx x y = ax at I1 q1 H
      generalize (T.mk k m s dx dy).imy x y = ay at I1 q2 H
      generalize (T.mk k m s dx dy).imx (x + z) (y + h) = bx at I2 q3 H
      generalize (T.mk k m s dx dy).imy (x + z) (y + h) = bz at I2 q4 H
      have m1 := min_if ax bx
      have m2 := min_if ay bz
      have m3 := max_if ax bx
      have m4 := max_if ay bz
      have v1 : -536870912 ≤ min ax bx ∧ min ax bx ≤ 536870912 := by omega
      have v2 : -536870912 ≤ min ay bz ∧ min ay bz ≤ 536870912 := by omega
      have v3 : -536870912 ≤ max ax bx ∧ max ax bx ≤ 536870912 := by omega
      have v4 : -536870912 ≤ max ay bz ∧ max ay bz ≤ 536870912 := by omega
      generalize min ax bx = nx at m1 v1 H
      generalize min ay bz = ny at m2 v2 H
      generalize max ax bx = mx at m3 v3 H
      generalize max ay bz = my at m4 v4 H
      obtain ⟨v1, v1'⟩ := v1
      obtain ⟨v2, v2'⟩ := v2
      obtain ⟨v3, v3'⟩ := v3
      obtain ⟨v4, v4'⟩ := v4
      clear q1 q2 q3 q4
      go_enter Try.func29, Try.ntmps29
      go_wp2_with fail
      refine ((V1 _).out).mono ?_
      rintro e w1 ⟨rfl, G1⟩
      try (with_reducible replace G1 := Grew.undrawn G1)
      have B1_0 : Blk w1 (w.heap.size) 39 [.int .i64 k, .bool m, .int .i64 s, .int .i64 dx, .int .i64 dy] := Blk.grew (by (repeat' (first | (with_reducible assumption) | ((with_reducible refine Blk.new ?_); (first | (with_reducible rfl) | (simp only [World.size_alloc, World.size_setCell, size_drewN]; done))) | (with_reducible refine Blk.alloc ?_ _) | (with_reducible refine Blk.drewN ?_ _) | (with_reducible refine Blk.drew ?_) | (refine Blk.other ?_ (by omega) _) | fail))) G1
      have B1_1 : Blk w1 (w.heap.size + 1) 23 [.int .i64 x, .int .i64 y, .int .i64 z, .int .i64 h] := Blk.grew (by (repeat' (first | (with_reducible assumption) | ((with_reducible refine Blk.new ?_); (first | (with_reducible rfl) | (simp only [World.size_alloc, World.size_setCell, size_drewN]; done))) | (with_reducible refine Blk.alloc ?_ _) | (with_reducible refine Blk.drewN ?_ _) | (with_reducible refine Blk.drew ?_) | (refine Blk.other ?_ (by omega) _) | fail))) G1
      have B1_2 : Blk w1 (w.heap.size + 1 + 1) 23 [.int .i64 0, .int .i64 0, .int .i64 0, .int .i64 0] := Blk.grew (by (repeat' (first | (with_reducible assumption) | ((with_reducible refine Blk.new ?_); (first | (with_reducible rfl) | (simp only [World.size_alloc, World.size_setCell, size_drewN]; done))) | (with_reducible refine Blk.alloc ?_ _) | (with_reducible refine Blk.drewN ?_ _) | (with_reducible refine Blk.drew ?_) | (refine Blk.other ?_ (by omega) _) | fail))) G1
      have z1 := G1.size
      try simp only [World.size_alloc, World.size_setCell, size_drewN] at z1
      replace G1 := hide G1
      have t1_0 := B1_0.lt
      have d1_0_0 := B1_0.cell 0 rfl
      have e1_0_0 := B1_0.free 0
      have d1_0_1 := B1_0.cell 1 rfl
      have e1_0_1 := B1_0.free 1
      have d1_0_2 := B1_0.cell 2 rfl
      have e1_0_2 := B1_0.free 2
      have d1_0_3 := B1_0.cell 3 rfl
      have e1_0_3 := B1_0.free 3
      have d1_0_4 := B1_0.cell 4 rfl
      have e1_0_4 := B1_0.free 4
      have t1_1 := B1_1.lt
      have d1_1_0 := B1_1.cell 0 rfl
      have e1_1_0 := B1_1.free 0
      have d1_1_1 := B1_1.cell 1 rfl
      have e1_1_1 := B1_1.free 1
      have d1_1_2 := B1_1.cell 2 rfl
      have e1_1_2 := B1_1.free 2
      have d1_1_3 := B1_1.cell 3 rfl
      have e1_1_3 := B1_1.free 3
      have t1_2 := B1_2.lt
      have d1_2_0 := B1_2.cell 0 rfl
      have e1_2_0 := B1_2.free 0
      have d1_2_1 := B1_2.cell 1 rfl
      have e1_2_1 := B1_2.free 1
      have d1_2_2 := B1_2.cell 2 rfl
      have e1_2_2 := B1_2.free 2
      have d1_2_3 := B1_2.cell 3 rfl
      have e1_2_3 := B1_2.free 3
      go_wp2_with fail
      refine ((V2 _).out).mono ?_
      rintro e w2 ⟨rfl, G2⟩
      try (with_reducible replace G2 := Grew.undrawn G2)
      have B2_0 : Blk w2 (w.heap.size) 39 [.int .i64 k, .bool m, .int .i64 s, .int .i64 dx, .int .i64 dy] := Blk.grew (by (repeat' (first | (with_reducible assumption) | ((with_reducible refine Blk.new ?_); (first | (with_reducible rfl) | (simp only [World.size_alloc, World.size_setCell, size_drewN]; done))) | (with_reducible refine Blk.alloc ?_ _) | (with_reducible refine Blk.drewN ?_ _) | (with_reducible refine Blk.drew ?_) | (refine Blk.other ?_ (by omega) _) | fail))) G2
      have B2_1 : Blk w2 (w.heap.size + 1) 23 [.int .i64 x, .int .i64 y, .int .i64 z, .int .i64 h] := Blk.grew (by (repeat' (first | (with_reducible assumption) | ((with_reducible refine Blk.new ?_); (first | (with_reducible rfl) | (simp only [World.size_alloc, World.size_setCell, size_drewN]; done))) | (with_reducible refine Blk.alloc ?_ _) | (with_reducible refine Blk.drewN ?_ _) | (with_reducible refine Blk.drew ?_) | (refine Blk.other ?_ (by omega) _) | fail))) G2
      have B2_2 : Blk w2 (w.heap.size + 1 + 1) 23 [.int .i64 0, .int .i64 0, .int .i64 0, .int .i64 0] := Blk.grew (by (repeat' (first | (with_reducible assumption) | ((with_reducible refine Blk.new ?_); (first | (with_reducible rfl) | (simp only [World.size_alloc, World.size_setCell, size_drewN]; done))) | (with_reducible refine Blk.alloc ?_ _) | (with_reducible refine Blk.drewN ?_ _) | (with_reducible refine Blk.drew ?_) | (refine Blk.other ?_ (by omega) _) | fail))) G2
      have z2 := G2.size
      try simp only [World.size_alloc, World.size_setCell, size_drewN] at z2
      replace G2 := hide G2
      have t2_0 := B2_0.lt
      have d2_0_0 := B2_0.cell 0 rfl
      have e2_0_0 := B2_0.free 0
      have d2_0_1 := B2_0.cell 1 rfl
      have e2_0_1 := B2_0.free 1
      have d2_0_2 := B2_0.cell 2 rfl
      have e2_0_2 := B2_0.free 2
      have d2_0_3 := B2_0.cell 3 rfl
      have e2_0_3 := B2_0.free 3
      have d2_0_4 := B2_0.cell 4 rfl
      have e2_0_4 := B2_0.free 4
      have t2_1 := B2_1.lt
      have d2_1_0 := B2_1.cell 0 rfl
      have e2_1_0 := B2_1.free 0
      have d2_1_1 := B2_1.cell 1 rfl
      have e2_1_1 := B2_1.free 1
      have d2_1_2 := B2_1.cell 2 rfl
      have e2_1_2 := B2_1.free 2
      have d2_1_3 := B2_1.cell 3 rfl
      have e2_1_3 := B2_1.free 3
      have t2_2 := B2_2.lt
      have d2_2_0 := B2_2.cell 0 rfl
      have e2_2_0 := B2_2.free 0
      have d2_2_1 := B2_2.cell 1 rfl
      have e2_2_1 := B2_2.free 1
      have d2_2_2 := B2_2.cell 2 rfl
      have e2_2_2 := B2_2.free 2
      have d2_2_3 := B2_2.cell 3 rfl
      have e2_2_3 := B2_2.free 3
      go_wp2_with fail
      have wr2_0 : IntKind.i64.wrap (x + z) = x + z := wr (by omega) (by omega)
      have wr2_1 : IntKind.i64.wrap (y + h) = y + h := wr (by omega) (by omega)
      have g2_0_0 := fun m os => (B2_0.grow m os).cell 0 rfl
      have g2_0_1 := fun m os => (B2_0.grow m os).cell 1 rfl
      have g2_0_2 := fun m os => (B2_0.grow m os).cell 2 rfl
      have g2_0_3 := fun m os => (B2_0.grow m os).cell 3 rfl
      have g2_0_4 := fun m os => (B2_0.grow m os).cell 4 rfl
      have g2_1_0 := fun m os => (B2_1.grow m os).cell 0 rfl
      have g2_1_1 := fun m os => (B2_1.grow m os).cell 1 rfl
      have g2_1_2 := fun m os => (B2_1.grow m os).cell 2 rfl
      have g2_1_3 := fun m os => (B2_1.grow m os).cell 3 rfl
      have g2_2_0 := fun m os => (B2_2.grow m os).cell 0 rfl
      have g2_2_1 := fun m os => (B2_2.grow m os).cell 1 rfl
      have g2_2_2 := fun m os => (B2_2.grow m os).cell 2 rfl
      have g2_2_3 := fun m os => (B2_2.grow m os).cell 3 rfl
      refine wp_region_made [⟨20, 22, 5, 25, [.int .i64 0, .int .i64 0], [.int .i64 ax, .int .i64 ay]⟩, ⟨21, 23, 6, 25, [.int .i64 0, .int .i64 0], [.int .i64 bx, .int .i64 bz]⟩] (by kernel_rfl) (by kernel_rfl) (by simp [madeSlots]) ?_
      repeat (first | (refine lex_skip rfl (by rfl) ?_) | (refine lex_calm rfl (by rfl) (fun K hK => ?_); go_simp; first | (refine hK _ ?_; clear hK K) | (apply Exists.intro; refine ⟨fun _ _ => ?_, hK _ ?_⟩; (first | (with_reducible exact (I1 _).out) | (with_reducible exact (I2 _).out)); clear hK K)))
      refine lex_alloc (m := ⟨20, 22, 5, 25, [.int .i64 0, .int .i64 0], [.int .i64 ax, .int .i64 ay]⟩) (by kernel_rfl) (by simp) (by rfl) rfl ?_ ?_
      · intro ev w
        go_simp
      repeat (first | (refine lex_skip rfl (by rfl) ?_) | (refine lex_calm rfl (by rfl) (fun K hK => ?_); go_simp; first | (refine hK _ ?_; clear hK K) | (apply Exists.intro; refine ⟨fun _ _ => ?_, hK _ ?_⟩; (first | (with_reducible exact (I1 _).out) | (with_reducible exact (I2 _).out)); clear hK K)))
      refine lex_alloc (m := ⟨21, 23, 6, 25, [.int .i64 0, .int .i64 0], [.int .i64 bx, .int .i64 bz]⟩) (by kernel_rfl) (by simp) (by rfl) rfl ?_ ?_
      · intro ev w
        go_simp
      repeat (first | (refine lex_skip rfl (by rfl) ?_) | (refine lex_calm rfl (by rfl) (fun K hK => ?_); go_simp; first | (refine hK _ ?_; clear hK K) | (apply Exists.intro; refine ⟨fun _ _ => ?_, hK _ ?_⟩; (first | (with_reducible exact (I1 _).out) | (with_reducible exact (I2 _).out)); clear hK K)))
      refine lex_store (m := ⟨20, 22, 5, 25, [.int .i64 0, .int .i64 0], [.int .i64 ax, .int .i64 ay]⟩) (by kernel_rfl) (by simp) (by rfl) rfl ?_ ?_
      · intro vs w b hv hB
        have d0 := hB.cell 0 rfl
        have e0 := hB.free 0
        have d1 := hB.cell 1 rfl
        have e1 := hB.free 1
        simp only [] at hv
        simp [go_sem, evS, madeSlots, List.lookup, setAll, *]
      repeat (first | (refine lex_skip rfl (by rfl) ?_) | (refine lex_calm rfl (by rfl) (fun K hK => ?_); go_simp; first | (refine hK _ ?_; clear hK K) | (apply Exists.intro; refine ⟨fun _ _ => ?_, hK _ ?_⟩; (first | (with_reducible exact (I1 _).out) | (with_reducible exact (I2 _).out)); clear hK K)))
      refine lex_store (m := ⟨21, 23, 6, 25, [.int .i64 0, .int .i64 0], [.int .i64 bx, .int .i64 bz]⟩) (by kernel_rfl) (by simp) (by rfl) rfl ?_ ?_
      · intro vs w b hv hB
        have d0 := hB.cell 0 rfl
        have e0 := hB.free 0
        have d1 := hB.cell 1 rfl
        have e1 := hB.free 1
        simp only [] at hv
        simp [go_sem, evS, madeSlots, List.lookup, setAll, *]
      repeat (first | (refine lex_skip rfl (by rfl) ?_) | (refine lex_calm rfl (by rfl) (fun K hK => ?_); go_simp; first | (refine hK _ ?_; clear hK K) | (apply Exists.intro; refine ⟨fun _ _ => ?_, hK _ ?_⟩; (first | (with_reducible exact (I1 _).out) | (with_reducible exact (I2 _).out)); clear hK K)))
      refine lex_nil ?_
      rintro vs w3 ⟨G3, hb, hne⟩
      obtain ⟨b3_0, hv0, s3_0, K3_0⟩ := hb ⟨20, 22, 5, 25, [.int .i64 0, .int .i64 0], [.int .i64 ax, .int .i64 ay]⟩ (by simp) rfl
      obtain ⟨b3_1, hv1, s3_1, K3_1⟩ := hb ⟨21, 23, 6, 25, [.int .i64 0, .int .i64 0], [.int .i64 bx, .int .i64 bz]⟩ (by simp) rfl
      have hn3_0_1 : b3_0 ≠ b3_1 := fun e => hne ⟨20, 22, 5, 25, [.int .i64 0, .int .i64 0], [.int .i64 ax, .int .i64 ay]⟩ (by simp) ⟨21, 23, 6, 25, [.int .i64 0, .int .i64 0], [.int .i64 bx, .int .i64 bz]⟩ (by simp) (by show (20 : Nat) ≠ 21; decide) rfl rfl (hv0.trans (e ▸ hv1.symm))
      simp only [fillS, madeSlots, List.map_cons, List.map_nil, List.foldl_cons, List.foldl_nil, hv0, hv1]
      clear hb hne hv0 hv1 vs
      have B3_0 : Blk w3 (w.heap.size) 39 [.int .i64 k, .bool m, .int .i64 s, .int .i64 dx, .int .i64 dy] := B2_0.grew G3
      have B3_1 : Blk w3 (w.heap.size + 1) 23 [.int .i64 x, .int .i64 y, .int .i64 z, .int .i64 h] := B2_1.grew G3
      have B3_2 : Blk w3 (w.heap.size + 1 + 1) 23 [.int .i64 0, .int .i64 0, .int .i64 0, .int .i64 0] := B2_2.grew G3
      have B3_3 : Blk w3 b3_0 25 [.int .i64 ax, .int .i64 ay] := K3_0
      have B3_4 : Blk w3 b3_1 25 [.int .i64 bx, .int .i64 bz] := K3_1
      clear K3_0 K3_1
      have z3 := G3.size
      replace G3 := hide G3
      have t3_0 := B3_0.lt
      have d3_0_0 := B3_0.cell 0 rfl
      have e3_0_0 := B3_0.free 0
      have d3_0_1 := B3_0.cell 1 rfl
      have e3_0_1 := B3_0.free 1
      have d3_0_2 := B3_0.cell 2 rfl
      have e3_0_2 := B3_0.free 2
      have d3_0_3 := B3_0.cell 3 rfl
      have e3_0_3 := B3_0.free 3
      have d3_0_4 := B3_0.cell 4 rfl
      have e3_0_4 := B3_0.free 4
      have t3_1 := B3_1.lt
      have d3_1_0 := B3_1.cell 0 rfl
      have e3_1_0 := B3_1.free 0
      have d3_1_1 := B3_1.cell 1 rfl
      have e3_1_1 := B3_1.free 1
      have d3_1_2 := B3_1.cell 2 rfl
      have e3_1_2 := B3_1.free 2
      have d3_1_3 := B3_1.cell 3 rfl
      have e3_1_3 := B3_1.free 3
      have t3_2 := B3_2.lt
      have d3_2_0 := B3_2.cell 0 rfl
      have e3_2_0 := B3_2.free 0
      have d3_2_1 := B3_2.cell 1 rfl
      have e3_2_1 := B3_2.free 1
      have d3_2_2 := B3_2.cell 2 rfl
      have e3_2_2 := B3_2.free 2
      have d3_2_3 := B3_2.cell 3 rfl
      have e3_2_3 := B3_2.free 3
      have t3_3 := B3_3.lt
      have d3_3_0 := B3_3.cell 0 rfl
      have e3_3_0 := B3_3.free 0
      have d3_3_1 := B3_3.cell 1 rfl
      have e3_3_1 := B3_3.free 1
      have t3_4 := B3_4.lt
      have d3_4_0 := B3_4.cell 0 rfl
      have e3_4_0 := B3_4.free 0
      have d3_4_1 := B3_4.cell 1 rfl
      have e3_4_1 := B3_4.free 1
      go_simp
      go_wp2_with fail
      have g3_0_0 := fun m os => (B3_0.grow m os).cell 0 rfl
      have g3_0_1 := fun m os => (B3_0.grow m os).cell 1 rfl
      have g3_0_2 := fun m os => (B3_0.grow m os).cell 2 rfl
      have g3_0_3 := fun m os => (B3_0.grow m os).cell 3 rfl
      have g3_0_4 := fun m os => (B3_0.grow m os).cell 4 rfl
      have g3_1_0 := fun m os => (B3_1.grow m os).cell 0 rfl
      have g3_1_1 := fun m os => (B3_1.grow m os).cell 1 rfl
      have g3_1_2 := fun m os => (B3_1.grow m os).cell 2 rfl
      have g3_1_3 := fun m os => (B3_1.grow m os).cell 3 rfl
      have g3_2_0 := fun m os => (B3_2.grow m os).cell 0 rfl
      have g3_2_1 := fun m os => (B3_2.grow m os).cell 1 rfl
      have g3_2_2 := fun m os => (B3_2.grow m os).cell 2 rfl
      have g3_2_3 := fun m os => (B3_2.grow m os).cell 3 rfl
      have g3_3_0 := fun m os => (B3_3.grow m os).cell 0 rfl
      have g3_3_1 := fun m os => (B3_3.grow m os).cell 1 rfl
      have g3_4_0 := fun m os => (B3_4.grow m os).cell 0 rfl
      have g3_4_1 := fun m os => (B3_4.grow m os).cell 1 rfl
      refine wp_region_calm (by kernel_rfl) (by kernel_rfl) ?_
      repeat (first | (refine lex_skip rfl (by rfl) ?_) | (refine lex_calm rfl (by rfl) (fun K hK => ?_); go_simp; first | (refine hK _ ?_; clear hK K) | (apply Exists.intro; refine ⟨fun _ _ => ?_, hK _ ?_⟩; (fail); clear hK K)))
      refine lex_nil ?_
      intro w4 G4
      have B4_0 : Blk w4 (w.heap.size) 39 [.int .i64 k, .bool m, .int .i64 s, .int .i64 dx, .int .i64 dy] := B3_0.grew G4
      have B4_1 : Blk w4 (w.heap.size + 1) 23 [.int .i64 x, .int .i64 y, .int .i64 z, .int .i64 h] := B3_1.grew G4
      have B4_2 : Blk w4 (w.heap.size + 1 + 1) 23 [.int .i64 0, .int .i64 0, .int .i64 0, .int .i64 0] := B3_2.grew G4
      have B4_3 : Blk w4 (b3_0) 25 [.int .i64 ax, .int .i64 ay] := B3_3.grew G4
      have B4_4 : Blk w4 (b3_1) 25 [.int .i64 bx, .int .i64 bz] := B3_4.grew G4
      have z4 := G4.size
      replace G4 := hide G4
      have t4_0 := B4_0.lt
      have d4_0_0 := B4_0.cell 0 rfl
      have e4_0_0 := B4_0.free 0
      have d4_0_1 := B4_0.cell 1 rfl
      have e4_0_1 := B4_0.free 1
      have d4_0_2 := B4_0.cell 2 rfl
      have e4_0_2 := B4_0.free 2
      have d4_0_3 := B4_0.cell 3 rfl
      have e4_0_3 := B4_0.free 3
      have d4_0_4 := B4_0.cell 4 rfl
      have e4_0_4 := B4_0.free 4
      have t4_1 := B4_1.lt
      have d4_1_0 := B4_1.cell 0 rfl
      have e4_1_0 := B4_1.free 0
      have d4_1_1 := B4_1.cell 1 rfl
      have e4_1_1 := B4_1.free 1
      have d4_1_2 := B4_1.cell 2 rfl
      have e4_1_2 := B4_1.free 2
      have d4_1_3 := B4_1.cell 3 rfl
      have e4_1_3 := B4_1.free 3
      have t4_2 := B4_2.lt
      have d4_2_0 := B4_2.cell 0 rfl
      have e4_2_0 := B4_2.free 0
      have d4_2_1 := B4_2.cell 1 rfl
      have e4_2_1 := B4_2.free 1
      have d4_2_2 := B4_2.cell 2 rfl
      have e4_2_2 := B4_2.free 2
      have d4_2_3 := B4_2.cell 3 rfl
      have e4_2_3 := B4_2.free 3
      have t4_3 := B4_3.lt
      have d4_3_0 := B4_3.cell 0 rfl
      have e4_3_0 := B4_3.free 0
      have d4_3_1 := B4_3.cell 1 rfl
      have e4_3_1 := B4_3.free 1
      have t4_4 := B4_4.lt
      have d4_4_0 := B4_4.cell 0 rfl
      have e4_4_0 := B4_4.free 0
      have d4_4_1 := B4_4.cell 1 rfl
      have e4_4_1 := B4_4.free 1
      go_wp2
      rw [H.out]
      refine bodyPost_ret (v := R.v ⟨nx, ny, mx - nx, my - ny⟩) (by simp [results, Try.results29, go_sem, R.zero, T.zero, d4_0_0, d4_0_1, d4_0_2, d4_0_3, d4_0_4, d4_1_0, d4_1_1, d4_1_2, d4_1_3, d4_2_0, d4_2_1, d4_2_2, d4_2_3, d4_3_0, d4_3_1, d4_4_0, d4_4_1, t4_0, t4_1, t4_2, t4_3, t4_4]) rfl ⟨rfl, ?_⟩
      repeat' (first | (with_reducible exact Grew.refl _) | (with_reducible refine Grew.setCell ?_ ?_ _) | (with_reducible refine Grew.drewN ?_ _) | (with_reducible refine Grew.alloc ?_ _) | (with_reducible refine Grew.trans ?_ G4.out) | (with_reducible refine Grew.trans ?_ G3.out) | (with_reducible refine Grew.trans ?_ G2.out) | (with_reducible refine Grew.trans ?_ G1.out) | (dsimp only; omega))
    · have c2 : r.ok = false := by simpa using c2
      have V2 := fun W => hide (Validate_bad r.x r.y r.w r.h W c2)
      have H : Hid (t.apply r = R.zero) := if_neg (by rw [c1, c2]; simp)
      clear c1 c2
      obtain ⟨k, m, s, dx, dy⟩ := t
      obtain ⟨x, y, z, h⟩ := r
      go_enter Try.func29, Try.ntmps29
      go_wp2_with fail
      refine ((V1 _).out).mono ?_
      rintro e w1 ⟨rfl, G1⟩
      try (with_reducible replace G1 := Grew.undrawn G1)
      have B1_0 : Blk w1 (w.heap.size) 39 [.int .i64 k, .bool m, .int .i64 s, .int .i64 dx, .int .i64 dy] := Blk.grew (by (repeat' (first | (with_reducible assumption) | ((with_reducible refine Blk.new ?_); (first | (with_reducible rfl) | (simp only [World.size_alloc, World.size_setCell, size_drewN]; done))) | (with_reducible refine Blk.alloc ?_ _) | (with_reducible refine Blk.drewN ?_ _) | (with_reducible refine Blk.drew ?_) | (refine Blk.other ?_ (by omega) _) | fail))) G1
      have B1_1 : Blk w1 (w.heap.size + 1) 23 [.int .i64 x, .int .i64 y, .int .i64 z, .int .i64 h] := Blk.grew (by (repeat' (first | (with_reducible assumption) | ((with_reducible refine Blk.new ?_); (first | (with_reducible rfl) | (simp only [World.size_alloc, World.size_setCell, size_drewN]; done))) | (with_reducible refine Blk.alloc ?_ _) | (with_reducible refine Blk.drewN ?_ _) | (with_reducible refine Blk.drew ?_) | (refine Blk.other ?_ (by omega) _) | fail))) G1
      have B1_2 : Blk w1 (w.heap.size + 1 + 1) 23 [.int .i64 0, .int .i64 0, .int .i64 0, .int .i64 0] := Blk.grew (by (repeat' (first | (with_reducible assumption) | ((with_reducible refine Blk.new ?_); (first | (with_reducible rfl) | (simp only [World.size_alloc, World.size_setCell, size_drewN]; done))) | (with_reducible refine Blk.alloc ?_ _) | (with_reducible refine Blk.drewN ?_ _) | (with_reducible refine Blk.drew ?_) | (refine Blk.other ?_ (by omega) _) | fail))) G1
      have z1 := G1.size
      try simp only [World.size_alloc, World.size_setCell, size_drewN] at z1
      replace G1 := hide G1
      have t1_0 := B1_0.lt
      have d1_0_0 := B1_0.cell 0 rfl
      have e1_0_0 := B1_0.free 0
      have d1_0_1 := B1_0.cell 1 rfl
      have e1_0_1 := B1_0.free 1
      have d1_0_2 := B1_0.cell 2 rfl
      have e1_0_2 := B1_0.free 2
      have d1_0_3 := B1_0.cell 3 rfl
      have e1_0_3 := B1_0.free 3
      have d1_0_4 := B1_0.cell 4 rfl
      have e1_0_4 := B1_0.free 4
      have t1_1 := B1_1.lt
      have d1_1_0 := B1_1.cell 0 rfl
      have e1_1_0 := B1_1.free 0
      have d1_1_1 := B1_1.cell 1 rfl
      have e1_1_1 := B1_1.free 1
      have d1_1_2 := B1_1.cell 2 rfl
      have e1_1_2 := B1_1.free 2
      have d1_1_3 := B1_1.cell 3 rfl
      have e1_1_3 := B1_1.free 3
      have t1_2 := B1_2.lt
      have d1_2_0 := B1_2.cell 0 rfl
      have e1_2_0 := B1_2.free 0
      have d1_2_1 := B1_2.cell 1 rfl
      have e1_2_1 := B1_2.free 1
      have d1_2_2 := B1_2.cell 2 rfl
      have e1_2_2 := B1_2.free 2
      have d1_2_3 := B1_2.cell 3 rfl
      have e1_2_3 := B1_2.free 3
      go_wp2_with fail
      refine ((V2 _).out).mono ?_
      rintro e w2 ⟨rfl, G2⟩
      try (with_reducible replace G2 := Grew.undrawn G2)
      have B2_0 : Blk w2 (w.heap.size) 39 [.int .i64 k, .bool m, .int .i64 s, .int .i64 dx, .int .i64 dy] := Blk.grew (by (repeat' (first | (with_reducible assumption) | ((with_reducible refine Blk.new ?_); (first | (with_reducible rfl) | (simp only [World.size_alloc, World.size_setCell, size_drewN]; done))) | (with_reducible refine Blk.alloc ?_ _) | (with_reducible refine Blk.drewN ?_ _) | (with_reducible refine Blk.drew ?_) | (refine Blk.other ?_ (by omega) _) | fail))) G2
      have B2_1 : Blk w2 (w.heap.size + 1) 23 [.int .i64 x, .int .i64 y, .int .i64 z, .int .i64 h] := Blk.grew (by (repeat' (first | (with_reducible assumption) | ((with_reducible refine Blk.new ?_); (first | (with_reducible rfl) | (simp only [World.size_alloc, World.size_setCell, size_drewN]; done))) | (with_reducible refine Blk.alloc ?_ _) | (with_reducible refine Blk.drewN ?_ _) | (with_reducible refine Blk.drew ?_) | (refine Blk.other ?_ (by omega) _) | fail))) G2
      have B2_2 : Blk w2 (w.heap.size + 1 + 1) 23 [.int .i64 0, .int .i64 0, .int .i64 0, .int .i64 0] := Blk.grew (by (repeat' (first | (with_reducible assumption) | ((with_reducible refine Blk.new ?_); (first | (with_reducible rfl) | (simp only [World.size_alloc, World.size_setCell, size_drewN]; done))) | (with_reducible refine Blk.alloc ?_ _) | (with_reducible refine Blk.drewN ?_ _) | (with_reducible refine Blk.drew ?_) | (refine Blk.other ?_ (by omega) _) | fail))) G2
      have z2 := G2.size
      try simp only [World.size_alloc, World.size_setCell, size_drewN] at z2
      replace G2 := hide G2
      have t2_0 := B2_0.lt
      have d2_0_0 := B2_0.cell 0 rfl
      have e2_0_0 := B2_0.free 0
      have d2_0_1 := B2_0.cell 1 rfl
      have e2_0_1 := B2_0.free 1
      have d2_0_2 := B2_0.cell 2 rfl
      have e2_0_2 := B2_0.free 2
      have d2_0_3 := B2_0.cell 3 rfl
      have e2_0_3 := B2_0.free 3
      have d2_0_4 := B2_0.cell 4 rfl
      have e2_0_4 := B2_0.free 4
      have t2_1 := B2_1.lt
      have d2_1_0 := B2_1.cell 0 rfl
      have e2_1_0 := B2_1.free 0
      have d2_1_1 := B2_1.cell 1 rfl
      have e2_1_1 := B2_1.free 1
      have d2_1_2 := B2_1.cell 2 rfl
      have e2_1_2 := B2_1.free 2
      have d2_1_3 := B2_1.cell 3 rfl
      have e2_1_3 := B2_1.free 3
      have t2_2 := B2_2.lt
      have d2_2_0 := B2_2.cell 0 rfl
      have e2_2_0 := B2_2.free 0
      have d2_2_1 := B2_2.cell 1 rfl
      have e2_2_1 := B2_2.free 1
      have d2_2_2 := B2_2.cell 2 rfl
      have e2_2_2 := B2_2.free 2
      have d2_2_3 := B2_2.cell 3 rfl
      have e2_2_3 := B2_2.free 3
      go_wp2
      rw [H.out]
      refine bodyPost_ret (v := R.zero.v) (by simp [results, Try.results29, go_sem, R.zero, T.zero, d2_0_0, d2_0_1, d2_0_2, d2_0_3, d2_0_4, d2_1_0, d2_1_1, d2_1_2, d2_1_3, d2_2_0, d2_2_1, d2_2_2, d2_2_3, t2_0, t2_1, t2_2]) rfl ⟨rfl, ?_⟩
      repeat' (first | (with_reducible exact Grew.refl _) | (with_reducible refine Grew.setCell ?_ ?_ _) | (with_reducible refine Grew.drewN ?_ _) | (with_reducible refine Grew.alloc ?_ _) | (with_reducible refine Grew.trans ?_ G2.out) | (with_reducible refine Grew.trans ?_ G1.out) | (dsimp only; omega))
  · have c1 : t.ok = false := by simpa using c1
    have V1 := fun W => hide (Check_bad t W c1)
    have H : Hid (t.apply r = R.zero) := if_neg (by rw [c1]; simp)
    clear c1
    obtain ⟨k, m, s, dx, dy⟩ := t
    obtain ⟨x, y, z, h⟩ := r
    go_enter Try.func29, Try.ntmps29
    go_wp2_with fail
    refine ((V1 _).out).mono ?_
    rintro e w1 ⟨rfl, G1⟩
    try (with_reducible replace G1 := Grew.undrawn G1)
    have B1_0 : Blk w1 (w.heap.size) 39 [.int .i64 k, .bool m, .int .i64 s, .int .i64 dx, .int .i64 dy] := Blk.grew (by (repeat' (first | (with_reducible assumption) | ((with_reducible refine Blk.new ?_); (first | (with_reducible rfl) | (simp only [World.size_alloc, World.size_setCell, size_drewN]; done))) | (with_reducible refine Blk.alloc ?_ _) | (with_reducible refine Blk.drewN ?_ _) | (with_reducible refine Blk.drew ?_) | (refine Blk.other ?_ (by omega) _) | fail))) G1
    have B1_1 : Blk w1 (w.heap.size + 1) 23 [.int .i64 x, .int .i64 y, .int .i64 z, .int .i64 h] := Blk.grew (by (repeat' (first | (with_reducible assumption) | ((with_reducible refine Blk.new ?_); (first | (with_reducible rfl) | (simp only [World.size_alloc, World.size_setCell, size_drewN]; done))) | (with_reducible refine Blk.alloc ?_ _) | (with_reducible refine Blk.drewN ?_ _) | (with_reducible refine Blk.drew ?_) | (refine Blk.other ?_ (by omega) _) | fail))) G1
    have B1_2 : Blk w1 (w.heap.size + 1 + 1) 23 [.int .i64 0, .int .i64 0, .int .i64 0, .int .i64 0] := Blk.grew (by (repeat' (first | (with_reducible assumption) | ((with_reducible refine Blk.new ?_); (first | (with_reducible rfl) | (simp only [World.size_alloc, World.size_setCell, size_drewN]; done))) | (with_reducible refine Blk.alloc ?_ _) | (with_reducible refine Blk.drewN ?_ _) | (with_reducible refine Blk.drew ?_) | (refine Blk.other ?_ (by omega) _) | fail))) G1
    have z1 := G1.size
    try simp only [World.size_alloc, World.size_setCell, size_drewN] at z1
    replace G1 := hide G1
    have t1_0 := B1_0.lt
    have d1_0_0 := B1_0.cell 0 rfl
    have e1_0_0 := B1_0.free 0
    have d1_0_1 := B1_0.cell 1 rfl
    have e1_0_1 := B1_0.free 1
    have d1_0_2 := B1_0.cell 2 rfl
    have e1_0_2 := B1_0.free 2
    have d1_0_3 := B1_0.cell 3 rfl
    have e1_0_3 := B1_0.free 3
    have d1_0_4 := B1_0.cell 4 rfl
    have e1_0_4 := B1_0.free 4
    have t1_1 := B1_1.lt
    have d1_1_0 := B1_1.cell 0 rfl
    have e1_1_0 := B1_1.free 0
    have d1_1_1 := B1_1.cell 1 rfl
    have e1_1_1 := B1_1.free 1
    have d1_1_2 := B1_1.cell 2 rfl
    have e1_1_2 := B1_1.free 2
    have d1_1_3 := B1_1.cell 3 rfl
    have e1_1_3 := B1_1.free 3
    have t1_2 := B1_2.lt
    have d1_2_0 := B1_2.cell 0 rfl
    have e1_2_0 := B1_2.free 0
    have d1_2_1 := B1_2.cell 1 rfl
    have e1_2_1 := B1_2.free 1
    have d1_2_2 := B1_2.cell 2 rfl
    have e1_2_2 := B1_2.free 2
    have d1_2_3 := B1_2.cell 3 rfl
    have e1_2_3 := B1_2.free 3
    go_wp2
    rw [H.out]
    refine bodyPost_ret (v := R.zero.v) (by simp [results, Try.results29, go_sem, R.zero, T.zero, d1_0_0, d1_0_1, d1_0_2, d1_0_3, d1_0_4, d1_1_0, d1_1_1, d1_1_2, d1_1_3, d1_2_0, d1_2_1, d1_2_2, d1_2_3, t1_0, t1_1, t1_2]) rfl ⟨rfl, ?_⟩
    repeat' (first | (with_reducible exact Grew.refl _) | (with_reducible refine Grew.setCell ?_ ?_ _) | (with_reducible refine Grew.drewN ?_ _) | (with_reducible refine Grew.alloc ?_ _) | (with_reducible refine Grew.trans ?_ G1.out) | (dsimp only; omega))
end Go.Proofs.Ythldilikkogaoaa
