/- Plain bounds: the laws' small transforms, rectangles and points are valid, and so are their images; conditions: as each line says. -/
import Derived.Test.YthldilikkogaoaaGlMath
namespace Go.Proofs.Ythldilikkogaoaa
set_option linter.unusedSimpArgs false
set_option linter.unusedVariables false

theorem tm {n : Int} (x : Int) (hn : 0 < n) : -n < x.tmod n ∧ x.tmod n < n := ⟨Int.lt_tmod_of_pos x hn, Int.tmod_lt_of_pos x hn⟩
/-- A transform, a rectangle of the laws. -/
structure T.near (t : T) (d : Int) : Prop where
  k : 0 ≤ t.turn ∧ t.turn ≤ 3
  s : 1 ≤ t.scale ∧ t.scale ≤ 16
  x : -d ≤ t.dx ∧ t.dx ≤ d
  y : -d ≤ t.dy ∧ t.dy ≤ d
theorem T.near.ok {t : T} {d : Int} (h : t.near d) (hd : d ≤ 100000) : t.ok = true := by
  obtain ⟨a, b, c, e⟩ := h
  exact tok_of ⟨a, b, by omega, by omega⟩
theorem near_small (k s x y : Int) (m : Bool) : (T.mk (k % 4) m (1 + s % 4) (x.tmod 1000) (y.tmod 1000)).near 1000 ∧ 1 + s % 4 ≤ 4 := by
  have h1 := tm x (show (0 : Int) < 1000 by omega)
  have h2 := tm y (show (0 : Int) < 1000 by omega)
  refine ⟨⟨?_, ?_, ?_, ?_⟩, ?_⟩ <;> first | omega | (simp only; omega)
theorem sc_near {x s d X D : Int} (hx : -X ≤ x ∧ x ≤ X) (hX : X ≤ 5000) (hs : 1 ≤ s ∧ s ≤ 16) (hd : -D ≤ d ∧ d ≤ D) : -(X * 16 + D) ≤ x * s + d ∧ x * s + d ≤ X * 16 + D := by
  have a := Int.mul_le_mul_of_nonneg_right hx.2 (show 0 ≤ s by omega)
  have b := Int.mul_le_mul_of_nonneg_right hx.1 (show 0 ≤ s by omega)
  have c := Int.mul_le_mul_of_nonneg_left hs.2 (show 0 ≤ X by omega)
  have e : -X * s = -(X * s) := Int.neg_mul _ _
  omega
theorem lin_near {t : T} {x y X : Int} (hk : 0 ≤ t.turn ∧ t.turn ≤ 3) (hx : -X ≤ x ∧ x ≤ X) (hy : -X ≤ y ∧ y ≤ X) : (-X ≤ t.lx x y ∧ t.lx x y ≤ X) ∧ (-X ≤ t.ly x y ∧ t.ly x y ≤ X) := by
  obtain ⟨k, m, s, dx, dy⟩ := t
  simp only at hk
  rcases four hk with rfl | rfl | rfl | rfl <;> cases m <;> simp only [T.lx, T.ly, rx, ry, mir, reduceIte, Bool.false_eq_true, Int.reduceEq, Int.neg_neg] <;> omega
theorem im_near {t : T} {x y X D : Int} (h : t.near D) (hX : X ≤ 5000) (hx : -X ≤ x ∧ x ≤ X) (hy : -X ≤ y ∧ y ≤ X) : (-(X * 16 + D) ≤ t.imx x y ∧ t.imx x y ≤ X * 16 + D) ∧ (-(X * 16 + D) ≤ t.imy x y ∧ t.imy x y ≤ X * 16 + D) := by
  obtain ⟨l1, l2⟩ := lin_near (t := t) h.k hx hy
  exact ⟨sc_near l1 hX h.s h.x, sc_near l2 hX h.s h.y⟩
theorem apply_near {t : T} {q : R} {D : Int} (h : t.near D) (hD : D ≤ 100000) (hq : (-100 ≤ q.x ∧ q.x ≤ 100) ∧ (-100 ≤ q.y ∧ q.y ≤ 100) ∧ (0 ≤ q.w ∧ q.w ≤ 63) ∧ (0 ≤ q.h ∧ q.h ≤ 63)) : (t.apply q).ok = true := by
  have ho := h.ok hD
  have hqo : q.ok = true := ok_of ⟨by omega, by omega, by omega, by omega⟩
  have e : t.apply q = _ := if_pos (show (t.ok && q.ok) = true by rw [ho, hqo]; rfl)
  obtain ⟨a1, a2⟩ := im_near h (x := q.x) (y := q.y) (X := 200) (by omega) (by omega) (by omega)
  obtain ⟨a3, a4⟩ := im_near h (x := q.x + q.w) (y := q.y + q.h) (X := 200) (by omega) (by omega) (by omega)
  rw [e]
  generalize t.imx q.x q.y = p1 at *
  generalize t.imy q.x q.y = p2 at *
  generalize t.imx (q.x + q.w) (q.y + q.h) = p3 at *
  generalize t.imy (q.x + q.w) (q.y + q.h) = p4 at *
  refine ok_of ⟨?_, ?_, ?_, ?_⟩ <;> simp only <;> omega
theorem div_near {x s X : Int} (hx : -X ≤ x ∧ x ≤ X) (hs : 1 ≤ s) : -X ≤ x / s ∧ x / s ≤ X := by
  have h0 : 0 ≤ X := by omega
  constructor
  · rw [Int.le_ediv_iff_mul_le (by omega)]
    have := Int.mul_le_mul_of_nonneg_left hs h0
    rw [Int.neg_mul]; omega
  · exact Int.ediv_le_of_le_mul (by omega) (by have := Int.mul_le_mul_of_nonneg_left hs h0; omega)
theorem back_near {t : T} {px py : Int} (h : t.near 1000) (hx : -20000 ≤ px ∧ px ≤ 20000) (hy : -20000 ≤ py ∧ py ≤ 20000) :
    reachB px = true ∧ reachB py = true ∧ reachB (t.back ⟨px, py⟩).x = true ∧ reachB (t.back ⟨px, py⟩).y = true := by
  have h1 : reachB px = true := inB_iff.2 (by omega)
  have h2 : reachB py = true := inB_iff.2 (by omega)
  refine ⟨h1, h2, ?_⟩
  have e : t.back ⟨px, py⟩ = _ := if_pos (show (t.ok && reachB px && reachB py) = true by rw [h.ok (by omega), h1, h2]; rfl)
  rw [e]
  have := h.x; have := h.y
  have d1 := div_near (x := px - t.dx) (s := t.scale) (X := 21000) (by omega) h.s.1
  have d2 := div_near (x := py - t.dy) (s := t.scale) (X := 21000) (by omega) h.s.1
  obtain ⟨k, m, s, dx, dy⟩ := t
  have hk := h.k
  simp only at d1 d2 hk ⊢
  generalize (px - dx) / s = a at *
  generalize (py - dy) / s = b at *
  rw [show reachB = fun x => inB x (-2097152) 2097152 from rfl]
  simp only [inB_iff]
  rcases four hk with rfl | rfl | rfl | rfl <;> cases m <;> simp only [bmir, bkx, bky, reduceIte, Bool.false_eq_true, Int.reduceEq] <;> omega
theorem join_near {t u : T} (h : t.near 1000) (g : u.near 1000) (h4 : t.scale ≤ 4) (g4 : u.scale ≤ 4) : (t.join u).near 100000 := by
  obtain ⟨a1, a2⟩ := im_near h (x := u.dx) (y := u.dy) (X := 1000) (by omega) g.x g.y
  refine ⟨?_, ?_, ?_, ?_⟩
  · show 0 ≤ (if t.mirror then t.turn + 4 - u.turn else t.turn + u.turn) % 4 ∧ (if t.mirror then t.turn + 4 - u.turn else t.turn + u.turn) % 4 ≤ 3
    omega
  · show 1 ≤ t.scale * u.scale ∧ t.scale * u.scale ≤ 16
    have hs := h.s; have gs := g.s
    have a := Int.mul_le_mul_of_nonneg_right h4 (show 0 ≤ u.scale by omega)
    have b := Int.mul_le_mul_of_nonneg_right hs.1 (show 0 ≤ u.scale by omega)
    omega
  · show -100000 ≤ t.imx u.dx u.dy ∧ t.imx u.dx u.dy ≤ 100000
    omega
  · show -100000 ≤ t.imy u.dx u.dy ∧ t.imy u.dx u.dy ≤ 100000
    omega
theorem near_rect (x y z h : Int) : let q : R := ⟨x.tmod 100, y.tmod 100, z % 64, h % 64⟩; (-100 ≤ q.x ∧ q.x ≤ 100) ∧ (-100 ≤ q.y ∧ q.y ≤ 100) ∧ (0 ≤ q.w ∧ q.w ≤ 63) ∧ (0 ≤ q.h ∧ q.h ≤ 63) := by
  have h1 := tm x (show (0 : Int) < 100 by omega)
  have h2 := tm y (show (0 : Int) < 100 by omega)
  simp only
  omega
theorem rect_ok {q : R} (hq : (-100 ≤ q.x ∧ q.x ≤ 100) ∧ (-100 ≤ q.y ∧ q.y ≤ 100) ∧ (0 ≤ q.w ∧ q.w ≤ 63) ∧ (0 ≤ q.h ∧ q.h ≤ 63)) : q.ok = true := ok_of ⟨by omega, by omega, by omega, by omega⟩

/-- The law GeometryBack in numbers. -/
theorem back_law (k s dx dy : Int) (m : Bool) (x y z h px py : Int) :
    (T.apply ⟨k % 4, m, 1 + s % 4, dx.tmod 1000, dy.tmod 1000⟩ ⟨x.tmod 100, y.tmod 100, z % 64, h % 64⟩).has (px.tmod 2000) (py.tmod 2000) =
      R.has ⟨x.tmod 100, y.tmod 100, z % 64, h % 64⟩ (T.back ⟨k % 4, m, 1 + s % 4, dx.tmod 1000, dy.tmod 1000⟩ ⟨px.tmod 2000, py.tmod 2000⟩).x (T.back ⟨k % 4, m, 1 + s % 4, dx.tmod 1000, dy.tmod 1000⟩ ⟨px.tmod 2000, py.tmod 2000⟩).y := by
  obtain ⟨ht, _⟩ := near_small k s dx dy m
  have hq := near_rect x y z h
  have h1 := tm px (show (0 : Int) < 2000 by omega)
  have h2 := tm py (show (0 : Int) < 2000 by omega)
  exact apply_has (ht.ok (by omega)) (rect_ok hq) (inB_iff.2 (by omega)) (inB_iff.2 (by omega)) (apply_near ht (by omega) hq)
/-- The law GeometryCombines in numbers. -/
theorem comb_law {t u : T} {q : R} {px py : Int} (ht : t.near 1000) (h4 : t.scale ≤ 4) (hu : u.near 1000) (g4 : u.scale ≤ 4) (hq : (-100 ≤ q.x ∧ q.x ≤ 100) ∧ (-100 ≤ q.y ∧ q.y ≤ 100) ∧ (0 ≤ q.w ∧ q.w ≤ 63) ∧ (0 ≤ q.h ∧ q.h ≤ 63))
    (hx : -20000 ≤ px ∧ px ≤ 20000) (hy : -20000 ≤ py ∧ py ≤ 20000) :
    t.combE u = 0 ∧ (t.comb u).apply q = t.apply (u.apply q) ∧ (t.comb u).back ⟨px, py⟩ = u.back (t.back ⟨px, py⟩) := by
  have o1 := ht.ok (by omega)
  have o2 := hu.ok (by omega)
  have o3 := (join_near ht hu h4 g4).ok (by omega)
  have c : (t.ok && u.ok && (t.join u).ok) = true := by rw [o1, o2, o3]; rfl
  have e1 : t.comb u = t.join u := if_pos c
  have e2 : t.combE u = 0 := if_pos c
  obtain ⟨b1, b2, b3, b4⟩ := back_near ht hx hy
  rw [e1]
  exact ⟨e2, apply_join o1 o2 o3 (rect_ok hq) (apply_near hu (by omega) hq), back_join o1 o2 o3 b1 b2 b3 b4⟩

theorem one_apply {q : R} (h : q.ok = true) : T.apply ⟨1, false, 1, 0, 0⟩ q = ⟨-(q.y + q.h), q.x, q.h, q.w⟩ := by
  have e : T.apply ⟨1, false, 1, 0, 0⟩ q = _ := if_pos (show ((T.mk 1 false 1 0 0).ok && q.ok) = true by rw [h]; rfl)
  have b := R.bounds h
  rw [e]
  simp only [T.imx, T.imy, rx, ry, mir, reduceIte, Bool.false_eq_true, Int.reduceEq, Int.mul_one, Int.add_zero, R.mk.injEq]
  omega
theorem flip_apply {q : R} (h : q.ok = true) : T.apply ⟨0, true, 1, 0, 0⟩ q = ⟨-(q.x + q.w), q.y, q.w, q.h⟩ := by
  have e : T.apply ⟨0, true, 1, 0, 0⟩ q = _ := if_pos (show ((T.mk 0 true 1 0 0).ok && q.ok) = true by rw [h]; rfl)
  have b := R.bounds h
  rw [e]
  simp only [T.imx, T.imy, rx, ry, mir, reduceIte, Int.reduceEq, Int.mul_one, Int.add_zero, R.mk.injEq]
  omega
/-- Four quarter turns, two mirrors. -/
theorem turns_law {q : R} (hq : (-100 ≤ q.x ∧ q.x ≤ 100) ∧ (-100 ≤ q.y ∧ q.y ≤ 100) ∧ (0 ≤ q.w ∧ q.w ≤ 63) ∧ (0 ≤ q.h ∧ q.h ≤ 63)) :
    T.apply ⟨1, false, 1, 0, 0⟩ (T.apply ⟨1, false, 1, 0, 0⟩ (T.apply ⟨1, false, 1, 0, 0⟩ (T.apply ⟨1, false, 1, 0, 0⟩ q))) = q ∧ T.apply ⟨0, true, 1, 0, 0⟩ (T.apply ⟨0, true, 1, 0, 0⟩ q) = q := by
  obtain ⟨x, y, w, h⟩ := q
  simp only at hq
  constructor
  · rw [one_apply (q := ⟨x, y, w, h⟩) (rect_ok hq), one_apply (q := ⟨-(y + h), x, h, w⟩) (ok_of ⟨by simp only; omega, by simp only; omega, by simp only; omega, by simp only; omega⟩), one_apply (q := ⟨-(x + w), -(y + h), w, h⟩) (ok_of ⟨by simp only; omega, by simp only; omega, by simp only; omega, by simp only; omega⟩), one_apply (q := ⟨-(-(y + h) + h), -(x + w), h, w⟩) (ok_of ⟨by simp only; omega, by simp only; omega, by simp only; omega, by simp only; omega⟩)]
    congr 1 <;> simp only <;> omega
  · rw [flip_apply (q := ⟨x, y, w, h⟩) (rect_ok hq), flip_apply (q := ⟨-(x + w), y, w, h⟩) (ok_of ⟨by simp only; omega, by simp only; omega, by simp only; omega, by simp only; omega⟩)]
    congr 1 <;> simp only <;> omega
/-- The area of an image, and the bounds of all its factors. -/
theorem area_law {t : T} {q : R} (ht : t.near 1000) (hq : (-100 ≤ q.x ∧ q.x ≤ 100) ∧ (-100 ≤ q.y ∧ q.y ≤ 100) ∧ (0 ≤ q.w ∧ q.w ≤ 63) ∧ (0 ≤ q.h ∧ q.h ≤ 63)) :
    (t.apply q).w * (t.apply q).h = q.w * q.h * t.scale * t.scale ∧ (0 ≤ q.w * q.h ∧ q.w * q.h ≤ 3969) ∧ (0 ≤ q.w * q.h * t.scale ∧ q.w * q.h * t.scale ≤ 63504) ∧ (0 ≤ q.w * q.h * t.scale * t.scale ∧ q.w * q.h * t.scale * t.scale ≤ 1016064) := by
  have e : t.apply q = _ := if_pos (show (t.ok && q.ok) = true by rw [ht.ok (by omega), rect_ok hq]; rfl)
  obtain ⟨a1, a2⟩ := apply_size (t := t) (q := q) ht.k ht.s.1 hq.2.2.1.1 hq.2.2.2.1
  have hs := ht.s
  have mb : ∀ a b A B : Int, 0 ≤ a → a ≤ A → 0 ≤ b → b ≤ B → 0 ≤ a * b ∧ a * b ≤ A * B := fun a b A B h1 h2 h3 h4 =>
    ⟨Int.mul_nonneg h1 h3, Int.mul_le_mul h2 h4 h3 (by omega)⟩
  have m1 := mb q.w q.h 63 63 (by omega) (by omega) (by omega) (by omega)
  have m2 := mb (q.w * q.h) t.scale 3969 16 (by omega) (by omega) (by omega) (by omega)
  have m3 := mb (q.w * q.h * t.scale) t.scale 63504 16 (by omega) (by omega) (by omega) (by omega)
  refine ⟨?_, by omega, by omega, by omega⟩
  rw [e]
  simp only [a1, a2]
  split
  · rw [Int.mul_assoc q.w t.scale, Int.mul_comm t.scale (q.h * t.scale), ← Int.mul_assoc q.w, ← Int.mul_assoc q.w]
  · rw [Int.mul_assoc q.h t.scale, Int.mul_comm t.scale (q.w * t.scale), ← Int.mul_assoc q.h, ← Int.mul_assoc q.h, Int.mul_comm q.h q.w]
end Go.Proofs.Ythldilikkogaoaa
