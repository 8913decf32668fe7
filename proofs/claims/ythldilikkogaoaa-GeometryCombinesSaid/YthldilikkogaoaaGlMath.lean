/- Plain facts on transforms: a point is in the image of a rectangle just if its origin is in the rectangle; a joined transform does what its parts do; conditions: the transforms are valid, the rectangle and the point are near the origin. -/
import Derived.Test.YthldilikkogaoaaGtC
import Derived.Test.YthldilikkogaoaaGtE
import Derived.Test.YthldilikkogaoaaGeCont
namespace Go.Proofs.Ythldilikkogaoaa
set_option linter.unusedSimpArgs false
set_option linter.unusedVariables false

theorem has_of {r : R} (h : r.ok = true) (x y : Int) : r.has x y = decide (r.x ≤ x ∧ x < r.x + r.w ∧ r.y ≤ y ∧ y < r.y + r.h) := by unfold R.has; rw [h, Bool.true_and]
theorem ok_of {r : R} (h : (-1048576 ≤ r.x ∧ r.x ≤ 1048576) ∧ (-1048576 ≤ r.y ∧ r.y ≤ 1048576) ∧ (0 ≤ r.w ∧ r.w ≤ 1048576) ∧ (0 ≤ r.h ∧ r.h ≤ 1048576)) : r.ok = true := by
  simp only [R.ok, rectB, nearB, lenB, Bool.and_eq_true, inB_iff]; exact ⟨⟨⟨h.1, h.2.1⟩, h.2.2.1⟩, h.2.2.2⟩
theorem tok_of {t : T} (h : (0 ≤ t.turn ∧ t.turn ≤ 3) ∧ (1 ≤ t.scale ∧ t.scale ≤ 16) ∧ (-1048576 ≤ t.dx ∧ t.dx ≤ 1048576) ∧ (-1048576 ≤ t.dy ∧ t.dy ≤ 1048576)) : t.ok = true := by
  simp only [T.ok, nearB, Bool.and_eq_true, inB_iff]; exact ⟨⟨⟨h.1, h.2.1⟩, h.2.2.1⟩, h.2.2.2⟩

/-- The two ends of an interval and a step. -/
theorem in_step {s a l d p : Int} (hs : 1 ≤ s) (hl : 0 ≤ l) : (min (a * s + d) ((a + l) * s + d) ≤ p ∧ p < max (a * s + d) ((a + l) * s + d)) ↔ (a ≤ (p - d) / s ∧ (p - d) / s < a + l) := by
  have h1 : a * s ≤ (a + l) * s := Int.mul_le_mul_of_nonneg_right (by omega) (by omega)
  rw [Int.le_ediv_iff_mul_le (by omega), Int.ediv_lt_iff_lt_mul (by omega)]
  omega
theorem in_step_neg {s a l d p : Int} (hs : 1 ≤ s) (hl : 0 ≤ l) : (min (-a * s + d) (-(a + l) * s + d) ≤ p ∧ p < max (-a * s + d) (-(a + l) * s + d)) ↔ (a ≤ -((p - d) / s) - 1 ∧ -((p - d) / s) - 1 < a + l) := by
  have h1 : a * s ≤ (a + l) * s := Int.mul_le_mul_of_nonneg_right (by omega) (by omega)
  have e1 : -a * s = -(a * s) := Int.neg_mul _ _
  have e2 : -(a + l) * s = -((a + l) * s) := Int.neg_mul _ _
  have k1 : (a ≤ -((p - d) / s) - 1) ↔ ((p - d) / s < -a) := by omega
  have k2 : (-((p - d) / s) - 1 < a + l) ↔ (-(a + l) ≤ (p - d) / s) := by omega
  rw [k1, k2, Int.le_ediv_iff_mul_le (by omega), Int.ediv_lt_iff_lt_mul (by omega), e1, e2]
  omega
theorem hi_of (A B p : Int) : (min A B ≤ p ∧ p < min A B + (max A B - min A B)) ↔ (min A B ≤ p ∧ p < max A B) := by
  rw [show min A B + (max A B - min A B) = max A B by omega]
theorem and4 {A1 A2 A3 A4 B1 B2 B3 B4 : Prop} (h1 : (A1 ∧ A2) ↔ (B1 ∧ B2)) (h2 : (A3 ∧ A4) ↔ (B3 ∧ B4)) : (A1 ∧ A2 ∧ A3 ∧ A4) ↔ (B1 ∧ B2 ∧ B3 ∧ B4) := by
  constructor
  · rintro ⟨a, b, c, d⟩
    exact ⟨(h1.1 ⟨a, b⟩).1, (h1.1 ⟨a, b⟩).2, h2.1 ⟨c, d⟩⟩
  · rintro ⟨a, b, c, d⟩
    exact ⟨(h1.2 ⟨a, b⟩).1, (h1.2 ⟨a, b⟩).2, h2.2 ⟨c, d⟩⟩
theorem and4x {A1 A2 A3 A4 B1 B2 B3 B4 : Prop} (h1 : (A1 ∧ A2) ↔ (B3 ∧ B4)) (h2 : (A3 ∧ A4) ↔ (B1 ∧ B2)) : (A1 ∧ A2 ∧ A3 ∧ A4) ↔ (B1 ∧ B2 ∧ B3 ∧ B4) := by
  constructor
  · rintro ⟨a, b, c, d⟩
    exact ⟨(h2.1 ⟨c, d⟩).1, (h2.1 ⟨c, d⟩).2, h1.1 ⟨a, b⟩⟩
  · rintro ⟨a, b, c, d⟩
    exact ⟨(h1.2 ⟨c, d⟩).1, (h1.2 ⟨c, d⟩).2, h2.2 ⟨a, b⟩⟩

/-- The linear part of a transform: turned after mirroring. -/
def T.lx (t : T) (x y : Int) : Int := rx t.turn (mir t.mirror x) y
def T.ly (t : T) (x y : Int) : Int := ry t.turn (mir t.mirror x) y
def T.bx (t : T) (x y : Int) : Int := bmir t.mirror (bkx t.turn x y)
def T.by (t : T) (x y : Int) : Int := bky t.turn x y

theorem step_t {t : T} {q : R} {px py : Int} (hk : 0 ≤ t.turn ∧ t.turn ≤ 3) (hs : 1 ≤ t.scale) (hw : 0 ≤ q.w) (hh : 0 ≤ q.h) :
    ((min (t.imx q.x q.y) (t.imx (q.x + q.w) (q.y + q.h)) ≤ px ∧ px < min (t.imx q.x q.y) (t.imx (q.x + q.w) (q.y + q.h)) + (max (t.imx q.x q.y) (t.imx (q.x + q.w) (q.y + q.h)) - min (t.imx q.x q.y) (t.imx (q.x + q.w) (q.y + q.h))) ∧
      min (t.imy q.x q.y) (t.imy (q.x + q.w) (q.y + q.h)) ≤ py ∧ py < min (t.imy q.x q.y) (t.imy (q.x + q.w) (q.y + q.h)) + (max (t.imy q.x q.y) (t.imy (q.x + q.w) (q.y + q.h)) - min (t.imy q.x q.y) (t.imy (q.x + q.w) (q.y + q.h))))
     ↔ (q.x ≤ t.bx ((px - t.dx) / t.scale) ((py - t.dy) / t.scale) ∧ t.bx ((px - t.dx) / t.scale) ((py - t.dy) / t.scale) < q.x + q.w ∧
        q.y ≤ t.by ((px - t.dx) / t.scale) ((py - t.dy) / t.scale) ∧ t.by ((px - t.dx) / t.scale) ((py - t.dy) / t.scale) < q.y + q.h)) := by
  obtain ⟨k, m, s, dx, dy⟩ := t
  obtain ⟨x, y, w, h⟩ := q
  simp only at hk hs hw hh
  have nn : ∀ z : Int, -(-z - 1) - 1 = z := fun z => by omega
  rcases four hk with rfl | rfl | rfl | rfl <;> cases m <;> simp only [T.imx, T.imy, T.bx, T.by, rx, ry, mir, bmir, bkx, bky, reduceIte, Bool.false_eq_true, Int.reduceEq, Int.neg_neg, nn]
  · exact and4 ((hi_of _ _ _).trans (in_step hs hw)) ((hi_of _ _ _).trans (in_step hs hh))
  · exact and4 ((hi_of _ _ _).trans (in_step_neg hs hw)) ((hi_of _ _ _).trans (in_step hs hh))
  · exact and4x ((hi_of _ _ _).trans (in_step_neg hs hh)) ((hi_of _ _ _).trans (in_step hs hw))
  · exact and4x ((hi_of _ _ _).trans (in_step_neg hs hh)) ((hi_of _ _ _).trans (in_step_neg hs hw))
  · exact and4 ((hi_of _ _ _).trans (in_step_neg hs hw)) ((hi_of _ _ _).trans (in_step_neg hs hh))
  · exact and4 ((hi_of _ _ _).trans (in_step hs hw)) ((hi_of _ _ _).trans (in_step_neg hs hh))
  · exact and4x ((hi_of _ _ _).trans (in_step hs hh)) ((hi_of _ _ _).trans (in_step_neg hs hw))
  · exact and4x ((hi_of _ _ _).trans (in_step hs hh)) ((hi_of _ _ _).trans (in_step hs hw))

theorem apply_has {t : T} {q : R} {px py : Int} (ht : t.ok = true) (hq : q.ok = true) (h1 : reachB px = true) (h2 : reachB py = true) (ha : (t.apply q).ok = true) :
    (t.apply q).has px py = q.has (t.back ⟨px, py⟩).x (t.back ⟨px, py⟩).y := by
  have e1 : t.apply q = _ := if_pos (show (t.ok && q.ok) = true by rw [ht, hq]; rfl)
  have e2 : t.back ⟨px, py⟩ = _ := if_pos (show (t.ok && reachB px && reachB py) = true by rw [ht, h1, h2]; rfl)
  rw [has_of ha, has_of hq, e1, e2, decide_eq_decide]
  exact step_t (T.bounds ht).1 (T.bounds ht).2.1.1 (R.bounds hq).2.2.1.1 (R.bounds hq).2.2.2.1

/-- The image of a rectangle near the origin is valid. -/
theorem imb {x s d : Int} (hx : -100000 ≤ x ∧ x ≤ 100000) (hs : 1 ≤ s ∧ s ≤ 16) (hd : -100000 ≤ d ∧ d ≤ 100000) : -1700000 ≤ x * s + d ∧ x * s + d ≤ 1700000 := by
  obtain ⟨a, b⟩ := mul_bd (x := x) (s := s) (by omega) (by omega) hs.1 hs.2
  have c := Int.mul_le_mul_of_nonneg_right hx.2 (show 0 ≤ s by omega)
  have e := Int.mul_le_mul_of_nonneg_right hx.1 (show 0 ≤ s by omega)
  omega
theorem mmw {a l s d : Int} (hs : 1 ≤ s) (hl : 0 ≤ l) : max (a * s + d) ((a + l) * s + d) - min (a * s + d) ((a + l) * s + d) = l * s := by
  have h1 : (a + l) * s = a * s + l * s := Int.add_mul _ _ _
  have h2 : 0 ≤ l * s := Int.mul_nonneg hl (by omega)
  rw [h1]; omega
theorem mmw_neg {a l s d : Int} (hs : 1 ≤ s) (hl : 0 ≤ l) : max (-a * s + d) (-(a + l) * s + d) - min (-a * s + d) (-(a + l) * s + d) = l * s := by
  have h1 : -(a + l) * s = -(a * s) - l * s := by rw [Int.neg_mul, Int.add_mul]; omega
  have h2 : 0 ≤ l * s := Int.mul_nonneg hl (by omega)
  rw [h1, Int.neg_mul]; omega
/-- The extents of an image. -/
theorem apply_size {t : T} {q : R} (hk : 0 ≤ t.turn ∧ t.turn ≤ 3) (hs : 1 ≤ t.scale) (hw : 0 ≤ q.w) (hh : 0 ≤ q.h) :
    (max (t.imx q.x q.y) (t.imx (q.x + q.w) (q.y + q.h)) - min (t.imx q.x q.y) (t.imx (q.x + q.w) (q.y + q.h)) = (if t.turn % 2 = 0 then q.w else q.h) * t.scale) ∧
    (max (t.imy q.x q.y) (t.imy (q.x + q.w) (q.y + q.h)) - min (t.imy q.x q.y) (t.imy (q.x + q.w) (q.y + q.h)) = (if t.turn % 2 = 0 then q.h else q.w) * t.scale) := by
  obtain ⟨k, m, s, dx, dy⟩ := t
  obtain ⟨x, y, w, h⟩ := q
  simp only at hk hs hw hh
  rcases four hk with rfl | rfl | rfl | rfl <;> cases m <;> simp only [T.imx, T.imy, rx, ry, mir, reduceIte, Bool.false_eq_true, Int.reduceEq, Int.reduceMod, Int.neg_neg]
  · exact ⟨mmw hs hw, mmw hs hh⟩
  · exact ⟨mmw_neg hs hw, mmw hs hh⟩
  · exact ⟨mmw_neg hs hh, mmw hs hw⟩
  · exact ⟨mmw_neg hs hh, mmw_neg hs hw⟩
  · exact ⟨mmw_neg hs hw, mmw_neg hs hh⟩
  · exact ⟨mmw hs hw, mmw_neg hs hh⟩
  · exact ⟨mmw hs hh, mmw_neg hs hw⟩
  · exact ⟨mmw hs hh, mmw hs hw⟩

/-- What a joined transform does, in four steps: the linear parts, their order, the origins, the steps. -/
theorem lin_t (t : T) (x y s a b : Int) (hk : 0 ≤ t.turn ∧ t.turn ≤ 3) : t.lx (x * s + a) (y * s + b) = t.lx x y * s + t.lx a b ∧ t.ly (x * s + a) (y * s + b) = t.ly x y * s + t.ly a b := by
  obtain ⟨k, m, r, dx, dy⟩ := t
  simp only at hk
  have e1 : -x * s = -(x * s) := Int.neg_mul _ _
  have e2 : -y * s = -(y * s) := Int.neg_mul _ _
  rcases four hk with rfl | rfl | rfl | rfl <;> cases m <;> simp only [T.lx, T.ly, rx, ry, mir, reduceIte, Bool.false_eq_true, Int.reduceEq, Int.neg_neg, e1, e2] <;> constructor <;> first | exact True.intro | omega
theorem lin_join (t u : T) (x y : Int) (hk : 0 ≤ t.turn ∧ t.turn ≤ 3) (hu : 0 ≤ u.turn ∧ u.turn ≤ 3) : (t.join u).lx x y = t.lx (u.lx x y) (u.ly x y) ∧ (t.join u).ly x y = t.ly (u.lx x y) (u.ly x y) := by
  obtain ⟨k, m, s, dx, dy⟩ := t
  obtain ⟨k', m', s', dx', dy'⟩ := u
  simp only at hk hu
  rcases four hk with rfl | rfl | rfl | rfl <;> rcases four hu with rfl | rfl | rfl | rfl <;> cases m <;> cases m' <;>
    simp [T.join, T.lx, T.ly, rx, ry, mir]
theorem im_join (t u : T) (x y : Int) (hk : 0 ≤ t.turn ∧ t.turn ≤ 3) (hu : 0 ≤ u.turn ∧ u.turn ≤ 3) : (t.join u).imx x y = t.imx (u.imx x y) (u.imy x y) ∧ (t.join u).imy x y = t.imy (u.imx x y) (u.imy x y) := by
  have a1 : ∀ (v : T) x y, v.imx x y = v.lx x y * v.scale + v.dx := fun _ _ _ => rfl
  have a2 : ∀ (v : T) x y, v.imy x y = v.ly x y * v.scale + v.dy := fun _ _ _ => rfl
  obtain ⟨h1, h2⟩ := lin_join t u x y hk hu
  obtain ⟨h3, h4⟩ := lin_t t (u.lx x y) (u.ly x y) u.scale u.dx u.dy hk
  have b1 : (t.join u).scale = t.scale * u.scale := rfl
  have b2 : (t.join u).dx = t.lx u.dx u.dy * t.scale + t.dx := rfl
  have b3 : (t.join u).dy = t.ly u.dx u.dy * t.scale + t.dy := rfl
  have c : ∀ p q r d e : Int, p * (r * q) + (d * r + e) = (p * q + d) * r + e := fun p q r d e => by
    rw [Int.add_mul, Int.mul_comm r q, Int.mul_assoc]; omega
  rw [a1 (t.join u), a2 (t.join u), h1, h2, b1, b2, b3, a1 t, a2 t, a1 u, a2 u, h3, h4]
  exact ⟨c _ _ _ _ _, c _ _ _ _ _⟩

theorem pick (a c : Int) : (min a c = a ∧ max a c = c) ∨ (min a c = c ∧ max a c = a) := by omega
/-- The two corners of a rectangle may be any opposite ones. -/
theorem im_mm (t : T) (a b c d : Int) (hk : 0 ≤ t.turn ∧ t.turn ≤ 3) :
    (min (t.imx (min a c) (min b d)) (t.imx (max a c) (max b d)) = min (t.imx a b) (t.imx c d) ∧ max (t.imx (min a c) (min b d)) (t.imx (max a c) (max b d)) = max (t.imx a b) (t.imx c d)) ∧
    (min (t.imy (min a c) (min b d)) (t.imy (max a c) (max b d)) = min (t.imy a b) (t.imy c d) ∧ max (t.imy (min a c) (min b d)) (t.imy (max a c) (max b d)) = max (t.imy a b) (t.imy c d)) := by
  obtain ⟨k, m, s, dx, dy⟩ := t
  simp only at hk
  rcases four hk with rfl | rfl | rfl | rfl <;> cases m <;> simp only [T.imx, T.imy, rx, ry, mir, reduceIte, Bool.false_eq_true, Int.reduceEq, Int.neg_neg] <;>
    refine ⟨?_, ?_⟩ <;> first
    | (rcases pick a c with ⟨e1, e2⟩ | ⟨e1, e2⟩ <;> rw [e1, e2] <;> first | exact ⟨rfl, rfl⟩ | exact ⟨Int.min_comm _ _, Int.max_comm _ _⟩)
    | (rcases pick b d with ⟨e1, e2⟩ | ⟨e1, e2⟩ <;> rw [e1, e2] <;> first | exact ⟨rfl, rfl⟩ | exact ⟨Int.min_comm _ _, Int.max_comm _ _⟩)

theorem apply_join {t u : T} {q : R} (ht : t.ok = true) (hu : u.ok = true) (hj : (t.join u).ok = true) (hq : q.ok = true) (ha : (u.apply q).ok = true) : (t.join u).apply q = t.apply (u.apply q) := by
  have e1 : (t.join u).apply q = _ := if_pos (show ((t.join u).ok && q.ok) = true by rw [hj, hq]; rfl)
  have e2 : t.apply (u.apply q) = _ := if_pos (show (t.ok && (u.apply q).ok) = true by rw [ht, ha]; rfl)
  have e3 : u.apply q = _ := if_pos (show (u.ok && q.ok) = true by rw [hu, hq]; rfl)
  rw [e2, e3, e1]
  obtain ⟨x, y, w, h⟩ := q
  obtain ⟨j1, j2⟩ := im_join t u x y (T.bounds ht).1 (T.bounds hu).1
  obtain ⟨j3, j4⟩ := im_join t u (x + w) (y + h) (T.bounds ht).1 (T.bounds hu).1
  have k : ∀ a c : Int, min a c + (max a c - min a c) = max a c := fun a c => by omega
  obtain ⟨⟨m1, m2⟩, m3, m4⟩ := im_mm t (u.imx x y) (u.imy x y) (u.imx (x + w) (y + h)) (u.imy (x + w) (y + h)) (T.bounds ht).1
  simp only [k, j1, j2, j3, j4, m1, m2, m3, m4]

/-- Steps back, one after the other. -/
theorem neg_step {z s : Int} (hs : 1 ≤ s) : (-z - 1) / s = -(z / s) - 1 := by
  have h1 := Int.mul_ediv_self_le (x := z) (k := s) (by omega)
  have h2 := Int.lt_mul_ediv_self_add (x := z) (k := s) (by omega)
  generalize z / s = q at h1 h2
  have k1 : (-q - 1) ≤ (-z - 1) / s := (Int.le_ediv_iff_mul_le (by omega)).2 (by rw [Int.sub_mul, Int.neg_mul, Int.mul_comm q s]; omega)
  have k2 : (-z - 1) / s < -q := (Int.ediv_lt_iff_lt_mul (by omega)).2 (by rw [Int.neg_mul, Int.mul_comm q s]; omega)
  omega
theorem step_sub {z l s d r : Int} (hs : 1 ≤ s) (hr : 1 ≤ r) : (z - (l * s + d)) / (s * r) = ((z - d) / s - l) / r := by
  rw [← Int.ediv_ediv_of_nonneg (by omega), show z - (l * s + d) = (z - d) + s * (-l) by rw [Int.mul_neg, Int.mul_comm s l]; omega, Int.add_mul_ediv_left _ _ (by omega)]
  rfl
theorem by_t (t : T) (X Y a b r : Int) (hk : 0 ≤ t.turn ∧ t.turn ≤ 3) (hr : 1 ≤ r) :
    t.bx ((X - t.lx a b) / r) ((Y - t.ly a b) / r) = (t.bx X Y - a) / r ∧ t.by ((X - t.lx a b) / r) ((Y - t.ly a b) / r) = (t.by X Y - b) / r := by
  obtain ⟨k, m, s, dx, dy⟩ := t
  simp only at hk
  have n1 : (-X - 1 - b) / r = -((X + b) / r) - 1 := by rw [← neg_step hr]; congr 1; omega
  have n2 : (-X - 1 - a) / r = -((X + a) / r) - 1 := by rw [← neg_step hr]; congr 1; omega
  have n3 : (-Y - 1 - b) / r = -((Y + b) / r) - 1 := by rw [← neg_step hr]; congr 1; omega
  have n4 : (-Y - 1 - a) / r = -((Y + a) / r) - 1 := by rw [← neg_step hr]; congr 1; omega
  have nn : ∀ z : Int, -(-z - 1) - 1 = z := fun z => by omega
  rcases four hk with rfl | rfl | rfl | rfl <;> cases m <;> simp only [T.bx, T.by, T.lx, T.ly, rx, ry, mir, bmir, bkx, bky, reduceIte, Bool.false_eq_true, Int.reduceEq, Int.neg_neg, Int.sub_neg, n1, n2, n3, n4, nn, and_self]
theorem back_lin (t u : T) (X Y : Int) (hk : 0 ≤ t.turn ∧ t.turn ≤ 3) (hu : 0 ≤ u.turn ∧ u.turn ≤ 3) : (t.join u).bx X Y = u.bx (t.bx X Y) (t.by X Y) ∧ (t.join u).by X Y = u.by (t.bx X Y) (t.by X Y) := by
  obtain ⟨k, m, s, dx, dy⟩ := t
  obtain ⟨k', m', s', dx', dy'⟩ := u
  simp only at hk hu
  have nn : ∀ z : Int, -(-z - 1) - 1 = z := fun z => by omega
  rcases four hk with rfl | rfl | rfl | rfl <;> rcases four hu with rfl | rfl | rfl | rfl <;> cases m <;> cases m' <;>
    simp [T.join, T.bx, T.by, bkx, bky, bmir, nn]
theorem back_join {t u : T} {px py : Int} (ht : t.ok = true) (hu : u.ok = true) (hj : (t.join u).ok = true) (h1 : reachB px = true) (h2 : reachB py = true) (h3 : reachB (t.back ⟨px, py⟩).x = true) (h4 : reachB (t.back ⟨px, py⟩).y = true) :
    (t.join u).back ⟨px, py⟩ = u.back (t.back ⟨px, py⟩) := by
  have e1 : (t.join u).back ⟨px, py⟩ = _ := if_pos (show ((t.join u).ok && reachB px && reachB py) = true by rw [hj, h1, h2]; rfl)
  have e2 : u.back (t.back ⟨px, py⟩) = _ := if_pos (show (u.ok && reachB (t.back ⟨px, py⟩).x && reachB (t.back ⟨px, py⟩).y) = true by rw [hu, h3, h4]; rfl)
  have e3 : t.back ⟨px, py⟩ = _ := if_pos (show (t.ok && reachB px && reachB py) = true by rw [ht, h1, h2]; rfl)
  rw [e2, e3, e1]
  have hr := (T.bounds hu).2.1.1
  have hs := (T.bounds ht).2.1.1
  have b1 : (t.join u).scale = t.scale * u.scale := rfl
  have b2 : (t.join u).dx = t.lx u.dx u.dy * t.scale + t.dx := rfl
  have b3 : (t.join u).dy = t.ly u.dx u.dy * t.scale + t.dy := rfl
  show Pt.mk ((t.join u).bx ((px - (t.join u).dx) / (t.join u).scale) ((py - (t.join u).dy) / (t.join u).scale)) ((t.join u).by ((px - (t.join u).dx) / (t.join u).scale) ((py - (t.join u).dy) / (t.join u).scale)) =
    Pt.mk (u.bx ((t.bx ((px - t.dx) / t.scale) ((py - t.dy) / t.scale) - u.dx) / u.scale) ((t.by ((px - t.dx) / t.scale) ((py - t.dy) / t.scale) - u.dy) / u.scale)) (u.by ((t.bx ((px - t.dx) / t.scale) ((py - t.dy) / t.scale) - u.dx) / u.scale) ((t.by ((px - t.dx) / t.scale) ((py - t.dy) / t.scale) - u.dy) / u.scale))
  rw [b1, b2, b3, step_sub hs hr, step_sub hs hr]
  obtain ⟨l1, l2⟩ := back_lin t u (((px - t.dx) / t.scale - t.lx u.dx u.dy) / u.scale) (((py - t.dy) / t.scale - t.ly u.dx u.dy) / u.scale) (T.bounds ht).1 (T.bounds hu).1
  obtain ⟨l3, l4⟩ := by_t t ((px - t.dx) / t.scale) ((py - t.dy) / t.scale) u.dx u.dy u.scale (T.bounds ht).1 hr
  rw [l1, l2, l3, l4]
end Go.Proofs.Ythldilikkogaoaa
