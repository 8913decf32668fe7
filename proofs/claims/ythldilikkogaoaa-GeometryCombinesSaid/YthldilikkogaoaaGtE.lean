/- What Combine of package geometry returns; no condition. -/
import Derived.Test.YthldilikkogaoaaGtB
namespace Go.Proofs.Ythldilikkogaoaa
open Go.RowKit Go.Sort
set_option linter.unusedSimpArgs false
set_option linter.unusedVariables false

def T.join (a b : T) : T := ⟨(if a.mirror then a.turn + 4 - b.turn else a.turn + b.turn) % 4, a.mirror != b.mirror, a.scale * b.scale, a.imx b.dx b.dy, a.imy b.dx b.dy⟩
def T.comb (a b : T) : T := if a.ok && b.ok && (a.join b).ok then a.join b else T.zero
def T.combE (a b : T) : Int := if a.ok && b.ok && (a.join b).ok then 0 else 1
theorem sc_bd {x s : Int} (h1 : 1 ≤ x) (h2 : x ≤ 16) (h3 : 1 ≤ s) (h4 : s ≤ 16) : 1 ≤ x * s ∧ x * s ≤ 256 := by
  have a := Int.mul_le_mul_of_nonneg_right h2 (show 0 ≤ s by omega)
  have b := Int.mul_le_mul_of_nonneg_right h1 (show 0 ≤ s by omega)
  omega

set_option maxHeartbeats 4000000 in
theorem Combine_bad (a b : T) (w : World) (c : (a.ok && b.ok) = false) :
    Calls Try.prog 25 #[a.v, b.v] w fun e w' => e = .returned (.tuple #[(a.comb b).v, .int .i64 (a.combE b)]) ∧ Grew w w' := by
  have H : Hid (a.comb b = T.zero) := if_neg (by rw [c]; simp)
  have H' : Hid (a.combE b = 1) := if_neg (by rw [c]; simp)
  have hc : a.ok = false ∨ (a.ok = true ∧ b.ok = false) := by
    cases e1 : a.ok <;> cases e2 : b.ok <;> simp [e1, e2] at c ⊢
  clear c
  obtain ⟨k, m, s, x, y⟩ := a
  obtain ⟨k', m', s', x', y'⟩ := b
  rcases hc with c1 | ⟨c1, c2⟩
  · have V1 := fun W => hide (Check_bad ⟨k, m, s, x, y⟩ W c1)
    clear c1
    go_enter Try.func25, Try.ntmps25
    go_wp2_with fail
    refine ((V1 _).out).mono ?_
    rintro e w1 ⟨rfl, G1⟩
    try (with_reducible replace G1 := Grew.undrawn G1)
    obtain ⟨c1, f1⟩ := G1.cells
    have z1 := G1.size
    try simp only [World.size_alloc, World.size_setCell, size_drewN] at z1
    replace G1 := hide G1
    have l1_w_0 : w.heap.size < w1.heap.size := by omega
    have l1_w_1 : w.heap.size + 1 < w1.heap.size := by omega
    have l1_w_2 : w.heap.size + 1 + 1 < w1.heap.size := by omega
    go_wp2
    rw [H.out, H'.out]
    refine bodyPost_ret (v := .tuple #[T.zero.v, .int .i64 1]) (by simp [results, Try.results25, go_sem, R.zero, T.zero, c1, l1_w_0, l1_w_1, l1_w_2]) rfl ⟨rfl, ?_⟩
    repeat' (first | (with_reducible exact Grew.refl _) | (with_reducible refine Grew.setCell ?_ ?_ _) | (with_reducible refine Grew.drewN ?_ _) | (with_reducible refine Grew.alloc ?_ _) | (with_reducible refine Grew.trans ?_ G1.out) | (dsimp only; omega))
  · have V1 := fun W => hide (Check_ok ⟨k, m, s, x, y⟩ W c1)
    have V2 := fun W => hide (Check_bad ⟨k', m', s', x', y'⟩ W c2)
    clear c1 c2
    go_enter Try.func25, Try.ntmps25
    go_wp2_with fail
    refine ((V1 _).out).mono ?_
    rintro e w1 ⟨rfl, G1⟩
    try (with_reducible replace G1 := Grew.undrawn G1)
    obtain ⟨c1, f1⟩ := G1.cells
    have z1 := G1.size
    try simp only [World.size_alloc, World.size_setCell, size_drewN] at z1
    replace G1 := hide G1
    have l1_w_0 : w.heap.size < w1.heap.size := by omega
    have l1_w_1 : w.heap.size + 1 < w1.heap.size := by omega
    have l1_w_2 : w.heap.size + 1 + 1 < w1.heap.size := by omega
    go_wp2_with fail
    refine ((V2 _).out).mono ?_
    rintro e w2 ⟨rfl, G2⟩
    try (with_reducible replace G2 := Grew.undrawn G2)
    obtain ⟨c2, f2⟩ := G2.cells
    have z2 := G2.size
    try simp only [World.size_alloc, World.size_setCell, size_drewN] at z2
    replace G2 := hide G2
    have l2_w_0 : w.heap.size < w2.heap.size := by omega
    have l2_w_1 : w.heap.size + 1 < w2.heap.size := by omega
    have l2_w_2 : w.heap.size + 1 + 1 < w2.heap.size := by omega
    go_wp2
    rw [H.out, H'.out]
    refine bodyPost_ret (v := .tuple #[T.zero.v, .int .i64 1]) (by simp [results, Try.results25, go_sem, R.zero, T.zero, c1, c2, l1_w_0, l1_w_1, l1_w_2, l2_w_0, l2_w_1, l2_w_2]) rfl ⟨rfl, ?_⟩
    repeat' (first | (with_reducible exact Grew.refl _) | (with_reducible refine Grew.setCell ?_ ?_ _) | (with_reducible refine Grew.drewN ?_ _) | (with_reducible refine Grew.alloc ?_ _) | (with_reducible refine Grew.trans ?_ G2.out) | (with_reducible refine Grew.trans ?_ G1.out) | (dsimp only; omega))

set_option maxHeartbeats 4000000 in
theorem Combine_ok (a b : T) (w : World) (c1 : a.ok = true) (c2 : b.ok = true) :
    Calls Try.prog 25 #[a.v, b.v] w fun e w' => e = .returned (.tuple #[(a.comb b).v, .int .i64 (a.combE b)]) ∧ Grew w w' := by
  have H1 : a.comb b = if (a.join b).ok = true then a.join b else T.zero := by unfold T.comb; rw [c1, c2]; rfl
  have H2 : a.combE b = if (a.join b).ok = true then 0 else 1 := by unfold T.combE; rw [c1, c2]; rfl
  have V1 := fun W => hide (Check_ok a W c1)
  have V2 := fun W => hide (Check_ok b W c2)
  obtain ⟨⟨h1, h2⟩, ⟨s1, s2⟩, _, _⟩ := T.bounds c1
  obtain ⟨⟨h3, h4⟩, ⟨s3, s4⟩, ⟨d1, d2⟩, d3, d4⟩ := T.bounds c2
  have I1 := fun W => hide (image_any a b.dx b.dy W c1 (by omega) (by omega) (by omega) (by omega))
  obtain ⟨⟨q1, q2⟩, q3, q4⟩ := T.im_bd c1 (x := b.dx) (y := b.dy) (by omega) (by omega)
  obtain ⟨r1, r2⟩ := sc_bd s1 s2 s3 s4
  have HJ : Hid (a.join b = ⟨(if a.mirror then a.turn + 4 - b.turn else a.turn + b.turn) % 4, a.mirror != b.mirror, a.scale * b.scale, a.imx b.dx b.dy, a.imy b.dx b.dy⟩) := rfl
  generalize hj : a.join b = j at H1 H2 HJ
  clear hj
  have V3 : j.ok = true → ∀ W, Hid (Calls Try.prog 27 #[j.v] W fun e w' => e = .returned (.int .i64 0) ∧ Grew W w') := fun h W => hide (Check_ok j W h)
  have V4 : j.ok = false → ∀ W, Hid (Calls Try.prog 27 #[j.v] W fun e w' => e = .returned (.int .i64 1) ∧ Grew W w') := fun h W => hide (Check_bad j W h)
  obtain ⟨k, m, s, x, y⟩ := a
  obtain ⟨k', m', s', x', y'⟩ := b
  simp only at h1 h2 s1 s2 h3 h4 s3 s4 d1 d2 d3 d4 I1 q1 q2 q3 q4 r1 r2 HJ
  generalize (T.mk k m s x y).imx x' y' = ix at I1 q1 q2 HJ
  generalize (T.mk k m s x y).imy x' y' = iy at I1 q3 q4 HJ
  clear c1 c2
  cases hjo : j.ok with
  | true =>
    rw [if_pos hjo] at H1 H2
    replace H1 := hide H1
    replace H2 := hide H2
    have V3 := V3 hjo
    clear V4 hjo
    cases m with
    | true =>
      have HJ' : j = ⟨(4 - k' + k) % 4, !m', s * s', ix, iy⟩ := by rw [HJ.out]; cases m' <;> simp <;> omega
      clear HJ
      subst HJ'
      go_enter Try.func25, Try.ntmps25
      go_wp2_with fail
      refine ((V1 _).out).mono ?_
      rintro e w1 ⟨rfl, G1⟩
      try (with_reducible replace G1 := Grew.undrawn G1)
      have B1_0 : Blk w1 (w.heap.size) 39 [.int .i64 k, .bool true, .int .i64 s, .int .i64 x, .int .i64 y] := Blk.grew (by (repeat' (first | (with_reducible assumption) | ((with_reducible refine Blk.new ?_); (first | (with_reducible rfl) | (simp only [World.size_alloc, World.size_setCell, size_drewN]; done))) | (with_reducible refine Blk.alloc ?_ _) | (with_reducible refine Blk.drewN ?_ _) | (with_reducible refine Blk.drew ?_) | (refine Blk.other ?_ (by omega) _) | fail))) G1
      have B1_1 : Blk w1 (w.heap.size + 1) 39 [.int .i64 k', .bool m', .int .i64 s', .int .i64 x', .int .i64 y'] := Blk.grew (by (repeat' (first | (with_reducible assumption) | ((with_reducible refine Blk.new ?_); (first | (with_reducible rfl) | (simp only [World.size_alloc, World.size_setCell, size_drewN]; done))) | (with_reducible refine Blk.alloc ?_ _) | (with_reducible refine Blk.drewN ?_ _) | (with_reducible refine Blk.drew ?_) | (refine Blk.other ?_ (by omega) _) | fail))) G1
      have B1_2 : Blk w1 (w.heap.size + 1 + 1) 39 [.int .i64 0, .bool false, .int .i64 0, .int .i64 0, .int .i64 0] := Blk.grew (by (repeat' (first | (with_reducible assumption) | ((with_reducible refine Blk.new ?_); (first | (with_reducible rfl) | (simp only [World.size_alloc, World.size_setCell, size_drewN]; done))) | (with_reducible refine Blk.alloc ?_ _) | (with_reducible refine Blk.drewN ?_ _) | (with_reducible refine Blk.drew ?_) | (refine Blk.other ?_ (by omega) _) | fail))) G1
      have z1 := G1.size
      try simp only [World.size_alloc, World.size_setCell, size_drewN] at z1
      replace G1 := hide G1
      have t1_0 := B1_0.lt
      have d1_0_0 := B1_0.cell 0 rfl
      have e1_0_0 := B1_0.free 0
      have d1_0_1 := B1_0.cell 1 rfl
      have e1_0_1 := B1_0.free 1
      have d1_0_2 := B1_0.cell 2 rfl
      have e1_0_2 := B1_0.free 2
      have d1_0_3 := B1_0.cell 3 rfl
      have e1_0_3 := B1_0.free 3
      have d1_0_4 := B1_0.cell 4 rfl
      have e1_0_4 := B1_0.free 4
      have t1_1 := B1_1.lt
      have d1_1_0 := B1_1.cell 0 rfl
      have e1_1_0 := B1_1.free 0
      have d1_1_1 := B1_1.cell 1 rfl
      have e1_1_1 := B1_1.free 1
      have d1_1_2 := B1_1.cell 2 rfl
      have e1_1_2 := B1_1.free 2
      have d1_1_3 := B1_1.cell 3 rfl
      have e1_1_3 := B1_1.free 3
      have d1_1_4 := B1_1.cell 4 rfl
      have e1_1_4 := B1_1.free 4
      have t1_2 := B1_2.lt
      have d1_2_0 := B1_2.cell 0 rfl
      have e1_2_0 := B1_2.free 0
      have d1_2_1 := B1_2.cell 1 rfl
      have e1_2_1 := B1_2.free 1
      have d1_2_2 := B1_2.cell 2 rfl
      have e1_2_2 := B1_2.free 2
      have d1_2_3 := B1_2.cell 3 rfl
      have e1_2_3 := B1_2.free 3
      have d1_2_4 := B1_2.cell 4 rfl
      have e1_2_4 := B1_2.free 4
      go_wp2_with fail
      refine ((V2 _).out).mono ?_
      rintro e w2 ⟨rfl, G2⟩
      try (with_reducible replace G2 := Grew.undrawn G2)
      have B2_0 : Blk w2 (w.heap.size) 39 [.int .i64 k, .bool true, .int .i64 s, .int .i64 x, .int .i64 y] := Blk.grew (by (repeat' (first | (with_reducible assumption) | ((with_reducible refine Blk.new ?_); (first | (with_reducible rfl) | (simp only [World.size_alloc, World.size_setCell, size_drewN]; done))) | (with_reducible refine Blk.alloc ?_ _) | (with_reducible refine Blk.drewN ?_ _) | (with_reducible refine Blk.drew ?_) | (refine Blk.other ?_ (by omega) _) | fail))) G2
      have B2_1 : Blk w2 (w.heap.size + 1) 39 [.int .i64 k', .bool m', .int .i64 s', .int .i64 x', .int .i64 y'] := Blk.grew (by (repeat' (first | (with_reducible assumption) | ((with_reducible refine Blk.new ?_); (first | (with_reducible rfl) | (simp only [World.size_alloc, World.size_setCell, size_drewN]; done))) | (with_reducible refine Blk.alloc ?_ _) | (with_reducible refine Blk.drewN ?_ _) | (with_reducible refine Blk.drew ?_) | (refine Blk.other ?_ (by omega) _) | fail))) G2
      have B2_2 : Blk w2 (w.heap.size + 1 + 1) 39 [.int .i64 0, .bool false, .int .i64 0, .int .i64 0, .int .i64 0] := Blk.grew (by (repeat' (first | (with_reducible assumption) | ((with_reducible refine Blk.new ?_); (first | (with_reducible rfl) | (simp only [World.size_alloc, World.size_setCell, size_drewN]; done))) | (with_reducible refine Blk.alloc ?_ _) | (with_reducible refine Blk.drewN ?_ _) | (with_reducible refine Blk.drew ?_) | (refine Blk.other ?_ (by omega) _) | fail))) G2
      have z2 := G2.size
      try simp only [World.size_alloc, World.size_setCell, size_drewN] at z2
      replace G2 := hide G2
      have t2_0 := B2_0.lt
      have d2_0_0 := B2_0.cell 0 rfl
      have e2_0_0 := B2_0.free 0
      have d2_0_1 := B2_0.cell 1 rfl
      have e2_0_1 := B2_0.free 1
      have d2_0_2 := B2_0.cell 2 rfl
      have e2_0_2 := B2_0.free 2
      have d2_0_3 := B2_0.cell 3 rfl
      have e2_0_3 := B2_0.free 3
      have d2_0_4 := B2_0.cell 4 rfl
      have e2_0_4 := B2_0.free 4
      have t2_1 := B2_1.lt
      have d2_1_0 := B2_1.cell 0 rfl
      have e2_1_0 := B2_1.free 0
      have d2_1_1 := B2_1.cell 1 rfl
      have e2_1_1 := B2_1.free 1
      have d2_1_2 := B2_1.cell 2 rfl
      have e2_1_2 := B2_1.free 2
      have d2_1_3 := B2_1.cell 3 rfl
      have e2_1_3 := B2_1.free 3
      have d2_1_4 := B2_1.cell 4 rfl
      have e2_1_4 := B2_1.free 4
      have t2_2 := B2_2.lt
      have d2_2_0 := B2_2.cell 0 rfl
      have e2_2_0 := B2_2.free 0
      have d2_2_1 := B2_2.cell 1 rfl
      have e2_2_1 := B2_2.free 1
      have d2_2_2 := B2_2.cell 2 rfl
      have e2_2_2 := B2_2.free 2
      have d2_2_3 := B2_2.cell 3 rfl
      have e2_2_3 := B2_2.free 3
      have d2_2_4 := B2_2.cell 4 rfl
      have e2_2_4 := B2_2.free 4
      go_wp2_with fail
      refine ((I1 _).out).mono ?_
      rintro e w3 ⟨rfl, G3⟩
      try (with_reducible replace G3 := Grew.undrawn G3)
      have B3_0 : Blk w3 (w.heap.size) 39 [.int .i64 k, .bool true, .int .i64 s, .int .i64 x, .int .i64 y] := Blk.grew (by (repeat' (first | (with_reducible assumption) | ((with_reducible refine Blk.new ?_); (first | (with_reducible rfl) | (simp only [World.size_alloc, World.size_setCell, size_drewN]; done))) | (with_reducible refine Blk.alloc ?_ _) | (with_reducible refine Blk.drewN ?_ _) | (with_reducible refine Blk.drew ?_) | (refine Blk.other ?_ (by omega) _) | fail))) G3
      have B3_1 : Blk w3 (w.heap.size + 1) 39 [.int .i64 k', .bool m', .int .i64 s', .int .i64 x', .int .i64 y'] := Blk.grew (by (repeat' (first | (with_reducible assumption) | ((with_reducible refine Blk.new ?_); (first | (with_reducible rfl) | (simp only [World.size_alloc, World.size_setCell, size_drewN]; done))) | (with_reducible refine Blk.alloc ?_ _) | (with_reducible refine Blk.drewN ?_ _) | (with_reducible refine Blk.drew ?_) | (refine Blk.other ?_ (by omega) _) | fail))) G3
      have B3_2 : Blk w3 (w.heap.size + 1 + 1) 39 [.int .i64 0, .bool false, .int .i64 0, .int .i64 0, .int .i64 0] := Blk.grew (by (repeat' (first | (with_reducible assumption) | ((with_reducible refine Blk.new ?_); (first | (with_reducible rfl) | (simp only [World.size_alloc, World.size_setCell, size_drewN]; done))) | (with_reducible refine Blk.alloc ?_ _) | (with_reducible refine Blk.drewN ?_ _) | (with_reducible refine Blk.drew ?_) | (refine Blk.other ?_ (by omega) _) | fail))) G3
      have z3 := G3.size
      try simp only [World.size_alloc, World.size_setCell, size_drewN] at z3
      replace G3 := hide G3
      have t3_0 := B3_0.lt
      have d3_0_0 := B3_0.cell 0 rfl
      have e3_0_0 := B3_0.free 0
      have d3_0_1 := B3_0.cell 1 rfl
      have e3_0_1 := B3_0.free 1
      have d3_0_2 := B3_0.cell 2 rfl
      have e3_0_2 := B3_0.free 2
      have d3_0_3 := B3_0.cell 3 rfl
      have e3_0_3 := B3_0.free 3
      have d3_0_4 := B3_0.cell 4 rfl
      have e3_0_4 := B3_0.free 4
      have t3_1 := B3_1.lt
      have d3_1_0 := B3_1.cell 0 rfl
      have e3_1_0 := B3_1.free 0
      have d3_1_1 := B3_1.cell 1 rfl
      have e3_1_1 := B3_1.free 1
      have d3_1_2 := B3_1.cell 2 rfl
      have e3_1_2 := B3_1.free 2
      have d3_1_3 := B3_1.cell 3 rfl
      have e3_1_3 := B3_1.free 3
      have d3_1_4 := B3_1.cell 4 rfl
      have e3_1_4 := B3_1.free 4
      have t3_2 := B3_2.lt
      have d3_2_0 := B3_2.cell 0 rfl
      have e3_2_0 := B3_2.free 0
      have d3_2_1 := B3_2.cell 1 rfl
      have e3_2_1 := B3_2.free 1
      have d3_2_2 := B3_2.cell 2 rfl
      have e3_2_2 := B3_2.free 2
      have d3_2_3 := B3_2.cell 3 rfl
      have e3_2_3 := B3_2.free 3
      have d3_2_4 := B3_2.cell 4 rfl
      have e3_2_4 := B3_2.free 4
      go_wp2_with fail
      refine ((V3 _).out).mono ?_
      rintro e w4 ⟨rfl, G4⟩
      try (with_reducible replace G4 := Grew.undrawn G4)
      have B4_0 : Blk w4 (w.heap.size) 39 [.int .i64 k, .bool true, .int .i64 s, .int .i64 x, .int .i64 y] := Blk.grew (by (repeat' (first | (with_reducible assumption) | ((with_reducible refine Blk.new ?_); (first | (with_reducible rfl) | (simp only [World.size_alloc, World.size_setCell, size_drewN]; done))) | (with_reducible refine Blk.alloc ?_ _) | (with_reducible refine Blk.drewN ?_ _) | (with_reducible refine Blk.drew ?_) | (refine Blk.other ?_ (by omega) _) | fail))) G4
      have B4_1 : Blk w4 (w.heap.size + 1) 39 [.int .i64 k', .bool m', .int .i64 s', .int .i64 x', .int .i64 y'] := Blk.grew (by (repeat' (first | (with_reducible assumption) | ((with_reducible refine Blk.new ?_); (first | (with_reducible rfl) | (simp only [World.size_alloc, World.size_setCell, size_drewN]; done))) | (with_reducible refine Blk.alloc ?_ _) | (with_reducible refine Blk.drewN ?_ _) | (with_reducible refine Blk.drew ?_) | (refine Blk.other ?_ (by omega) _) | fail))) G4
      have B4_2 : Blk w4 (w.heap.size + 1 + 1) 39 [.int .i64 0, .bool false, .int .i64 0, .int .i64 0, .int .i64 0] := Blk.grew (by (repeat' (first | (with_reducible assumption) | ((with_reducible refine Blk.new ?_); (first | (with_reducible rfl) | (simp only [World.size_alloc, World.size_setCell, size_drewN]; done))) | (with_reducible refine Blk.alloc ?_ _) | (with_reducible refine Blk.drewN ?_ _) | (with_reducible refine Blk.drew ?_) | (refine Blk.other ?_ (by omega) _) | fail))) G4
      have B4_3 : Blk w4 (w3.heap.size) 25 [.int .i64 ix, .int .i64 iy] := Blk.grew (by (repeat' (first | (with_reducible assumption) | ((with_reducible refine Blk.new ?_); (first | (with_reducible rfl) | (simp only [World.size_alloc, World.size_setCell, size_drewN]; done))) | (with_reducible refine Blk.alloc ?_ _) | (with_reducible refine Blk.drewN ?_ _) | (with_reducible refine Blk.drew ?_) | (refine Blk.other ?_ (by omega) _) | fail))) G4
      have B4_4 : Blk w4 (w3.heap.size + 1) 39 [.int .i64 ((4 - k' + k) % 4), .bool (!m'), .int .i64 (s * s'), .int .i64 ix, .int .i64 iy] := Blk.grew (by (repeat' (first | (with_reducible assumption) | ((with_reducible refine Blk.new ?_); (first | (with_reducible rfl) | (simp only [World.size_alloc, World.size_setCell, size_drewN]; done))) | (with_reducible refine Blk.alloc ?_ _) | (with_reducible refine Blk.drewN ?_ _) | (with_reducible refine Blk.drew ?_) | (refine Blk.other ?_ (by omega) _) | fail))) G4
      have z4 := G4.size
      try simp only [World.size_alloc, World.size_setCell, size_drewN] at z4
      replace G4 := hide G4
      have t4_0 := B4_0.lt
      have d4_0_0 := B4_0.cell 0 rfl
      have e4_0_0 := B4_0.free 0
      have d4_0_1 := B4_0.cell 1 rfl
      have e4_0_1 := B4_0.free 1
      have d4_0_2 := B4_0.cell 2 rfl
      have e4_0_2 := B4_0.free 2
      have d4_0_3 := B4_0.cell 3 rfl
      have e4_0_3 := B4_0.free 3
      have d4_0_4 := B4_0.cell 4 rfl
      have e4_0_4 := B4_0.free 4
      have t4_1 := B4_1.lt
      have d4_1_0 := B4_1.cell 0 rfl
      have e4_1_0 := B4_1.free 0
      have d4_1_1 := B4_1.cell 1 rfl
      have e4_1_1 := B4_1.free 1
      have d4_1_2 := B4_1.cell 2 rfl
      have e4_1_2 := B4_1.free 2
      have d4_1_3 := B4_1.cell 3 rfl
      have e4_1_3 := B4_1.free 3
      have d4_1_4 := B4_1.cell 4 rfl
      have e4_1_4 := B4_1.free 4
      have t4_2 := B4_2.lt
      have d4_2_0 := B4_2.cell 0 rfl
      have e4_2_0 := B4_2.free 0
      have d4_2_1 := B4_2.cell 1 rfl
      have e4_2_1 := B4_2.free 1
      have d4_2_2 := B4_2.cell 2 rfl
      have e4_2_2 := B4_2.free 2
      have d4_2_3 := B4_2.cell 3 rfl
      have e4_2_3 := B4_2.free 3
      have d4_2_4 := B4_2.cell 4 rfl
      have e4_2_4 := B4_2.free 4
      have t4_3 := B4_3.lt
      have d4_3_0 := B4_3.cell 0 rfl
      have e4_3_0 := B4_3.free 0
      have d4_3_1 := B4_3.cell 1 rfl
      have e4_3_1 := B4_3.free 1
      have t4_4 := B4_4.lt
      have d4_4_0 := B4_4.cell 0 rfl
      have e4_4_0 := B4_4.free 0
      have d4_4_1 := B4_4.cell 1 rfl
      have e4_4_1 := B4_4.free 1
      have d4_4_2 := B4_4.cell 2 rfl
      have e4_4_2 := B4_4.free 2
      have d4_4_3 := B4_4.cell 3 rfl
      have e4_4_3 := B4_4.free 3
      have d4_4_4 := B4_4.cell 4 rfl
      have e4_4_4 := B4_4.free 4
      go_wp2
      rw [H1.out, H2.out]
      refine bodyPost_ret (v := .tuple #[T.v ⟨(4 - k' + k) % 4, !m', s * s', ix, iy⟩, .int .i64 0]) (by simp [results, Try.results25, go_sem, R.zero, T.zero, d4_0_0, d4_0_1, d4_0_2, d4_0_3, d4_0_4, d4_1_0, d4_1_1, d4_1_2, d4_1_3, d4_1_4, d4_2_0, d4_2_1, d4_2_2, d4_2_3, d4_2_4, d4_3_0, d4_3_1, d4_4_0, d4_4_1, d4_4_2, d4_4_3, d4_4_4, t4_0, t4_1, t4_2, t4_3, t4_4]) rfl ⟨rfl, ?_⟩
      repeat' (first | (with_reducible exact Grew.refl _) | (with_reducible refine Grew.setCell ?_ ?_ _) | (with_reducible refine Grew.drewN ?_ _) | (with_reducible refine Grew.alloc ?_ _) | (with_reducible refine Grew.trans ?_ G4.out) | (with_reducible refine Grew.trans ?_ G3.out) | (with_reducible refine Grew.trans ?_ G2.out) | (with_reducible refine Grew.trans ?_ G1.out) | (dsimp only; omega))
    | false =>
      have HJ' : j = ⟨(k' + k) % 4, m', s * s', ix, iy⟩ := by rw [HJ.out]; cases m' <;> simp <;> omega
      clear HJ
      subst HJ'
      go_enter Try.func25, Try.ntmps25
      go_wp2_with fail
      refine ((V1 _).out).mono ?_
      rintro e w1 ⟨rfl, G1⟩
      try (with_reducible replace G1 := Grew.undrawn G1)
      have B1_0 : Blk w1 (w.heap.size) 39 [.int .i64 k, .bool false, .int .i64 s, .int .i64 x, .int .i64 y] := Blk.grew (by (repeat' (first | (with_reducible assumption) | ((with_reducible refine Blk.new ?_); (first | (with_reducible rfl) | (simp only [World.size_alloc, World.size_setCell, size_drewN]; done))) | (with_reducible refine Blk.alloc ?_ _) | (with_reducible refine Blk.drewN ?_ _) | (with_reducible refine Blk.drew ?_) | (refine Blk.other ?_ (by omega) _) | fail))) G1
      have B1_1 : Blk w1 (w.heap.size + 1) 39 [.int .i64 k', .bool m', .int .i64 s', .int .i64 x', .int .i64 y'] := Blk.grew (by (repeat' (first | (with_reducible assumption) | ((with_reducible refine Blk.new ?_); (first | (with_reducible rfl) | (simp only [World.size_alloc, World.size_setCell, size_drewN]; done))) | (with_reducible refine Blk.alloc ?_ _) | (with_reducible refine Blk.drewN ?_ _) | (with_reducible refine Blk.drew ?_) | (refine Blk.other ?_ (by omega) _) | fail))) G1
      have B1_2 : Blk w1 (w.heap.size + 1 + 1) 39 [.int .i64 0, .bool false, .int .i64 0, .int .i64 0, .int .i64 0] := Blk.grew (by (repeat' (first | (with_reducible assumption) | ((with_reducible refine Blk.new ?_); (first | (with_reducible rfl) | (simp only [World.size_alloc, World.size_setCell, size_drewN]; done))) | (with_reducible refine Blk.alloc ?_ _) | (with_reducible refine Blk.drewN ?_ _) | (with_reducible refine Blk.drew ?_) | (refine Blk.other ?_ (by omega) _) | fail))) G1
      have z1 := G1.size
      try simp only [World.size_alloc, World.size_setCell, size_drewN] at z1
      replace G1 := hide G1
      have t1_0 := B1_0.lt
      have d1_0_0 := B1_0.cell 0 rfl
      have e1_0_0 := B1_0.free 0
      have d1_0_1 := B1_0.cell 1 rfl
      have e1_0_1 := B1_0.free 1
      have d1_0_2 := B1_0.cell 2 rfl
      have e1_0_2 := B1_0.free 2
      have d1_0_3 := B1_0.cell 3 rfl
      have e1_0_3 := B1_0.free 3
      have d1_0_4 := B1_0.cell 4 rfl
      have e1_0_4 := B1_0.free 4
      have t1_1 := B1_1.lt
      have d1_1_0 := B1_1.cell 0 rfl
      have e1_1_0 := B1_1.free 0
      have d1_1_1 := B1_1.cell 1 rfl
      have e1_1_1 := B1_1.free 1
      have d1_1_2 := B1_1.cell 2 rfl
      have e1_1_2 := B1_1.free 2
      have d1_1_3 := B1_1.cell 3 rfl
      have e1_1_3 := B1_1.free 3
      have d1_1_4 := B1_1.cell 4 rfl
      have e1_1_4 := B1_1.free 4
      have t1_2 := B1_2.lt
      have d1_2_0 := B1_2.cell 0 rfl
      have e1_2_0 := B1_2.free 0
      have d1_2_1 := B1_2.cell 1 rfl
      have e1_2_1 := B1_2.free 1
      have d1_2_2 := B1_2.cell 2 rfl
      have e1_2_2 := B1_2.free 2
      have d1_2_3 := B1_2.cell 3 rfl
      have e1_2_3 := B1_2.free 3
      have d1_2_4 := B1_2.cell 4 rfl
      have e1_2_4 := B1_2.free 4
      go_wp2_with fail
      refine ((V2 _).out).mono ?_
      rintro e w2 ⟨rfl, G2⟩
      try (with_reducible replace G2 := Grew.undrawn G2)
      have B2_0 : Blk w2 (w.heap.size) 39 [.int .i64 k, .bool false, .int .i64 s, .int .i64 x, .int .i64 y] := Blk.grew (by (repeat' (first | (with_reducible assumption) | ((with_reducible refine Blk.new ?_); (first | (with_reducible rfl) | (simp only [World.size_alloc, World.size_setCell, size_drewN]; done))) | (with_reducible refine Blk.alloc ?_ _) | (with_reducible refine Blk.drewN ?_ _) | (with_reducible refine Blk.drew ?_) | (refine Blk.other ?_ (by omega) _) | fail))) G2
      have B2_1 : Blk w2 (w.heap.size + 1) 39 [.int .i64 k', .bool m', .int .i64 s', .int .i64 x', .int .i64 y'] := Blk.grew (by (repeat' (first | (with_reducible assumption) | ((with_reducible refine Blk.new ?_); (first | (with_reducible rfl) | (simp only [World.size_alloc, World.size_setCell, size_drewN]; done))) | (with_reducible refine Blk.alloc ?_ _) | (with_reducible refine Blk.drewN ?_ _) | (with_reducible refine Blk.drew ?_) | (refine Blk.other ?_ (by omega) _) | fail))) G2
      have B2_2 : Blk w2 (w.heap.size + 1 + 1) 39 [.int .i64 0, .bool false, .int .i64 0, .int .i64 0, .int .i64 0] := Blk.grew (by (repeat' (first | (with_reducible assumption) | ((with_reducible refine Blk.new ?_); (first | (with_reducible rfl) | (simp only [World.size_alloc, World.size_setCell, size_drewN]; done))) | (with_reducible refine Blk.alloc ?_ _) | (with_reducible refine Blk.drewN ?_ _) | (with_reducible refine Blk.drew ?_) | (refine Blk.other ?_ (by omega) _) | fail))) G2
      have z2 := G2.size
      try simp only [World.size_alloc, World.size_setCell, size_drewN] at z2
      replace G2 := hide G2
      have t2_0 := B2_0.lt
      have d2_0_0 := B2_0.cell 0 rfl
      have e2_0_0 := B2_0.free 0
      have d2_0_1 := B2_0.cell 1 rfl
      have e2_0_1 := B2_0.free 1
      have d2_0_2 := B2_0.cell 2 rfl
      have e2_0_2 := B2_0.free 2
      have d2_0_3 := B2_0.cell 3 rfl
      have e2_0_3 := B2_0.free 3
      have d2_0_4 := B2_0.cell 4 rfl
      have e2_0_4 := B2_0.free 4
      have t2_1 := B2_1.lt
      have d2_1_0 := B2_1.cell 0 rfl
      have e2_1_0 := B2_1.free 0
      have d2_1_1 := B2_1.cell 1 rfl
      have e2_1_1 := B2_1.free 1
      have d2_1_2 := B2_1.cell 2 rfl
      have e2_1_2 := B2_1.free 2
      have d2_1_3 := B2_1.cell 3 rfl
      have e2_1_3 := B2_1.free 3
      have d2_1_4 := B2_1.cell 4 rfl
      have e2_1_4 := B2_1.free 4
      have t2_2 := B2_2.lt
      have d2_2_0 := B2_2.cell 0 rfl
      have e2_2_0 := B2_2.free 0
      have d2_2_1 := B2_2.cell 1 rfl
      have e2_2_1 := B2_2.free 1
      have d2_2_2 := B2_2.cell 2 rfl
      have e2_2_2 := B2_2.free 2
      have d2_2_3 := B2_2.cell 3 rfl
      have e2_2_3 := B2_2.free 3
      have d2_2_4 := B2_2.cell 4 rfl
      have e2_2_4 := B2_2.free 4
      go_wp2_with fail
      refine ((I1 _).out).mono ?_
      rintro e w3 ⟨rfl, G3⟩
      try (with_reducible replace G3 := Grew.undrawn G3)
      have B3_0 : Blk w3 (w.heap.size) 39 [.int .i64 k, .bool false, .int .i64 s, .int .i64 x, .int .i64 y] := Blk.grew (by (repeat' (first | (with_reducible assumption) | ((with_reducible refine Blk.new ?_); (first | (with_reducible rfl) | (simp only [World.size_alloc, World.size_setCell, size_drewN]; done))) | (with_reducible refine Blk.alloc ?_ _) | (with_reducible refine Blk.drewN ?_ _) | (with_reducible refine Blk.drew ?_) | (refine Blk.other ?_ (by omega) _) | fail))) G3
      have B3_1 : Blk w3 (w.heap.size + 1) 39 [.int .i64 k', .bool m', .int .i64 s', .int .i64 x', .int .i64 y'] := Blk.grew (by (repeat' (first | (with_reducible assumption) | ((with_reducible refine Blk.new ?_); (first | (with_reducible rfl) | (simp only [World.size_alloc, World.size_setCell, size_drewN]; done))) | (with_reducible refine Blk.alloc ?_ _) | (with_reducible refine Blk.drewN ?_ _) | (with_reducible refine Blk.drew ?_) | (refine Blk.other ?_ (by omega) _) | fail))) G3
      have B3_2 : Blk w3 (w.heap.size + 1 + 1) 39 [.int .i64 0, .bool false, .int .i64 0, .int .i64 0, .int .i64 0] := Blk.grew (by (repeat' (first | (with_reducible assumption) | ((with_reducible refine Blk.new ?_); (first | (with_reducible rfl) | (simp only [World.size_alloc, World.size_setCell, size_drewN]; done))) | (with_reducible refine Blk.alloc ?_ _) | (with_reducible refine Blk.drewN ?_ _) | (with_reducible refine Blk.drew ?_) | (refine Blk.other ?_ (by omega) _) | fail))) G3
      have z3 := G3.size
      try simp only [World.size_alloc, World.size_setCell, size_drewN] at z3
      replace G3 := hide G3
      have t3_0 := B3_0.lt
      have d3_0_0 := B3_0.cell 0 rfl
      have e3_0_0 := B3_0.free 0
      have d3_0_1 := B3_0.cell 1 rfl
      have e3_0_1 := B3_0.free 1
      have d3_0_2 := B3_0.cell 2 rfl
      have e3_0_2 := B3_0.free 2
      have d3_0_3 := B3_0.cell 3 rfl
      have e3_0_3 := B3_0.free 3
      have d3_0_4 := B3_0.cell 4 rfl
      have e3_0_4 := B3_0.free 4
      have t3_1 := B3_1.lt
      have d3_1_0 := B3_1.cell 0 rfl
      have e3_1_0 := B3_1.free 0
      have d3_1_1 := B3_1.cell 1 rfl
      have e3_1_1 := B3_1.free 1
      have d3_1_2 := B3_1.cell 2 rfl
      have e3_1_2 := B3_1.free 2
      have d3_1_3 := B3_1.cell 3 rfl
      have e3_1_3 := B3_1.free 3
      have d3_1_4 := B3_1.cell 4 rfl
      have e3_1_4 := B3_1.free 4
      have t3_2 := B3_2.lt
      have d3_2_0 := B3_2.cell 0 rfl
      have e3_2_0 := B3_2.free 0
      have d3_2_1 := B3_2.cell 1 rfl
      have e3_2_1 := B3_2.free 1
      have d3_2_2 := B3_2.cell 2 rfl
      have e3_2_2 := B3_2.free 2
      have d3_2_3 := B3_2.cell 3 rfl
      have e3_2_3 := B3_2.free 3
      have d3_2_4 := B3_2.cell 4 rfl
      have e3_2_4 := B3_2.free 4
      go_wp2_with fail
      refine ((V3 _).out).mono ?_
      rintro e w4 ⟨rfl, G4⟩
      try (with_reducible replace G4 := Grew.undrawn G4)
      have B4_0 : Blk w4 (w.heap.size) 39 [.int .i64 k, .bool false, .int .i64 s, .int .i64 x, .int .i64 y] := Blk.grew (by (repeat' (first | (with_reducible assumption) | ((with_reducible refine Blk.new ?_); (first | (with_reducible rfl) | (simp only [World.size_alloc, World.size_setCell, size_drewN]; done))) | (with_reducible refine Blk.alloc ?_ _) | (with_reducible refine Blk.drewN ?_ _) | (with_reducible refine Blk.drew ?_) | (refine Blk.other ?_ (by omega) _) | fail))) G4
      have B4_1 : Blk w4 (w.heap.size + 1) 39 [.int .i64 k', .bool m', .int .i64 s', .int .i64 x', .int .i64 y'] := Blk.grew (by (repeat' (first | (with_reducible assumption) | ((with_reducible refine Blk.new ?_); (first | (with_reducible rfl) | (simp only [World.size_alloc, World.size_setCell, size_drewN]; done))) | (with_reducible refine Blk.alloc ?_ _) | (with_reducible refine Blk.drewN ?_ _) | (with_reducible refine Blk.drew ?_) | (refine Blk.other ?_ (by omega) _) | fail))) G4
      have B4_2 : Blk w4 (w.heap.size + 1 + 1) 39 [.int .i64 0, .bool false, .int .i64 0, .int .i64 0, .int .i64 0] := Blk.grew (by (repeat' (first | (with_reducible assumption) | ((with_reducible refine Blk.new ?_); (first | (with_reducible rfl) | (simp only [World.size_alloc, World.size_setCell, size_drewN]; done))) | (with_reducible refine Blk.alloc ?_ _) | (with_reducible refine Blk.drewN ?_ _) | (with_reducible refine Blk.drew ?_) | (refine Blk.other ?_ (by omega) _) | fail))) G4
      have B4_3 : Blk w4 (w3.heap.size) 25 [.int .i64 ix, .int .i64 iy] := Blk.grew (by (repeat' (first | (with_reducible assumption) | ((with_reducible refine Blk.new ?_); (first | (with_reducible rfl) | (simp only [World.size_alloc, World.size_setCell, size_drewN]; done))) | (with_reducible refine Blk.alloc ?_ _) | (with_reducible refine Blk.drewN ?_ _) | (with_reducible refine Blk.drew ?_) | (refine Blk.other ?_ (by omega) _) | fail))) G4
      have B4_4 : Blk w4 (w3.heap.size + 1) 39 [.int .i64 ((k' + k) % 4), .bool m', .int .i64 (s * s'), .int .i64 ix, .int .i64 iy] := Blk.grew (by (repeat' (first | (with_reducible assumption) | ((with_reducible refine Blk.new ?_); (first | (with_reducible rfl) | (simp only [World.size_alloc, World.size_setCell, size_drewN]; done))) | (with_reducible refine Blk.alloc ?_ _) | (with_reducible refine Blk.drewN ?_ _) | (with_reducible refine Blk.drew ?_) | (refine Blk.other ?_ (by omega) _) | fail))) G4
      have z4 := G4.size
      try simp only [World.size_alloc, World.size_setCell, size_drewN] at z4
      replace G4 := hide G4
      have t4_0 := B4_0.lt
      have d4_0_0 := B4_0.cell 0 rfl
      have e4_0_0 := B4_0.free 0
      have d4_0_1 := B4_0.cell 1 rfl
      have e4_0_1 := B4_0.free 1
      have d4_0_2 := B4_0.cell 2 rfl
      have e4_0_2 := B4_0.free 2
      have d4_0_3 := B4_0.cell 3 rfl
      have e4_0_3 := B4_0.free 3
      have d4_0_4 := B4_0.cell 4 rfl
      have e4_0_4 := B4_0.free 4
      have t4_1 := B4_1.lt
      have d4_1_0 := B4_1.cell 0 rfl
      have e4_1_0 := B4_1.free 0
      have d4_1_1 := B4_1.cell 1 rfl
      have e4_1_1 := B4_1.free 1
      have d4_1_2 := B4_1.cell 2 rfl
      have e4_1_2 := B4_1.free 2
      have d4_1_3 := B4_1.cell 3 rfl
      have e4_1_3 := B4_1.free 3
      have d4_1_4 := B4_1.cell 4 rfl
      have e4_1_4 := B4_1.free 4
      have t4_2 := B4_2.lt
      have d4_2_0 := B4_2.cell 0 rfl
      have e4_2_0 := B4_2.free 0
      have d4_2_1 := B4_2.cell 1 rfl
      have e4_2_1 := B4_2.free 1
      have d4_2_2 := B4_2.cell 2 rfl
      have e4_2_2 := B4_2.free 2
      have d4_2_3 := B4_2.cell 3 rfl
      have e4_2_3 := B4_2.free 3
      have d4_2_4 := B4_2.cell 4 rfl
      have e4_2_4 := B4_2.free 4
      have t4_3 := B4_3.lt
      have d4_3_0 := B4_3.cell 0 rfl
      have e4_3_0 := B4_3.free 0
      have d4_3_1 := B4_3.cell 1 rfl
      have e4_3_1 := B4_3.free 1
      have t4_4 := B4_4.lt
      have d4_4_0 := B4_4.cell 0 rfl
      have e4_4_0 := B4_4.free 0
      have d4_4_1 := B4_4.cell 1 rfl
      have e4_4_1 := B4_4.free 1
      have d4_4_2 := B4_4.cell 2 rfl
      have e4_4_2 := B4_4.free 2
      have d4_4_3 := B4_4.cell 3 rfl
      have e4_4_3 := B4_4.free 3
      have d4_4_4 := B4_4.cell 4 rfl
      have e4_4_4 := B4_4.free 4
      go_wp2
      rw [H1.out, H2.out]
      refine bodyPost_ret (v := .tuple #[T.v ⟨(k' + k) % 4, m', s * s', ix, iy⟩, .int .i64 0]) (by simp [results, Try.results25, go_sem, R.zero, T.zero, d4_0_0, d4_0_1, d4_0_2, d4_0_3, d4_0_4, d4_1_0, d4_1_1, d4_1_2, d4_1_3, d4_1_4, d4_2_0, d4_2_1, d4_2_2, d4_2_3, d4_2_4, d4_3_0, d4_3_1, d4_4_0, d4_4_1, d4_4_2, d4_4_3, d4_4_4, t4_0, t4_1, t4_2, t4_3, t4_4]) rfl ⟨rfl, ?_⟩
      repeat' (first | (with_reducible exact Grew.refl _) | (with_reducible refine Grew.setCell ?_ ?_ _) | (with_reducible refine Grew.drewN ?_ _) | (with_reducible refine Grew.alloc ?_ _) | (with_reducible refine Grew.trans ?_ G4.out) | (with_reducible refine Grew.trans ?_ G3.out) | (with_reducible refine Grew.trans ?_ G2.out) | (with_reducible refine Grew.trans ?_ G1.out) | (dsimp only; omega))
  | false =>
    rw [if_neg (by rw [hjo]; exact Bool.false_ne_true)] at H1 H2
    replace H1 := hide H1
    replace H2 := hide H2
    have V3 := V4 hjo
    clear V4 hjo
    cases m with
    | true =>
      have HJ' : j = ⟨(4 - k' + k) % 4, !m', s * s', ix, iy⟩ := by rw [HJ.out]; cases m' <;> simp <;> omega
      clear HJ
      subst HJ'
      go_enter Try.func25, Try.ntmps25
      go_wp2_with fail
      refine ((V1 _).out).mono ?_
      rintro e w1 ⟨rfl, G1⟩
      try (with_reducible replace G1 := Grew.undrawn G1)
      have B1_0 : Blk w1 (w.heap.size) 39 [.int .i64 k, .bool true, .int .i64 s, .int .i64 x, .int .i64 y] := Blk.grew (by (repeat' (first | (with_reducible assumption) | ((with_reducible refine Blk.new ?_); (first | (with_reducible rfl) | (simp only [World.size_alloc, World.size_setCell, size_drewN]; done))) | (with_reducible refine Blk.alloc ?_ _) | (with_reducible refine Blk.drewN ?_ _) | (with_reducible refine Blk.drew ?_) | (refine Blk.other ?_ (by omega) _) | fail))) G1
      have B1_1 : Blk w1 (w.heap.size + 1) 39 [.int .i64 k', .bool m', .int .i64 s', .int .i64 x', .int .i64 y'] := Blk.grew (by (repeat' (first | (with_reducible assumption) | ((with_reducible refine Blk.new ?_); (first | (with_reducible rfl) | (simp only [World.size_alloc, World.size_setCell, size_drewN]; done))) | (with_reducible refine Blk.alloc ?_ _) | (with_reducible refine Blk.drewN ?_ _) | (with_reducible refine Blk.drew ?_) | (refine Blk.other ?_ (by omega) _) | fail))) G1
      have B1_2 : Blk w1 (w.heap.size + 1 + 1) 39 [.int .i64 0, .bool false, .int .i64 0, .int .i64 0, .int .i64 0] := Blk.grew (by (repeat' (first | (with_reducible assumption) | ((with_reducible refine Blk.new ?_); (first | (with_reducible rfl) | (simp only [World.size_alloc, World.size_setCell, size_drewN]; done))) | (with_reducible refine Blk.alloc ?_ _) | (with_reducible refine Blk.drewN ?_ _) | (with_reducible refine Blk.drew ?_) | (refine Blk.other ?_ (by omega) _) | fail))) G1
      have z1 := G1.size
      try simp only [World.size_alloc, World.size_setCell, size_drewN] at z1
      replace G1 := hide G1
      have t1_0 := B1_0.lt
      have d1_0_0 := B1_0.cell 0 rfl
      have e1_0_0 := B1_0.free 0
      have d1_0_1 := B1_0.cell 1 rfl
      have e1_0_1 := B1_0.free 1
      have d1_0_2 := B1_0.cell 2 rfl
      have e1_0_2 := B1_0.free 2
      have d1_0_3 := B1_0.cell 3 rfl
      have e1_0_3 := B1_0.free 3
      have d1_0_4 := B1_0.cell 4 rfl
      have e1_0_4 := B1_0.free 4
      have t1_1 := B1_1.lt
      have d1_1_0 := B1_1.cell 0 rfl
      have e1_1_0 := B1_1.free 0
      have d1_1_1 := B1_1.cell 1 rfl
      have e1_1_1 := B1_1.free 1
      have d1_1_2 := B1_1.cell 2 rfl
      have e1_1_2 := B1_1.free 2
      have d1_1_3 := B1_1.cell 3 rfl
      have e1_1_3 := B1_1.free 3
      have d1_1_4 := B1_1.cell 4 rfl
      have e1_1_4 := B1_1.free 4
      have t1_2 := B1_2.lt
      have d1_2_0 := B1_2.cell 0 rfl
      have e1_2_0 := B1_2.free 0
      have d1_2_1 := B1_2.cell 1 rfl
      have e1_2_1 := B1_2.free 1
      have d1_2_2 := B1_2.cell 2 rfl
      have e1_2_2 := B1_2.free 2
      have d1_2_3 := B1_2.cell 3 rfl
      have e1_2_3 := B1_2.free 3
      have d1_2_4 := B1_2.cell 4 rfl
      have e1_2_4 := B1_2.free 4
      go_wp2_with fail
      refine ((V2 _).out).mono ?_
      rintro e w2 ⟨rfl, G2⟩
      try (with_reducible replace G2 := Grew.undrawn G2)
      have B2_0 : Blk w2 (w.heap.size) 39 [.int .i64 k, .bool true, .int .i64 s, .int .i64 x, .int .i64 y] := Blk.grew (by (repeat' (first | (with_reducible assumption) | ((with_reducible refine Blk.new ?_); (first | (with_reducible rfl) | (simp only [World.size_alloc, World.size_setCell, size_drewN]; done))) | (with_reducible refine Blk.alloc ?_ _) | (with_reducible refine Blk.drewN ?_ _) | (with_reducible refine Blk.drew ?_) | (refine Blk.other ?_ (by omega) _) | fail))) G2
      have B2_1 : Blk w2 (w.heap.size + 1) 39 [.int .i64 k', .bool m', .int .i64 s', .int .i64 x', .int .i64 y'] := Blk.grew (by (repeat' (first | (with_reducible assumption) | ((with_reducible refine Blk.new ?_); (first | (with_reducible rfl) | (simp only [World.size_alloc, World.size_setCell, size_drewN]; done))) | (with_reducible refine Blk.alloc ?_ _) | (with_reducible refine Blk.drewN ?_ _) | (with_reducible refine Blk.drew ?_) | (refine Blk.other ?_ (by omega) _) | fail))) G2
      have B2_2 : Blk w2 (w.heap.size + 1 + 1) 39 [.int .i64 0, .bool false, .int .i64 0, .int .i64 0, .int .i64 0] := Blk.grew (by (repeat' (first | (with_reducible assumption) | ((with_reducible refine Blk.new ?_); (first | (with_reducible rfl) | (simp only [World.size_alloc, World.size_setCell, size_drewN]; done))) | (with_reducible refine Blk.alloc ?_ _) | (with_reducible refine Blk.drewN ?_ _) | (with_reducible refine Blk.drew ?_) | (refine Blk.other ?_ (by omega) _) | fail))) G2
      have z2 := G2.size
      try simp only [World.size_alloc, World.size_setCell, size_drewN] at z2
      replace G2 := hide G2
      have t2_0 := B2_0.lt
      have d2_0_0 := B2_0.cell 0 rfl
      have e2_0_0 := B2_0.free 0
      have d2_0_1 := B2_0.cell 1 rfl
      have e2_0_1 := B2_0.free 1
      have d2_0_2 := B2_0.cell 2 rfl
      have e2_0_2 := B2_0.free 2
      have d2_0_3 := B2_0.cell 3 rfl
      have e2_0_3 := B2_0.free 3
      have d2_0_4 := B2_0.cell 4 rfl
      have e2_0_4 := B2_0.free 4
      have t2_1 := B2_1.lt
      have d2_1_0 := B2_1.cell 0 rfl
      have e2_1_0 := B2_1.free 0
      have d2_1_1 := B2_1.cell 1 rfl
      have e2_1_1 := B2_1.free 1
      have d2_1_2 := B2_1.cell 2 rfl
      have e2_1_2 := B2_1.free 2
      have d2_1_3 := B2_1.cell 3 rfl
      have e2_1_3 := B2_1.free 3
      have d2_1_4 := B2_1.cell 4 rfl
      have e2_1_4 := B2_1.free 4
      have t2_2 := B2_2.lt
      have d2_2_0 := B2_2.cell 0 rfl
      have e2_2_0 := B2_2.free 0
      have d2_2_1 := B2_2.cell 1 rfl
      have e2_2_1 := B2_2.free 1
      have d2_2_2 := B2_2.cell 2 rfl
      have e2_2_2 := B2_2.free 2
      have d2_2_3 := B2_2.cell 3 rfl
      have e2_2_3 := B2_2.free 3
      have d2_2_4 := B2_2.cell 4 rfl
      have e2_2_4 := B2_2.free 4
      go_wp2_with fail
      refine ((I1 _).out).mono ?_
      rintro e w3 ⟨rfl, G3⟩
      try (with_reducible replace G3 := Grew.undrawn G3)
      have B3_0 : Blk w3 (w.heap.size) 39 [.int .i64 k, .bool true, .int .i64 s, .int .i64 x, .int .i64 y] := Blk.grew (by (repeat' (first | (with_reducible assumption) | ((with_reducible refine Blk.new ?_); (first | (with_reducible rfl) | (simp only [World.size_alloc, World.size_setCell, size_drewN]; done))) | (with_reducible refine Blk.alloc ?_ _) | (with_reducible refine Blk.drewN ?_ _) | (with_reducible refine Blk.drew ?_) | (refine Blk.other ?_ (by omega) _) | fail))) G3
      have B3_1 : Blk w3 (w.heap.size + 1) 39 [.int .i64 k', .bool m', .int .i64 s', .int .i64 x', .int .i64 y'] := Blk.grew (by (repeat' (first | (with_reducible assumption) | ((with_reducible refine Blk.new ?_); (first | (with_reducible rfl) | (simp only [World.size_alloc, World.size_setCell, size_drewN]; done))) | (with_reducible refine Blk.alloc ?_ _) | (with_reducible refine Blk.drewN ?_ _) | (with_reducible refine Blk.drew ?_) | (refine Blk.other ?_ (by omega) _) | fail))) G3
      have B3_2 : Blk w3 (w.heap.size + 1 + 1) 39 [.int .i64 0, .bool false, .int .i64 0, .int .i64 0, .int .i64 0] := Blk.grew (by (repeat' (first | (with_reducible assumption) | ((with_reducible refine Blk.new ?_); (first | (with_reducible rfl) | (simp only [World.size_alloc, World.size_setCell, size_drewN]; done))) | (with_reducible refine Blk.alloc ?_ _) | (with_reducible refine Blk.drewN ?_ _) | (with_reducible refine Blk.drew ?_) | (refine Blk.other ?_ (by omega) _) | fail))) G3
      have z3 := G3.size
      try simp only [World.size_alloc, World.size_setCell, size_drewN] at z3
      replace G3 := hide G3
      have t3_0 := B3_0.lt
      have d3_0_0 := B3_0.cell 0 rfl
      have e3_0_0 := B3_0.free 0
      have d3_0_1 := B3_0.cell 1 rfl
      have e3_0_1 := B3_0.free 1
      have d3_0_2 := B3_0.cell 2 rfl
      have e3_0_2 := B3_0.free 2
      have d3_0_3 := B3_0.cell 3 rfl
      have e3_0_3 := B3_0.free 3
      have d3_0_4 := B3_0.cell 4 rfl
      have e3_0_4 := B3_0.free 4
      have t3_1 := B3_1.lt
      have d3_1_0 := B3_1.cell 0 rfl
      have e3_1_0 := B3_1.free 0
      have d3_1_1 := B3_1.cell 1 rfl
      have e3_1_1 := B3_1.free 1
      have d3_1_2 := B3_1.cell 2 rfl
      have e3_1_2 := B3_1.free 2
      have d3_1_3 := B3_1.cell 3 rfl
      have e3_1_3 := B3_1.free 3
      have d3_1_4 := B3_1.cell 4 rfl
      have e3_1_4 := B3_1.free 4
      have t3_2 := B3_2.lt
      have d3_2_0 := B3_2.cell 0 rfl
      have e3_2_0 := B3_2.free 0
      have d3_2_1 := B3_2.cell 1 rfl
      have e3_2_1 := B3_2.free 1
      have d3_2_2 := B3_2.cell 2 rfl
      have e3_2_2 := B3_2.free 2
      have d3_2_3 := B3_2.cell 3 rfl
      have e3_2_3 := B3_2.free 3
      have d3_2_4 := B3_2.cell 4 rfl
      have e3_2_4 := B3_2.free 4
      go_wp2_with fail
      refine ((V3 _).out).mono ?_
      rintro e w4 ⟨rfl, G4⟩
      try (with_reducible replace G4 := Grew.undrawn G4)
      have B4_0 : Blk w4 (w.heap.size) 39 [.int .i64 k, .bool true, .int .i64 s, .int .i64 x, .int .i64 y] := Blk.grew (by (repeat' (first | (with_reducible assumption) | ((with_reducible refine Blk.new ?_); (first | (with_reducible rfl) | (simp only [World.size_alloc, World.size_setCell, size_drewN]; done))) | (with_reducible refine Blk.alloc ?_ _) | (with_reducible refine Blk.drewN ?_ _) | (with_reducible refine Blk.drew ?_) | (refine Blk.other ?_ (by omega) _) | fail))) G4
      have B4_1 : Blk w4 (w.heap.size + 1) 39 [.int .i64 k', .bool m', .int .i64 s', .int .i64 x', .int .i64 y'] := Blk.grew (by (repeat' (first | (with_reducible assumption) | ((with_reducible refine Blk.new ?_); (first | (with_reducible rfl) | (simp only [World.size_alloc, World.size_setCell, size_drewN]; done))) | (with_reducible refine Blk.alloc ?_ _) | (with_reducible refine Blk.drewN ?_ _) | (with_reducible refine Blk.drew ?_) | (refine Blk.other ?_ (by omega) _) | fail))) G4
      have B4_2 : Blk w4 (w.heap.size + 1 + 1) 39 [.int .i64 0, .bool false, .int .i64 0, .int .i64 0, .int .i64 0] := Blk.grew (by (repeat' (first | (with_reducible assumption) | ((with_reducible refine Blk.new ?_); (first | (with_reducible rfl) | (simp only [World.size_alloc, World.size_setCell, size_drewN]; done))) | (with_reducible refine Blk.alloc ?_ _) | (with_reducible refine Blk.drewN ?_ _) | (with_reducible refine Blk.drew ?_) | (refine Blk.other ?_ (by omega) _) | fail))) G4
      have B4_3 : Blk w4 (w3.heap.size) 25 [.int .i64 ix, .int .i64 iy] := Blk.grew (by (repeat' (first | (with_reducible assumption) | ((with_reducible refine Blk.new ?_); (first | (with_reducible rfl) | (simp only [World.size_alloc, World.size_setCell, size_drewN]; done))) | (with_reducible refine Blk.alloc ?_ _) | (with_reducible refine Blk.drewN ?_ _) | (with_reducible refine Blk.drew ?_) | (refine Blk.other ?_ (by omega) _) | fail))) G4
      have B4_4 : Blk w4 (w3.heap.size + 1) 39 [.int .i64 ((4 - k' + k) % 4), .bool (!m'), .int .i64 (s * s'), .int .i64 ix, .int .i64 iy] := Blk.grew (by (repeat' (first | (with_reducible assumption) | ((with_reducible refine Blk.new ?_); (first | (with_reducible rfl) | (simp only [World.size_alloc, World.size_setCell, size_drewN]; done))) | (with_reducible refine Blk.alloc ?_ _) | (with_reducible refine Blk.drewN ?_ _) | (with_reducible refine Blk.drew ?_) | (refine Blk.other ?_ (by omega) _) | fail))) G4
      have z4 := G4.size
      try simp only [World.size_alloc, World.size_setCell, size_drewN] at z4
      replace G4 := hide G4
      have t4_0 := B4_0.lt
      have d4_0_0 := B4_0.cell 0 rfl
      have e4_0_0 := B4_0.free 0
      have d4_0_1 := B4_0.cell 1 rfl
      have e4_0_1 := B4_0.free 1
      have d4_0_2 := B4_0.cell 2 rfl
      have e4_0_2 := B4_0.free 2
      have d4_0_3 := B4_0.cell 3 rfl
      have e4_0_3 := B4_0.free 3
      have d4_0_4 := B4_0.cell 4 rfl
      have e4_0_4 := B4_0.free 4
      have t4_1 := B4_1.lt
      have d4_1_0 := B4_1.cell 0 rfl
      have e4_1_0 := B4_1.free 0
      have d4_1_1 := B4_1.cell 1 rfl
      have e4_1_1 := B4_1.free 1
      have d4_1_2 := B4_1.cell 2 rfl
      have e4_1_2 := B4_1.free 2
      have d4_1_3 := B4_1.cell 3 rfl
      have e4_1_3 := B4_1.free 3
      have d4_1_4 := B4_1.cell 4 rfl
      have e4_1_4 := B4_1.free 4
      have t4_2 := B4_2.lt
      have d4_2_0 := B4_2.cell 0 rfl
      have e4_2_0 := B4_2.free 0
      have d4_2_1 := B4_2.cell 1 rfl
      have e4_2_1 := B4_2.free 1
      have d4_2_2 := B4_2.cell 2 rfl
      have e4_2_2 := B4_2.free 2
      have d4_2_3 := B4_2.cell 3 rfl
      have e4_2_3 := B4_2.free 3
      have d4_2_4 := B4_2.cell 4 rfl
      have e4_2_4 := B4_2.free 4
      have t4_3 := B4_3.lt
      have d4_3_0 := B4_3.cell 0 rfl
      have e4_3_0 := B4_3.free 0
      have d4_3_1 := B4_3.cell 1 rfl
      have e4_3_1 := B4_3.free 1
      have t4_4 := B4_4.lt
      have d4_4_0 := B4_4.cell 0 rfl
      have e4_4_0 := B4_4.free 0
      have d4_4_1 := B4_4.cell 1 rfl
      have e4_4_1 := B4_4.free 1
      have d4_4_2 := B4_4.cell 2 rfl
      have e4_4_2 := B4_4.free 2
      have d4_4_3 := B4_4.cell 3 rfl
      have e4_4_3 := B4_4.free 3
      have d4_4_4 := B4_4.cell 4 rfl
      have e4_4_4 := B4_4.free 4
      go_wp2
      rw [H1.out, H2.out]
      refine bodyPost_ret (v := .tuple #[T.zero.v, .int .i64 1]) (by simp [results, Try.results25, go_sem, R.zero, T.zero, d4_0_0, d4_0_1, d4_0_2, d4_0_3, d4_0_4, d4_1_0, d4_1_1, d4_1_2, d4_1_3, d4_1_4, d4_2_0, d4_2_1, d4_2_2, d4_2_3, d4_2_4, d4_3_0, d4_3_1, d4_4_0, d4_4_1, d4_4_2, d4_4_3, d4_4_4, t4_0, t4_1, t4_2, t4_3, t4_4]) rfl ⟨rfl, ?_⟩
      repeat' (first | (with_reducible exact Grew.refl _) | (with_reducible refine Grew.setCell ?_ ?_ _) | (with_reducible refine Grew.drewN ?_ _) | (with_reducible refine Grew.alloc ?_ _) | (with_reducible refine Grew.trans ?_ G4.out) | (with_reducible refine Grew.trans ?_ G3.out) | (with_reducible refine Grew.trans ?_ G2.out) | (with_reducible refine Grew.trans ?_ G1.out) | (dsimp only; omega))
    | false =>
      have HJ' : j = ⟨(k' + k) % 4, m', s * s', ix, iy⟩ := by rw [HJ.out]; cases m' <;> simp <;> omega
      clear HJ
      subst HJ'
      go_enter Try.func25, Try.ntmps25
      go_wp2_with fail
      refine ((V1 _).out).mono ?_
      rintro e w1 ⟨rfl, G1⟩
      try (with_reducible replace G1 := Grew.undrawn G1)
      have B1_0 : Blk w1 (w.heap.size) 39 [.int .i64 k, .bool false, .int .i64 s, .int .i64 x, .int .i64 y] := Blk.grew (by (repeat' (first | (with_reducible assumption) | ((with_reducible refine Blk.new ?_); (first | (with_reducible rfl) | (simp only [World.size_alloc, World.size_setCell, size_drewN]; done))) | (with_reducible refine Blk.alloc ?_ _) | (with_reducible refine Blk.drewN ?_ _) | (with_reducible refine Blk.drew ?_) | (refine Blk.other ?_ (by omega) _) | fail))) G1
      have B1_1 : Blk w1 (w.heap.size + 1) 39 [.int .i64 k', .bool m', .int .i64 s', .int .i64 x', .int .i64 y'] := Blk.grew (by (repeat' (first | (with_reducible assumption) | ((with_reducible refine Blk.new ?_); (first | (with_reducible rfl) | (simp only [World.size_alloc, World.size_setCell, size_drewN]; done))) | (with_reducible refine Blk.alloc ?_ _) | (with_reducible refine Blk.drewN ?_ _) | (with_reducible refine Blk.drew ?_) | (refine Blk.other ?_ (by omega) _) | fail))) G1
      have B1_2 : Blk w1 (w.heap.size + 1 + 1) 39 [.int .i64 0, .bool false, .int .i64 0, .int .i64 0, .int .i64 0] := Blk.grew (by (repeat' (first | (with_reducible assumption) | ((with_reducible refine Blk.new ?_); (first | (with_reducible rfl) | (simp only [World.size_alloc, World.size_setCell, size_drewN]; done))) | (with_reducible refine Blk.alloc ?_ _) | (with_reducible refine Blk.drewN ?_ _) | (with_reducible refine Blk.drew ?_) | (refine Blk.other ?_ (by omega) _) | fail))) G1
      have z1 := G1.size
      try simp only [World.size_alloc, World.size_setCell, size_drewN] at z1
      replace G1 := hide G1
      have t1_0 := B1_0.lt
      have d1_0_0 := B1_0.cell 0 rfl
      have e1_0_0 := B1_0.free 0
      have d1_0_1 := B1_0.cell 1 rfl
      have e1_0_1 := B1_0.free 1
      have d1_0_2 := B1_0.cell 2 rfl
      have e1_0_2 := B1_0.free 2
      have d1_0_3 := B1_0.cell 3 rfl
      have e1_0_3 := B1_0.free 3
      have d1_0_4 := B1_0.cell 4 rfl
      have e1_0_4 := B1_0.free 4
      have t1_1 := B1_1.lt
      have d1_1_0 := B1_1.cell 0 rfl
      have e1_1_0 := B1_1.free 0
      have d1_1_1 := B1_1.cell 1 rfl
      have e1_1_1 := B1_1.free 1
      have d1_1_2 := B1_1.cell 2 rfl
      have e1_1_2 := B1_1.free 2
      have d1_1_3 := B1_1.cell 3 rfl
      have e1_1_3 := B1_1.free 3
      have d1_1_4 := B1_1.cell 4 rfl
      have e1_1_4 := B1_1.free 4
      have t1_2 := B1_2.lt
      have d1_2_0 := B1_2.cell 0 rfl
      have e1_2_0 := B1_2.free 0
      have d1_2_1 := B1_2.cell 1 rfl
      have e1_2_1 := B1_2.free 1
      have d1_2_2 := B1_2.cell 2 rfl
      have e1_2_2 := B1_2.free 2
      have d1_2_3 := B1_2.cell 3 rfl
      have e1_2_3 := B1_2.free 3
      have d1_2_4 := B1_2.cell 4 rfl
      have e1_2_4 := B1_2.free 4
      go_wp2_with fail
      refine ((V2 _).out).mono ?_
      rintro e w2 ⟨rfl, G2⟩
      try (with_reducible replace G2 := Grew.undrawn G2)
      have B2_0 : Blk w2 (w.heap.size) 39 [.int .i64 k, .bool false, .int .i64 s, .int .i64 x, .int .i64 y] := Blk.grew (by (repeat' (first | (with_reducible assumption) | ((with_reducible refine Blk.new ?_); (first | (with_reducible rfl) | (simp only [World.size_alloc, World.size_setCell, size_drewN]; done))) | (with_reducible refine Blk.alloc ?_ _) | (with_reducible refine Blk.drewN ?_ _) | (with_reducible refine Blk.drew ?_) | (refine Blk.other ?_ (by omega) _) | fail))) G2
      have B2_1 : Blk w2 (w.heap.size + 1) 39 [.int .i64 k', .bool m', .int .i64 s', .int .i64 x', .int .i64 y'] := Blk.grew (by (repeat' (first | (with_reducible assumption) | ((with_reducible refine Blk.new ?_); (first | (with_reducible rfl) | (simp only [World.size_alloc, World.size_setCell, size_drewN]; done))) | (with_reducible refine Blk.alloc ?_ _) | (with_reducible refine Blk.drewN ?_ _) | (with_reducible refine Blk.drew ?_) | (refine Blk.other ?_ (by omega) _) | fail))) G2
      have B2_2 : Blk w2 (w.heap.size + 1 + 1) 39 [.int .i64 0, .bool false, .int .i64 0, .int .i64 0, .int .i64 0] := Blk.grew (by (repeat' (first | (with_reducible assumption) | ((with_reducible refine Blk.new ?_); (first | (with_reducible rfl) | (simp only [World.size_alloc, World.size_setCell, size_drewN]; done))) | (with_reducible refine Blk.alloc ?_ _) | (with_reducible refine Blk.drewN ?_ _) | (with_reducible refine Blk.drew ?_) | (refine Blk.other ?_ (by omega) _) | fail))) G2
      have z2 := G2.size
      try simp only [World.size_alloc, World.size_setCell, size_drewN] at z2
      replace G2 := hide G2
      have t2_0 := B2_0.lt
      have d2_0_0 := B2_0.cell 0 rfl
      have e2_0_0 := B2_0.free 0
      have d2_0_1 := B2_0.cell 1 rfl
      have e2_0_1 := B2_0.free 1
      have d2_0_2 := B2_0.cell 2 rfl
      have e2_0_2 := B2_0.free 2
      have d2_0_3 := B2_0.cell 3 rfl
      have e2_0_3 := B2_0.free 3
      have d2_0_4 := B2_0.cell 4 rfl
      have e2_0_4 := B2_0.free 4
      have t2_1 := B2_1.lt
      have d2_1_0 := B2_1.cell 0 rfl
      have e2_1_0 := B2_1.free 0
      have d2_1_1 := B2_1.cell 1 rfl
      have e2_1_1 := B2_1.free 1
      have d2_1_2 := B2_1.cell 2 rfl
      have e2_1_2 := B2_1.free 2
      have d2_1_3 := B2_1.cell 3 rfl
      have e2_1_3 := B2_1.free 3
      have d2_1_4 := B2_1.cell 4 rfl
      have e2_1_4 := B2_1.free 4
      have t2_2 := B2_2.lt
      have d2_2_0 := B2_2.cell 0 rfl
      have e2_2_0 := B2_2.free 0
      have d2_2_1 := B2_2.cell 1 rfl
      have e2_2_1 := B2_2.free 1
      have d2_2_2 := B2_2.cell 2 rfl
      have e2_2_2 := B2_2.free 2
      have d2_2_3 := B2_2.cell 3 rfl
      have e2_2_3 := B2_2.free 3
      have d2_2_4 := B2_2.cell 4 rfl
      have e2_2_4 := B2_2.free 4
      go_wp2_with fail
      refine ((I1 _).out).mono ?_
      rintro e w3 ⟨rfl, G3⟩
      try (with_reducible replace G3 := Grew.undrawn G3)
      have B3_0 : Blk w3 (w.heap.size) 39 [.int .i64 k, .bool false, .int .i64 s, .int .i64 x, .int .i64 y] := Blk.grew (by (repeat' (first | (with_reducible assumption) | ((with_reducible refine Blk.new ?_); (first | (with_reducible rfl) | (simp only [World.size_alloc, World.size_setCell, size_drewN]; done))) | (with_reducible refine Blk.alloc ?_ _) | (with_reducible refine Blk.drewN ?_ _) | (with_reducible refine Blk.drew ?_) | (refine Blk.other ?_ (by omega) _) | fail))) G3
      have B3_1 : Blk w3 (w.heap.size + 1) 39 [.int .i64 k', .bool m', .int .i64 s', .int .i64 x', .int .i64 y'] := Blk.grew (by (repeat' (first | (with_reducible assumption) | ((with_reducible refine Blk.new ?_); (first | (with_reducible rfl) | (simp only [World.size_alloc, World.size_setCell, size_drewN]; done))) | (with_reducible refine Blk.alloc ?_ _) | (with_reducible refine Blk.drewN ?_ _) | (with_reducible refine Blk.drew ?_) | (refine Blk.other ?_ (by omega) _) | fail))) G3
      have B3_2 : Blk w3 (w.heap.size + 1 + 1) 39 [.int .i64 0, .bool false, .int .i64 0, .int .i64 0, .int .i64 0] := Blk.grew (by (repeat' (first | (with_reducible assumption) | ((with_reducible refine Blk.new ?_); (first | (with_reducible rfl) | (simp only [World.size_alloc, World.size_setCell, size_drewN]; done))) | (with_reducible refine Blk.alloc ?_ _) | (with_reducible refine Blk.drewN ?_ _) | (with_reducible refine Blk.drew ?_) | (refine Blk.other ?_ (by omega) _) | fail))) G3
      have z3 := G3.size
      try simp only [World.size_alloc, World.size_setCell, size_drewN] at z3
      replace G3 := hide G3
      have t3_0 := B3_0.lt
      have d3_0_0 := B3_0.cell 0 rfl
      have e3_0_0 := B3_0.free 0
      have d3_0_1 := B3_0.cell 1 rfl
      have e3_0_1 := B3_0.free 1
      have d3_0_2 := B3_0.cell 2 rfl
      have e3_0_2 := B3_0.free 2
      have d3_0_3 := B3_0.cell 3 rfl
      have e3_0_3 := B3_0.free 3
      have d3_0_4 := B3_0.cell 4 rfl
      have e3_0_4 := B3_0.free 4
      have t3_1 := B3_1.lt
      have d3_1_0 := B3_1.cell 0 rfl
      have e3_1_0 := B3_1.free 0
      have d3_1_1 := B3_1.cell 1 rfl
      have e3_1_1 := B3_1.free 1
      have d3_1_2 := B3_1.cell 2 rfl
      have e3_1_2 := B3_1.free 2
      have d3_1_3 := B3_1.cell 3 rfl
      have e3_1_3 := B3_1.free 3
      have d3_1_4 := B3_1.cell 4 rfl
      have e3_1_4 := B3_1.free 4
      have t3_2 := B3_2.lt
      have d3_2_0 := B3_2.cell 0 rfl
      have e3_2_0 := B3_2.free 0
      have d3_2_1 := B3_2.cell 1 rfl
      have e3_2_1 := B3_2.free 1
      have d3_2_2 := B3_2.cell 2 rfl
      have e3_2_2 := B3_2.free 2
      have d3_2_3 := B3_2.cell 3 rfl
      have e3_2_3 := B3_2.free 3
      have d3_2_4 := B3_2.cell 4 rfl
      have e3_2_4 := B3_2.free 4
      go_wp2_with fail
      refine ((V3 _).out).mono ?_
      rintro e w4 ⟨rfl, G4⟩
      try (with_reducible replace G4 := Grew.undrawn G4)
      have B4_0 : Blk w4 (w.heap.size) 39 [.int .i64 k, .bool false, .int .i64 s, .int .i64 x, .int .i64 y] := Blk.grew (by (repeat' (first | (with_reducible assumption) | ((with_reducible refine Blk.new ?_); (first | (with_reducible rfl) | (simp only [World.size_alloc, World.size_setCell, size_drewN]; done))) | (with_reducible refine Blk.alloc ?_ _) | (with_reducible refine Blk.drewN ?_ _) | (with_reducible refine Blk.drew ?_) | (refine Blk.other ?_ (by omega) _) | fail))) G4
      have B4_1 : Blk w4 (w.heap.size + 1) 39 [.int .i64 k', .bool m', .int .i64 s', .int .i64 x', .int .i64 y'] := Blk.grew (by (repeat' (first | (with_reducible assumption) | ((with_reducible refine Blk.new ?_); (first | (with_reducible rfl) | (simp only [World.size_alloc, World.size_setCell, size_drewN]; done))) | (with_reducible refine Blk.alloc ?_ _) | (with_reducible refine Blk.drewN ?_ _) | (with_reducible refine Blk.drew ?_) | (refine Blk.other ?_ (by omega) _) | fail))) G4
      have B4_2 : Blk w4 (w.heap.size + 1 + 1) 39 [.int .i64 0, .bool false, .int .i64 0, .int .i64 0, .int .i64 0] := Blk.grew (by (repeat' (first | (with_reducible assumption) | ((with_reducible refine Blk.new ?_); (first | (with_reducible rfl) | (simp only [World.size_alloc, World.size_setCell, size_drewN]; done))) | (with_reducible refine Blk.alloc ?_ _) | (with_reducible refine Blk.drewN ?_ _) | (with_reducible refine Blk.drew ?_) | (refine Blk.other ?_ (by omega) _) | fail))) G4
      have B4_3 : Blk w4 (w3.heap.size) 25 [.int .i64 ix, .int .i64 iy] := Blk.grew (by (repeat' (first | (with_reducible assumption) | ((with_reducible refine Blk.new ?_); (first | (with_reducible rfl) | (simp only [World.size_alloc, World.size_setCell, size_drewN]; done))) | (with_reducible refine Blk.alloc ?_ _) | (with_reducible refine Blk.drewN ?_ _) | (with_reducible refine Blk.drew ?_) | (refine Blk.other ?_ (by omega) _) | fail))) G4
      have B4_4 : Blk w4 (w3.heap.size + 1) 39 [.int .i64 ((k' + k) % 4), .bool m', .int .i64 (s * s'), .int .i64 ix, .int .i64 iy] := Blk.grew (by (repeat' (first | (with_reducible assumption) | ((with_reducible refine Blk.new ?_); (first | (with_reducible rfl) | (simp only [World.size_alloc, World.size_setCell, size_drewN]; done))) | (with_reducible refine Blk.alloc ?_ _) | (with_reducible refine Blk.drewN ?_ _) | (with_reducible refine Blk.drew ?_) | (refine Blk.other ?_ (by omega) _) | fail))) G4
      have z4 := G4.size
      try simp only [World.size_alloc, World.size_setCell, size_drewN] at z4
      replace G4 := hide G4
      have t4_0 := B4_0.lt
      have d4_0_0 := B4_0.cell 0 rfl
      have e4_0_0 := B4_0.free 0
      have d4_0_1 := B4_0.cell 1 rfl
      have e4_0_1 := B4_0.free 1
      have d4_0_2 := B4_0.cell 2 rfl
      have e4_0_2 := B4_0.free 2
      have d4_0_3 := B4_0.cell 3 rfl
      have e4_0_3 := B4_0.free 3
      have d4_0_4 := B4_0.cell 4 rfl
      have e4_0_4 := B4_0.free 4
      have t4_1 := B4_1.lt
      have d4_1_0 := B4_1.cell 0 rfl
      have e4_1_0 := B4_1.free 0
      have d4_1_1 := B4_1.cell 1 rfl
      have e4_1_1 := B4_1.free 1
      have d4_1_2 := B4_1.cell 2 rfl
      have e4_1_2 := B4_1.free 2
      have d4_1_3 := B4_1.cell 3 rfl
      have e4_1_3 := B4_1.free 3
      have d4_1_4 := B4_1.cell 4 rfl
      have e4_1_4 := B4_1.free 4
      have t4_2 := B4_2.lt
      have d4_2_0 := B4_2.cell 0 rfl
      have e4_2_0 := B4_2.free 0
      have d4_2_1 := B4_2.cell 1 rfl
      have e4_2_1 := B4_2.free 1
      have d4_2_2 := B4_2.cell 2 rfl
      have e4_2_2 := B4_2.free 2
      have d4_2_3 := B4_2.cell 3 rfl
      have e4_2_3 := B4_2.free 3
      have d4_2_4 := B4_2.cell 4 rfl
      have e4_2_4 := B4_2.free 4
      have t4_3 := B4_3.lt
      have d4_3_0 := B4_3.cell 0 rfl
      have e4_3_0 := B4_3.free 0
      have d4_3_1 := B4_3.cell 1 rfl
      have e4_3_1 := B4_3.free 1
      have t4_4 := B4_4.lt
      have d4_4_0 := B4_4.cell 0 rfl
      have e4_4_0 := B4_4.free 0
      have d4_4_1 := B4_4.cell 1 rfl
      have e4_4_1 := B4_4.free 1
      have d4_4_2 := B4_4.cell 2 rfl
      have e4_4_2 := B4_4.free 2
      have d4_4_3 := B4_4.cell 3 rfl
      have e4_4_3 := B4_4.free 3
      have d4_4_4 := B4_4.cell 4 rfl
      have e4_4_4 := B4_4.free 4
      go_wp2
      rw [H1.out, H2.out]
      refine bodyPost_ret (v := .tuple #[T.zero.v, .int .i64 1]) (by simp [results, Try.results25, go_sem, R.zero, T.zero, d4_0_0, d4_0_1, d4_0_2, d4_0_3, d4_0_4, d4_1_0, d4_1_1, d4_1_2, d4_1_3, d4_1_4, d4_2_0, d4_2_1, d4_2_2, d4_2_3, d4_2_4, d4_3_0, d4_3_1, d4_4_0, d4_4_1, d4_4_2, d4_4_3, d4_4_4, t4_0, t4_1, t4_2, t4_3, t4_4]) rfl ⟨rfl, ?_⟩
      repeat' (first | (with_reducible exact Grew.refl _) | (with_reducible refine Grew.setCell ?_ ?_ _) | (with_reducible refine Grew.drewN ?_ _) | (with_reducible refine Grew.alloc ?_ _) | (with_reducible refine Grew.trans ?_ G4.out) | (with_reducible refine Grew.trans ?_ G3.out) | (with_reducible refine Grew.trans ?_ G2.out) | (with_reducible refine Grew.trans ?_ G1.out) | (dsimp only; omega))

theorem Combine_any (a b : T) (w : World) :
    Calls Try.prog 25 #[a.v, b.v] w fun e w' => e = .returned (.tuple #[(a.comb b).v, .int .i64 (a.combE b)]) ∧ Grew w w' := by
  cases c : (a.ok && b.ok) with
  | false => exact Combine_bad a b w c
  | true =>
    simp only [Bool.and_eq_true] at c
    exact Combine_ok a b w c.1 c.2
end Go.Proofs.Ythldilikkogaoaa
