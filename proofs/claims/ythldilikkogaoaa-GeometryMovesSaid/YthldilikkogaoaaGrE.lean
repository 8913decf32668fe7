/- What the reference's Shift return; no condition. -/
import Derived.Test.YthldilikkogaoaaGrB
import Derived.Test.YthldilikkogaoaaGeSh
import Derived.Deep.Cut
namespace Go.Proofs.Ythldilikkogaoaa
open Go.RowKit Go.Sort
set_option linter.unusedSimpArgs false
set_option linter.unusedVariables false

set_option maxHeartbeats 4000000 in
theorem rShift_any (a : R) (dx dy : Int) (w : World) :
    Calls Try.prog 24 #[a.v, .int .i64 dx, .int .i64 dy] w fun e w' => e = .returned (shiftR a dx dy).v ∧ Grew w w' := by
  have VA := fun W => hide (valid_any a W)
  have W0 : ∀ (t : Int) W, Calls Try.prog 36 #[.int .i64 t, .int .i64 2097152] W fun e w' => e = .returned (.bool (reachB t)) ∧ W = w' := fun t W => rwithin_any t 2097152 W (by omega) (by omega)
  have W := fun t W' => hide (W0 t W')
  clear W0
  have HE : Hid (shiftR a dx dy = if reachB dx && reachB dy then (R.mk (a.kept.x + dx) (a.kept.y + dy) a.kept.w a.kept.h).kept else R.zero) := rfl
  have ok1 := kept_ok a
  generalize a.kept = a' at ok1 HE VA
  obtain ⟨⟨b1, b2⟩, ⟨b3, b4⟩, ⟨b5, b6⟩, b7, b8⟩ := R.bounds ok1
  clear ok1
  obtain ⟨x, y, z, h⟩ := a
  obtain ⟨p, q, r, s⟩ := a'
  simp only at b1 b2 b3 b4 b5 b6 b7 b8 HE
  cases g1 : reachB dx with
  | false =>
    have H : Hid (shiftR ⟨x, y, z, h⟩ dx dy = R.zero) := by rw [Hid, HE.out, g1]; simp
    go_enter Try.func24, Try.ntmps24
    go_wp2_with fail
    refine ((VA _).out).mono ?_
    rintro e w1 ⟨rfl, G1⟩
    try (with_reducible replace G1 := Grew.undrawn G1)
    have B1_0 : Blk w1 (w.heap.size) 23 [.int .i64 x, .int .i64 y, .int .i64 z, .int .i64 h] := Blk.grew (by (repeat' (first | (with_reducible assumption) | ((with_reducible refine Blk.new ?_); (first | (with_reducible rfl) | (simp only [World.size_alloc, World.size_setCell, size_drewN]; done))) | (with_reducible refine Blk.alloc ?_ _) | (with_reducible refine Blk.drewN ?_ _) | (with_reducible refine Blk.drew ?_) | (refine Blk.other ?_ (by omega) _) | fail))) G1
    have B1_1 : Blk w1 (w.heap.size + 1) 23 [.int .i64 0, .int .i64 0, .int .i64 0, .int .i64 0] := Blk.grew (by (repeat' (first | (with_reducible assumption) | ((with_reducible refine Blk.new ?_); (first | (with_reducible rfl) | (simp only [World.size_alloc, World.size_setCell, size_drewN]; done))) | (with_reducible refine Blk.alloc ?_ _) | (with_reducible refine Blk.drewN ?_ _) | (with_reducible refine Blk.drew ?_) | (refine Blk.other ?_ (by omega) _) | fail))) G1
    have z1 := G1.size
    try simp only [World.size_alloc, World.size_setCell, size_drewN] at z1
    replace G1 := hide G1
    have t1_0 := B1_0.lt
    have d1_0_0 := B1_0.cell 0 rfl
    have e1_0_0 := B1_0.free 0
    have d1_0_1 := B1_0.cell 1 rfl
    have e1_0_1 := B1_0.free 1
    have d1_0_2 := B1_0.cell 2 rfl
    have e1_0_2 := B1_0.free 2
    have d1_0_3 := B1_0.cell 3 rfl
    have e1_0_3 := B1_0.free 3
    have t1_1 := B1_1.lt
    have d1_1_0 := B1_1.cell 0 rfl
    have e1_1_0 := B1_1.free 0
    have d1_1_1 := B1_1.cell 1 rfl
    have e1_1_1 := B1_1.free 1
    have d1_1_2 := B1_1.cell 2 rfl
    have e1_1_2 := B1_1.free 2
    have d1_1_3 := B1_1.cell 3 rfl
    have e1_1_3 := B1_1.free 3
    go_wp2_with fail
    refine ((W dx _).out).mono ?_
    rintro e _ ⟨rfl, rfl⟩
    go_wp2
    rw [H.out]
    refine bodyPost_ret (v := R.zero.v) (by simp [results, Try.results24, go_sem, R.zero, d1_0_0, d1_0_1, d1_0_2, d1_0_3, d1_1_0, d1_1_1, d1_1_2, d1_1_3, t1_0, t1_1]) rfl ⟨rfl, ?_⟩
    repeat' (first | (with_reducible exact Grew.refl _) | (with_reducible refine Grew.setCell ?_ ?_ _) | (with_reducible refine Grew.drewN ?_ _) | (with_reducible refine Grew.alloc ?_ _) | (with_reducible refine Grew.trans ?_ G1.out) | (dsimp only; omega))
  | true =>
    cases g2 : reachB dy with
    | false =>
      have H : Hid (shiftR ⟨x, y, z, h⟩ dx dy = R.zero) := by rw [Hid, HE.out, g1, g2]; simp
      go_enter Try.func24, Try.ntmps24
      go_wp2_with fail
      refine ((VA _).out).mono ?_
      rintro e w1 ⟨rfl, G1⟩
      try (with_reducible replace G1 := Grew.undrawn G1)
      have B1_0 : Blk w1 (w.heap.size) 23 [.int .i64 x, .int .i64 y, .int .i64 z, .int .i64 h] := Blk.grew (by (repeat' (first | (with_reducible assumption) | ((with_reducible refine Blk.new ?_); (first | (with_reducible rfl) | (simp only [World.size_alloc, World.size_setCell, size_drewN]; done))) | (with_reducible refine Blk.alloc ?_ _) | (with_reducible refine Blk.drewN ?_ _) | (with_reducible refine Blk.drew ?_) | (refine Blk.other ?_ (by omega) _) | fail))) G1
      have B1_1 : Blk w1 (w.heap.size + 1) 23 [.int .i64 0, .int .i64 0, .int .i64 0, .int .i64 0] := Blk.grew (by (repeat' (first | (with_reducible assumption) | ((with_reducible refine Blk.new ?_); (first | (with_reducible rfl) | (simp only [World.size_alloc, World.size_setCell, size_drewN]; done))) | (with_reducible refine Blk.alloc ?_ _) | (with_reducible refine Blk.drewN ?_ _) | (with_reducible refine Blk.drew ?_) | (refine Blk.other ?_ (by omega) _) | fail))) G1
      have z1 := G1.size
      try simp only [World.size_alloc, World.size_setCell, size_drewN] at z1
      replace G1 := hide G1
      have t1_0 := B1_0.lt
      have d1_0_0 := B1_0.cell 0 rfl
      have e1_0_0 := B1_0.free 0
      have d1_0_1 := B1_0.cell 1 rfl
      have e1_0_1 := B1_0.free 1
      have d1_0_2 := B1_0.cell 2 rfl
      have e1_0_2 := B1_0.free 2
      have d1_0_3 := B1_0.cell 3 rfl
      have e1_0_3 := B1_0.free 3
      have t1_1 := B1_1.lt
      have d1_1_0 := B1_1.cell 0 rfl
      have e1_1_0 := B1_1.free 0
      have d1_1_1 := B1_1.cell 1 rfl
      have e1_1_1 := B1_1.free 1
      have d1_1_2 := B1_1.cell 2 rfl
      have e1_1_2 := B1_1.free 2
      have d1_1_3 := B1_1.cell 3 rfl
      have e1_1_3 := B1_1.free 3
      go_wp2_with fail
      refine ((W dx _).out).mono ?_
      rintro e _ ⟨rfl, rfl⟩
      go_wp2_with fail
      refine ((W dy _).out).mono ?_
      rintro e _ ⟨rfl, rfl⟩
      go_wp2
      rw [H.out]
      refine bodyPost_ret (v := R.zero.v) (by simp [results, Try.results24, go_sem, R.zero, d1_0_0, d1_0_1, d1_0_2, d1_0_3, d1_1_0, d1_1_1, d1_1_2, d1_1_3, t1_0, t1_1]) rfl ⟨rfl, ?_⟩
      repeat' (first | (with_reducible exact Grew.refl _) | (with_reducible refine Grew.setCell ?_ ?_ _) | (with_reducible refine Grew.drewN ?_ _) | (with_reducible refine Grew.alloc ?_ _) | (with_reducible refine Grew.trans ?_ G1.out) | (dsimp only; omega))
    | true =>
      have e1 := inB_iff.1 g1
      have e2 := inB_iff.1 g2
      have VB := fun W => hide (valid_any ⟨p + dx, q + dy, r, s⟩ W)
      have H : Hid (shiftR ⟨x, y, z, h⟩ dx dy = (R.mk (p + dx) (q + dy) r s).kept) := by rw [Hid, HE.out, g1, g2]; rfl
      generalize (R.mk (p + dx) (q + dy) r s).kept = res at VB H
      obtain ⟨p1, p2, p3, p4⟩ := res
      go_enter Try.func24, Try.ntmps24
      go_wp2_with fail
      refine ((VA _).out).mono ?_
      rintro e w1 ⟨rfl, G1⟩
      try (with_reducible replace G1 := Grew.undrawn G1)
      have B1_0 : Blk w1 (w.heap.size) 23 [.int .i64 x, .int .i64 y, .int .i64 z, .int .i64 h] := Blk.grew (by (repeat' (first | (with_reducible assumption) | ((with_reducible refine Blk.new ?_); (first | (with_reducible rfl) | (simp only [World.size_alloc, World.size_setCell, size_drewN]; done))) | (with_reducible refine Blk.alloc ?_ _) | (with_reducible refine Blk.drewN ?_ _) | (with_reducible refine Blk.drew ?_) | (refine Blk.other ?_ (by omega) _) | fail))) G1
      have B1_1 : Blk w1 (w.heap.size + 1) 23 [.int .i64 0, .int .i64 0, .int .i64 0, .int .i64 0] := Blk.grew (by (repeat' (first | (with_reducible assumption) | ((with_reducible refine Blk.new ?_); (first | (with_reducible rfl) | (simp only [World.size_alloc, World.size_setCell, size_drewN]; done))) | (with_reducible refine Blk.alloc ?_ _) | (with_reducible refine Blk.drewN ?_ _) | (with_reducible refine Blk.drew ?_) | (refine Blk.other ?_ (by omega) _) | fail))) G1
      have z1 := G1.size
      try simp only [World.size_alloc, World.size_setCell, size_drewN] at z1
      replace G1 := hide G1
      have t1_0 := B1_0.lt
      have d1_0_0 := B1_0.cell 0 rfl
      have e1_0_0 := B1_0.free 0
      have d1_0_1 := B1_0.cell 1 rfl
      have e1_0_1 := B1_0.free 1
      have d1_0_2 := B1_0.cell 2 rfl
      have e1_0_2 := B1_0.free 2
      have d1_0_3 := B1_0.cell 3 rfl
      have e1_0_3 := B1_0.free 3
      have t1_1 := B1_1.lt
      have d1_1_0 := B1_1.cell 0 rfl
      have e1_1_0 := B1_1.free 0
      have d1_1_1 := B1_1.cell 1 rfl
      have e1_1_1 := B1_1.free 1
      have d1_1_2 := B1_1.cell 2 rfl
      have e1_1_2 := B1_1.free 2
      have d1_1_3 := B1_1.cell 3 rfl
      have e1_1_3 := B1_1.free 3
      go_wp2_with fail
      refine ((W dx _).out).mono ?_
      rintro e _ ⟨rfl, rfl⟩
      go_wp2_with fail
      refine ((W dy _).out).mono ?_
      rintro e _ ⟨rfl, rfl⟩
      go_wp2_with fail
      refine ((VB _).out).mono ?_
      rintro e w2 ⟨rfl, G2⟩
      try (with_reducible replace G2 := Grew.undrawn G2)
      have B2_0 : Blk w2 (w.heap.size) 23 [.int .i64 p, .int .i64 q, .int .i64 r, .int .i64 s] := Blk.grew (by ((repeat' (first | (refine Blk.other ?_ (by omega) _) | fail)); refine Blk.set_as (vs := [.int .i64 p, .int .i64 q, .int .i64 r, .int .i64 h]) ?_ 3 (.int .i64 s) (by rfl); refine Blk.set_as (vs := [.int .i64 p, .int .i64 q, .int .i64 z, .int .i64 h]) ?_ 2 (.int .i64 r) (by rfl); refine Blk.set_as (vs := [.int .i64 p, .int .i64 y, .int .i64 z, .int .i64 h]) ?_ 1 (.int .i64 q) (by rfl); refine Blk.set_as (vs := [.int .i64 x, .int .i64 y, .int .i64 z, .int .i64 h]) ?_ 0 (.int .i64 p) (by rfl); repeat' (first | (with_reducible assumption) | ((with_reducible refine Blk.new ?_); (first | (with_reducible rfl) | (simp only [World.size_alloc, World.size_setCell, size_drewN]; done))) | (with_reducible refine Blk.alloc ?_ _) | (with_reducible refine Blk.drewN ?_ _) | (with_reducible refine Blk.drew ?_) | (refine Blk.other ?_ (by omega) _) | fail))) G2
      have B2_1 : Blk w2 (w.heap.size + 1) 23 [.int .i64 0, .int .i64 0, .int .i64 0, .int .i64 0] := Blk.grew (by (repeat' (first | (with_reducible assumption) | ((with_reducible refine Blk.new ?_); (first | (with_reducible rfl) | (simp only [World.size_alloc, World.size_setCell, size_drewN]; done))) | (with_reducible refine Blk.alloc ?_ _) | (with_reducible refine Blk.drewN ?_ _) | (with_reducible refine Blk.drew ?_) | (refine Blk.other ?_ (by omega) _) | fail))) G2
      have z2 := G2.size
      try simp only [World.size_alloc, World.size_setCell, size_drewN] at z2
      replace G2 := hide G2
      have t2_0 := B2_0.lt
      have d2_0_0 := B2_0.cell 0 rfl
      have e2_0_0 := B2_0.free 0
      have d2_0_1 := B2_0.cell 1 rfl
      have e2_0_1 := B2_0.free 1
      have d2_0_2 := B2_0.cell 2 rfl
      have e2_0_2 := B2_0.free 2
      have d2_0_3 := B2_0.cell 3 rfl
      have e2_0_3 := B2_0.free 3
      have t2_1 := B2_1.lt
      have d2_1_0 := B2_1.cell 0 rfl
      have e2_1_0 := B2_1.free 0
      have d2_1_1 := B2_1.cell 1 rfl
      have e2_1_1 := B2_1.free 1
      have d2_1_2 := B2_1.cell 2 rfl
      have e2_1_2 := B2_1.free 2
      have d2_1_3 := B2_1.cell 3 rfl
      have e2_1_3 := B2_1.free 3
      go_wp2
      rw [H.out]
      refine bodyPost_ret (v := R.v ⟨p1, p2, p3, p4⟩) (by simp [results, Try.results24, go_sem, R.zero, d2_0_0, d2_0_1, d2_0_2, d2_0_3, d2_1_0, d2_1_1, d2_1_2, d2_1_3, t2_0, t2_1]) rfl ⟨rfl, ?_⟩
      repeat' (first | (with_reducible exact Grew.refl _) | (with_reducible refine Grew.setCell ?_ ?_ _) | (with_reducible refine Grew.drewN ?_ _) | (with_reducible refine Grew.alloc ?_ _) | (with_reducible refine Grew.trans ?_ G2.out) | (with_reducible refine Grew.trans ?_ G1.out) | (dsimp only; omega))
end Go.Proofs.Ythldilikkogaoaa
