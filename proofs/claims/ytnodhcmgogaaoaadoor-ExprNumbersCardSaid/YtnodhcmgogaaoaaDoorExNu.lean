/- The walk of the law ExprNumbers; no condition. -/
import Derived.Test.YtnodhcmgogaaoaaDoorExT
namespace Go.Proofs.YtnodhcmgogaaoaaDoor
open Go.RowKit Go.Sort
set_option linter.unusedVariables false
set_option linter.unusedSimpArgs false
set_option maxRecDepth 100000
set_option maxHeartbeats 4000000 in
theorem numbers_in (a b : Int) (w : World) (ha : Sm a) (hb : Sm b) : Calls Tryd.prog 10 #[.int .i64 a, .int .i64 b] w fun e w' => e = .returned (.bool true) ∧ Below w.heap.size w w' := by
  have HA := hide ha
  have HB := hide hb
  have KA := fun W => hide (lin_any a W)
  have KB := fun W => hide (lin_any b W)
  have K5 := fun W i hi => hide (ar_ok 5 a b W i (.inl rfl) ha.nu hb.nu hi)
  have K6 := fun W i hi => hide (ar_ok 6 a b W i (.inr (.inl rfl)) ha.nu hb.nu hi)
  have K7 := fun W i hi => hide (ar_ok 7 a b W i (.inr (.inr (.inl rfl))) ha.nu hb.nu hi)
  have K8 := fun W i hi => hide (ar_ok 8 a b W i (.inr (.inr (.inr (.inl rfl)))) ha.nu hb.nu hi)
  have K9 := fun W i hi => hide (ar_ok 9 a b W i (.inr (.inr (.inr (.inr rfl)))) ha.nu hb.nu hi)
  have F1 := fun W => hide (lfits_any (a + b) W)
  have F2 := fun W => hide (lfits_any (a - b) W)
  have AW := fun W => hide (awake_any W)
  have CS : Hid ((b = 0 ∧ opR 8 1 a 1 b = (1, 0, 0) ∧ opR 9 1 a 1 b = (1, 0, 0) ∧ opR 7 1 a 1 b = (0, 1, 0)) ∨
      (b ≠ 0 ∧ opR 8 1 a 1 b = (0, 1, flr a b) ∧ opR 9 1 a 1 b = (0, 1, a - b * flr a b) ∧ (((a * b).natAbs ≤ 1099511627776 ∧ opR 7 1 a 1 b = (0, 1, a * b)) ∨ (¬ (a * b).natAbs ≤ 1099511627776 ∧ opR 7 1 a 1 b = (1, 0, 0))))) := by
    refine hide ?_
    by_cases h0 : b = 0
    · subst h0
      exact .inl ⟨rfl, opR_div0 a, opR_mod0 a, opR_mul0 a⟩
    · refine .inr ⟨h0, opR_div ha hb h0, opR_mod ha hb h0, ?_⟩
      by_cases hm : (a * b).natAbs ≤ 1099511627776
      · exact .inl ⟨hm, opR_mul hm⟩
      · exact .inr ⟨hm, opR_mulx hm⟩
  rw [opR_add] at K5
  rw [opR_sub] at K6
  obtain ⟨a1, a2⟩ := ha
  obtain ⟨b1, b2⟩ := hb
  have l1 : ¬ a < -1099511627776 := by omega
  have l2 : ¬ 1099511627776 < a := by omega
  have l3 : ¬ b < -1099511627776 := by omega
  have l4 : ¬ 1099511627776 < b := by omega
  have wa : IntKind.i64.wrap (a + b) = a + b := wr (by omega) (by omega)
  have wb : IntKind.i64.wrap (a - b) = a - b := wr (by omega) (by omega)
  generalize sR (a + b) = r1 at *
  generalize sR (a - b) = r2 at *
  generalize opR 8 1 a 1 b = r3 at *
  generalize opR 9 1 a 1 b = r4 at *
  generalize opR 7 1 a 1 b = r5 at *
  obtain ⟨e1, k1, n1⟩ := r1
  obtain ⟨e2, k2, n2⟩ := r2
  obtain ⟨e3, k3, n3⟩ := r3
  obtain ⟨e4, k4, n4⟩ := r4
  obtain ⟨e5, k5, n5⟩ := r5
  dsimp only at K5 K6 K7 K8 K9 F1 F2
  clear a1 a2 b1 b2
  go_enter Tryd.func10, Tryd.ntmps10
  go_wp2_with fail
  refine ((KA _).out).mono ?_
  rintro e w1 ⟨rfl, G1⟩
  try (with_reducible replace G1 := Grew.undrawn G1)
  have z1 := G1.size
  try simp only [World.size_alloc, World.size_setCell, size_drewN] at z1
  replace G1 := hide G1
  go_wp2_with fail
  refine ((KB _).out).mono ?_
  rintro e w2 ⟨rfl, G2⟩
  try (with_reducible replace G2 := Grew.undrawn G2)
  have z2 := G2.size
  try simp only [World.size_alloc, World.size_setCell, size_drewN] at z2
  replace G2 := hide G2
  go_wp2_with fail
  refine name_calls fun w3 h3 => ?_
  have G3 : Grew w w3 := by
    rw [h3]
    repeat' (first | (with_reducible exact Grew.refl _) | (with_reducible refine Grew.setCell ?_ ?_ _) | (with_reducible refine Grew.drewN ?_ _) | (with_reducible refine Grew.reD ?_ _) | (with_reducible refine Grew.alloc ?_ _) | (with_reducible refine Grew.trans ?_ G3.out) | (with_reducible refine Grew.trans ?_ G2.out) | (with_reducible refine Grew.trans ?_ G1.out) | (dsimp only; omega))
  have B3_0 : Blk w3 (w2.heap.size) 62 [.int .i64 1, .int .i64 a, .string ⟨#[]⟩, .slice none 0 0, .int .i64 1, .int .i64 b, .string ⟨#[]⟩, .slice none 0 0] := by (rw [h3]; repeat' (first | (with_reducible assumption) | ((with_reducible refine Blk.new ?_); (first | (with_reducible rfl) | (simp only [World.size_alloc, World.size_setCell, size_drewN]; done))) | (with_reducible refine Blk.alloc ?_ _) | (with_reducible refine Blk.drewN ?_ _) | (with_reducible refine Blk.drew ?_) | (refine Blk.other ?_ (by omega) _) | fail))
  have z3 := G3.size
  replace G3 := hide G3
  clear h3
  have t3_0 := B3_0.lt
  have d3_0_0 := B3_0.cell 0 rfl
  have e3_0_0 := B3_0.free 0
  have d3_0_1 := B3_0.cell 1 rfl
  have e3_0_1 := B3_0.free 1
  have d3_0_2 := B3_0.cell 2 rfl
  have e3_0_2 := B3_0.free 2
  have d3_0_3 := B3_0.cell 3 rfl
  have e3_0_3 := B3_0.free 3
  have d3_0_4 := B3_0.cell 4 rfl
  have e3_0_4 := B3_0.free 4
  have d3_0_5 := B3_0.cell 5 rfl
  have e3_0_5 := B3_0.free 5
  have d3_0_6 := B3_0.cell 6 rfl
  have e3_0_6 := B3_0.free 6
  have d3_0_7 := B3_0.cell 7 rfl
  have e3_0_7 := B3_0.free 7
  refine ((K5 w3 _ B3_0).out).mono ?_
  rintro e w4 ⟨rfl, G4⟩
  try (with_reducible replace G4 := Grew.undrawn G4)
  have B4_0 : Blk w4 (w2.heap.size) 62 [.int .i64 1, .int .i64 a, .string ⟨#[]⟩, .slice none 0 0, .int .i64 1, .int .i64 b, .string ⟨#[]⟩, .slice none 0 0] := Blk.grew (by (repeat' (first | (with_reducible assumption) | ((with_reducible refine Blk.new ?_); (first | (with_reducible rfl) | (simp only [World.size_alloc, World.size_setCell, size_drewN]; done))) | (with_reducible refine Blk.alloc ?_ _) | (with_reducible refine Blk.drewN ?_ _) | (with_reducible refine Blk.drew ?_) | (refine Blk.other ?_ (by omega) _) | fail))) G4
  have z4 := G4.size
  try simp only [World.size_alloc, World.size_setCell, size_drewN] at z4
  replace G4 := hide G4
  have t4_0 := B4_0.lt
  have d4_0_0 := B4_0.cell 0 rfl
  have e4_0_0 := B4_0.free 0
  have d4_0_1 := B4_0.cell 1 rfl
  have e4_0_1 := B4_0.free 1
  have d4_0_2 := B4_0.cell 2 rfl
  have e4_0_2 := B4_0.free 2
  have d4_0_3 := B4_0.cell 3 rfl
  have e4_0_3 := B4_0.free 3
  have d4_0_4 := B4_0.cell 4 rfl
  have e4_0_4 := B4_0.free 4
  have d4_0_5 := B4_0.cell 5 rfl
  have e4_0_5 := B4_0.free 5
  have d4_0_6 := B4_0.cell 6 rfl
  have e4_0_6 := B4_0.free 6
  have d4_0_7 := B4_0.cell 7 rfl
  have e4_0_7 := B4_0.free 7
  go_wp2_with fail
  refine ((KA _).out).mono ?_
  rintro e w5 ⟨rfl, G5⟩
  try (with_reducible replace G5 := Grew.undrawn G5)
  have B5_0 : Blk w5 (w4.heap.size) 26 [.int .i64 k1, .int .i64 n1, .string ⟨#[]⟩, .slice none 0 0] := Blk.grew (by (repeat' (first | (with_reducible assumption) | ((with_reducible refine Blk.new ?_); (first | (with_reducible rfl) | (simp only [World.size_alloc, World.size_setCell, size_drewN]; done))) | (with_reducible refine Blk.alloc ?_ _) | (with_reducible refine Blk.drewN ?_ _) | (with_reducible refine Blk.drew ?_) | (refine Blk.other ?_ (by omega) _) | fail))) G5
  have z5 := G5.size
  try simp only [World.size_alloc, World.size_setCell, size_drewN] at z5
  replace G5 := hide G5
  have t5_0 := B5_0.lt
  have d5_0_0 := B5_0.cell 0 rfl
  have e5_0_0 := B5_0.free 0
  have d5_0_1 := B5_0.cell 1 rfl
  have e5_0_1 := B5_0.free 1
  have d5_0_2 := B5_0.cell 2 rfl
  have e5_0_2 := B5_0.free 2
  have d5_0_3 := B5_0.cell 3 rfl
  have e5_0_3 := B5_0.free 3
  go_wp2_with fail
  refine ((KB _).out).mono ?_
  rintro e w6 ⟨rfl, G6⟩
  try (with_reducible replace G6 := Grew.undrawn G6)
  have B6_0 : Blk w6 (w4.heap.size) 26 [.int .i64 k1, .int .i64 n1, .string ⟨#[]⟩, .slice none 0 0] := Blk.grew (by (repeat' (first | (with_reducible assumption) | ((with_reducible refine Blk.new ?_); (first | (with_reducible rfl) | (simp only [World.size_alloc, World.size_setCell, size_drewN]; done))) | (with_reducible refine Blk.alloc ?_ _) | (with_reducible refine Blk.drewN ?_ _) | (with_reducible refine Blk.drew ?_) | (refine Blk.other ?_ (by omega) _) | fail))) G6
  have z6 := G6.size
  try simp only [World.size_alloc, World.size_setCell, size_drewN] at z6
  replace G6 := hide G6
  have t6_0 := B6_0.lt
  have d6_0_0 := B6_0.cell 0 rfl
  have e6_0_0 := B6_0.free 0
  have d6_0_1 := B6_0.cell 1 rfl
  have e6_0_1 := B6_0.free 1
  have d6_0_2 := B6_0.cell 2 rfl
  have e6_0_2 := B6_0.free 2
  have d6_0_3 := B6_0.cell 3 rfl
  have e6_0_3 := B6_0.free 3
  go_wp2_with fail
  refine name_calls fun w7 h7 => ?_
  have G7 : Grew w w7 := by
    rw [h7]
    repeat' (first | (with_reducible exact Grew.refl _) | (with_reducible refine Grew.setCell ?_ ?_ _) | (with_reducible refine Grew.drewN ?_ _) | (with_reducible refine Grew.reD ?_ _) | (with_reducible refine Grew.alloc ?_ _) | (with_reducible refine Grew.trans ?_ G7.out) | (with_reducible refine Grew.trans ?_ G6.out) | (with_reducible refine Grew.trans ?_ G5.out) | (with_reducible refine Grew.trans ?_ G4.out) | (with_reducible refine Grew.trans ?_ G3.out) | (with_reducible refine Grew.trans ?_ G2.out) | (with_reducible refine Grew.trans ?_ G1.out) | (dsimp only; omega))
  have B7_0 : Blk w7 (w4.heap.size) 26 [.int .i64 k1, .int .i64 n1, .string ⟨#[]⟩, .slice none 0 0] := by (rw [h7]; repeat' (first | (with_reducible assumption) | ((with_reducible refine Blk.new ?_); (first | (with_reducible rfl) | (simp only [World.size_alloc, World.size_setCell, size_drewN]; done))) | (with_reducible refine Blk.alloc ?_ _) | (with_reducible refine Blk.drewN ?_ _) | (with_reducible refine Blk.drew ?_) | (refine Blk.other ?_ (by omega) _) | fail))
  have B7_1 : Blk w7 (w6.heap.size) 62 [.int .i64 1, .int .i64 a, .string ⟨#[]⟩, .slice none 0 0, .int .i64 1, .int .i64 b, .string ⟨#[]⟩, .slice none 0 0] := by (rw [h7]; repeat' (first | (with_reducible assumption) | ((with_reducible refine Blk.new ?_); (first | (with_reducible rfl) | (simp only [World.size_alloc, World.size_setCell, size_drewN]; done))) | (with_reducible refine Blk.alloc ?_ _) | (with_reducible refine Blk.drewN ?_ _) | (with_reducible refine Blk.drew ?_) | (refine Blk.other ?_ (by omega) _) | fail))
  have z7 := G7.size
  replace G7 := hide G7
  clear h7
  have t7_0 := B7_0.lt
  have d7_0_0 := B7_0.cell 0 rfl
  have e7_0_0 := B7_0.free 0
  have d7_0_1 := B7_0.cell 1 rfl
  have e7_0_1 := B7_0.free 1
  have d7_0_2 := B7_0.cell 2 rfl
  have e7_0_2 := B7_0.free 2
  have d7_0_3 := B7_0.cell 3 rfl
  have e7_0_3 := B7_0.free 3
  have t7_1 := B7_1.lt
  have d7_1_0 := B7_1.cell 0 rfl
  have e7_1_0 := B7_1.free 0
  have d7_1_1 := B7_1.cell 1 rfl
  have e7_1_1 := B7_1.free 1
  have d7_1_2 := B7_1.cell 2 rfl
  have e7_1_2 := B7_1.free 2
  have d7_1_3 := B7_1.cell 3 rfl
  have e7_1_3 := B7_1.free 3
  have d7_1_4 := B7_1.cell 4 rfl
  have e7_1_4 := B7_1.free 4
  have d7_1_5 := B7_1.cell 5 rfl
  have e7_1_5 := B7_1.free 5
  have d7_1_6 := B7_1.cell 6 rfl
  have e7_1_6 := B7_1.free 6
  have d7_1_7 := B7_1.cell 7 rfl
  have e7_1_7 := B7_1.free 7
  refine ((K6 w7 _ B7_1).out).mono ?_
  rintro e w8 ⟨rfl, G8⟩
  try (with_reducible replace G8 := Grew.undrawn G8)
  have B8_0 : Blk w8 (w4.heap.size) 26 [.int .i64 k1, .int .i64 n1, .string ⟨#[]⟩, .slice none 0 0] := Blk.grew (by (repeat' (first | (with_reducible assumption) | ((with_reducible refine Blk.new ?_); (first | (with_reducible rfl) | (simp only [World.size_alloc, World.size_setCell, size_drewN]; done))) | (with_reducible refine Blk.alloc ?_ _) | (with_reducible refine Blk.drewN ?_ _) | (with_reducible refine Blk.drew ?_) | (refine Blk.other ?_ (by omega) _) | fail))) G8
  have B8_1 : Blk w8 (w6.heap.size) 62 [.int .i64 1, .int .i64 a, .string ⟨#[]⟩, .slice none 0 0, .int .i64 1, .int .i64 b, .string ⟨#[]⟩, .slice none 0 0] := Blk.grew (by (repeat' (first | (with_reducible assumption) | ((with_reducible refine Blk.new ?_); (first | (with_reducible rfl) | (simp only [World.size_alloc, World.size_setCell, size_drewN]; done))) | (with_reducible refine Blk.alloc ?_ _) | (with_reducible refine Blk.drewN ?_ _) | (with_reducible refine Blk.drew ?_) | (refine Blk.other ?_ (by omega) _) | fail))) G8
  have z8 := G8.size
  try simp only [World.size_alloc, World.size_setCell, size_drewN] at z8
  replace G8 := hide G8
  have t8_0 := B8_0.lt
  have d8_0_0 := B8_0.cell 0 rfl
  have e8_0_0 := B8_0.free 0
  have d8_0_1 := B8_0.cell 1 rfl
  have e8_0_1 := B8_0.free 1
  have d8_0_2 := B8_0.cell 2 rfl
  have e8_0_2 := B8_0.free 2
  have d8_0_3 := B8_0.cell 3 rfl
  have e8_0_3 := B8_0.free 3
  have t8_1 := B8_1.lt
  have d8_1_0 := B8_1.cell 0 rfl
  have e8_1_0 := B8_1.free 0
  have d8_1_1 := B8_1.cell 1 rfl
  have e8_1_1 := B8_1.free 1
  have d8_1_2 := B8_1.cell 2 rfl
  have e8_1_2 := B8_1.free 2
  have d8_1_3 := B8_1.cell 3 rfl
  have e8_1_3 := B8_1.free 3
  have d8_1_4 := B8_1.cell 4 rfl
  have e8_1_4 := B8_1.free 4
  have d8_1_5 := B8_1.cell 5 rfl
  have e8_1_5 := B8_1.free 5
  have d8_1_6 := B8_1.cell 6 rfl
  have e8_1_6 := B8_1.free 6
  have d8_1_7 := B8_1.cell 7 rfl
  have e8_1_7 := B8_1.free 7
  go_wp2_with fail
  refine ((KA _).out).mono ?_
  rintro e w9 ⟨rfl, G9⟩
  try (with_reducible replace G9 := Grew.undrawn G9)
  have B9_0 : Blk w9 (w4.heap.size) 26 [.int .i64 k1, .int .i64 n1, .string ⟨#[]⟩, .slice none 0 0] := Blk.grew (by (repeat' (first | (with_reducible assumption) | ((with_reducible refine Blk.new ?_); (first | (with_reducible rfl) | (simp only [World.size_alloc, World.size_setCell, size_drewN]; done))) | (with_reducible refine Blk.alloc ?_ _) | (with_reducible refine Blk.drewN ?_ _) | (with_reducible refine Blk.drew ?_) | (refine Blk.other ?_ (by omega) _) | fail))) G9
  have B9_1 : Blk w9 (w8.heap.size) 26 [.int .i64 k2, .int .i64 n2, .string ⟨#[]⟩, .slice none 0 0] := Blk.grew (by (repeat' (first | (with_reducible assumption) | ((with_reducible refine Blk.new ?_); (first | (with_reducible rfl) | (simp only [World.size_alloc, World.size_setCell, size_drewN]; done))) | (with_reducible refine Blk.alloc ?_ _) | (with_reducible refine Blk.drewN ?_ _) | (with_reducible refine Blk.drew ?_) | (refine Blk.other ?_ (by omega) _) | fail))) G9
  have z9 := G9.size
  try simp only [World.size_alloc, World.size_setCell, size_drewN] at z9
  replace G9 := hide G9
  have t9_0 := B9_0.lt
  have d9_0_0 := B9_0.cell 0 rfl
  have e9_0_0 := B9_0.free 0
  have d9_0_1 := B9_0.cell 1 rfl
  have e9_0_1 := B9_0.free 1
  have d9_0_2 := B9_0.cell 2 rfl
  have e9_0_2 := B9_0.free 2
  have d9_0_3 := B9_0.cell 3 rfl
  have e9_0_3 := B9_0.free 3
  have t9_1 := B9_1.lt
  have d9_1_0 := B9_1.cell 0 rfl
  have e9_1_0 := B9_1.free 0
  have d9_1_1 := B9_1.cell 1 rfl
  have e9_1_1 := B9_1.free 1
  have d9_1_2 := B9_1.cell 2 rfl
  have e9_1_2 := B9_1.free 2
  have d9_1_3 := B9_1.cell 3 rfl
  have e9_1_3 := B9_1.free 3
  go_wp2_with fail
  refine ((KB _).out).mono ?_
  rintro e w10 ⟨rfl, G10⟩
  try (with_reducible replace G10 := Grew.undrawn G10)
  have B10_0 : Blk w10 (w4.heap.size) 26 [.int .i64 k1, .int .i64 n1, .string ⟨#[]⟩, .slice none 0 0] := Blk.grew (by (repeat' (first | (with_reducible assumption) | ((with_reducible refine Blk.new ?_); (first | (with_reducible rfl) | (simp only [World.size_alloc, World.size_setCell, size_drewN]; done))) | (with_reducible refine Blk.alloc ?_ _) | (with_reducible refine Blk.drewN ?_ _) | (with_reducible refine Blk.drew ?_) | (refine Blk.other ?_ (by omega) _) | fail))) G10
  have B10_1 : Blk w10 (w8.heap.size) 26 [.int .i64 k2, .int .i64 n2, .string ⟨#[]⟩, .slice none 0 0] := Blk.grew (by (repeat' (first | (with_reducible assumption) | ((with_reducible refine Blk.new ?_); (first | (with_reducible rfl) | (simp only [World.size_alloc, World.size_setCell, size_drewN]; done))) | (with_reducible refine Blk.alloc ?_ _) | (with_reducible refine Blk.drewN ?_ _) | (with_reducible refine Blk.drew ?_) | (refine Blk.other ?_ (by omega) _) | fail))) G10
  have z10 := G10.size
  try simp only [World.size_alloc, World.size_setCell, size_drewN] at z10
  replace G10 := hide G10
  have t10_0 := B10_0.lt
  have d10_0_0 := B10_0.cell 0 rfl
  have e10_0_0 := B10_0.free 0
  have d10_0_1 := B10_0.cell 1 rfl
  have e10_0_1 := B10_0.free 1
  have d10_0_2 := B10_0.cell 2 rfl
  have e10_0_2 := B10_0.free 2
  have d10_0_3 := B10_0.cell 3 rfl
  have e10_0_3 := B10_0.free 3
  have t10_1 := B10_1.lt
  have d10_1_0 := B10_1.cell 0 rfl
  have e10_1_0 := B10_1.free 0
  have d10_1_1 := B10_1.cell 1 rfl
  have e10_1_1 := B10_1.free 1
  have d10_1_2 := B10_1.cell 2 rfl
  have e10_1_2 := B10_1.free 2
  have d10_1_3 := B10_1.cell 3 rfl
  have e10_1_3 := B10_1.free 3
  go_wp2_with fail
  refine name_calls fun w11 h11 => ?_
  have G11 : Grew w w11 := by
    rw [h11]
    repeat' (first | (with_reducible exact Grew.refl _) | (with_reducible refine Grew.setCell ?_ ?_ _) | (with_reducible refine Grew.drewN ?_ _) | (with_reducible refine Grew.reD ?_ _) | (with_reducible refine Grew.alloc ?_ _) | (with_reducible refine Grew.trans ?_ G11.out) | (with_reducible refine Grew.trans ?_ G10.out) | (with_reducible refine Grew.trans ?_ G9.out) | (with_reducible refine Grew.trans ?_ G8.out) | (with_reducible refine Grew.trans ?_ G7.out) | (with_reducible refine Grew.trans ?_ G6.out) | (with_reducible refine Grew.trans ?_ G5.out) | (with_reducible refine Grew.trans ?_ G4.out) | (with_reducible refine Grew.trans ?_ G3.out) | (with_reducible refine Grew.trans ?_ G2.out) | (with_reducible refine Grew.trans ?_ G1.out) | (dsimp only; omega))
  have B11_0 : Blk w11 (w4.heap.size) 26 [.int .i64 k1, .int .i64 n1, .string ⟨#[]⟩, .slice none 0 0] := by (rw [h11]; repeat' (first | (with_reducible assumption) | ((with_reducible refine Blk.new ?_); (first | (with_reducible rfl) | (simp only [World.size_alloc, World.size_setCell, size_drewN]; done))) | (with_reducible refine Blk.alloc ?_ _) | (with_reducible refine Blk.drewN ?_ _) | (with_reducible refine Blk.drew ?_) | (refine Blk.other ?_ (by omega) _) | fail))
  have B11_1 : Blk w11 (w8.heap.size) 26 [.int .i64 k2, .int .i64 n2, .string ⟨#[]⟩, .slice none 0 0] := by (rw [h11]; repeat' (first | (with_reducible assumption) | ((with_reducible refine Blk.new ?_); (first | (with_reducible rfl) | (simp only [World.size_alloc, World.size_setCell, size_drewN]; done))) | (with_reducible refine Blk.alloc ?_ _) | (with_reducible refine Blk.drewN ?_ _) | (with_reducible refine Blk.drew ?_) | (refine Blk.other ?_ (by omega) _) | fail))
  have B11_2 : Blk w11 (w10.heap.size) 62 [.int .i64 1, .int .i64 a, .string ⟨#[]⟩, .slice none 0 0, .int .i64 1, .int .i64 b, .string ⟨#[]⟩, .slice none 0 0] := by (rw [h11]; repeat' (first | (with_reducible assumption) | ((with_reducible refine Blk.new ?_); (first | (with_reducible rfl) | (simp only [World.size_alloc, World.size_setCell, size_drewN]; done))) | (with_reducible refine Blk.alloc ?_ _) | (with_reducible refine Blk.drewN ?_ _) | (with_reducible refine Blk.drew ?_) | (refine Blk.other ?_ (by omega) _) | fail))
  have z11 := G11.size
  replace G11 := hide G11
  clear h11
  have t11_0 := B11_0.lt
  have d11_0_0 := B11_0.cell 0 rfl
  have e11_0_0 := B11_0.free 0
  have d11_0_1 := B11_0.cell 1 rfl
  have e11_0_1 := B11_0.free 1
  have d11_0_2 := B11_0.cell 2 rfl
  have e11_0_2 := B11_0.free 2
  have d11_0_3 := B11_0.cell 3 rfl
  have e11_0_3 := B11_0.free 3
  have t11_1 := B11_1.lt
  have d11_1_0 := B11_1.cell 0 rfl
  have e11_1_0 := B11_1.free 0
  have d11_1_1 := B11_1.cell 1 rfl
  have e11_1_1 := B11_1.free 1
  have d11_1_2 := B11_1.cell 2 rfl
  have e11_1_2 := B11_1.free 2
  have d11_1_3 := B11_1.cell 3 rfl
  have e11_1_3 := B11_1.free 3
  have t11_2 := B11_2.lt
  have d11_2_0 := B11_2.cell 0 rfl
  have e11_2_0 := B11_2.free 0
  have d11_2_1 := B11_2.cell 1 rfl
  have e11_2_1 := B11_2.free 1
  have d11_2_2 := B11_2.cell 2 rfl
  have e11_2_2 := B11_2.free 2
  have d11_2_3 := B11_2.cell 3 rfl
  have e11_2_3 := B11_2.free 3
  have d11_2_4 := B11_2.cell 4 rfl
  have e11_2_4 := B11_2.free 4
  have d11_2_5 := B11_2.cell 5 rfl
  have e11_2_5 := B11_2.free 5
  have d11_2_6 := B11_2.cell 6 rfl
  have e11_2_6 := B11_2.free 6
  have d11_2_7 := B11_2.cell 7 rfl
  have e11_2_7 := B11_2.free 7
  refine ((K8 w11 _ B11_2).out).mono ?_
  rintro e w12 ⟨rfl, G12⟩
  try (with_reducible replace G12 := Grew.undrawn G12)
  have B12_0 : Blk w12 (w4.heap.size) 26 [.int .i64 k1, .int .i64 n1, .string ⟨#[]⟩, .slice none 0 0] := Blk.grew (by (repeat' (first | (with_reducible assumption) | ((with_reducible refine Blk.new ?_); (first | (with_reducible rfl) | (simp only [World.size_alloc, World.size_setCell, size_drewN]; done))) | (with_reducible refine Blk.alloc ?_ _) | (with_reducible refine Blk.drewN ?_ _) | (with_reducible refine Blk.drew ?_) | (refine Blk.other ?_ (by omega) _) | fail))) G12
  have B12_1 : Blk w12 (w8.heap.size) 26 [.int .i64 k2, .int .i64 n2, .string ⟨#[]⟩, .slice none 0 0] := Blk.grew (by (repeat' (first | (with_reducible assumption) | ((with_reducible refine Blk.new ?_); (first | (with_reducible rfl) | (simp only [World.size_alloc, World.size_setCell, size_drewN]; done))) | (with_reducible refine Blk.alloc ?_ _) | (with_reducible refine Blk.drewN ?_ _) | (with_reducible refine Blk.drew ?_) | (refine Blk.other ?_ (by omega) _) | fail))) G12
  have B12_2 : Blk w12 (w10.heap.size) 62 [.int .i64 1, .int .i64 a, .string ⟨#[]⟩, .slice none 0 0, .int .i64 1, .int .i64 b, .string ⟨#[]⟩, .slice none 0 0] := Blk.grew (by (repeat' (first | (with_reducible assumption) | ((with_reducible refine Blk.new ?_); (first | (with_reducible rfl) | (simp only [World.size_alloc, World.size_setCell, size_drewN]; done))) | (with_reducible refine Blk.alloc ?_ _) | (with_reducible refine Blk.drewN ?_ _) | (with_reducible refine Blk.drew ?_) | (refine Blk.other ?_ (by omega) _) | fail))) G12
  have z12 := G12.size
  try simp only [World.size_alloc, World.size_setCell, size_drewN] at z12
  replace G12 := hide G12
  have t12_0 := B12_0.lt
  have d12_0_0 := B12_0.cell 0 rfl
  have e12_0_0 := B12_0.free 0
  have d12_0_1 := B12_0.cell 1 rfl
  have e12_0_1 := B12_0.free 1
  have d12_0_2 := B12_0.cell 2 rfl
  have e12_0_2 := B12_0.free 2
  have d12_0_3 := B12_0.cell 3 rfl
  have e12_0_3 := B12_0.free 3
  have t12_1 := B12_1.lt
  have d12_1_0 := B12_1.cell 0 rfl
  have e12_1_0 := B12_1.free 0
  have d12_1_1 := B12_1.cell 1 rfl
  have e12_1_1 := B12_1.free 1
  have d12_1_2 := B12_1.cell 2 rfl
  have e12_1_2 := B12_1.free 2
  have d12_1_3 := B12_1.cell 3 rfl
  have e12_1_3 := B12_1.free 3
  have t12_2 := B12_2.lt
  have d12_2_0 := B12_2.cell 0 rfl
  have e12_2_0 := B12_2.free 0
  have d12_2_1 := B12_2.cell 1 rfl
  have e12_2_1 := B12_2.free 1
  have d12_2_2 := B12_2.cell 2 rfl
  have e12_2_2 := B12_2.free 2
  have d12_2_3 := B12_2.cell 3 rfl
  have e12_2_3 := B12_2.free 3
  have d12_2_4 := B12_2.cell 4 rfl
  have e12_2_4 := B12_2.free 4
  have d12_2_5 := B12_2.cell 5 rfl
  have e12_2_5 := B12_2.free 5
  have d12_2_6 := B12_2.cell 6 rfl
  have e12_2_6 := B12_2.free 6
  have d12_2_7 := B12_2.cell 7 rfl
  have e12_2_7 := B12_2.free 7
  go_wp2_with fail
  refine ((KA _).out).mono ?_
  rintro e w13 ⟨rfl, G13⟩
  try (with_reducible replace G13 := Grew.undrawn G13)
  have B13_0 : Blk w13 (w4.heap.size) 26 [.int .i64 k1, .int .i64 n1, .string ⟨#[]⟩, .slice none 0 0] := Blk.grew (by (repeat' (first | (with_reducible assumption) | ((with_reducible refine Blk.new ?_); (first | (with_reducible rfl) | (simp only [World.size_alloc, World.size_setCell, size_drewN]; done))) | (with_reducible refine Blk.alloc ?_ _) | (with_reducible refine Blk.drewN ?_ _) | (with_reducible refine Blk.drew ?_) | (refine Blk.other ?_ (by omega) _) | fail))) G13
  have B13_1 : Blk w13 (w8.heap.size) 26 [.int .i64 k2, .int .i64 n2, .string ⟨#[]⟩, .slice none 0 0] := Blk.grew (by (repeat' (first | (with_reducible assumption) | ((with_reducible refine Blk.new ?_); (first | (with_reducible rfl) | (simp only [World.size_alloc, World.size_setCell, size_drewN]; done))) | (with_reducible refine Blk.alloc ?_ _) | (with_reducible refine Blk.drewN ?_ _) | (with_reducible refine Blk.drew ?_) | (refine Blk.other ?_ (by omega) _) | fail))) G13
  have B13_2 : Blk w13 (w12.heap.size) 26 [.int .i64 k3, .int .i64 n3, .string ⟨#[]⟩, .slice none 0 0] := Blk.grew (by (repeat' (first | (with_reducible assumption) | ((with_reducible refine Blk.new ?_); (first | (with_reducible rfl) | (simp only [World.size_alloc, World.size_setCell, size_drewN]; done))) | (with_reducible refine Blk.alloc ?_ _) | (with_reducible refine Blk.drewN ?_ _) | (with_reducible refine Blk.drew ?_) | (refine Blk.other ?_ (by omega) _) | fail))) G13
  have z13 := G13.size
  try simp only [World.size_alloc, World.size_setCell, size_drewN] at z13
  replace G13 := hide G13
  have t13_0 := B13_0.lt
  have d13_0_0 := B13_0.cell 0 rfl
  have e13_0_0 := B13_0.free 0
  have d13_0_1 := B13_0.cell 1 rfl
  have e13_0_1 := B13_0.free 1
  have d13_0_2 := B13_0.cell 2 rfl
  have e13_0_2 := B13_0.free 2
  have d13_0_3 := B13_0.cell 3 rfl
  have e13_0_3 := B13_0.free 3
  have t13_1 := B13_1.lt
  have d13_1_0 := B13_1.cell 0 rfl
  have e13_1_0 := B13_1.free 0
  have d13_1_1 := B13_1.cell 1 rfl
  have e13_1_1 := B13_1.free 1
  have d13_1_2 := B13_1.cell 2 rfl
  have e13_1_2 := B13_1.free 2
  have d13_1_3 := B13_1.cell 3 rfl
  have e13_1_3 := B13_1.free 3
  have t13_2 := B13_2.lt
  have d13_2_0 := B13_2.cell 0 rfl
  have e13_2_0 := B13_2.free 0
  have d13_2_1 := B13_2.cell 1 rfl
  have e13_2_1 := B13_2.free 1
  have d13_2_2 := B13_2.cell 2 rfl
  have e13_2_2 := B13_2.free 2
  have d13_2_3 := B13_2.cell 3 rfl
  have e13_2_3 := B13_2.free 3
  go_wp2_with fail
  refine ((KB _).out).mono ?_
  rintro e w14 ⟨rfl, G14⟩
  try (with_reducible replace G14 := Grew.undrawn G14)
  have B14_0 : Blk w14 (w4.heap.size) 26 [.int .i64 k1, .int .i64 n1, .string ⟨#[]⟩, .slice none 0 0] := Blk.grew (by (repeat' (first | (with_reducible assumption) | ((with_reducible refine Blk.new ?_); (first | (with_reducible rfl) | (simp only [World.size_alloc, World.size_setCell, size_drewN]; done))) | (with_reducible refine Blk.alloc ?_ _) | (with_reducible refine Blk.drewN ?_ _) | (with_reducible refine Blk.drew ?_) | (refine Blk.other ?_ (by omega) _) | fail))) G14
  have B14_1 : Blk w14 (w8.heap.size) 26 [.int .i64 k2, .int .i64 n2, .string ⟨#[]⟩, .slice none 0 0] := Blk.grew (by (repeat' (first | (with_reducible assumption) | ((with_reducible refine Blk.new ?_); (first | (with_reducible rfl) | (simp only [World.size_alloc, World.size_setCell, size_drewN]; done))) | (with_reducible refine Blk.alloc ?_ _) | (with_reducible refine Blk.drewN ?_ _) | (with_reducible refine Blk.drew ?_) | (refine Blk.other ?_ (by omega) _) | fail))) G14
  have B14_2 : Blk w14 (w12.heap.size) 26 [.int .i64 k3, .int .i64 n3, .string ⟨#[]⟩, .slice none 0 0] := Blk.grew (by (repeat' (first | (with_reducible assumption) | ((with_reducible refine Blk.new ?_); (first | (with_reducible rfl) | (simp only [World.size_alloc, World.size_setCell, size_drewN]; done))) | (with_reducible refine Blk.alloc ?_ _) | (with_reducible refine Blk.drewN ?_ _) | (with_reducible refine Blk.drew ?_) | (refine Blk.other ?_ (by omega) _) | fail))) G14
  have z14 := G14.size
  try simp only [World.size_alloc, World.size_setCell, size_drewN] at z14
  replace G14 := hide G14
  have t14_0 := B14_0.lt
  have d14_0_0 := B14_0.cell 0 rfl
  have e14_0_0 := B14_0.free 0
  have d14_0_1 := B14_0.cell 1 rfl
  have e14_0_1 := B14_0.free 1
  have d14_0_2 := B14_0.cell 2 rfl
  have e14_0_2 := B14_0.free 2
  have d14_0_3 := B14_0.cell 3 rfl
  have e14_0_3 := B14_0.free 3
  have t14_1 := B14_1.lt
  have d14_1_0 := B14_1.cell 0 rfl
  have e14_1_0 := B14_1.free 0
  have d14_1_1 := B14_1.cell 1 rfl
  have e14_1_1 := B14_1.free 1
  have d14_1_2 := B14_1.cell 2 rfl
  have e14_1_2 := B14_1.free 2
  have d14_1_3 := B14_1.cell 3 rfl
  have e14_1_3 := B14_1.free 3
  have t14_2 := B14_2.lt
  have d14_2_0 := B14_2.cell 0 rfl
  have e14_2_0 := B14_2.free 0
  have d14_2_1 := B14_2.cell 1 rfl
  have e14_2_1 := B14_2.free 1
  have d14_2_2 := B14_2.cell 2 rfl
  have e14_2_2 := B14_2.free 2
  have d14_2_3 := B14_2.cell 3 rfl
  have e14_2_3 := B14_2.free 3
  go_wp2_with fail
  refine name_calls fun w15 h15 => ?_
  have G15 : Grew w w15 := by
    rw [h15]
    repeat' (first | (with_reducible exact Grew.refl _) | (with_reducible refine Grew.setCell ?_ ?_ _) | (with_reducible refine Grew.drewN ?_ _) | (with_reducible refine Grew.reD ?_ _) | (with_reducible refine Grew.alloc ?_ _) | (with_reducible refine Grew.trans ?_ G15.out) | (with_reducible refine Grew.trans ?_ G14.out) | (with_reducible refine Grew.trans ?_ G13.out) | (with_reducible refine Grew.trans ?_ G12.out) | (with_reducible refine Grew.trans ?_ G11.out) | (with_reducible refine Grew.trans ?_ G10.out) | (with_reducible refine Grew.trans ?_ G9.out) | (with_reducible refine Grew.trans ?_ G8.out) | (with_reducible refine Grew.trans ?_ G7.out) | (with_reducible refine Grew.trans ?_ G6.out) | (with_reducible refine Grew.trans ?_ G5.out) | (with_reducible refine Grew.trans ?_ G4.out) | (with_reducible refine Grew.trans ?_ G3.out) | (with_reducible refine Grew.trans ?_ G2.out) | (with_reducible refine Grew.trans ?_ G1.out) | (dsimp only; omega))
  have B15_0 : Blk w15 (w4.heap.size) 26 [.int .i64 k1, .int .i64 n1, .string ⟨#[]⟩, .slice none 0 0] := by (rw [h15]; repeat' (first | (with_reducible assumption) | ((with_reducible refine Blk.new ?_); (first | (with_reducible rfl) | (simp only [World.size_alloc, World.size_setCell, size_drewN]; done))) | (with_reducible refine Blk.alloc ?_ _) | (with_reducible refine Blk.drewN ?_ _) | (with_reducible refine Blk.drew ?_) | (refine Blk.other ?_ (by omega) _) | fail))
  have B15_1 : Blk w15 (w8.heap.size) 26 [.int .i64 k2, .int .i64 n2, .string ⟨#[]⟩, .slice none 0 0] := by (rw [h15]; repeat' (first | (with_reducible assumption) | ((with_reducible refine Blk.new ?_); (first | (with_reducible rfl) | (simp only [World.size_alloc, World.size_setCell, size_drewN]; done))) | (with_reducible refine Blk.alloc ?_ _) | (with_reducible refine Blk.drewN ?_ _) | (with_reducible refine Blk.drew ?_) | (refine Blk.other ?_ (by omega) _) | fail))
  have B15_2 : Blk w15 (w12.heap.size) 26 [.int .i64 k3, .int .i64 n3, .string ⟨#[]⟩, .slice none 0 0] := by (rw [h15]; repeat' (first | (with_reducible assumption) | ((with_reducible refine Blk.new ?_); (first | (with_reducible rfl) | (simp only [World.size_alloc, World.size_setCell, size_drewN]; done))) | (with_reducible refine Blk.alloc ?_ _) | (with_reducible refine Blk.drewN ?_ _) | (with_reducible refine Blk.drew ?_) | (refine Blk.other ?_ (by omega) _) | fail))
  have B15_3 : Blk w15 (w14.heap.size) 62 [.int .i64 1, .int .i64 a, .string ⟨#[]⟩, .slice none 0 0, .int .i64 1, .int .i64 b, .string ⟨#[]⟩, .slice none 0 0] := by (rw [h15]; repeat' (first | (with_reducible assumption) | ((with_reducible refine Blk.new ?_); (first | (with_reducible rfl) | (simp only [World.size_alloc, World.size_setCell, size_drewN]; done))) | (with_reducible refine Blk.alloc ?_ _) | (with_reducible refine Blk.drewN ?_ _) | (with_reducible refine Blk.drew ?_) | (refine Blk.other ?_ (by omega) _) | fail))
  have z15 := G15.size
  replace G15 := hide G15
  clear h15
  have t15_0 := B15_0.lt
  have d15_0_0 := B15_0.cell 0 rfl
  have e15_0_0 := B15_0.free 0
  have d15_0_1 := B15_0.cell 1 rfl
  have e15_0_1 := B15_0.free 1
  have d15_0_2 := B15_0.cell 2 rfl
  have e15_0_2 := B15_0.free 2
  have d15_0_3 := B15_0.cell 3 rfl
  have e15_0_3 := B15_0.free 3
  have t15_1 := B15_1.lt
  have d15_1_0 := B15_1.cell 0 rfl
  have e15_1_0 := B15_1.free 0
  have d15_1_1 := B15_1.cell 1 rfl
  have e15_1_1 := B15_1.free 1
  have d15_1_2 := B15_1.cell 2 rfl
  have e15_1_2 := B15_1.free 2
  have d15_1_3 := B15_1.cell 3 rfl
  have e15_1_3 := B15_1.free 3
  have t15_2 := B15_2.lt
  have d15_2_0 := B15_2.cell 0 rfl
  have e15_2_0 := B15_2.free 0
  have d15_2_1 := B15_2.cell 1 rfl
  have e15_2_1 := B15_2.free 1
  have d15_2_2 := B15_2.cell 2 rfl
  have e15_2_2 := B15_2.free 2
  have d15_2_3 := B15_2.cell 3 rfl
  have e15_2_3 := B15_2.free 3
  have t15_3 := B15_3.lt
  have d15_3_0 := B15_3.cell 0 rfl
  have e15_3_0 := B15_3.free 0
  have d15_3_1 := B15_3.cell 1 rfl
  have e15_3_1 := B15_3.free 1
  have d15_3_2 := B15_3.cell 2 rfl
  have e15_3_2 := B15_3.free 2
  have d15_3_3 := B15_3.cell 3 rfl
  have e15_3_3 := B15_3.free 3
  have d15_3_4 := B15_3.cell 4 rfl
  have e15_3_4 := B15_3.free 4
  have d15_3_5 := B15_3.cell 5 rfl
  have e15_3_5 := B15_3.free 5
  have d15_3_6 := B15_3.cell 6 rfl
  have e15_3_6 := B15_3.free 6
  have d15_3_7 := B15_3.cell 7 rfl
  have e15_3_7 := B15_3.free 7
  refine ((K9 w15 _ B15_3).out).mono ?_
  rintro e w16 ⟨rfl, G16⟩
  try (with_reducible replace G16 := Grew.undrawn G16)
  have B16_0 : Blk w16 (w4.heap.size) 26 [.int .i64 k1, .int .i64 n1, .string ⟨#[]⟩, .slice none 0 0] := Blk.grew (by (repeat' (first | (with_reducible assumption) | ((with_reducible refine Blk.new ?_); (first | (with_reducible rfl) | (simp only [World.size_alloc, World.size_setCell, size_drewN]; done))) | (with_reducible refine Blk.alloc ?_ _) | (with_reducible refine Blk.drewN ?_ _) | (with_reducible refine Blk.drew ?_) | (refine Blk.other ?_ (by omega) _) | fail))) G16
  have B16_1 : Blk w16 (w8.heap.size) 26 [.int .i64 k2, .int .i64 n2, .string ⟨#[]⟩, .slice none 0 0] := Blk.grew (by (repeat' (first | (with_reducible assumption) | ((with_reducible refine Blk.new ?_); (first | (with_reducible rfl) | (simp only [World.size_alloc, World.size_setCell, size_drewN]; done))) | (with_reducible refine Blk.alloc ?_ _) | (with_reducible refine Blk.drewN ?_ _) | (with_reducible refine Blk.drew ?_) | (refine Blk.other ?_ (by omega) _) | fail))) G16
  have B16_2 : Blk w16 (w12.heap.size) 26 [.int .i64 k3, .int .i64 n3, .string ⟨#[]⟩, .slice none 0 0] := Blk.grew (by (repeat' (first | (with_reducible assumption) | ((with_reducible refine Blk.new ?_); (first | (with_reducible rfl) | (simp only [World.size_alloc, World.size_setCell, size_drewN]; done))) | (with_reducible refine Blk.alloc ?_ _) | (with_reducible refine Blk.drewN ?_ _) | (with_reducible refine Blk.drew ?_) | (refine Blk.other ?_ (by omega) _) | fail))) G16
  have B16_3 : Blk w16 (w14.heap.size) 62 [.int .i64 1, .int .i64 a, .string ⟨#[]⟩, .slice none 0 0, .int .i64 1, .int .i64 b, .string ⟨#[]⟩, .slice none 0 0] := Blk.grew (by (repeat' (first | (with_reducible assumption) | ((with_reducible refine Blk.new ?_); (first | (with_reducible rfl) | (simp only [World.size_alloc, World.size_setCell, size_drewN]; done))) | (with_reducible refine Blk.alloc ?_ _) | (with_reducible refine Blk.drewN ?_ _) | (with_reducible refine Blk.drew ?_) | (refine Blk.other ?_ (by omega) _) | fail))) G16
  have z16 := G16.size
  try simp only [World.size_alloc, World.size_setCell, size_drewN] at z16
  replace G16 := hide G16
  have t16_0 := B16_0.lt
  have d16_0_0 := B16_0.cell 0 rfl
  have e16_0_0 := B16_0.free 0
  have d16_0_1 := B16_0.cell 1 rfl
  have e16_0_1 := B16_0.free 1
  have d16_0_2 := B16_0.cell 2 rfl
  have e16_0_2 := B16_0.free 2
  have d16_0_3 := B16_0.cell 3 rfl
  have e16_0_3 := B16_0.free 3
  have t16_1 := B16_1.lt
  have d16_1_0 := B16_1.cell 0 rfl
  have e16_1_0 := B16_1.free 0
  have d16_1_1 := B16_1.cell 1 rfl
  have e16_1_1 := B16_1.free 1
  have d16_1_2 := B16_1.cell 2 rfl
  have e16_1_2 := B16_1.free 2
  have d16_1_3 := B16_1.cell 3 rfl
  have e16_1_3 := B16_1.free 3
  have t16_2 := B16_2.lt
  have d16_2_0 := B16_2.cell 0 rfl
  have e16_2_0 := B16_2.free 0
  have d16_2_1 := B16_2.cell 1 rfl
  have e16_2_1 := B16_2.free 1
  have d16_2_2 := B16_2.cell 2 rfl
  have e16_2_2 := B16_2.free 2
  have d16_2_3 := B16_2.cell 3 rfl
  have e16_2_3 := B16_2.free 3
  have t16_3 := B16_3.lt
  have d16_3_0 := B16_3.cell 0 rfl
  have e16_3_0 := B16_3.free 0
  have d16_3_1 := B16_3.cell 1 rfl
  have e16_3_1 := B16_3.free 1
  have d16_3_2 := B16_3.cell 2 rfl
  have e16_3_2 := B16_3.free 2
  have d16_3_3 := B16_3.cell 3 rfl
  have e16_3_3 := B16_3.free 3
  have d16_3_4 := B16_3.cell 4 rfl
  have e16_3_4 := B16_3.free 4
  have d16_3_5 := B16_3.cell 5 rfl
  have e16_3_5 := B16_3.free 5
  have d16_3_6 := B16_3.cell 6 rfl
  have e16_3_6 := B16_3.free 6
  have d16_3_7 := B16_3.cell 7 rfl
  have e16_3_7 := B16_3.free 7
  go_wp2_with fail
  refine ((KA _).out).mono ?_
  rintro e w17 ⟨rfl, G17⟩
  try (with_reducible replace G17 := Grew.undrawn G17)
  have B17_0 : Blk w17 (w4.heap.size) 26 [.int .i64 k1, .int .i64 n1, .string ⟨#[]⟩, .slice none 0 0] := Blk.grew (by (repeat' (first | (with_reducible assumption) | ((with_reducible refine Blk.new ?_); (first | (with_reducible rfl) | (simp only [World.size_alloc, World.size_setCell, size_drewN]; done))) | (with_reducible refine Blk.alloc ?_ _) | (with_reducible refine Blk.drewN ?_ _) | (with_reducible refine Blk.drew ?_) | (refine Blk.other ?_ (by omega) _) | fail))) G17
  have B17_1 : Blk w17 (w8.heap.size) 26 [.int .i64 k2, .int .i64 n2, .string ⟨#[]⟩, .slice none 0 0] := Blk.grew (by (repeat' (first | (with_reducible assumption) | ((with_reducible refine Blk.new ?_); (first | (with_reducible rfl) | (simp only [World.size_alloc, World.size_setCell, size_drewN]; done))) | (with_reducible refine Blk.alloc ?_ _) | (with_reducible refine Blk.drewN ?_ _) | (with_reducible refine Blk.drew ?_) | (refine Blk.other ?_ (by omega) _) | fail))) G17
  have B17_2 : Blk w17 (w12.heap.size) 26 [.int .i64 k3, .int .i64 n3, .string ⟨#[]⟩, .slice none 0 0] := Blk.grew (by (repeat' (first | (with_reducible assumption) | ((with_reducible refine Blk.new ?_); (first | (with_reducible rfl) | (simp only [World.size_alloc, World.size_setCell, size_drewN]; done))) | (with_reducible refine Blk.alloc ?_ _) | (with_reducible refine Blk.drewN ?_ _) | (with_reducible refine Blk.drew ?_) | (refine Blk.other ?_ (by omega) _) | fail))) G17
  have B17_3 : Blk w17 (w16.heap.size) 26 [.int .i64 k4, .int .i64 n4, .string ⟨#[]⟩, .slice none 0 0] := Blk.grew (by (repeat' (first | (with_reducible assumption) | ((with_reducible refine Blk.new ?_); (first | (with_reducible rfl) | (simp only [World.size_alloc, World.size_setCell, size_drewN]; done))) | (with_reducible refine Blk.alloc ?_ _) | (with_reducible refine Blk.drewN ?_ _) | (with_reducible refine Blk.drew ?_) | (refine Blk.other ?_ (by omega) _) | fail))) G17
  have z17 := G17.size
  try simp only [World.size_alloc, World.size_setCell, size_drewN] at z17
  replace G17 := hide G17
  have t17_0 := B17_0.lt
  have d17_0_0 := B17_0.cell 0 rfl
  have e17_0_0 := B17_0.free 0
  have d17_0_1 := B17_0.cell 1 rfl
  have e17_0_1 := B17_0.free 1
  have d17_0_2 := B17_0.cell 2 rfl
  have e17_0_2 := B17_0.free 2
  have d17_0_3 := B17_0.cell 3 rfl
  have e17_0_3 := B17_0.free 3
  have t17_1 := B17_1.lt
  have d17_1_0 := B17_1.cell 0 rfl
  have e17_1_0 := B17_1.free 0
  have d17_1_1 := B17_1.cell 1 rfl
  have e17_1_1 := B17_1.free 1
  have d17_1_2 := B17_1.cell 2 rfl
  have e17_1_2 := B17_1.free 2
  have d17_1_3 := B17_1.cell 3 rfl
  have e17_1_3 := B17_1.free 3
  have t17_2 := B17_2.lt
  have d17_2_0 := B17_2.cell 0 rfl
  have e17_2_0 := B17_2.free 0
  have d17_2_1 := B17_2.cell 1 rfl
  have e17_2_1 := B17_2.free 1
  have d17_2_2 := B17_2.cell 2 rfl
  have e17_2_2 := B17_2.free 2
  have d17_2_3 := B17_2.cell 3 rfl
  have e17_2_3 := B17_2.free 3
  have t17_3 := B17_3.lt
  have d17_3_0 := B17_3.cell 0 rfl
  have e17_3_0 := B17_3.free 0
  have d17_3_1 := B17_3.cell 1 rfl
  have e17_3_1 := B17_3.free 1
  have d17_3_2 := B17_3.cell 2 rfl
  have e17_3_2 := B17_3.free 2
  have d17_3_3 := B17_3.cell 3 rfl
  have e17_3_3 := B17_3.free 3
  go_wp2_with fail
  refine ((KB _).out).mono ?_
  rintro e w18 ⟨rfl, G18⟩
  try (with_reducible replace G18 := Grew.undrawn G18)
  have B18_0 : Blk w18 (w4.heap.size) 26 [.int .i64 k1, .int .i64 n1, .string ⟨#[]⟩, .slice none 0 0] := Blk.grew (by (repeat' (first | (with_reducible assumption) | ((with_reducible refine Blk.new ?_); (first | (with_reducible rfl) | (simp only [World.size_alloc, World.size_setCell, size_drewN]; done))) | (with_reducible refine Blk.alloc ?_ _) | (with_reducible refine Blk.drewN ?_ _) | (with_reducible refine Blk.drew ?_) | (refine Blk.other ?_ (by omega) _) | fail))) G18
  have B18_1 : Blk w18 (w8.heap.size) 26 [.int .i64 k2, .int .i64 n2, .string ⟨#[]⟩, .slice none 0 0] := Blk.grew (by (repeat' (first | (with_reducible assumption) | ((with_reducible refine Blk.new ?_); (first | (with_reducible rfl) | (simp only [World.size_alloc, World.size_setCell, size_drewN]; done))) | (with_reducible refine Blk.alloc ?_ _) | (with_reducible refine Blk.drewN ?_ _) | (with_reducible refine Blk.drew ?_) | (refine Blk.other ?_ (by omega) _) | fail))) G18
  have B18_2 : Blk w18 (w12.heap.size) 26 [.int .i64 k3, .int .i64 n3, .string ⟨#[]⟩, .slice none 0 0] := Blk.grew (by (repeat' (first | (with_reducible assumption) | ((with_reducible refine Blk.new ?_); (first | (with_reducible rfl) | (simp only [World.size_alloc, World.size_setCell, size_drewN]; done))) | (with_reducible refine Blk.alloc ?_ _) | (with_reducible refine Blk.drewN ?_ _) | (with_reducible refine Blk.drew ?_) | (refine Blk.other ?_ (by omega) _) | fail))) G18
  have B18_3 : Blk w18 (w16.heap.size) 26 [.int .i64 k4, .int .i64 n4, .string ⟨#[]⟩, .slice none 0 0] := Blk.grew (by (repeat' (first | (with_reducible assumption) | ((with_reducible refine Blk.new ?_); (first | (with_reducible rfl) | (simp only [World.size_alloc, World.size_setCell, size_drewN]; done))) | (with_reducible refine Blk.alloc ?_ _) | (with_reducible refine Blk.drewN ?_ _) | (with_reducible refine Blk.drew ?_) | (refine Blk.other ?_ (by omega) _) | fail))) G18
  have z18 := G18.size
  try simp only [World.size_alloc, World.size_setCell, size_drewN] at z18
  replace G18 := hide G18
  have t18_0 := B18_0.lt
  have d18_0_0 := B18_0.cell 0 rfl
  have e18_0_0 := B18_0.free 0
  have d18_0_1 := B18_0.cell 1 rfl
  have e18_0_1 := B18_0.free 1
  have d18_0_2 := B18_0.cell 2 rfl
  have e18_0_2 := B18_0.free 2
  have d18_0_3 := B18_0.cell 3 rfl
  have e18_0_3 := B18_0.free 3
  have t18_1 := B18_1.lt
  have d18_1_0 := B18_1.cell 0 rfl
  have e18_1_0 := B18_1.free 0
  have d18_1_1 := B18_1.cell 1 rfl
  have e18_1_1 := B18_1.free 1
  have d18_1_2 := B18_1.cell 2 rfl
  have e18_1_2 := B18_1.free 2
  have d18_1_3 := B18_1.cell 3 rfl
  have e18_1_3 := B18_1.free 3
  have t18_2 := B18_2.lt
  have d18_2_0 := B18_2.cell 0 rfl
  have e18_2_0 := B18_2.free 0
  have d18_2_1 := B18_2.cell 1 rfl
  have e18_2_1 := B18_2.free 1
  have d18_2_2 := B18_2.cell 2 rfl
  have e18_2_2 := B18_2.free 2
  have d18_2_3 := B18_2.cell 3 rfl
  have e18_2_3 := B18_2.free 3
  have t18_3 := B18_3.lt
  have d18_3_0 := B18_3.cell 0 rfl
  have e18_3_0 := B18_3.free 0
  have d18_3_1 := B18_3.cell 1 rfl
  have e18_3_1 := B18_3.free 1
  have d18_3_2 := B18_3.cell 2 rfl
  have e18_3_2 := B18_3.free 2
  have d18_3_3 := B18_3.cell 3 rfl
  have e18_3_3 := B18_3.free 3
  go_wp2_with fail
  refine name_calls fun w19 h19 => ?_
  have G19 : Grew w w19 := by
    rw [h19]
    repeat' (first | (with_reducible exact Grew.refl _) | (with_reducible refine Grew.setCell ?_ ?_ _) | (with_reducible refine Grew.drewN ?_ _) | (with_reducible refine Grew.reD ?_ _) | (with_reducible refine Grew.alloc ?_ _) | (with_reducible refine Grew.trans ?_ G19.out) | (with_reducible refine Grew.trans ?_ G18.out) | (with_reducible refine Grew.trans ?_ G17.out) | (with_reducible refine Grew.trans ?_ G16.out) | (with_reducible refine Grew.trans ?_ G15.out) | (with_reducible refine Grew.trans ?_ G14.out) | (with_reducible refine Grew.trans ?_ G13.out) | (with_reducible refine Grew.trans ?_ G12.out) | (with_reducible refine Grew.trans ?_ G11.out) | (with_reducible refine Grew.trans ?_ G10.out) | (with_reducible refine Grew.trans ?_ G9.out) | (with_reducible refine Grew.trans ?_ G8.out) | (with_reducible refine Grew.trans ?_ G7.out) | (with_reducible refine Grew.trans ?_ G6.out) | (with_reducible refine Grew.trans ?_ G5.out) | (with_reducible refine Grew.trans ?_ G4.out) | (with_reducible refine Grew.trans ?_ G3.out) | (with_reducible refine Grew.trans ?_ G2.out) | (with_reducible refine Grew.trans ?_ G1.out) | (dsimp only; omega))
  have B19_0 : Blk w19 (w4.heap.size) 26 [.int .i64 k1, .int .i64 n1, .string ⟨#[]⟩, .slice none 0 0] := by (rw [h19]; repeat' (first | (with_reducible assumption) | ((with_reducible refine Blk.new ?_); (first | (with_reducible rfl) | (simp only [World.size_alloc, World.size_setCell, size_drewN]; done))) | (with_reducible refine Blk.alloc ?_ _) | (with_reducible refine Blk.drewN ?_ _) | (with_reducible refine Blk.drew ?_) | (refine Blk.other ?_ (by omega) _) | fail))
  have B19_1 : Blk w19 (w8.heap.size) 26 [.int .i64 k2, .int .i64 n2, .string ⟨#[]⟩, .slice none 0 0] := by (rw [h19]; repeat' (first | (with_reducible assumption) | ((with_reducible refine Blk.new ?_); (first | (with_reducible rfl) | (simp only [World.size_alloc, World.size_setCell, size_drewN]; done))) | (with_reducible refine Blk.alloc ?_ _) | (with_reducible refine Blk.drewN ?_ _) | (with_reducible refine Blk.drew ?_) | (refine Blk.other ?_ (by omega) _) | fail))
  have B19_2 : Blk w19 (w12.heap.size) 26 [.int .i64 k3, .int .i64 n3, .string ⟨#[]⟩, .slice none 0 0] := by (rw [h19]; repeat' (first | (with_reducible assumption) | ((with_reducible refine Blk.new ?_); (first | (with_reducible rfl) | (simp only [World.size_alloc, World.size_setCell, size_drewN]; done))) | (with_reducible refine Blk.alloc ?_ _) | (with_reducible refine Blk.drewN ?_ _) | (with_reducible refine Blk.drew ?_) | (refine Blk.other ?_ (by omega) _) | fail))
  have B19_3 : Blk w19 (w16.heap.size) 26 [.int .i64 k4, .int .i64 n4, .string ⟨#[]⟩, .slice none 0 0] := by (rw [h19]; repeat' (first | (with_reducible assumption) | ((with_reducible refine Blk.new ?_); (first | (with_reducible rfl) | (simp only [World.size_alloc, World.size_setCell, size_drewN]; done))) | (with_reducible refine Blk.alloc ?_ _) | (with_reducible refine Blk.drewN ?_ _) | (with_reducible refine Blk.drew ?_) | (refine Blk.other ?_ (by omega) _) | fail))
  have B19_4 : Blk w19 (w18.heap.size) 62 [.int .i64 1, .int .i64 a, .string ⟨#[]⟩, .slice none 0 0, .int .i64 1, .int .i64 b, .string ⟨#[]⟩, .slice none 0 0] := by (rw [h19]; repeat' (first | (with_reducible assumption) | ((with_reducible refine Blk.new ?_); (first | (with_reducible rfl) | (simp only [World.size_alloc, World.size_setCell, size_drewN]; done))) | (with_reducible refine Blk.alloc ?_ _) | (with_reducible refine Blk.drewN ?_ _) | (with_reducible refine Blk.drew ?_) | (refine Blk.other ?_ (by omega) _) | fail))
  have z19 := G19.size
  replace G19 := hide G19
  clear h19
  have t19_0 := B19_0.lt
  have d19_0_0 := B19_0.cell 0 rfl
  have e19_0_0 := B19_0.free 0
  have d19_0_1 := B19_0.cell 1 rfl
  have e19_0_1 := B19_0.free 1
  have d19_0_2 := B19_0.cell 2 rfl
  have e19_0_2 := B19_0.free 2
  have d19_0_3 := B19_0.cell 3 rfl
  have e19_0_3 := B19_0.free 3
  have t19_1 := B19_1.lt
  have d19_1_0 := B19_1.cell 0 rfl
  have e19_1_0 := B19_1.free 0
  have d19_1_1 := B19_1.cell 1 rfl
  have e19_1_1 := B19_1.free 1
  have d19_1_2 := B19_1.cell 2 rfl
  have e19_1_2 := B19_1.free 2
  have d19_1_3 := B19_1.cell 3 rfl
  have e19_1_3 := B19_1.free 3
  have t19_2 := B19_2.lt
  have d19_2_0 := B19_2.cell 0 rfl
  have e19_2_0 := B19_2.free 0
  have d19_2_1 := B19_2.cell 1 rfl
  have e19_2_1 := B19_2.free 1
  have d19_2_2 := B19_2.cell 2 rfl
  have e19_2_2 := B19_2.free 2
  have d19_2_3 := B19_2.cell 3 rfl
  have e19_2_3 := B19_2.free 3
  have t19_3 := B19_3.lt
  have d19_3_0 := B19_3.cell 0 rfl
  have e19_3_0 := B19_3.free 0
  have d19_3_1 := B19_3.cell 1 rfl
  have e19_3_1 := B19_3.free 1
  have d19_3_2 := B19_3.cell 2 rfl
  have e19_3_2 := B19_3.free 2
  have d19_3_3 := B19_3.cell 3 rfl
  have e19_3_3 := B19_3.free 3
  have t19_4 := B19_4.lt
  have d19_4_0 := B19_4.cell 0 rfl
  have e19_4_0 := B19_4.free 0
  have d19_4_1 := B19_4.cell 1 rfl
  have e19_4_1 := B19_4.free 1
  have d19_4_2 := B19_4.cell 2 rfl
  have e19_4_2 := B19_4.free 2
  have d19_4_3 := B19_4.cell 3 rfl
  have e19_4_3 := B19_4.free 3
  have d19_4_4 := B19_4.cell 4 rfl
  have e19_4_4 := B19_4.free 4
  have d19_4_5 := B19_4.cell 5 rfl
  have e19_4_5 := B19_4.free 5
  have d19_4_6 := B19_4.cell 6 rfl
  have e19_4_6 := B19_4.free 6
  have d19_4_7 := B19_4.cell 7 rfl
  have e19_4_7 := B19_4.free 7
  refine ((K7 w19 _ B19_4).out).mono ?_
  rintro e w20 ⟨rfl, G20⟩
  try (with_reducible replace G20 := Grew.undrawn G20)
  have B20_0 : Blk w20 (w4.heap.size) 26 [.int .i64 k1, .int .i64 n1, .string ⟨#[]⟩, .slice none 0 0] := Blk.grew (by (repeat' (first | (with_reducible assumption) | ((with_reducible refine Blk.new ?_); (first | (with_reducible rfl) | (simp only [World.size_alloc, World.size_setCell, size_drewN]; done))) | (with_reducible refine Blk.alloc ?_ _) | (with_reducible refine Blk.drewN ?_ _) | (with_reducible refine Blk.drew ?_) | (refine Blk.other ?_ (by omega) _) | fail))) G20
  have B20_1 : Blk w20 (w8.heap.size) 26 [.int .i64 k2, .int .i64 n2, .string ⟨#[]⟩, .slice none 0 0] := Blk.grew (by (repeat' (first | (with_reducible assumption) | ((with_reducible refine Blk.new ?_); (first | (with_reducible rfl) | (simp only [World.size_alloc, World.size_setCell, size_drewN]; done))) | (with_reducible refine Blk.alloc ?_ _) | (with_reducible refine Blk.drewN ?_ _) | (with_reducible refine Blk.drew ?_) | (refine Blk.other ?_ (by omega) _) | fail))) G20
  have B20_2 : Blk w20 (w12.heap.size) 26 [.int .i64 k3, .int .i64 n3, .string ⟨#[]⟩, .slice none 0 0] := Blk.grew (by (repeat' (first | (with_reducible assumption) | ((with_reducible refine Blk.new ?_); (first | (with_reducible rfl) | (simp only [World.size_alloc, World.size_setCell, size_drewN]; done))) | (with_reducible refine Blk.alloc ?_ _) | (with_reducible refine Blk.drewN ?_ _) | (with_reducible refine Blk.drew ?_) | (refine Blk.other ?_ (by omega) _) | fail))) G20
  have B20_3 : Blk w20 (w16.heap.size) 26 [.int .i64 k4, .int .i64 n4, .string ⟨#[]⟩, .slice none 0 0] := Blk.grew (by (repeat' (first | (with_reducible assumption) | ((with_reducible refine Blk.new ?_); (first | (with_reducible rfl) | (simp only [World.size_alloc, World.size_setCell, size_drewN]; done))) | (with_reducible refine Blk.alloc ?_ _) | (with_reducible refine Blk.drewN ?_ _) | (with_reducible refine Blk.drew ?_) | (refine Blk.other ?_ (by omega) _) | fail))) G20
  have B20_4 : Blk w20 (w18.heap.size) 62 [.int .i64 1, .int .i64 a, .string ⟨#[]⟩, .slice none 0 0, .int .i64 1, .int .i64 b, .string ⟨#[]⟩, .slice none 0 0] := Blk.grew (by (repeat' (first | (with_reducible assumption) | ((with_reducible refine Blk.new ?_); (first | (with_reducible rfl) | (simp only [World.size_alloc, World.size_setCell, size_drewN]; done))) | (with_reducible refine Blk.alloc ?_ _) | (with_reducible refine Blk.drewN ?_ _) | (with_reducible refine Blk.drew ?_) | (refine Blk.other ?_ (by omega) _) | fail))) G20
  have z20 := G20.size
  try simp only [World.size_alloc, World.size_setCell, size_drewN] at z20
  replace G20 := hide G20
  have t20_0 := B20_0.lt
  have d20_0_0 := B20_0.cell 0 rfl
  have e20_0_0 := B20_0.free 0
  have d20_0_1 := B20_0.cell 1 rfl
  have e20_0_1 := B20_0.free 1
  have d20_0_2 := B20_0.cell 2 rfl
  have e20_0_2 := B20_0.free 2
  have d20_0_3 := B20_0.cell 3 rfl
  have e20_0_3 := B20_0.free 3
  have t20_1 := B20_1.lt
  have d20_1_0 := B20_1.cell 0 rfl
  have e20_1_0 := B20_1.free 0
  have d20_1_1 := B20_1.cell 1 rfl
  have e20_1_1 := B20_1.free 1
  have d20_1_2 := B20_1.cell 2 rfl
  have e20_1_2 := B20_1.free 2
  have d20_1_3 := B20_1.cell 3 rfl
  have e20_1_3 := B20_1.free 3
  have t20_2 := B20_2.lt
  have d20_2_0 := B20_2.cell 0 rfl
  have e20_2_0 := B20_2.free 0
  have d20_2_1 := B20_2.cell 1 rfl
  have e20_2_1 := B20_2.free 1
  have d20_2_2 := B20_2.cell 2 rfl
  have e20_2_2 := B20_2.free 2
  have d20_2_3 := B20_2.cell 3 rfl
  have e20_2_3 := B20_2.free 3
  have t20_3 := B20_3.lt
  have d20_3_0 := B20_3.cell 0 rfl
  have e20_3_0 := B20_3.free 0
  have d20_3_1 := B20_3.cell 1 rfl
  have e20_3_1 := B20_3.free 1
  have d20_3_2 := B20_3.cell 2 rfl
  have e20_3_2 := B20_3.free 2
  have d20_3_3 := B20_3.cell 3 rfl
  have e20_3_3 := B20_3.free 3
  have t20_4 := B20_4.lt
  have d20_4_0 := B20_4.cell 0 rfl
  have e20_4_0 := B20_4.free 0
  have d20_4_1 := B20_4.cell 1 rfl
  have e20_4_1 := B20_4.free 1
  have d20_4_2 := B20_4.cell 2 rfl
  have e20_4_2 := B20_4.free 2
  have d20_4_3 := B20_4.cell 3 rfl
  have e20_4_3 := B20_4.free 3
  have d20_4_4 := B20_4.cell 4 rfl
  have e20_4_4 := B20_4.free 4
  have d20_4_5 := B20_4.cell 5 rfl
  have e20_4_5 := B20_4.free 5
  have d20_4_6 := B20_4.cell 6 rfl
  have e20_4_6 := B20_4.free 6
  have d20_4_7 := B20_4.cell 7 rfl
  have e20_4_7 := B20_4.free 7
  clear K5 K6 K7 K8 K9 KA KB
  go_wp2_with fail
  refine ((F1 _).out).mono ?_
  rintro e w21 ⟨rfl, G21⟩
  try (with_reducible replace G21 := Grew.undrawn G21)
  have B21_0 : Blk w21 (w4.heap.size) 26 [.int .i64 k1, .int .i64 n1, .string ⟨#[]⟩, .slice none 0 0] := Blk.grew (by (repeat' (first | (with_reducible assumption) | ((with_reducible refine Blk.new ?_); (first | (with_reducible rfl) | (simp only [World.size_alloc, World.size_setCell, size_drewN]; done))) | (with_reducible refine Blk.alloc ?_ _) | (with_reducible refine Blk.drewN ?_ _) | (with_reducible refine Blk.drew ?_) | (refine Blk.other ?_ (by omega) _) | fail))) G21
  have B21_1 : Blk w21 (w8.heap.size) 26 [.int .i64 k2, .int .i64 n2, .string ⟨#[]⟩, .slice none 0 0] := Blk.grew (by (repeat' (first | (with_reducible assumption) | ((with_reducible refine Blk.new ?_); (first | (with_reducible rfl) | (simp only [World.size_alloc, World.size_setCell, size_drewN]; done))) | (with_reducible refine Blk.alloc ?_ _) | (with_reducible refine Blk.drewN ?_ _) | (with_reducible refine Blk.drew ?_) | (refine Blk.other ?_ (by omega) _) | fail))) G21
  have B21_2 : Blk w21 (w12.heap.size) 26 [.int .i64 k3, .int .i64 n3, .string ⟨#[]⟩, .slice none 0 0] := Blk.grew (by (repeat' (first | (with_reducible assumption) | ((with_reducible refine Blk.new ?_); (first | (with_reducible rfl) | (simp only [World.size_alloc, World.size_setCell, size_drewN]; done))) | (with_reducible refine Blk.alloc ?_ _) | (with_reducible refine Blk.drewN ?_ _) | (with_reducible refine Blk.drew ?_) | (refine Blk.other ?_ (by omega) _) | fail))) G21
  have B21_3 : Blk w21 (w16.heap.size) 26 [.int .i64 k4, .int .i64 n4, .string ⟨#[]⟩, .slice none 0 0] := Blk.grew (by (repeat' (first | (with_reducible assumption) | ((with_reducible refine Blk.new ?_); (first | (with_reducible rfl) | (simp only [World.size_alloc, World.size_setCell, size_drewN]; done))) | (with_reducible refine Blk.alloc ?_ _) | (with_reducible refine Blk.drewN ?_ _) | (with_reducible refine Blk.drew ?_) | (refine Blk.other ?_ (by omega) _) | fail))) G21
  have B21_4 : Blk w21 (w20.heap.size) 26 [.int .i64 k5, .int .i64 n5, .string ⟨#[]⟩, .slice none 0 0] := Blk.grew (by (repeat' (first | (with_reducible assumption) | ((with_reducible refine Blk.new ?_); (first | (with_reducible rfl) | (simp only [World.size_alloc, World.size_setCell, size_drewN]; done))) | (with_reducible refine Blk.alloc ?_ _) | (with_reducible refine Blk.drewN ?_ _) | (with_reducible refine Blk.drew ?_) | (refine Blk.other ?_ (by omega) _) | fail))) G21
  have z21 := G21.size
  try simp only [World.size_alloc, World.size_setCell, size_drewN] at z21
  replace G21 := hide G21
  have t21_0 := B21_0.lt
  have d21_0_0 := B21_0.cell 0 rfl
  have e21_0_0 := B21_0.free 0
  have d21_0_1 := B21_0.cell 1 rfl
  have e21_0_1 := B21_0.free 1
  have d21_0_2 := B21_0.cell 2 rfl
  have e21_0_2 := B21_0.free 2
  have d21_0_3 := B21_0.cell 3 rfl
  have e21_0_3 := B21_0.free 3
  have t21_1 := B21_1.lt
  have d21_1_0 := B21_1.cell 0 rfl
  have e21_1_0 := B21_1.free 0
  have d21_1_1 := B21_1.cell 1 rfl
  have e21_1_1 := B21_1.free 1
  have d21_1_2 := B21_1.cell 2 rfl
  have e21_1_2 := B21_1.free 2
  have d21_1_3 := B21_1.cell 3 rfl
  have e21_1_3 := B21_1.free 3
  have t21_2 := B21_2.lt
  have d21_2_0 := B21_2.cell 0 rfl
  have e21_2_0 := B21_2.free 0
  have d21_2_1 := B21_2.cell 1 rfl
  have e21_2_1 := B21_2.free 1
  have d21_2_2 := B21_2.cell 2 rfl
  have e21_2_2 := B21_2.free 2
  have d21_2_3 := B21_2.cell 3 rfl
  have e21_2_3 := B21_2.free 3
  have t21_3 := B21_3.lt
  have d21_3_0 := B21_3.cell 0 rfl
  have e21_3_0 := B21_3.free 0
  have d21_3_1 := B21_3.cell 1 rfl
  have e21_3_1 := B21_3.free 1
  have d21_3_2 := B21_3.cell 2 rfl
  have e21_3_2 := B21_3.free 2
  have d21_3_3 := B21_3.cell 3 rfl
  have e21_3_3 := B21_3.free 3
  have t21_4 := B21_4.lt
  have d21_4_0 := B21_4.cell 0 rfl
  have e21_4_0 := B21_4.free 0
  have d21_4_1 := B21_4.cell 1 rfl
  have e21_4_1 := B21_4.free 1
  have d21_4_2 := B21_4.cell 2 rfl
  have e21_4_2 := B21_4.free 2
  have d21_4_3 := B21_4.cell 3 rfl
  have e21_4_3 := B21_4.free 3
  go_wp2_with fail
  refine ((F2 _).out).mono ?_
  rintro e w22 ⟨rfl, G22⟩
  try (with_reducible replace G22 := Grew.undrawn G22)
  have B22_0 : Blk w22 (w4.heap.size) 26 [.int .i64 k1, .int .i64 n1, .string ⟨#[]⟩, .slice none 0 0] := Blk.grew (by (repeat' (first | (with_reducible assumption) | ((with_reducible refine Blk.new ?_); (first | (with_reducible rfl) | (simp only [World.size_alloc, World.size_setCell, size_drewN]; done))) | (with_reducible refine Blk.alloc ?_ _) | (with_reducible refine Blk.drewN ?_ _) | (with_reducible refine Blk.drew ?_) | (refine Blk.other ?_ (by omega) _) | fail))) G22
  have B22_1 : Blk w22 (w8.heap.size) 26 [.int .i64 k2, .int .i64 n2, .string ⟨#[]⟩, .slice none 0 0] := Blk.grew (by (repeat' (first | (with_reducible assumption) | ((with_reducible refine Blk.new ?_); (first | (with_reducible rfl) | (simp only [World.size_alloc, World.size_setCell, size_drewN]; done))) | (with_reducible refine Blk.alloc ?_ _) | (with_reducible refine Blk.drewN ?_ _) | (with_reducible refine Blk.drew ?_) | (refine Blk.other ?_ (by omega) _) | fail))) G22
  have B22_2 : Blk w22 (w12.heap.size) 26 [.int .i64 k3, .int .i64 n3, .string ⟨#[]⟩, .slice none 0 0] := Blk.grew (by (repeat' (first | (with_reducible assumption) | ((with_reducible refine Blk.new ?_); (first | (with_reducible rfl) | (simp only [World.size_alloc, World.size_setCell, size_drewN]; done))) | (with_reducible refine Blk.alloc ?_ _) | (with_reducible refine Blk.drewN ?_ _) | (with_reducible refine Blk.drew ?_) | (refine Blk.other ?_ (by omega) _) | fail))) G22
  have B22_3 : Blk w22 (w16.heap.size) 26 [.int .i64 k4, .int .i64 n4, .string ⟨#[]⟩, .slice none 0 0] := Blk.grew (by (repeat' (first | (with_reducible assumption) | ((with_reducible refine Blk.new ?_); (first | (with_reducible rfl) | (simp only [World.size_alloc, World.size_setCell, size_drewN]; done))) | (with_reducible refine Blk.alloc ?_ _) | (with_reducible refine Blk.drewN ?_ _) | (with_reducible refine Blk.drew ?_) | (refine Blk.other ?_ (by omega) _) | fail))) G22
  have B22_4 : Blk w22 (w20.heap.size) 26 [.int .i64 k5, .int .i64 n5, .string ⟨#[]⟩, .slice none 0 0] := Blk.grew (by (repeat' (first | (with_reducible assumption) | ((with_reducible refine Blk.new ?_); (first | (with_reducible rfl) | (simp only [World.size_alloc, World.size_setCell, size_drewN]; done))) | (with_reducible refine Blk.alloc ?_ _) | (with_reducible refine Blk.drewN ?_ _) | (with_reducible refine Blk.drew ?_) | (refine Blk.other ?_ (by omega) _) | fail))) G22
  have z22 := G22.size
  try simp only [World.size_alloc, World.size_setCell, size_drewN] at z22
  replace G22 := hide G22
  have t22_0 := B22_0.lt
  have d22_0_0 := B22_0.cell 0 rfl
  have e22_0_0 := B22_0.free 0
  have d22_0_1 := B22_0.cell 1 rfl
  have e22_0_1 := B22_0.free 1
  have d22_0_2 := B22_0.cell 2 rfl
  have e22_0_2 := B22_0.free 2
  have d22_0_3 := B22_0.cell 3 rfl
  have e22_0_3 := B22_0.free 3
  have t22_1 := B22_1.lt
  have d22_1_0 := B22_1.cell 0 rfl
  have e22_1_0 := B22_1.free 0
  have d22_1_1 := B22_1.cell 1 rfl
  have e22_1_1 := B22_1.free 1
  have d22_1_2 := B22_1.cell 2 rfl
  have e22_1_2 := B22_1.free 2
  have d22_1_3 := B22_1.cell 3 rfl
  have e22_1_3 := B22_1.free 3
  have t22_2 := B22_2.lt
  have d22_2_0 := B22_2.cell 0 rfl
  have e22_2_0 := B22_2.free 0
  have d22_2_1 := B22_2.cell 1 rfl
  have e22_2_1 := B22_2.free 1
  have d22_2_2 := B22_2.cell 2 rfl
  have e22_2_2 := B22_2.free 2
  have d22_2_3 := B22_2.cell 3 rfl
  have e22_2_3 := B22_2.free 3
  have t22_3 := B22_3.lt
  have d22_3_0 := B22_3.cell 0 rfl
  have e22_3_0 := B22_3.free 0
  have d22_3_1 := B22_3.cell 1 rfl
  have e22_3_1 := B22_3.free 1
  have d22_3_2 := B22_3.cell 2 rfl
  have e22_3_2 := B22_3.free 2
  have d22_3_3 := B22_3.cell 3 rfl
  have e22_3_3 := B22_3.free 3
  have t22_4 := B22_4.lt
  have d22_4_0 := B22_4.cell 0 rfl
  have e22_4_0 := B22_4.free 0
  have d22_4_1 := B22_4.cell 1 rfl
  have e22_4_1 := B22_4.free 1
  have d22_4_2 := B22_4.cell 2 rfl
  have e22_4_2 := B22_4.free 2
  have d22_4_3 := B22_4.cell 3 rfl
  have e22_4_3 := B22_4.free 3
  have GA : Hid (Grew w w22) := by
    refine hide ?_
    repeat' (first | (with_reducible exact Grew.refl _) | (with_reducible refine Grew.setCell ?_ ?_ _) | (with_reducible refine Grew.drewN ?_ _) | (with_reducible refine Grew.reD ?_ _) | (with_reducible refine Grew.alloc ?_ _) | (with_reducible refine Grew.trans ?_ G22.out) | (with_reducible refine Grew.trans ?_ G21.out) | (with_reducible refine Grew.trans ?_ G20.out) | (with_reducible refine Grew.trans ?_ G19.out) | (with_reducible refine Grew.trans ?_ G18.out) | (with_reducible refine Grew.trans ?_ G17.out) | (with_reducible refine Grew.trans ?_ G16.out) | (with_reducible refine Grew.trans ?_ G15.out) | (with_reducible refine Grew.trans ?_ G14.out) | (with_reducible refine Grew.trans ?_ G13.out) | (with_reducible refine Grew.trans ?_ G12.out) | (with_reducible refine Grew.trans ?_ G11.out) | (with_reducible refine Grew.trans ?_ G10.out) | (with_reducible refine Grew.trans ?_ G9.out) | (with_reducible refine Grew.trans ?_ G8.out) | (with_reducible refine Grew.trans ?_ G7.out) | (with_reducible refine Grew.trans ?_ G6.out) | (with_reducible refine Grew.trans ?_ G5.out) | (with_reducible refine Grew.trans ?_ G4.out) | (with_reducible refine Grew.trans ?_ G3.out) | (with_reducible refine Grew.trans ?_ G2.out) | (with_reducible refine Grew.trans ?_ G1.out) | (dsimp only; omega))
  clear F1 F2
  have D3 := B22_2
  have D4 := B22_3
  have D5 := B22_4
  obtain ⟨ha1, ha2⟩ := HA.out
  obtain ⟨hb1, hb2⟩ := HB.out
  rcases CS.out with ⟨rfl, h8, h9, h7⟩ | ⟨h0, h8, h9, hm⟩
  · simp only [Prod.mk.injEq] at h7 h8 h9
    obtain ⟨rfl, rfl, rfl⟩ := h7
    obtain ⟨rfl, rfl, rfl⟩ := h8
    obtain ⟨rfl, rfl, rfl⟩ := h9
    have d50 := D5.cell 0 rfl
    have d51 := D5.cell 1 rfl
    clear CS wa wb
    go_wp2_with fail
    refine ((AW _).out).mono ?_
    rintro e w90 ⟨rfl, G90⟩
    go_wp2
    go_ret
    exact ⟨rfl, (GA.out.trans G90).below⟩
  · simp only [Prod.mk.injEq] at h8 h9
    obtain ⟨rfl, rfl, rfl⟩ := h8
    obtain ⟨rfl, rfl, rfl⟩ := h9
    have hb0 : (b == 0) = false := by simpa using h0
    obtain ⟨q1, q2, ⟨q3, q4⟩, ⟨q5, q6⟩, hq, qp, qn⟩ := flr_bd HA.out HB.out h0
    have RF := fun W => hide (rFloor_same a b W ⟨h0, ⟨by omega, by omega⟩, by omega, by omega⟩)
    generalize flr a b = q at *
    generalize hr : a - b * q = r at *
    have wq : IntKind.i64.wrap (q * b) = q * b := wr (by rw [Int.mul_comm]; omega) (by rw [Int.mul_comm]; omega)
    have ws : IntKind.i64.wrap (q * b + r) = q * b + r := wr (by omega) (by omega)
    have hne : (q * b + r != a) = false := by simpa using hq
    clear CS wa wb hr hq
    go_wp2_with fail
    rcases Int.lt_or_gt_of_ne h0 with hs | hs
    · obtain ⟨p1, p2⟩ := qn hs
      have s1 : ¬ 0 < b := by omega
      have s2 : ¬ 0 < r := by omega
      have s3 : ¬ r ≤ b := by omega
      clear qp qn p1 p2
      go_quiet ((go_at_call 42; exact Calls.quiet_of_same (RF _).out))
      refine name_exit fun w23 h23 => ?_
      have D5' : Blk w23 w20.heap.size 26 [.int .i64 k5, .int .i64 n5, .string ⟨#[]⟩, .slice none 0 0] := by rw [h23]; exact D5.drewN _
      have GA2 : Hid (Grew w w23) := by rw [h23]; exact hide (GA.out.drewN _)
      clear h23 GA
      rcases hm with ⟨hm1, hm2⟩ | ⟨hm1, hm2⟩
      · simp only [Prod.mk.injEq] at hm2
        obtain ⟨rfl, rfl, rfl⟩ := hm2
        have t1 : (a * b).tdiv b = a := Int.mul_tdiv_cancel a h0
        have t2 : (a * b).tmod b = 0 := Int.mul_tmod_left a b
        have wt : IntKind.i64.wrap a = a := wr (by omega) (by omega)
        have d50 := D5'.cell 0 rfl
        have f50 := D5'.free 0
        have d51 := D5'.cell 1 rfl
        have f51 := D5'.free 1
        have d52 := D5'.cell 2 rfl
        have f52 := D5'.free 2
        have d53 := D5'.cell 3 rfl
        have f53 := D5'.free 3
        have d5l := D5'.lt
        generalize a * b = mm at *
        clear hm1
        go_wp2_with fail
        all_goals
          refine ((AW _).out).mono ?_
          rintro e w90 ⟨rfl, G90⟩
          go_wp2
          go_ret
          exact ⟨rfl, (GA2.out.trans G90).below⟩
      · simp only [Prod.mk.injEq] at hm2
        obtain ⟨rfl, rfl, rfl⟩ := hm2
        have hx : ¬ (-1048576 < a ∧ a < 1048576 ∧ -1048576 < b ∧ b < 1048576) := fun ⟨x1, x2, x3, x4⟩ => hm1 (by rw [Int.natAbs_mul]; exact Nat.le_trans (Nat.mul_le_mul (show a.natAbs ≤ 1048576 by omega) (show b.natAbs ≤ 1048576 by omega)) (by decide))
        clear hm1
        replace hx := hide hx
        go_wp2_with fail
        all_goals first
          | (refine ((AW _).out).mono ?_; rintro e w90 ⟨rfl, G90⟩; go_wp2; go_ret; exact ⟨rfl, (GA2.out.trans G90).below⟩)
          | exact absurd ⟨by omega, by omega, by omega, by omega⟩ hx.out
    · obtain ⟨p1, p2⟩ := qp hs
      have s1 : ¬ b < 0 := by omega
      have s2 : ¬ r < 0 := by omega
      have s3 : ¬ b ≤ r := by omega
      clear qp qn p1 p2
      go_quiet ((go_at_call 42; exact Calls.quiet_of_same (RF _).out))
      refine name_exit fun w23 h23 => ?_
      have D5' : Blk w23 w20.heap.size 26 [.int .i64 k5, .int .i64 n5, .string ⟨#[]⟩, .slice none 0 0] := by rw [h23]; exact D5.drewN _
      have GA2 : Hid (Grew w w23) := by rw [h23]; exact hide (GA.out.drewN _)
      clear h23 GA
      rcases hm with ⟨hm1, hm2⟩ | ⟨hm1, hm2⟩
      · simp only [Prod.mk.injEq] at hm2
        obtain ⟨rfl, rfl, rfl⟩ := hm2
        have t1 : (a * b).tdiv b = a := Int.mul_tdiv_cancel a h0
        have t2 : (a * b).tmod b = 0 := Int.mul_tmod_left a b
        have wt : IntKind.i64.wrap a = a := wr (by omega) (by omega)
        have d50 := D5'.cell 0 rfl
        have f50 := D5'.free 0
        have d51 := D5'.cell 1 rfl
        have f51 := D5'.free 1
        have d52 := D5'.cell 2 rfl
        have f52 := D5'.free 2
        have d53 := D5'.cell 3 rfl
        have f53 := D5'.free 3
        have d5l := D5'.lt
        generalize a * b = mm at *
        clear hm1
        go_wp2_with fail
        all_goals
          refine ((AW _).out).mono ?_
          rintro e w90 ⟨rfl, G90⟩
          go_wp2
          go_ret
          exact ⟨rfl, (GA2.out.trans G90).below⟩
      · simp only [Prod.mk.injEq] at hm2
        obtain ⟨rfl, rfl, rfl⟩ := hm2
        have hx : ¬ (-1048576 < a ∧ a < 1048576 ∧ -1048576 < b ∧ b < 1048576) := fun ⟨x1, x2, x3, x4⟩ => hm1 (by rw [Int.natAbs_mul]; exact Nat.le_trans (Nat.mul_le_mul (show a.natAbs ≤ 1048576 by omega) (show b.natAbs ≤ 1048576 by omega)) (by decide))
        clear hm1
        replace hx := hide hx
        go_wp2_with fail
        all_goals first
          | (refine ((AW _).out).mono ?_; rintro e w90 ⟨rfl, G90⟩; go_wp2; go_ret; exact ⟨rfl, (GA2.out.trans G90).below⟩)
          | exact absurd ⟨by omega, by omega, by omega, by omega⟩ hx.out

set_option maxHeartbeats 4000000 in
theorem numbers_walk (a : Int) (wfa : (Lit.int .i64 a).wf = true) (b : Int) (wfb : (Lit.int .i64 b).wf = true) (w : World) : Calls Tryd.prog 10 #[.int .i64 a, .int .i64 b] w fun e w' => e = .returned (.bool true) ∧ Below w.heap.size w w' := by
  by_cases h1 : a < -1099511627776
  · go_enter Tryd.func10, Tryd.ntmps10
    go_wp2
    go_ret
    exact ⟨rfl, Below.refl _ _⟩
  by_cases h2 : 1099511627776 < a
  · go_enter Tryd.func10, Tryd.ntmps10
    go_wp2
    go_ret
    exact ⟨rfl, Below.refl _ _⟩
  by_cases h3 : b < -1099511627776
  · go_enter Tryd.func10, Tryd.ntmps10
    go_wp2
    go_ret
    exact ⟨rfl, Below.refl _ _⟩
  by_cases h4 : 1099511627776 < b
  · go_enter Tryd.func10, Tryd.ntmps10
    go_wp2
    go_ret
    exact ⟨rfl, Below.refl _ _⟩
  exact numbers_in a b w ⟨by omega, by omega⟩ ⟨by omega, by omega⟩

end Go.Proofs.YtnodhcmgogaaoaaDoor
