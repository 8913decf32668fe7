/- The walk of the law ExprJoins; no condition. -/
import Derived.Test.YtnhhmndnmkkhlaaDoorExTh
import Derived.Test.YtnhhmndnmkkhlaaDoorExTk
import Derived.Test.YtnhhmndnmkkhlaaDoorExTf
namespace Go.Proofs.YtnhhmndnmkkhlaaDoor
open Go.RowKit Go.Sort
set_option linter.unusedVariables false
set_option linter.unusedSimpArgs false
set_option maxRecDepth 100000

theorem Kept.of_upd {Q : Nat → Prop} {sb : Nat} {w w' : World} (U : Upd sb w w') (h : ¬ Q sb) : Kept Q w w' := ⟨U.size, fun b hb hl => U.blk b hl (by rintro rfl; exact h hb)⟩
theorem smT_comm : ∀ (s t : Ty), smT s t = true → smT t s = true
  | .nil, .nil, _ => rfl
  | .nil, .mk .., h => by simp [smT] at h
  | .mk .., .nil, h => by simp [smT] at h
  | .mk k m f, .mk k' m' f', h => by
    obtain ⟨rfl, rfl, hh⟩ := smT_all.1 h
    exact smT_all.2 ⟨rfl, rfl, fun i hi => smT_comm _ _ (hh i hi)⟩

set_option maxHeartbeats 16000000 in
theorem joins_in (p1 : Option Addr) (n1 c1 : Nat) (f : Nat → Int) (ta tb : Ty) (va vb : Value) (w0 : World) (hc : n1 ≤ c1) (hr : Reads w0 p1 n1 f) (hf : ∀ k, -9223372036854775808 ≤ f k ∧ f k ≤ 9223372036854775807) (ha : TyIn w0 AnyB ta va) (hb : TyIn w0 AnyB tb vb) :
    Calls Tryd.prog 6 #[.slice p1 n1 c1, va, vb] w0 fun e w' => e = .returned (.bool true) ∧ Below w0.heap.size w0 w' := by
  obtain ⟨ka, ma, fa, pa, ca, -, rfl⟩ := ha.root
  obtain ⟨kb, mb, fb, pb, cb, -, rfl⟩ := hb.root
  have GG0 := hide (Grew.refl w0)
  have HA := hide ha
  have HB := hide hb
  have HR := hide hr
  have HF := hide hf
  have T0_0 := hide ha
  have T0_1 := hide hb
  have hp : 0 < n1 → ∃ a, p1 = some a := fun h => by obtain ⟨b, off, e, _⟩ := hr h; exact ⟨_, e⟩
  have AW := fun W => hide (awake_any W)
  clear ha hb hr hf
  go_enter Tryd.func6, Tryd.ntmps6
  go_wp2_with fail
  refine name_calls fun w1 h1 => ?_
  have g1 : Grew w0 w1 := by
    rw [h1]
    repeat' (first | (with_reducible exact Grew.refl _) | (with_reducible refine Grew.setCell ?_ ?_ _) | (with_reducible refine Grew.drewN ?_ _) | (with_reducible refine Grew.reD ?_ _) | (with_reducible refine Grew.alloc ?_ _) | (dsimp only; omega))
  have B1_0 : Blk w1 (w0.heap.size) 28 [.int .i64 ka, .slice pa ma ca] := by (rw [h1]; repeat' (first | (with_reducible assumption) | ((with_reducible refine Blk.new ?_); (first | (with_reducible rfl) | (simp only [World.size_alloc, World.size_setCell, size_drewN]; done))) | (with_reducible refine Blk.alloc ?_ _) | (with_reducible refine Blk.drewN ?_ _) | (with_reducible refine Blk.drew ?_) | (refine Blk.other ?_ (by omega) _) | fail))
  have B1_1 : Blk w1 (w0.heap.size + 1) 28 [.int .i64 kb, .slice pb mb cb] := by (rw [h1]; repeat' (first | (with_reducible assumption) | ((with_reducible refine Blk.new ?_); (first | (with_reducible rfl) | (simp only [World.size_alloc, World.size_setCell, size_drewN]; done))) | (with_reducible refine Blk.alloc ?_ _) | (with_reducible refine Blk.drewN ?_ _) | (with_reducible refine Blk.drew ?_) | (refine Blk.other ?_ (by omega) _) | fail))
  have T1_0 := hide (T0_0.out.grew g1)
  have T1_1 := hide (T0_1.out.grew g1)
  have GG1 := hide (GG0.out.trans g1)
  clear h1 g1 GG0  T0_0 T0_1
  have d1_0_0 := B1_0.cell 0 rfl
  have d1_0_1 := B1_0.cell 1 rfl
  have t1_0 := B1_0.lt
  have d1_1_0 := B1_1.cell 0 rfl
  have d1_1_1 := B1_1.cell 1 rfl
  have t1_1 := B1_1.lt
  refine (New_any p1 n1 c1 w1 hc hp).mono ?_
  have t1_1' := B1_1.lt
  rintro e w2 ⟨sb, mm, cc, rfl, g2, hsb, hmm, K2⟩
  have B2_0 := B1_0.grew g2
  have B2_1 := B1_1.grew g2
  have T2_0 := hide (T1_0.out.grew g2)
  have T2_1 := hide (T1_1.out.grew g2)
  have GG2 := hide (GG1.out.trans g2)
  clear g2 GG1 B1_0 B1_1 T1_0 T1_1
  clear d1_0_0 d1_0_1 t1_0 d1_1_0 d1_1_1 t1_1
  have d2_0_0 := B2_0.cell 0 rfl
  have d2_0_1 := B2_0.cell 1 rfl
  have t2_0 := B2_0.lt
  have d2_1_0 := B2_1.cell 0 rfl
  have d2_1_1 := B2_1.cell 1 rfl
  have t2_1 := B2_1.lt
  have hsb2 := K2.lt
  have S2 : SR w0 w2 sb p1 mm cc f := ⟨GG2.out, by have := GG2.out.size; omega, fun h => by
    obtain ⟨b, off, e, h2⟩ := HR.out (by omega)
    exact ⟨b, off, e, fun k hk => h2 k (by omega)⟩, hmm.2, HF.out, 0, by omega, K2⟩
  clear K2 HR HF hp
  go_wp2_with fail
  refine (Type_any 3 w0 w2 sb mm cc p1 f S2 (by omega)).mono ?_
  rintro e w3 ⟨vx, x, lx, bx, rfl, hx, TX, U3, S3⟩
  have B3_0 := B2_0.upd U3 (by omega)
  have B3_1 := B2_1.upd U3 (by omega)
  have z3 := U3.size
  clear S2 U3 B2_0 B2_1 d2_0_0 d2_0_1 t2_0 d2_1_0 d2_1_1 t2_1 T2_0 T2_1 GG2
  go_wp2_with fail
  refine (Type_any 3 w0 w3 sb mm cc p1 f S3 (by omega)).mono ?_
  rintro e w4 ⟨vy, y, ly, bY, rfl, hy, TYy, U4, S4⟩
  have B4_0 := B3_0.upd U4 (by omega)
  have B4_1 := B3_1.upd U4 (by omega)
  have T4_0 := hide (HA.out.grew S4.g)
  have T4_1 := hide (HB.out.grew S4.g)
  have T4_2 := hide (TyIn.weak (fun _ _ => trivial) (TyIn.kept (Kept.of_upd U4 (by omega)) TX) : TyIn w4 AnyB x vx)
  have T4_3 := hide (TyIn.weak (fun _ _ => trivial) TYy : TyIn w4 AnyB y vy)
  have GG4 := hide S4.g
  obtain ⟨kx, mx, fx, px, cx, -, rfl⟩ := TX.root
  obtain ⟨ky, my, fy, py, cy, -, rfl⟩ := TYy.root
  obtain ⟨L1, L2, L3, L4⟩ := j_law hx.1 hy.1 (by omega) (by omega)
  obtain ⟨RJ1, RJ2⟩ := j_rj x y
  obtain ⟨RA1, RA2⟩ := j_rj ta tb
  replace RA2 := smT_comm _ _ RA2
  obtain ⟨o, ho⟩ : ∃ o, (jT x y).2 = o := ⟨_, rfl⟩
  obtain ⟨o2, ho2⟩ : ∃ o2, (rjT ta tb).2 = o2 := ⟨_, rfl⟩
  rw [ho] at L4 L1 RJ1
  rw [ho2] at RA1
  replace L1 := L1.symm
  replace RJ1 := RJ1.symm
  replace L4 := hide L4
  clear S3 S4 U4 TX TYy HA HB B3_0 B3_1 hx hy hsb hsb2 hmm z3 t1_1'
  have d4_0_0 := B4_0.cell 0 rfl
  have d4_0_1 := B4_0.cell 1 rfl
  have t4_0 := B4_0.lt
  have d4_1_0 := B4_1.cell 0 rfl
  have d4_1_1 := B4_1.cell 1 rfl
  have t4_1 := B4_1.lt
  go_wp2_with fail
  refine name_calls fun w5 h5 => ?_
  have g5 : Grew w4 w5 := by
    rw [h5]
    repeat' (first | (with_reducible exact Grew.refl _) | (with_reducible refine Grew.setCell ?_ ?_ _) | (with_reducible refine Grew.drewN ?_ _) | (with_reducible refine Grew.reD ?_ _) | (with_reducible refine Grew.alloc ?_ _) | (dsimp only; omega))
  have B5_0 : Blk w5 (w0.heap.size) 28 [.int .i64 ka, .slice pa ma ca] := B4_0.grew g5
  have B5_1 : Blk w5 (w0.heap.size + 1) 28 [.int .i64 kb, .slice pb mb cb] := B4_1.grew g5
  have B5_2 : Blk w5 (w4.heap.size) 28 [.int .i64 kx, .slice px mx cx] := by (rw [h5]; repeat' (first | (with_reducible assumption) | ((with_reducible refine Blk.new ?_); (first | (with_reducible rfl) | (simp only [World.size_alloc, World.size_setCell, size_drewN]; done))) | (with_reducible refine Blk.alloc ?_ _) | (with_reducible refine Blk.drewN ?_ _) | (with_reducible refine Blk.drew ?_) | (refine Blk.other ?_ (by omega) _) | fail))
  have B5_3 : Blk w5 (w4.heap.size + 1) 28 [.int .i64 ky, .slice py my cy] := by (rw [h5]; repeat' (first | (with_reducible assumption) | ((with_reducible refine Blk.new ?_); (first | (with_reducible rfl) | (simp only [World.size_alloc, World.size_setCell, size_drewN]; done))) | (with_reducible refine Blk.alloc ?_ _) | (with_reducible refine Blk.drewN ?_ _) | (with_reducible refine Blk.drew ?_) | (refine Blk.other ?_ (by omega) _) | fail))
  have T5_0 := hide (T4_0.out.grew g5)
  have T5_1 := hide (T4_1.out.grew g5)
  have T5_2 := hide (T4_2.out.grew g5)
  have T5_3 := hide (T4_3.out.grew g5)
  have GG5 := hide (GG4.out.trans g5)
  clear h5 g5 GG4 B4_0 B4_1 T4_0 T4_1 T4_2 T4_3
  clear d4_0_0 d4_0_1 t4_0 d4_1_0 d4_1_1 t4_1
  have d5_0_0 := B5_0.cell 0 rfl
  have d5_0_1 := B5_0.cell 1 rfl
  have t5_0 := B5_0.lt
  have d5_1_0 := B5_1.cell 0 rfl
  have d5_1_1 := B5_1.cell 1 rfl
  have t5_1 := B5_1.lt
  have d5_2_0 := B5_2.cell 0 rfl
  have d5_2_1 := B5_2.cell 1 rfl
  have t5_2 := B5_2.lt
  have d5_3_0 := B5_3.cell 0 rfl
  have d5_3_1 := B5_3.cell 1 rfl
  have t5_3 := B5_3.lt
  refine ((Join_any _ _ _ _ w5 _ _ T5_2.out T5_3.out)).mono ?_
  rintro e w6 ⟨v, rfl, tt6, g6⟩
  have B6_0 := B5_0.grew g6
  have B6_1 := B5_1.grew g6
  have B6_2 := B5_2.grew g6
  have B6_3 := B5_3.grew g6
  have T6_0 := hide (T5_0.out.grew g6)
  have T6_1 := hide (T5_1.out.grew g6)
  have T6_2 := hide (T5_2.out.grew g6)
  have T6_3 := hide (T5_3.out.grew g6)
  have GG6 := hide (GG5.out.trans g6)
  clear g6 GG5 B5_0 B5_1 B5_2 B5_3 T5_0 T5_1 T5_2 T5_3
  clear d5_0_0 d5_0_1 t5_0 d5_1_0 d5_1_1 t5_1 d5_2_0 d5_2_1 t5_2 d5_3_0 d5_3_1 t5_3
  have T6_4 := hide (TyIn.weak (fun _ _ => trivial) tt6 : TyIn w6 (fun _ => True) _ _)
  obtain ⟨kt, mt, ft, pt, ct, -, rfl⟩ := tt6.root
  clear tt6
  have d6_0_0 := B6_0.cell 0 rfl
  have d6_0_1 := B6_0.cell 1 rfl
  have t6_0 := B6_0.lt
  have d6_1_0 := B6_1.cell 0 rfl
  have d6_1_1 := B6_1.cell 1 rfl
  have t6_1 := B6_1.lt
  have d6_2_0 := B6_2.cell 0 rfl
  have d6_2_1 := B6_2.cell 1 rfl
  have t6_2 := B6_2.lt
  have d6_3_0 := B6_3.cell 0 rfl
  have d6_3_1 := B6_3.cell 1 rfl
  have t6_3 := B6_3.lt
  rw [ho]
  go_wp2_with fail
  refine name_calls fun w7 h7 => ?_
  have g7 : Grew w6 w7 := by
    rw [h7]
    repeat' (first | (with_reducible exact Grew.refl _) | (with_reducible refine Grew.setCell ?_ ?_ _) | (with_reducible refine Grew.drewN ?_ _) | (with_reducible refine Grew.reD ?_ _) | (with_reducible refine Grew.alloc ?_ _) | (dsimp only; omega))
  have B7_0 : Blk w7 (w0.heap.size) 28 [.int .i64 ka, .slice pa ma ca] := B6_0.grew g7
  have B7_1 : Blk w7 (w0.heap.size + 1) 28 [.int .i64 kb, .slice pb mb cb] := B6_1.grew g7
  have B7_2 : Blk w7 (w4.heap.size) 28 [.int .i64 kx, .slice px mx cx] := B6_2.grew g7
  have B7_3 : Blk w7 (w4.heap.size + 1) 28 [.int .i64 ky, .slice py my cy] := B6_3.grew g7
  have B7_4 : Blk w7 (w6.heap.size) 28 [.int .i64 kt, .slice pt mt ct] := by (rw [h7]; repeat' (first | (with_reducible assumption) | ((with_reducible refine Blk.new ?_); (first | (with_reducible rfl) | (simp only [World.size_alloc, World.size_setCell, size_drewN]; done))) | (with_reducible refine Blk.alloc ?_ _) | (with_reducible refine Blk.drewN ?_ _) | (with_reducible refine Blk.drew ?_) | (refine Blk.other ?_ (by omega) _) | fail))
  have T7_0 := hide (T6_0.out.grew g7)
  have T7_1 := hide (T6_1.out.grew g7)
  have T7_2 := hide (T6_2.out.grew g7)
  have T7_3 := hide (T6_3.out.grew g7)
  have T7_4 := hide (T6_4.out.grew g7)
  have GG7 := hide (GG6.out.trans g7)
  clear h7 g7 GG6 B6_0 B6_1 B6_2 B6_3 T6_0 T6_1 T6_2 T6_3 T6_4
  clear d6_0_0 d6_0_1 t6_0 d6_1_0 d6_1_1 t6_1 d6_2_0 d6_2_1 t6_2 d6_3_0 d6_3_1 t6_3
  have d7_0_0 := B7_0.cell 0 rfl
  have d7_0_1 := B7_0.cell 1 rfl
  have t7_0 := B7_0.lt
  have d7_1_0 := B7_1.cell 0 rfl
  have d7_1_1 := B7_1.cell 1 rfl
  have t7_1 := B7_1.lt
  have d7_2_0 := B7_2.cell 0 rfl
  have d7_2_1 := B7_2.cell 1 rfl
  have t7_2 := B7_2.lt
  have d7_3_0 := B7_3.cell 0 rfl
  have d7_3_1 := B7_3.cell 1 rfl
  have t7_3 := B7_3.lt
  have d7_4_0 := B7_4.cell 0 rfl
  have d7_4_1 := B7_4.cell 1 rfl
  have t7_4 := B7_4.lt
  refine ((Join_any _ _ _ _ w7 _ _ T7_3.out T7_2.out)).mono ?_
  rintro e w8 ⟨v, rfl, tt8, g8⟩
  have B8_0 := B7_0.grew g8
  have B8_1 := B7_1.grew g8
  have B8_2 := B7_2.grew g8
  have B8_3 := B7_3.grew g8
  have B8_4 := B7_4.grew g8
  have T8_0 := hide (T7_0.out.grew g8)
  have T8_1 := hide (T7_1.out.grew g8)
  have T8_2 := hide (T7_2.out.grew g8)
  have T8_3 := hide (T7_3.out.grew g8)
  have T8_4 := hide (T7_4.out.grew g8)
  have GG8 := hide (GG7.out.trans g8)
  clear g8 GG7 B7_0 B7_1 B7_2 B7_3 B7_4 T7_0 T7_1 T7_2 T7_3 T7_4
  clear d7_0_0 d7_0_1 t7_0 d7_1_0 d7_1_1 t7_1 d7_2_0 d7_2_1 t7_2 d7_3_0 d7_3_1 t7_3 d7_4_0 d7_4_1 t7_4
  have T8_5 := hide (TyIn.weak (fun _ _ => trivial) tt8 : TyIn w8 (fun _ => True) _ _)
  obtain ⟨ku, mu, fu, pu, cu, -, rfl⟩ := tt8.root
  clear tt8
  have d8_0_0 := B8_0.cell 0 rfl
  have d8_0_1 := B8_0.cell 1 rfl
  have t8_0 := B8_0.lt
  have d8_1_0 := B8_1.cell 0 rfl
  have d8_1_1 := B8_1.cell 1 rfl
  have t8_1 := B8_1.lt
  have d8_2_0 := B8_2.cell 0 rfl
  have d8_2_1 := B8_2.cell 1 rfl
  have t8_2 := B8_2.lt
  have d8_3_0 := B8_3.cell 0 rfl
  have d8_3_1 := B8_3.cell 1 rfl
  have t8_3 := B8_3.lt
  have d8_4_0 := B8_4.cell 0 rfl
  have d8_4_1 := B8_4.cell 1 rfl
  have t8_4 := B8_4.lt
  rw [L1]
  go_wp2_with fail
  refine name_calls fun w9 h9 => ?_
  have g9 : Grew w8 w9 := by
    rw [h9]
    repeat' (first | (with_reducible exact Grew.refl _) | (with_reducible refine Grew.setCell ?_ ?_ _) | (with_reducible refine Grew.drewN ?_ _) | (with_reducible refine Grew.reD ?_ _) | (with_reducible refine Grew.alloc ?_ _) | (dsimp only; omega))
  have B9_0 : Blk w9 (w0.heap.size) 28 [.int .i64 ka, .slice pa ma ca] := B8_0.grew g9
  have B9_1 : Blk w9 (w0.heap.size + 1) 28 [.int .i64 kb, .slice pb mb cb] := B8_1.grew g9
  have B9_2 : Blk w9 (w4.heap.size) 28 [.int .i64 kx, .slice px mx cx] := B8_2.grew g9
  have B9_3 : Blk w9 (w4.heap.size + 1) 28 [.int .i64 ky, .slice py my cy] := B8_3.grew g9
  have B9_4 : Blk w9 (w6.heap.size) 28 [.int .i64 kt, .slice pt mt ct] := B8_4.grew g9
  have B9_5 : Blk w9 (w8.heap.size) 28 [.int .i64 ku, .slice pu mu cu] := by (rw [h9]; repeat' (first | (with_reducible assumption) | ((with_reducible refine Blk.new ?_); (first | (with_reducible rfl) | (simp only [World.size_alloc, World.size_setCell, size_drewN]; done))) | (with_reducible refine Blk.alloc ?_ _) | (with_reducible refine Blk.drewN ?_ _) | (with_reducible refine Blk.drew ?_) | (refine Blk.other ?_ (by omega) _) | fail))
  have T9_0 := hide (T8_0.out.grew g9)
  have T9_1 := hide (T8_1.out.grew g9)
  have T9_2 := hide (T8_2.out.grew g9)
  have T9_3 := hide (T8_3.out.grew g9)
  have T9_4 := hide (T8_4.out.grew g9)
  have T9_5 := hide (T8_5.out.grew g9)
  have GG9 := hide (GG8.out.trans g9)
  clear h9 g9 GG8 B8_0 B8_1 B8_2 B8_3 B8_4 T8_0 T8_1 T8_2 T8_3 T8_4 T8_5
  clear d8_0_0 d8_0_1 t8_0 d8_1_0 d8_1_1 t8_1 d8_2_0 d8_2_1 t8_2 d8_3_0 d8_3_1 t8_3 d8_4_0 d8_4_1 t8_4
  have d9_0_0 := B9_0.cell 0 rfl
  have d9_0_1 := B9_0.cell 1 rfl
  have t9_0 := B9_0.lt
  have d9_1_0 := B9_1.cell 0 rfl
  have d9_1_1 := B9_1.cell 1 rfl
  have t9_1 := B9_1.lt
  have d9_2_0 := B9_2.cell 0 rfl
  have d9_2_1 := B9_2.cell 1 rfl
  have t9_2 := B9_2.lt
  have d9_3_0 := B9_3.cell 0 rfl
  have d9_3_1 := B9_3.cell 1 rfl
  have t9_3 := B9_3.lt
  have d9_4_0 := B9_4.cell 0 rfl
  have d9_4_1 := B9_4.cell 1 rfl
  have t9_4 := B9_4.lt
  have d9_5_0 := B9_5.cell 0 rfl
  have d9_5_1 := B9_5.cell 1 rfl
  have t9_5 := B9_5.lt
  refine ((Join_any _ _ _ _ w9 _ _ T9_2.out T9_2.out)).mono ?_
  rintro e w10 ⟨v, rfl, tt10, g10⟩
  have B10_0 := B9_0.grew g10
  have B10_1 := B9_1.grew g10
  have B10_2 := B9_2.grew g10
  have B10_3 := B9_3.grew g10
  have B10_4 := B9_4.grew g10
  have B10_5 := B9_5.grew g10
  have T10_0 := hide (T9_0.out.grew g10)
  have T10_1 := hide (T9_1.out.grew g10)
  have T10_2 := hide (T9_2.out.grew g10)
  have T10_3 := hide (T9_3.out.grew g10)
  have T10_4 := hide (T9_4.out.grew g10)
  have T10_5 := hide (T9_5.out.grew g10)
  have GG10 := hide (GG9.out.trans g10)
  clear g10 GG9 B9_0 B9_1 B9_2 B9_3 B9_4 B9_5 T9_0 T9_1 T9_2 T9_3 T9_4 T9_5
  clear d9_0_0 d9_0_1 t9_0 d9_1_0 d9_1_1 t9_1 d9_2_0 d9_2_1 t9_2 d9_3_0 d9_3_1 t9_3 d9_4_0 d9_4_1 t9_4 d9_5_0 d9_5_1 t9_5
  have T10_6 := hide (TyIn.weak (fun _ _ => trivial) tt10 : TyIn w10 (fun _ => True) _ _)
  obtain ⟨kv, mv, fv, pv, cv, -, rfl⟩ := tt10.root
  clear tt10
  have d10_0_0 := B10_0.cell 0 rfl
  have d10_0_1 := B10_0.cell 1 rfl
  have t10_0 := B10_0.lt
  have d10_1_0 := B10_1.cell 0 rfl
  have d10_1_1 := B10_1.cell 1 rfl
  have t10_1 := B10_1.lt
  have d10_2_0 := B10_2.cell 0 rfl
  have d10_2_1 := B10_2.cell 1 rfl
  have t10_2 := B10_2.lt
  have d10_3_0 := B10_3.cell 0 rfl
  have d10_3_1 := B10_3.cell 1 rfl
  have t10_3 := B10_3.lt
  have d10_4_0 := B10_4.cell 0 rfl
  have d10_4_1 := B10_4.cell 1 rfl
  have t10_4 := B10_4.lt
  have d10_5_0 := B10_5.cell 0 rfl
  have d10_5_1 := B10_5.cell 1 rfl
  have t10_5 := B10_5.lt
  rw [L2]
  cases o with
  | true =>
    obtain ⟨M1, M2, M3, M4, M5⟩ := L4.out rfl
    go_wp2_with fail
    refine name_calls fun w11 h11 => ?_
    have g11 : Grew w10 w11 := by
      rw [h11]
      repeat' (first | (with_reducible exact Grew.refl _) | (with_reducible refine Grew.setCell ?_ ?_ _) | (with_reducible refine Grew.drewN ?_ _) | (with_reducible refine Grew.reD ?_ _) | (with_reducible refine Grew.alloc ?_ _) | (dsimp only; omega))
    have B11_0 : Blk w11 (w0.heap.size) 28 [.int .i64 ka, .slice pa ma ca] := B10_0.grew g11
    have B11_1 : Blk w11 (w0.heap.size + 1) 28 [.int .i64 kb, .slice pb mb cb] := B10_1.grew g11
    have B11_2 : Blk w11 (w4.heap.size) 28 [.int .i64 kx, .slice px mx cx] := B10_2.grew g11
    have B11_3 : Blk w11 (w4.heap.size + 1) 28 [.int .i64 ky, .slice py my cy] := B10_3.grew g11
    have B11_4 : Blk w11 (w6.heap.size) 28 [.int .i64 kt, .slice pt mt ct] := B10_4.grew g11
    have B11_5 : Blk w11 (w8.heap.size) 28 [.int .i64 ku, .slice pu mu cu] := B10_5.grew g11
    have B11_6 : Blk w11 (w10.heap.size) 28 [.int .i64 kv, .slice pv mv cv] := by (rw [h11]; repeat' (first | (with_reducible assumption) | ((with_reducible refine Blk.new ?_); (first | (with_reducible rfl) | (simp only [World.size_alloc, World.size_setCell, size_drewN]; done))) | (with_reducible refine Blk.alloc ?_ _) | (with_reducible refine Blk.drewN ?_ _) | (with_reducible refine Blk.drew ?_) | (refine Blk.other ?_ (by omega) _) | fail))
    have T11_0 := hide (T10_0.out.grew g11)
    have T11_1 := hide (T10_1.out.grew g11)
    have T11_2 := hide (T10_2.out.grew g11)
    have T11_3 := hide (T10_3.out.grew g11)
    have T11_4 := hide (T10_4.out.grew g11)
    have T11_5 := hide (T10_5.out.grew g11)
    have T11_6 := hide (T10_6.out.grew g11)
    have GG11 := hide (GG10.out.trans g11)
    clear h11 g11 GG10 B10_0 B10_1 B10_2 B10_3 B10_4 B10_5 T10_0 T10_1 T10_2 T10_3 T10_4 T10_5 T10_6
    clear d10_0_0 d10_0_1 t10_0 d10_1_0 d10_1_1 t10_1 d10_2_0 d10_2_1 t10_2 d10_3_0 d10_3_1 t10_3 d10_4_0 d10_4_1 t10_4 d10_5_0 d10_5_1 t10_5
    have d11_0_0 := B11_0.cell 0 rfl
    have d11_0_1 := B11_0.cell 1 rfl
    have t11_0 := B11_0.lt
    have d11_1_0 := B11_1.cell 0 rfl
    have d11_1_1 := B11_1.cell 1 rfl
    have t11_1 := B11_1.lt
    have d11_2_0 := B11_2.cell 0 rfl
    have d11_2_1 := B11_2.cell 1 rfl
    have t11_2 := B11_2.lt
    have d11_3_0 := B11_3.cell 0 rfl
    have d11_3_1 := B11_3.cell 1 rfl
    have t11_3 := B11_3.lt
    have d11_4_0 := B11_4.cell 0 rfl
    have d11_4_1 := B11_4.cell 1 rfl
    have t11_4 := B11_4.lt
    have d11_5_0 := B11_5.cell 0 rfl
    have d11_5_1 := B11_5.cell 1 rfl
    have t11_5 := B11_5.lt
    have d11_6_0 := B11_6.cell 0 rfl
    have d11_6_1 := B11_6.cell 1 rfl
    have t11_6 := B11_6.lt
    refine (SameType_any _ _ _ _ w11 _ _ T11_6.out T11_2.out).mono ?_
    rintro e w12 ⟨rfl, g12⟩
    have B12_0 := B11_0.grew g12
    have B12_1 := B11_1.grew g12
    have B12_2 := B11_2.grew g12
    have B12_3 := B11_3.grew g12
    have B12_4 := B11_4.grew g12
    have B12_5 := B11_5.grew g12
    have B12_6 := B11_6.grew g12
    have T12_0 := hide (T11_0.out.grew g12)
    have T12_1 := hide (T11_1.out.grew g12)
    have T12_2 := hide (T11_2.out.grew g12)
    have T12_3 := hide (T11_3.out.grew g12)
    have T12_4 := hide (T11_4.out.grew g12)
    have T12_5 := hide (T11_5.out.grew g12)
    have T12_6 := hide (T11_6.out.grew g12)
    have GG12 := hide (GG11.out.trans g12)
    clear g12 GG11 B11_0 B11_1 B11_2 B11_3 B11_4 B11_5 B11_6 T11_0 T11_1 T11_2 T11_3 T11_4 T11_5 T11_6
    clear d11_0_0 d11_0_1 t11_0 d11_1_0 d11_1_1 t11_1 d11_2_0 d11_2_1 t11_2 d11_3_0 d11_3_1 t11_3 d11_4_0 d11_4_1 t11_4 d11_5_0 d11_5_1 t11_5 d11_6_0 d11_6_1 t11_6
    have d12_0_0 := B12_0.cell 0 rfl
    have d12_0_1 := B12_0.cell 1 rfl
    have t12_0 := B12_0.lt
    have d12_1_0 := B12_1.cell 0 rfl
    have d12_1_1 := B12_1.cell 1 rfl
    have t12_1 := B12_1.lt
    have d12_2_0 := B12_2.cell 0 rfl
    have d12_2_1 := B12_2.cell 1 rfl
    have t12_2 := B12_2.lt
    have d12_3_0 := B12_3.cell 0 rfl
    have d12_3_1 := B12_3.cell 1 rfl
    have t12_3 := B12_3.lt
    have d12_4_0 := B12_4.cell 0 rfl
    have d12_4_1 := B12_4.cell 1 rfl
    have t12_4 := B12_4.lt
    have d12_5_0 := B12_5.cell 0 rfl
    have d12_5_1 := B12_5.cell 1 rfl
    have t12_5 := B12_5.lt
    have d12_6_0 := B12_6.cell 0 rfl
    have d12_6_1 := B12_6.cell 1 rfl
    have t12_6 := B12_6.lt
    rw [L3]
    go_wp2_with fail
    refine name_calls fun w13 h13 => ?_
    have g13 : Grew w12 w13 := by
      rw [h13]
      repeat' (first | (with_reducible exact Grew.refl _) | (with_reducible refine Grew.setCell ?_ ?_ _) | (with_reducible refine Grew.drewN ?_ _) | (with_reducible refine Grew.reD ?_ _) | (with_reducible refine Grew.alloc ?_ _) | (dsimp only; omega))
    have B13_0 : Blk w13 (w0.heap.size) 28 [.int .i64 ka, .slice pa ma ca] := B12_0.grew g13
    have B13_1 : Blk w13 (w0.heap.size + 1) 28 [.int .i64 kb, .slice pb mb cb] := B12_1.grew g13
    have B13_2 : Blk w13 (w4.heap.size) 28 [.int .i64 kx, .slice px mx cx] := B12_2.grew g13
    have B13_3 : Blk w13 (w4.heap.size + 1) 28 [.int .i64 ky, .slice py my cy] := B12_3.grew g13
    have B13_4 : Blk w13 (w6.heap.size) 28 [.int .i64 kt, .slice pt mt ct] := B12_4.grew g13
    have B13_5 : Blk w13 (w8.heap.size) 28 [.int .i64 ku, .slice pu mu cu] := B12_5.grew g13
    have B13_6 : Blk w13 (w10.heap.size) 28 [.int .i64 kv, .slice pv mv cv] := B12_6.grew g13
    have T13_0 := hide (T12_0.out.grew g13)
    have T13_1 := hide (T12_1.out.grew g13)
    have T13_2 := hide (T12_2.out.grew g13)
    have T13_3 := hide (T12_3.out.grew g13)
    have T13_4 := hide (T12_4.out.grew g13)
    have T13_5 := hide (T12_5.out.grew g13)
    have T13_6 := hide (T12_6.out.grew g13)
    have GG13 := hide (GG12.out.trans g13)
    clear h13 g13 GG12 B12_0 B12_1 B12_2 B12_3 B12_4 B12_5 B12_6 T12_0 T12_1 T12_2 T12_3 T12_4 T12_5 T12_6
    clear d12_0_0 d12_0_1 t12_0 d12_1_0 d12_1_1 t12_1 d12_2_0 d12_2_1 t12_2 d12_3_0 d12_3_1 t12_3 d12_4_0 d12_4_1 t12_4 d12_5_0 d12_5_1 t12_5 d12_6_0 d12_6_1 t12_6
    have d13_0_0 := B13_0.cell 0 rfl
    have d13_0_1 := B13_0.cell 1 rfl
    have t13_0 := B13_0.lt
    have d13_1_0 := B13_1.cell 0 rfl
    have d13_1_1 := B13_1.cell 1 rfl
    have t13_1 := B13_1.lt
    have d13_2_0 := B13_2.cell 0 rfl
    have d13_2_1 := B13_2.cell 1 rfl
    have t13_2 := B13_2.lt
    have d13_3_0 := B13_3.cell 0 rfl
    have d13_3_1 := B13_3.cell 1 rfl
    have t13_3 := B13_3.lt
    have d13_4_0 := B13_4.cell 0 rfl
    have d13_4_1 := B13_4.cell 1 rfl
    have t13_4 := B13_4.lt
    have d13_5_0 := B13_5.cell 0 rfl
    have d13_5_1 := B13_5.cell 1 rfl
    have t13_5 := B13_5.lt
    have d13_6_0 := B13_6.cell 0 rfl
    have d13_6_1 := B13_6.cell 1 rfl
    have t13_6 := B13_6.lt
    refine (SameType_any _ _ _ _ w13 _ _ T13_4.out T13_5.out).mono ?_
    rintro e w14 ⟨rfl, g14⟩
    have B14_0 := B13_0.grew g14
    have B14_1 := B13_1.grew g14
    have B14_2 := B13_2.grew g14
    have B14_3 := B13_3.grew g14
    have B14_4 := B13_4.grew g14
    have B14_5 := B13_5.grew g14
    have B14_6 := B13_6.grew g14
    have T14_0 := hide (T13_0.out.grew g14)
    have T14_1 := hide (T13_1.out.grew g14)
    have T14_2 := hide (T13_2.out.grew g14)
    have T14_3 := hide (T13_3.out.grew g14)
    have T14_4 := hide (T13_4.out.grew g14)
    have T14_5 := hide (T13_5.out.grew g14)
    have T14_6 := hide (T13_6.out.grew g14)
    have GG14 := hide (GG13.out.trans g14)
    clear g14 GG13 B13_0 B13_1 B13_2 B13_3 B13_4 B13_5 B13_6 T13_0 T13_1 T13_2 T13_3 T13_4 T13_5 T13_6
    clear d13_0_0 d13_0_1 t13_0 d13_1_0 d13_1_1 t13_1 d13_2_0 d13_2_1 t13_2 d13_3_0 d13_3_1 t13_3 d13_4_0 d13_4_1 t13_4 d13_5_0 d13_5_1 t13_5 d13_6_0 d13_6_1 t13_6
    have d14_0_0 := B14_0.cell 0 rfl
    have d14_0_1 := B14_0.cell 1 rfl
    have t14_0 := B14_0.lt
    have d14_1_0 := B14_1.cell 0 rfl
    have d14_1_1 := B14_1.cell 1 rfl
    have t14_1 := B14_1.lt
    have d14_2_0 := B14_2.cell 0 rfl
    have d14_2_1 := B14_2.cell 1 rfl
    have t14_2 := B14_2.lt
    have d14_3_0 := B14_3.cell 0 rfl
    have d14_3_1 := B14_3.cell 1 rfl
    have t14_3 := B14_3.lt
    have d14_4_0 := B14_4.cell 0 rfl
    have d14_4_1 := B14_4.cell 1 rfl
    have t14_4 := B14_4.lt
    have d14_5_0 := B14_5.cell 0 rfl
    have d14_5_1 := B14_5.cell 1 rfl
    have t14_5 := B14_5.lt
    have d14_6_0 := B14_6.cell 0 rfl
    have d14_6_1 := B14_6.cell 1 rfl
    have t14_6 := B14_6.lt
    rw [M1]
    go_wp2_with fail
    refine name_calls fun w15 h15 => ?_
    have g15 : Grew w14 w15 := by
      rw [h15]
      repeat' (first | (with_reducible exact Grew.refl _) | (with_reducible refine Grew.setCell ?_ ?_ _) | (with_reducible refine Grew.drewN ?_ _) | (with_reducible refine Grew.reD ?_ _) | (with_reducible refine Grew.alloc ?_ _) | (dsimp only; omega))
    have B15_0 : Blk w15 (w0.heap.size) 28 [.int .i64 ka, .slice pa ma ca] := B14_0.grew g15
    have B15_1 : Blk w15 (w0.heap.size + 1) 28 [.int .i64 kb, .slice pb mb cb] := B14_1.grew g15
    have B15_2 : Blk w15 (w4.heap.size) 28 [.int .i64 kx, .slice px mx cx] := B14_2.grew g15
    have B15_3 : Blk w15 (w4.heap.size + 1) 28 [.int .i64 ky, .slice py my cy] := B14_3.grew g15
    have B15_4 : Blk w15 (w6.heap.size) 28 [.int .i64 kt, .slice pt mt ct] := B14_4.grew g15
    have B15_5 : Blk w15 (w8.heap.size) 28 [.int .i64 ku, .slice pu mu cu] := B14_5.grew g15
    have B15_6 : Blk w15 (w10.heap.size) 28 [.int .i64 kv, .slice pv mv cv] := B14_6.grew g15
    have T15_0 := hide (T14_0.out.grew g15)
    have T15_1 := hide (T14_1.out.grew g15)
    have T15_2 := hide (T14_2.out.grew g15)
    have T15_3 := hide (T14_3.out.grew g15)
    have T15_4 := hide (T14_4.out.grew g15)
    have T15_5 := hide (T14_5.out.grew g15)
    have T15_6 := hide (T14_6.out.grew g15)
    have GG15 := hide (GG14.out.trans g15)
    clear h15 g15 GG14 B14_0 B14_1 B14_2 B14_3 B14_4 B14_5 B14_6 T14_0 T14_1 T14_2 T14_3 T14_4 T14_5 T14_6
    clear d14_0_0 d14_0_1 t14_0 d14_1_0 d14_1_1 t14_1 d14_2_0 d14_2_1 t14_2 d14_3_0 d14_3_1 t14_3 d14_4_0 d14_4_1 t14_4 d14_5_0 d14_5_1 t14_5 d14_6_0 d14_6_1 t14_6
    have d15_0_0 := B15_0.cell 0 rfl
    have d15_0_1 := B15_0.cell 1 rfl
    have t15_0 := B15_0.lt
    have d15_1_0 := B15_1.cell 0 rfl
    have d15_1_1 := B15_1.cell 1 rfl
    have t15_1 := B15_1.lt
    have d15_2_0 := B15_2.cell 0 rfl
    have d15_2_1 := B15_2.cell 1 rfl
    have t15_2 := B15_2.lt
    have d15_3_0 := B15_3.cell 0 rfl
    have d15_3_1 := B15_3.cell 1 rfl
    have t15_3 := B15_3.lt
    have d15_4_0 := B15_4.cell 0 rfl
    have d15_4_1 := B15_4.cell 1 rfl
    have t15_4 := B15_4.lt
    have d15_5_0 := B15_5.cell 0 rfl
    have d15_5_1 := B15_5.cell 1 rfl
    have t15_5 := B15_5.lt
    have d15_6_0 := B15_6.cell 0 rfl
    have d15_6_1 := B15_6.cell 1 rfl
    have t15_6 := B15_6.lt
    refine ((Join_any _ _ _ _ w15 _ _ T15_4.out T15_2.out)).mono ?_
    rintro e w16 ⟨v, rfl, tt16, g16⟩
    have B16_0 := B15_0.grew g16
    have B16_1 := B15_1.grew g16
    have B16_2 := B15_2.grew g16
    have B16_3 := B15_3.grew g16
    have B16_4 := B15_4.grew g16
    have B16_5 := B15_5.grew g16
    have B16_6 := B15_6.grew g16
    have T16_0 := hide (T15_0.out.grew g16)
    have T16_1 := hide (T15_1.out.grew g16)
    have T16_2 := hide (T15_2.out.grew g16)
    have T16_3 := hide (T15_3.out.grew g16)
    have T16_4 := hide (T15_4.out.grew g16)
    have T16_5 := hide (T15_5.out.grew g16)
    have T16_6 := hide (T15_6.out.grew g16)
    have GG16 := hide (GG15.out.trans g16)
    clear g16 GG15 B15_0 B15_1 B15_2 B15_3 B15_4 B15_5 B15_6 T15_0 T15_1 T15_2 T15_3 T15_4 T15_5 T15_6
    clear d15_0_0 d15_0_1 t15_0 d15_1_0 d15_1_1 t15_1 d15_2_0 d15_2_1 t15_2 d15_3_0 d15_3_1 t15_3 d15_4_0 d15_4_1 t15_4 d15_5_0 d15_5_1 t15_5 d15_6_0 d15_6_1 t15_6
    have T16_7 := hide (TyIn.weak (fun _ _ => trivial) tt16 : TyIn w16 (fun _ => True) _ _)
    obtain ⟨kj, mj, fj, pj, cj, -, rfl⟩ := tt16.root
    clear tt16
    have d16_0_0 := B16_0.cell 0 rfl
    have d16_0_1 := B16_0.cell 1 rfl
    have t16_0 := B16_0.lt
    have d16_1_0 := B16_1.cell 0 rfl
    have d16_1_1 := B16_1.cell 1 rfl
    have t16_1 := B16_1.lt
    have d16_2_0 := B16_2.cell 0 rfl
    have d16_2_1 := B16_2.cell 1 rfl
    have t16_2 := B16_2.lt
    have d16_3_0 := B16_3.cell 0 rfl
    have d16_3_1 := B16_3.cell 1 rfl
    have t16_3 := B16_3.lt
    have d16_4_0 := B16_4.cell 0 rfl
    have d16_4_1 := B16_4.cell 1 rfl
    have t16_4 := B16_4.lt
    have d16_5_0 := B16_5.cell 0 rfl
    have d16_5_1 := B16_5.cell 1 rfl
    have t16_5 := B16_5.lt
    have d16_6_0 := B16_6.cell 0 rfl
    have d16_6_1 := B16_6.cell 1 rfl
    have t16_6 := B16_6.lt
    rw [M2]
    go_wp2_with fail
    refine name_calls fun w17 h17 => ?_
    have g17 : Grew w16 w17 := by
      rw [h17]
      repeat' (first | (with_reducible exact Grew.refl _) | (with_reducible refine Grew.setCell ?_ ?_ _) | (with_reducible refine Grew.drewN ?_ _) | (with_reducible refine Grew.reD ?_ _) | (with_reducible refine Grew.alloc ?_ _) | (dsimp only; omega))
    have B17_0 : Blk w17 (w0.heap.size) 28 [.int .i64 ka, .slice pa ma ca] := B16_0.grew g17
    have B17_1 : Blk w17 (w0.heap.size + 1) 28 [.int .i64 kb, .slice pb mb cb] := B16_1.grew g17
    have B17_2 : Blk w17 (w4.heap.size) 28 [.int .i64 kx, .slice px mx cx] := B16_2.grew g17
    have B17_3 : Blk w17 (w4.heap.size + 1) 28 [.int .i64 ky, .slice py my cy] := B16_3.grew g17
    have B17_4 : Blk w17 (w6.heap.size) 28 [.int .i64 kt, .slice pt mt ct] := B16_4.grew g17
    have B17_5 : Blk w17 (w8.heap.size) 28 [.int .i64 ku, .slice pu mu cu] := B16_5.grew g17
    have B17_6 : Blk w17 (w10.heap.size) 28 [.int .i64 kv, .slice pv mv cv] := B16_6.grew g17
    have B17_7 : Blk w17 (w16.heap.size) 28 [.int .i64 kj, .slice pj mj cj] := by (rw [h17]; repeat' (first | (with_reducible assumption) | ((with_reducible refine Blk.new ?_); (first | (with_reducible rfl) | (simp only [World.size_alloc, World.size_setCell, size_drewN]; done))) | (with_reducible refine Blk.alloc ?_ _) | (with_reducible refine Blk.drewN ?_ _) | (with_reducible refine Blk.drew ?_) | (refine Blk.other ?_ (by omega) _) | fail))
    have T17_0 := hide (T16_0.out.grew g17)
    have T17_1 := hide (T16_1.out.grew g17)
    have T17_2 := hide (T16_2.out.grew g17)
    have T17_3 := hide (T16_3.out.grew g17)
    have T17_4 := hide (T16_4.out.grew g17)
    have T17_5 := hide (T16_5.out.grew g17)
    have T17_6 := hide (T16_6.out.grew g17)
    have T17_7 := hide (T16_7.out.grew g17)
    have GG17 := hide (GG16.out.trans g17)
    clear h17 g17 GG16 B16_0 B16_1 B16_2 B16_3 B16_4 B16_5 B16_6 T16_0 T16_1 T16_2 T16_3 T16_4 T16_5 T16_6 T16_7
    clear d16_0_0 d16_0_1 t16_0 d16_1_0 d16_1_1 t16_1 d16_2_0 d16_2_1 t16_2 d16_3_0 d16_3_1 t16_3 d16_4_0 d16_4_1 t16_4 d16_5_0 d16_5_1 t16_5 d16_6_0 d16_6_1 t16_6
    have d17_0_0 := B17_0.cell 0 rfl
    have d17_0_1 := B17_0.cell 1 rfl
    have t17_0 := B17_0.lt
    have d17_1_0 := B17_1.cell 0 rfl
    have d17_1_1 := B17_1.cell 1 rfl
    have t17_1 := B17_1.lt
    have d17_2_0 := B17_2.cell 0 rfl
    have d17_2_1 := B17_2.cell 1 rfl
    have t17_2 := B17_2.lt
    have d17_3_0 := B17_3.cell 0 rfl
    have d17_3_1 := B17_3.cell 1 rfl
    have t17_3 := B17_3.lt
    have d17_4_0 := B17_4.cell 0 rfl
    have d17_4_1 := B17_4.cell 1 rfl
    have t17_4 := B17_4.lt
    have d17_5_0 := B17_5.cell 0 rfl
    have d17_5_1 := B17_5.cell 1 rfl
    have t17_5 := B17_5.lt
    have d17_6_0 := B17_6.cell 0 rfl
    have d17_6_1 := B17_6.cell 1 rfl
    have t17_6 := B17_6.lt
    have d17_7_0 := B17_7.cell 0 rfl
    have d17_7_1 := B17_7.cell 1 rfl
    have t17_7 := B17_7.lt
    refine ((Join_any _ _ _ _ w17 _ _ T17_4.out T17_3.out)).mono ?_
    rintro e w18 ⟨v, rfl, tt18, g18⟩
    have B18_0 := B17_0.grew g18
    have B18_1 := B17_1.grew g18
    have B18_2 := B17_2.grew g18
    have B18_3 := B17_3.grew g18
    have B18_4 := B17_4.grew g18
    have B18_5 := B17_5.grew g18
    have B18_6 := B17_6.grew g18
    have B18_7 := B17_7.grew g18
    have T18_0 := hide (T17_0.out.grew g18)
    have T18_1 := hide (T17_1.out.grew g18)
    have T18_2 := hide (T17_2.out.grew g18)
    have T18_3 := hide (T17_3.out.grew g18)
    have T18_4 := hide (T17_4.out.grew g18)
    have T18_5 := hide (T17_5.out.grew g18)
    have T18_6 := hide (T17_6.out.grew g18)
    have T18_7 := hide (T17_7.out.grew g18)
    have GG18 := hide (GG17.out.trans g18)
    clear g18 GG17 B17_0 B17_1 B17_2 B17_3 B17_4 B17_5 B17_6 B17_7 T17_0 T17_1 T17_2 T17_3 T17_4 T17_5 T17_6 T17_7
    clear d17_0_0 d17_0_1 t17_0 d17_1_0 d17_1_1 t17_1 d17_2_0 d17_2_1 t17_2 d17_3_0 d17_3_1 t17_3 d17_4_0 d17_4_1 t17_4 d17_5_0 d17_5_1 t17_5 d17_6_0 d17_6_1 t17_6 d17_7_0 d17_7_1 t17_7
    have T18_8 := hide (TyIn.weak (fun _ _ => trivial) tt18 : TyIn w18 (fun _ => True) _ _)
    obtain ⟨kh, mh, fh, ph, ch, -, rfl⟩ := tt18.root
    clear tt18
    have d18_0_0 := B18_0.cell 0 rfl
    have d18_0_1 := B18_0.cell 1 rfl
    have t18_0 := B18_0.lt
    have d18_1_0 := B18_1.cell 0 rfl
    have d18_1_1 := B18_1.cell 1 rfl
    have t18_1 := B18_1.lt
    have d18_2_0 := B18_2.cell 0 rfl
    have d18_2_1 := B18_2.cell 1 rfl
    have t18_2 := B18_2.lt
    have d18_3_0 := B18_3.cell 0 rfl
    have d18_3_1 := B18_3.cell 1 rfl
    have t18_3 := B18_3.lt
    have d18_4_0 := B18_4.cell 0 rfl
    have d18_4_1 := B18_4.cell 1 rfl
    have t18_4 := B18_4.lt
    have d18_5_0 := B18_5.cell 0 rfl
    have d18_5_1 := B18_5.cell 1 rfl
    have t18_5 := B18_5.lt
    have d18_6_0 := B18_6.cell 0 rfl
    have d18_6_1 := B18_6.cell 1 rfl
    have t18_6 := B18_6.lt
    have d18_7_0 := B18_7.cell 0 rfl
    have d18_7_1 := B18_7.cell 1 rfl
    have t18_7 := B18_7.lt
    rw [M3]
    go_wp2_with fail
    refine name_calls fun w19 h19 => ?_
    have g19 : Grew w18 w19 := by
      rw [h19]
      repeat' (first | (with_reducible exact Grew.refl _) | (with_reducible refine Grew.setCell ?_ ?_ _) | (with_reducible refine Grew.drewN ?_ _) | (with_reducible refine Grew.reD ?_ _) | (with_reducible refine Grew.alloc ?_ _) | (dsimp only; omega))
    have B19_0 : Blk w19 (w0.heap.size) 28 [.int .i64 ka, .slice pa ma ca] := B18_0.grew g19
    have B19_1 : Blk w19 (w0.heap.size + 1) 28 [.int .i64 kb, .slice pb mb cb] := B18_1.grew g19
    have B19_2 : Blk w19 (w4.heap.size) 28 [.int .i64 kx, .slice px mx cx] := B18_2.grew g19
    have B19_3 : Blk w19 (w4.heap.size + 1) 28 [.int .i64 ky, .slice py my cy] := B18_3.grew g19
    have B19_4 : Blk w19 (w6.heap.size) 28 [.int .i64 kt, .slice pt mt ct] := B18_4.grew g19
    have B19_5 : Blk w19 (w8.heap.size) 28 [.int .i64 ku, .slice pu mu cu] := B18_5.grew g19
    have B19_6 : Blk w19 (w10.heap.size) 28 [.int .i64 kv, .slice pv mv cv] := B18_6.grew g19
    have B19_7 : Blk w19 (w16.heap.size) 28 [.int .i64 kj, .slice pj mj cj] := B18_7.grew g19
    have B19_8 : Blk w19 (w18.heap.size) 28 [.int .i64 kh, .slice ph mh ch] := by (rw [h19]; repeat' (first | (with_reducible assumption) | ((with_reducible refine Blk.new ?_); (first | (with_reducible rfl) | (simp only [World.size_alloc, World.size_setCell, size_drewN]; done))) | (with_reducible refine Blk.alloc ?_ _) | (with_reducible refine Blk.drewN ?_ _) | (with_reducible refine Blk.drew ?_) | (refine Blk.other ?_ (by omega) _) | fail))
    have T19_0 := hide (T18_0.out.grew g19)
    have T19_1 := hide (T18_1.out.grew g19)
    have T19_2 := hide (T18_2.out.grew g19)
    have T19_3 := hide (T18_3.out.grew g19)
    have T19_4 := hide (T18_4.out.grew g19)
    have T19_5 := hide (T18_5.out.grew g19)
    have T19_6 := hide (T18_6.out.grew g19)
    have T19_7 := hide (T18_7.out.grew g19)
    have T19_8 := hide (T18_8.out.grew g19)
    have GG19 := hide (GG18.out.trans g19)
    clear h19 g19 GG18 B18_0 B18_1 B18_2 B18_3 B18_4 B18_5 B18_6 B18_7 T18_0 T18_1 T18_2 T18_3 T18_4 T18_5 T18_6 T18_7 T18_8
    clear d18_0_0 d18_0_1 t18_0 d18_1_0 d18_1_1 t18_1 d18_2_0 d18_2_1 t18_2 d18_3_0 d18_3_1 t18_3 d18_4_0 d18_4_1 t18_4 d18_5_0 d18_5_1 t18_5 d18_6_0 d18_6_1 t18_6 d18_7_0 d18_7_1 t18_7
    have d19_0_0 := B19_0.cell 0 rfl
    have d19_0_1 := B19_0.cell 1 rfl
    have t19_0 := B19_0.lt
    have d19_1_0 := B19_1.cell 0 rfl
    have d19_1_1 := B19_1.cell 1 rfl
    have t19_1 := B19_1.lt
    have d19_2_0 := B19_2.cell 0 rfl
    have d19_2_1 := B19_2.cell 1 rfl
    have t19_2 := B19_2.lt
    have d19_3_0 := B19_3.cell 0 rfl
    have d19_3_1 := B19_3.cell 1 rfl
    have t19_3 := B19_3.lt
    have d19_4_0 := B19_4.cell 0 rfl
    have d19_4_1 := B19_4.cell 1 rfl
    have t19_4 := B19_4.lt
    have d19_5_0 := B19_5.cell 0 rfl
    have d19_5_1 := B19_5.cell 1 rfl
    have t19_5 := B19_5.lt
    have d19_6_0 := B19_6.cell 0 rfl
    have d19_6_1 := B19_6.cell 1 rfl
    have t19_6 := B19_6.lt
    have d19_7_0 := B19_7.cell 0 rfl
    have d19_7_1 := B19_7.cell 1 rfl
    have t19_7 := B19_7.lt
    have d19_8_0 := B19_8.cell 0 rfl
    have d19_8_1 := B19_8.cell 1 rfl
    have t19_8 := B19_8.lt
    refine (SameType_any _ _ _ _ w19 _ _ T19_7.out T19_4.out).mono ?_
    rintro e w20 ⟨rfl, g20⟩
    have B20_0 := B19_0.grew g20
    have B20_1 := B19_1.grew g20
    have B20_2 := B19_2.grew g20
    have B20_3 := B19_3.grew g20
    have B20_4 := B19_4.grew g20
    have B20_5 := B19_5.grew g20
    have B20_6 := B19_6.grew g20
    have B20_7 := B19_7.grew g20
    have B20_8 := B19_8.grew g20
    have T20_0 := hide (T19_0.out.grew g20)
    have T20_1 := hide (T19_1.out.grew g20)
    have T20_2 := hide (T19_2.out.grew g20)
    have T20_3 := hide (T19_3.out.grew g20)
    have T20_4 := hide (T19_4.out.grew g20)
    have T20_5 := hide (T19_5.out.grew g20)
    have T20_6 := hide (T19_6.out.grew g20)
    have T20_7 := hide (T19_7.out.grew g20)
    have T20_8 := hide (T19_8.out.grew g20)
    have GG20 := hide (GG19.out.trans g20)
    clear g20 GG19 B19_0 B19_1 B19_2 B19_3 B19_4 B19_5 B19_6 B19_7 B19_8 T19_0 T19_1 T19_2 T19_3 T19_4 T19_5 T19_6 T19_7 T19_8
    clear d19_0_0 d19_0_1 t19_0 d19_1_0 d19_1_1 t19_1 d19_2_0 d19_2_1 t19_2 d19_3_0 d19_3_1 t19_3 d19_4_0 d19_4_1 t19_4 d19_5_0 d19_5_1 t19_5 d19_6_0 d19_6_1 t19_6 d19_7_0 d19_7_1 t19_7 d19_8_0 d19_8_1 t19_8
    have d20_0_0 := B20_0.cell 0 rfl
    have d20_0_1 := B20_0.cell 1 rfl
    have t20_0 := B20_0.lt
    have d20_1_0 := B20_1.cell 0 rfl
    have d20_1_1 := B20_1.cell 1 rfl
    have t20_1 := B20_1.lt
    have d20_2_0 := B20_2.cell 0 rfl
    have d20_2_1 := B20_2.cell 1 rfl
    have t20_2 := B20_2.lt
    have d20_3_0 := B20_3.cell 0 rfl
    have d20_3_1 := B20_3.cell 1 rfl
    have t20_3 := B20_3.lt
    have d20_4_0 := B20_4.cell 0 rfl
    have d20_4_1 := B20_4.cell 1 rfl
    have t20_4 := B20_4.lt
    have d20_5_0 := B20_5.cell 0 rfl
    have d20_5_1 := B20_5.cell 1 rfl
    have t20_5 := B20_5.lt
    have d20_6_0 := B20_6.cell 0 rfl
    have d20_6_1 := B20_6.cell 1 rfl
    have t20_6 := B20_6.lt
    have d20_7_0 := B20_7.cell 0 rfl
    have d20_7_1 := B20_7.cell 1 rfl
    have t20_7 := B20_7.lt
    have d20_8_0 := B20_8.cell 0 rfl
    have d20_8_1 := B20_8.cell 1 rfl
    have t20_8 := B20_8.lt
    rw [M4]
    go_wp2_with fail
    refine name_calls fun w21 h21 => ?_
    have g21 : Grew w20 w21 := by
      rw [h21]
      repeat' (first | (with_reducible exact Grew.refl _) | (with_reducible refine Grew.setCell ?_ ?_ _) | (with_reducible refine Grew.drewN ?_ _) | (with_reducible refine Grew.reD ?_ _) | (with_reducible refine Grew.alloc ?_ _) | (dsimp only; omega))
    have B21_0 : Blk w21 (w0.heap.size) 28 [.int .i64 ka, .slice pa ma ca] := B20_0.grew g21
    have B21_1 : Blk w21 (w0.heap.size + 1) 28 [.int .i64 kb, .slice pb mb cb] := B20_1.grew g21
    have B21_2 : Blk w21 (w4.heap.size) 28 [.int .i64 kx, .slice px mx cx] := B20_2.grew g21
    have B21_3 : Blk w21 (w4.heap.size + 1) 28 [.int .i64 ky, .slice py my cy] := B20_3.grew g21
    have B21_4 : Blk w21 (w6.heap.size) 28 [.int .i64 kt, .slice pt mt ct] := B20_4.grew g21
    have B21_5 : Blk w21 (w8.heap.size) 28 [.int .i64 ku, .slice pu mu cu] := B20_5.grew g21
    have B21_6 : Blk w21 (w10.heap.size) 28 [.int .i64 kv, .slice pv mv cv] := B20_6.grew g21
    have B21_7 : Blk w21 (w16.heap.size) 28 [.int .i64 kj, .slice pj mj cj] := B20_7.grew g21
    have B21_8 : Blk w21 (w18.heap.size) 28 [.int .i64 kh, .slice ph mh ch] := B20_8.grew g21
    have T21_0 := hide (T20_0.out.grew g21)
    have T21_1 := hide (T20_1.out.grew g21)
    have T21_2 := hide (T20_2.out.grew g21)
    have T21_3 := hide (T20_3.out.grew g21)
    have T21_4 := hide (T20_4.out.grew g21)
    have T21_5 := hide (T20_5.out.grew g21)
    have T21_6 := hide (T20_6.out.grew g21)
    have T21_7 := hide (T20_7.out.grew g21)
    have T21_8 := hide (T20_8.out.grew g21)
    have GG21 := hide (GG20.out.trans g21)
    clear h21 g21 GG20 B20_0 B20_1 B20_2 B20_3 B20_4 B20_5 B20_6 B20_7 B20_8 T20_0 T20_1 T20_2 T20_3 T20_4 T20_5 T20_6 T20_7 T20_8
    clear d20_0_0 d20_0_1 t20_0 d20_1_0 d20_1_1 t20_1 d20_2_0 d20_2_1 t20_2 d20_3_0 d20_3_1 t20_3 d20_4_0 d20_4_1 t20_4 d20_5_0 d20_5_1 t20_5 d20_6_0 d20_6_1 t20_6 d20_7_0 d20_7_1 t20_7 d20_8_0 d20_8_1 t20_8
    have d21_0_0 := B21_0.cell 0 rfl
    have d21_0_1 := B21_0.cell 1 rfl
    have t21_0 := B21_0.lt
    have d21_1_0 := B21_1.cell 0 rfl
    have d21_1_1 := B21_1.cell 1 rfl
    have t21_1 := B21_1.lt
    have d21_2_0 := B21_2.cell 0 rfl
    have d21_2_1 := B21_2.cell 1 rfl
    have t21_2 := B21_2.lt
    have d21_3_0 := B21_3.cell 0 rfl
    have d21_3_1 := B21_3.cell 1 rfl
    have t21_3 := B21_3.lt
    have d21_4_0 := B21_4.cell 0 rfl
    have d21_4_1 := B21_4.cell 1 rfl
    have t21_4 := B21_4.lt
    have d21_5_0 := B21_5.cell 0 rfl
    have d21_5_1 := B21_5.cell 1 rfl
    have t21_5 := B21_5.lt
    have d21_6_0 := B21_6.cell 0 rfl
    have d21_6_1 := B21_6.cell 1 rfl
    have t21_6 := B21_6.lt
    have d21_7_0 := B21_7.cell 0 rfl
    have d21_7_1 := B21_7.cell 1 rfl
    have t21_7 := B21_7.lt
    have d21_8_0 := B21_8.cell 0 rfl
    have d21_8_1 := B21_8.cell 1 rfl
    have t21_8 := B21_8.lt
    refine (SameType_any _ _ _ _ w21 _ _ T21_8.out T21_4.out).mono ?_
    rintro e w22 ⟨rfl, g22⟩
    have B22_0 := B21_0.grew g22
    have B22_1 := B21_1.grew g22
    have B22_2 := B21_2.grew g22
    have B22_3 := B21_3.grew g22
    have B22_4 := B21_4.grew g22
    have B22_5 := B21_5.grew g22
    have B22_6 := B21_6.grew g22
    have B22_7 := B21_7.grew g22
    have B22_8 := B21_8.grew g22
    have T22_0 := hide (T21_0.out.grew g22)
    have T22_1 := hide (T21_1.out.grew g22)
    have T22_2 := hide (T21_2.out.grew g22)
    have T22_3 := hide (T21_3.out.grew g22)
    have T22_4 := hide (T21_4.out.grew g22)
    have T22_5 := hide (T21_5.out.grew g22)
    have T22_6 := hide (T21_6.out.grew g22)
    have T22_7 := hide (T21_7.out.grew g22)
    have T22_8 := hide (T21_8.out.grew g22)
    have GG22 := hide (GG21.out.trans g22)
    clear g22 GG21 B21_0 B21_1 B21_2 B21_3 B21_4 B21_5 B21_6 B21_7 B21_8 T21_0 T21_1 T21_2 T21_3 T21_4 T21_5 T21_6 T21_7 T21_8
    clear d21_0_0 d21_0_1 t21_0 d21_1_0 d21_1_1 t21_1 d21_2_0 d21_2_1 t21_2 d21_3_0 d21_3_1 t21_3 d21_4_0 d21_4_1 t21_4 d21_5_0 d21_5_1 t21_5 d21_6_0 d21_6_1 t21_6 d21_7_0 d21_7_1 t21_7 d21_8_0 d21_8_1 t21_8
    have d22_0_0 := B22_0.cell 0 rfl
    have d22_0_1 := B22_0.cell 1 rfl
    have t22_0 := B22_0.lt
    have d22_1_0 := B22_1.cell 0 rfl
    have d22_1_1 := B22_1.cell 1 rfl
    have t22_1 := B22_1.lt
    have d22_2_0 := B22_2.cell 0 rfl
    have d22_2_1 := B22_2.cell 1 rfl
    have t22_2 := B22_2.lt
    have d22_3_0 := B22_3.cell 0 rfl
    have d22_3_1 := B22_3.cell 1 rfl
    have t22_3 := B22_3.lt
    have d22_4_0 := B22_4.cell 0 rfl
    have d22_4_1 := B22_4.cell 1 rfl
    have t22_4 := B22_4.lt
    have d22_5_0 := B22_5.cell 0 rfl
    have d22_5_1 := B22_5.cell 1 rfl
    have t22_5 := B22_5.lt
    have d22_6_0 := B22_6.cell 0 rfl
    have d22_6_1 := B22_6.cell 1 rfl
    have t22_6 := B22_6.lt
    have d22_7_0 := B22_7.cell 0 rfl
    have d22_7_1 := B22_7.cell 1 rfl
    have t22_7 := B22_7.lt
    have d22_8_0 := B22_8.cell 0 rfl
    have d22_8_1 := B22_8.cell 1 rfl
    have t22_8 := B22_8.lt
    rw [M5]
    go_wp2_with fail
    refine name_calls fun w23 h23 => ?_
    have g23 : Grew w22 w23 := by
      rw [h23]
      repeat' (first | (with_reducible exact Grew.refl _) | (with_reducible refine Grew.setCell ?_ ?_ _) | (with_reducible refine Grew.drewN ?_ _) | (with_reducible refine Grew.reD ?_ _) | (with_reducible refine Grew.alloc ?_ _) | (dsimp only; omega))
    have B23_0 : Blk w23 (w0.heap.size) 28 [.int .i64 ka, .slice pa ma ca] := B22_0.grew g23
    have B23_1 : Blk w23 (w0.heap.size + 1) 28 [.int .i64 kb, .slice pb mb cb] := B22_1.grew g23
    have B23_2 : Blk w23 (w4.heap.size) 28 [.int .i64 kx, .slice px mx cx] := B22_2.grew g23
    have B23_3 : Blk w23 (w4.heap.size + 1) 28 [.int .i64 ky, .slice py my cy] := B22_3.grew g23
    have B23_4 : Blk w23 (w6.heap.size) 28 [.int .i64 kt, .slice pt mt ct] := B22_4.grew g23
    have B23_5 : Blk w23 (w8.heap.size) 28 [.int .i64 ku, .slice pu mu cu] := B22_5.grew g23
    have B23_6 : Blk w23 (w10.heap.size) 28 [.int .i64 kv, .slice pv mv cv] := B22_6.grew g23
    have B23_7 : Blk w23 (w16.heap.size) 28 [.int .i64 kj, .slice pj mj cj] := B22_7.grew g23
    have B23_8 : Blk w23 (w18.heap.size) 28 [.int .i64 kh, .slice ph mh ch] := B22_8.grew g23
    have T23_0 := hide (T22_0.out.grew g23)
    have T23_1 := hide (T22_1.out.grew g23)
    have T23_2 := hide (T22_2.out.grew g23)
    have T23_3 := hide (T22_3.out.grew g23)
    have T23_4 := hide (T22_4.out.grew g23)
    have T23_5 := hide (T22_5.out.grew g23)
    have T23_6 := hide (T22_6.out.grew g23)
    have T23_7 := hide (T22_7.out.grew g23)
    have T23_8 := hide (T22_8.out.grew g23)
    have GG23 := hide (GG22.out.trans g23)
    clear h23 g23 GG22 B22_0 B22_1 B22_2 B22_3 B22_4 B22_5 B22_6 B22_7 B22_8 T22_0 T22_1 T22_2 T22_3 T22_4 T22_5 T22_6 T22_7 T22_8
    clear d22_0_0 d22_0_1 t22_0 d22_1_0 d22_1_1 t22_1 d22_2_0 d22_2_1 t22_2 d22_3_0 d22_3_1 t22_3 d22_4_0 d22_4_1 t22_4 d22_5_0 d22_5_1 t22_5 d22_6_0 d22_6_1 t22_6 d22_7_0 d22_7_1 t22_7 d22_8_0 d22_8_1 t22_8
    have d23_0_0 := B23_0.cell 0 rfl
    have d23_0_1 := B23_0.cell 1 rfl
    have t23_0 := B23_0.lt
    have d23_1_0 := B23_1.cell 0 rfl
    have d23_1_1 := B23_1.cell 1 rfl
    have t23_1 := B23_1.lt
    have d23_2_0 := B23_2.cell 0 rfl
    have d23_2_1 := B23_2.cell 1 rfl
    have t23_2 := B23_2.lt
    have d23_3_0 := B23_3.cell 0 rfl
    have d23_3_1 := B23_3.cell 1 rfl
    have t23_3 := B23_3.lt
    have d23_4_0 := B23_4.cell 0 rfl
    have d23_4_1 := B23_4.cell 1 rfl
    have t23_4 := B23_4.lt
    have d23_5_0 := B23_5.cell 0 rfl
    have d23_5_1 := B23_5.cell 1 rfl
    have t23_5 := B23_5.lt
    have d23_6_0 := B23_6.cell 0 rfl
    have d23_6_1 := B23_6.cell 1 rfl
    have t23_6 := B23_6.lt
    have d23_7_0 := B23_7.cell 0 rfl
    have d23_7_1 := B23_7.cell 1 rfl
    have t23_7 := B23_7.lt
    have d23_8_0 := B23_8.cell 0 rfl
    have d23_8_1 := B23_8.cell 1 rfl
    have t23_8 := B23_8.lt
    refine ((rJoin_any _ _ _ _ w23 _ _ T23_2.out T23_3.out)).mono ?_
    rintro e w24 ⟨v, rfl, tt24, g24⟩
    have B24_0 := B23_0.grew g24
    have B24_1 := B23_1.grew g24
    have B24_2 := B23_2.grew g24
    have B24_3 := B23_3.grew g24
    have B24_4 := B23_4.grew g24
    have B24_5 := B23_5.grew g24
    have B24_6 := B23_6.grew g24
    have B24_7 := B23_7.grew g24
    have B24_8 := B23_8.grew g24
    have T24_0 := hide (T23_0.out.grew g24)
    have T24_1 := hide (T23_1.out.grew g24)
    have T24_2 := hide (T23_2.out.grew g24)
    have T24_3 := hide (T23_3.out.grew g24)
    have T24_4 := hide (T23_4.out.grew g24)
    have T24_5 := hide (T23_5.out.grew g24)
    have T24_6 := hide (T23_6.out.grew g24)
    have T24_7 := hide (T23_7.out.grew g24)
    have T24_8 := hide (T23_8.out.grew g24)
    have GG24 := hide (GG23.out.trans g24)
    clear g24 GG23 B23_0 B23_1 B23_2 B23_3 B23_4 B23_5 B23_6 B23_7 B23_8 T23_0 T23_1 T23_2 T23_3 T23_4 T23_5 T23_6 T23_7 T23_8
    clear d23_0_0 d23_0_1 t23_0 d23_1_0 d23_1_1 t23_1 d23_2_0 d23_2_1 t23_2 d23_3_0 d23_3_1 t23_3 d23_4_0 d23_4_1 t23_4 d23_5_0 d23_5_1 t23_5 d23_6_0 d23_6_1 t23_6 d23_7_0 d23_7_1 t23_7 d23_8_0 d23_8_1 t23_8
    have T24_9 := hide (TyIn.weak (fun _ _ => trivial) tt24 : TyIn w24 (fun _ => True) _ _)
    obtain ⟨kr, mr, fr, pr, cr, -, rfl⟩ := tt24.root
    clear tt24
    have d24_0_0 := B24_0.cell 0 rfl
    have d24_0_1 := B24_0.cell 1 rfl
    have t24_0 := B24_0.lt
    have d24_1_0 := B24_1.cell 0 rfl
    have d24_1_1 := B24_1.cell 1 rfl
    have t24_1 := B24_1.lt
    have d24_2_0 := B24_2.cell 0 rfl
    have d24_2_1 := B24_2.cell 1 rfl
    have t24_2 := B24_2.lt
    have d24_3_0 := B24_3.cell 0 rfl
    have d24_3_1 := B24_3.cell 1 rfl
    have t24_3 := B24_3.lt
    have d24_4_0 := B24_4.cell 0 rfl
    have d24_4_1 := B24_4.cell 1 rfl
    have t24_4 := B24_4.lt
    have d24_5_0 := B24_5.cell 0 rfl
    have d24_5_1 := B24_5.cell 1 rfl
    have t24_5 := B24_5.lt
    have d24_6_0 := B24_6.cell 0 rfl
    have d24_6_1 := B24_6.cell 1 rfl
    have t24_6 := B24_6.lt
    have d24_7_0 := B24_7.cell 0 rfl
    have d24_7_1 := B24_7.cell 1 rfl
    have t24_7 := B24_7.lt
    have d24_8_0 := B24_8.cell 0 rfl
    have d24_8_1 := B24_8.cell 1 rfl
    have t24_8 := B24_8.lt
    rw [RJ1]
    go_wp2_with fail
    refine name_calls fun w25 h25 => ?_
    have g25 : Grew w24 w25 := by
      rw [h25]
      repeat' (first | (with_reducible exact Grew.refl _) | (with_reducible refine Grew.setCell ?_ ?_ _) | (with_reducible refine Grew.drewN ?_ _) | (with_reducible refine Grew.reD ?_ _) | (with_reducible refine Grew.alloc ?_ _) | (dsimp only; omega))
    have B25_0 : Blk w25 (w0.heap.size) 28 [.int .i64 ka, .slice pa ma ca] := B24_0.grew g25
    have B25_1 : Blk w25 (w0.heap.size + 1) 28 [.int .i64 kb, .slice pb mb cb] := B24_1.grew g25
    have B25_2 : Blk w25 (w4.heap.size) 28 [.int .i64 kx, .slice px mx cx] := B24_2.grew g25
    have B25_3 : Blk w25 (w4.heap.size + 1) 28 [.int .i64 ky, .slice py my cy] := B24_3.grew g25
    have B25_4 : Blk w25 (w6.heap.size) 28 [.int .i64 kt, .slice pt mt ct] := B24_4.grew g25
    have B25_5 : Blk w25 (w8.heap.size) 28 [.int .i64 ku, .slice pu mu cu] := B24_5.grew g25
    have B25_6 : Blk w25 (w10.heap.size) 28 [.int .i64 kv, .slice pv mv cv] := B24_6.grew g25
    have B25_7 : Blk w25 (w16.heap.size) 28 [.int .i64 kj, .slice pj mj cj] := B24_7.grew g25
    have B25_8 : Blk w25 (w18.heap.size) 28 [.int .i64 kh, .slice ph mh ch] := B24_8.grew g25
    have B25_9 : Blk w25 (w24.heap.size) 28 [.int .i64 kr, .slice pr mr cr] := by (rw [h25]; repeat' (first | (with_reducible assumption) | ((with_reducible refine Blk.new ?_); (first | (with_reducible rfl) | (simp only [World.size_alloc, World.size_setCell, size_drewN]; done))) | (with_reducible refine Blk.alloc ?_ _) | (with_reducible refine Blk.drewN ?_ _) | (with_reducible refine Blk.drew ?_) | (refine Blk.other ?_ (by omega) _) | fail))
    have T25_0 := hide (T24_0.out.grew g25)
    have T25_1 := hide (T24_1.out.grew g25)
    have T25_2 := hide (T24_2.out.grew g25)
    have T25_3 := hide (T24_3.out.grew g25)
    have T25_4 := hide (T24_4.out.grew g25)
    have T25_5 := hide (T24_5.out.grew g25)
    have T25_6 := hide (T24_6.out.grew g25)
    have T25_7 := hide (T24_7.out.grew g25)
    have T25_8 := hide (T24_8.out.grew g25)
    have T25_9 := hide (T24_9.out.grew g25)
    have GG25 := hide (GG24.out.trans g25)
    clear h25 g25 GG24 B24_0 B24_1 B24_2 B24_3 B24_4 B24_5 B24_6 B24_7 B24_8 T24_0 T24_1 T24_2 T24_3 T24_4 T24_5 T24_6 T24_7 T24_8 T24_9
    clear d24_0_0 d24_0_1 t24_0 d24_1_0 d24_1_1 t24_1 d24_2_0 d24_2_1 t24_2 d24_3_0 d24_3_1 t24_3 d24_4_0 d24_4_1 t24_4 d24_5_0 d24_5_1 t24_5 d24_6_0 d24_6_1 t24_6 d24_7_0 d24_7_1 t24_7 d24_8_0 d24_8_1 t24_8
    have d25_0_0 := B25_0.cell 0 rfl
    have d25_0_1 := B25_0.cell 1 rfl
    have t25_0 := B25_0.lt
    have d25_1_0 := B25_1.cell 0 rfl
    have d25_1_1 := B25_1.cell 1 rfl
    have t25_1 := B25_1.lt
    have d25_2_0 := B25_2.cell 0 rfl
    have d25_2_1 := B25_2.cell 1 rfl
    have t25_2 := B25_2.lt
    have d25_3_0 := B25_3.cell 0 rfl
    have d25_3_1 := B25_3.cell 1 rfl
    have t25_3 := B25_3.lt
    have d25_4_0 := B25_4.cell 0 rfl
    have d25_4_1 := B25_4.cell 1 rfl
    have t25_4 := B25_4.lt
    have d25_5_0 := B25_5.cell 0 rfl
    have d25_5_1 := B25_5.cell 1 rfl
    have t25_5 := B25_5.lt
    have d25_6_0 := B25_6.cell 0 rfl
    have d25_6_1 := B25_6.cell 1 rfl
    have t25_6 := B25_6.lt
    have d25_7_0 := B25_7.cell 0 rfl
    have d25_7_1 := B25_7.cell 1 rfl
    have t25_7 := B25_7.lt
    have d25_8_0 := B25_8.cell 0 rfl
    have d25_8_1 := B25_8.cell 1 rfl
    have t25_8 := B25_8.lt
    have d25_9_0 := B25_9.cell 0 rfl
    have d25_9_1 := B25_9.cell 1 rfl
    have t25_9 := B25_9.lt
    refine (SameType_any _ _ _ _ w25 _ _ T25_9.out T25_4.out).mono ?_
    rintro e w26 ⟨rfl, g26⟩
    have B26_0 := B25_0.grew g26
    have B26_1 := B25_1.grew g26
    have B26_2 := B25_2.grew g26
    have B26_3 := B25_3.grew g26
    have B26_4 := B25_4.grew g26
    have B26_5 := B25_5.grew g26
    have B26_6 := B25_6.grew g26
    have B26_7 := B25_7.grew g26
    have B26_8 := B25_8.grew g26
    have B26_9 := B25_9.grew g26
    have T26_0 := hide (T25_0.out.grew g26)
    have T26_1 := hide (T25_1.out.grew g26)
    have T26_2 := hide (T25_2.out.grew g26)
    have T26_3 := hide (T25_3.out.grew g26)
    have T26_4 := hide (T25_4.out.grew g26)
    have T26_5 := hide (T25_5.out.grew g26)
    have T26_6 := hide (T25_6.out.grew g26)
    have T26_7 := hide (T25_7.out.grew g26)
    have T26_8 := hide (T25_8.out.grew g26)
    have T26_9 := hide (T25_9.out.grew g26)
    have GG26 := hide (GG25.out.trans g26)
    clear g26 GG25 B25_0 B25_1 B25_2 B25_3 B25_4 B25_5 B25_6 B25_7 B25_8 B25_9 T25_0 T25_1 T25_2 T25_3 T25_4 T25_5 T25_6 T25_7 T25_8 T25_9
    clear d25_0_0 d25_0_1 t25_0 d25_1_0 d25_1_1 t25_1 d25_2_0 d25_2_1 t25_2 d25_3_0 d25_3_1 t25_3 d25_4_0 d25_4_1 t25_4 d25_5_0 d25_5_1 t25_5 d25_6_0 d25_6_1 t25_6 d25_7_0 d25_7_1 t25_7 d25_8_0 d25_8_1 t25_8 d25_9_0 d25_9_1 t25_9
    have d26_0_0 := B26_0.cell 0 rfl
    have d26_0_1 := B26_0.cell 1 rfl
    have t26_0 := B26_0.lt
    have d26_1_0 := B26_1.cell 0 rfl
    have d26_1_1 := B26_1.cell 1 rfl
    have t26_1 := B26_1.lt
    have d26_2_0 := B26_2.cell 0 rfl
    have d26_2_1 := B26_2.cell 1 rfl
    have t26_2 := B26_2.lt
    have d26_3_0 := B26_3.cell 0 rfl
    have d26_3_1 := B26_3.cell 1 rfl
    have t26_3 := B26_3.lt
    have d26_4_0 := B26_4.cell 0 rfl
    have d26_4_1 := B26_4.cell 1 rfl
    have t26_4 := B26_4.lt
    have d26_5_0 := B26_5.cell 0 rfl
    have d26_5_1 := B26_5.cell 1 rfl
    have t26_5 := B26_5.lt
    have d26_6_0 := B26_6.cell 0 rfl
    have d26_6_1 := B26_6.cell 1 rfl
    have t26_6 := B26_6.lt
    have d26_7_0 := B26_7.cell 0 rfl
    have d26_7_1 := B26_7.cell 1 rfl
    have t26_7 := B26_7.lt
    have d26_8_0 := B26_8.cell 0 rfl
    have d26_8_1 := B26_8.cell 1 rfl
    have t26_8 := B26_8.lt
    have d26_9_0 := B26_9.cell 0 rfl
    have d26_9_1 := B26_9.cell 1 rfl
    have t26_9 := B26_9.lt
    rw [RJ2]
    go_wp2_with fail
    refine name_calls fun w27 h27 => ?_
    have g27 : Grew w26 w27 := by
      rw [h27]
      repeat' (first | (with_reducible exact Grew.refl _) | (with_reducible refine Grew.setCell ?_ ?_ _) | (with_reducible refine Grew.drewN ?_ _) | (with_reducible refine Grew.reD ?_ _) | (with_reducible refine Grew.alloc ?_ _) | (dsimp only; omega))
    have B27_0 : Blk w27 (w0.heap.size) 28 [.int .i64 ka, .slice pa ma ca] := B26_0.grew g27
    have B27_1 : Blk w27 (w0.heap.size + 1) 28 [.int .i64 kb, .slice pb mb cb] := B26_1.grew g27
    have B27_2 : Blk w27 (w4.heap.size) 28 [.int .i64 kx, .slice px mx cx] := B26_2.grew g27
    have B27_3 : Blk w27 (w4.heap.size + 1) 28 [.int .i64 ky, .slice py my cy] := B26_3.grew g27
    have B27_4 : Blk w27 (w6.heap.size) 28 [.int .i64 kt, .slice pt mt ct] := B26_4.grew g27
    have B27_5 : Blk w27 (w8.heap.size) 28 [.int .i64 ku, .slice pu mu cu] := B26_5.grew g27
    have B27_6 : Blk w27 (w10.heap.size) 28 [.int .i64 kv, .slice pv mv cv] := B26_6.grew g27
    have B27_7 : Blk w27 (w16.heap.size) 28 [.int .i64 kj, .slice pj mj cj] := B26_7.grew g27
    have B27_8 : Blk w27 (w18.heap.size) 28 [.int .i64 kh, .slice ph mh ch] := B26_8.grew g27
    have B27_9 : Blk w27 (w24.heap.size) 28 [.int .i64 kr, .slice pr mr cr] := B26_9.grew g27
    have T27_0 := hide (T26_0.out.grew g27)
    have T27_1 := hide (T26_1.out.grew g27)
    have T27_2 := hide (T26_2.out.grew g27)
    have T27_3 := hide (T26_3.out.grew g27)
    have T27_4 := hide (T26_4.out.grew g27)
    have T27_5 := hide (T26_5.out.grew g27)
    have T27_6 := hide (T26_6.out.grew g27)
    have T27_7 := hide (T26_7.out.grew g27)
    have T27_8 := hide (T26_8.out.grew g27)
    have T27_9 := hide (T26_9.out.grew g27)
    have GG27 := hide (GG26.out.trans g27)
    clear h27 g27 GG26 B26_0 B26_1 B26_2 B26_3 B26_4 B26_5 B26_6 B26_7 B26_8 B26_9 T26_0 T26_1 T26_2 T26_3 T26_4 T26_5 T26_6 T26_7 T26_8 T26_9
    clear d26_0_0 d26_0_1 t26_0 d26_1_0 d26_1_1 t26_1 d26_2_0 d26_2_1 t26_2 d26_3_0 d26_3_1 t26_3 d26_4_0 d26_4_1 t26_4 d26_5_0 d26_5_1 t26_5 d26_6_0 d26_6_1 t26_6 d26_7_0 d26_7_1 t26_7 d26_8_0 d26_8_1 t26_8 d26_9_0 d26_9_1 t26_9
    have d27_0_0 := B27_0.cell 0 rfl
    have d27_0_1 := B27_0.cell 1 rfl
    have t27_0 := B27_0.lt
    have d27_1_0 := B27_1.cell 0 rfl
    have d27_1_1 := B27_1.cell 1 rfl
    have t27_1 := B27_1.lt
    have d27_2_0 := B27_2.cell 0 rfl
    have d27_2_1 := B27_2.cell 1 rfl
    have t27_2 := B27_2.lt
    have d27_3_0 := B27_3.cell 0 rfl
    have d27_3_1 := B27_3.cell 1 rfl
    have t27_3 := B27_3.lt
    have d27_4_0 := B27_4.cell 0 rfl
    have d27_4_1 := B27_4.cell 1 rfl
    have t27_4 := B27_4.lt
    have d27_5_0 := B27_5.cell 0 rfl
    have d27_5_1 := B27_5.cell 1 rfl
    have t27_5 := B27_5.lt
    have d27_6_0 := B27_6.cell 0 rfl
    have d27_6_1 := B27_6.cell 1 rfl
    have t27_6 := B27_6.lt
    have d27_7_0 := B27_7.cell 0 rfl
    have d27_7_1 := B27_7.cell 1 rfl
    have t27_7 := B27_7.lt
    have d27_8_0 := B27_8.cell 0 rfl
    have d27_8_1 := B27_8.cell 1 rfl
    have t27_8 := B27_8.lt
    have d27_9_0 := B27_9.cell 0 rfl
    have d27_9_1 := B27_9.cell 1 rfl
    have t27_9 := B27_9.lt
    refine (long_any _ _ 100 w27 _ T27_0.out (by omega)).mono ?_
    rintro e w28 ⟨hr, g28⟩
    have B28_0 := B27_0.grew g28
    have B28_1 := B27_1.grew g28
    have B28_2 := B27_2.grew g28
    have B28_3 := B27_3.grew g28
    have B28_4 := B27_4.grew g28
    have B28_5 := B27_5.grew g28
    have B28_6 := B27_6.grew g28
    have B28_7 := B27_7.grew g28
    have B28_8 := B27_8.grew g28
    have B28_9 := B27_9.grew g28
    have T28_0 := hide (T27_0.out.grew g28)
    have T28_1 := hide (T27_1.out.grew g28)
    have T28_2 := hide (T27_2.out.grew g28)
    have T28_3 := hide (T27_3.out.grew g28)
    have T28_4 := hide (T27_4.out.grew g28)
    have T28_5 := hide (T27_5.out.grew g28)
    have T28_6 := hide (T27_6.out.grew g28)
    have T28_7 := hide (T27_7.out.grew g28)
    have T28_8 := hide (T27_8.out.grew g28)
    have T28_9 := hide (T27_9.out.grew g28)
    have GG28 := hide (GG27.out.trans g28)
    clear g28 GG27 B27_0 B27_1 B27_2 B27_3 B27_4 B27_5 B27_6 B27_7 B27_8 B27_9 T27_0 T27_1 T27_2 T27_3 T27_4 T27_5 T27_6 T27_7 T27_8 T27_9
    clear d27_0_0 d27_0_1 t27_0 d27_1_0 d27_1_1 t27_1 d27_2_0 d27_2_1 t27_2 d27_3_0 d27_3_1 t27_3 d27_4_0 d27_4_1 t27_4 d27_5_0 d27_5_1 t27_5 d27_6_0 d27_6_1 t27_6 d27_7_0 d27_7_1 t27_7 d27_8_0 d27_8_1 t27_8 d27_9_0 d27_9_1 t27_9
    have d28_0_0 := B28_0.cell 0 rfl
    have d28_0_1 := B28_0.cell 1 rfl
    have t28_0 := B28_0.lt
    have d28_1_0 := B28_1.cell 0 rfl
    have d28_1_1 := B28_1.cell 1 rfl
    have t28_1 := B28_1.lt
    have d28_2_0 := B28_2.cell 0 rfl
    have d28_2_1 := B28_2.cell 1 rfl
    have t28_2 := B28_2.lt
    have d28_3_0 := B28_3.cell 0 rfl
    have d28_3_1 := B28_3.cell 1 rfl
    have t28_3 := B28_3.lt
    have d28_4_0 := B28_4.cell 0 rfl
    have d28_4_1 := B28_4.cell 1 rfl
    have t28_4 := B28_4.lt
    have d28_5_0 := B28_5.cell 0 rfl
    have d28_5_1 := B28_5.cell 1 rfl
    have t28_5 := B28_5.lt
    have d28_6_0 := B28_6.cell 0 rfl
    have d28_6_1 := B28_6.cell 1 rfl
    have t28_6 := B28_6.lt
    have d28_7_0 := B28_7.cell 0 rfl
    have d28_7_1 := B28_7.cell 1 rfl
    have t28_7 := B28_7.lt
    have d28_8_0 := B28_8.cell 0 rfl
    have d28_8_1 := B28_8.cell 1 rfl
    have t28_8 := B28_8.lt
    have d28_9_0 := B28_9.cell 0 rfl
    have d28_9_1 := B28_9.cell 1 rfl
    have t28_9 := B28_9.lt
    rcases hr with rfl | rfl
    · go_wp2
      go_ret
      exact ⟨rfl, GG28.out.1⟩
    · skip
      go_wp2_with fail
      refine name_calls fun w29 h29 => ?_
      have g29 : Grew w28 w29 := by
        rw [h29]
        repeat' (first | (with_reducible exact Grew.refl _) | (with_reducible refine Grew.setCell ?_ ?_ _) | (with_reducible refine Grew.drewN ?_ _) | (with_reducible refine Grew.reD ?_ _) | (with_reducible refine Grew.alloc ?_ _) | (dsimp only; omega))
      have B29_0 : Blk w29 (w0.heap.size) 28 [.int .i64 ka, .slice pa ma ca] := B28_0.grew g29
      have B29_1 : Blk w29 (w0.heap.size + 1) 28 [.int .i64 kb, .slice pb mb cb] := B28_1.grew g29
      have B29_2 : Blk w29 (w4.heap.size) 28 [.int .i64 kx, .slice px mx cx] := B28_2.grew g29
      have B29_3 : Blk w29 (w4.heap.size + 1) 28 [.int .i64 ky, .slice py my cy] := B28_3.grew g29
      have B29_4 : Blk w29 (w6.heap.size) 28 [.int .i64 kt, .slice pt mt ct] := B28_4.grew g29
      have B29_5 : Blk w29 (w8.heap.size) 28 [.int .i64 ku, .slice pu mu cu] := B28_5.grew g29
      have B29_6 : Blk w29 (w10.heap.size) 28 [.int .i64 kv, .slice pv mv cv] := B28_6.grew g29
      have B29_7 : Blk w29 (w16.heap.size) 28 [.int .i64 kj, .slice pj mj cj] := B28_7.grew g29
      have B29_8 : Blk w29 (w18.heap.size) 28 [.int .i64 kh, .slice ph mh ch] := B28_8.grew g29
      have B29_9 : Blk w29 (w24.heap.size) 28 [.int .i64 kr, .slice pr mr cr] := B28_9.grew g29
      have T29_0 := hide (T28_0.out.grew g29)
      have T29_1 := hide (T28_1.out.grew g29)
      have T29_2 := hide (T28_2.out.grew g29)
      have T29_3 := hide (T28_3.out.grew g29)
      have T29_4 := hide (T28_4.out.grew g29)
      have T29_5 := hide (T28_5.out.grew g29)
      have T29_6 := hide (T28_6.out.grew g29)
      have T29_7 := hide (T28_7.out.grew g29)
      have T29_8 := hide (T28_8.out.grew g29)
      have T29_9 := hide (T28_9.out.grew g29)
      have GG29 := hide (GG28.out.trans g29)
      clear h29 g29 GG28 B28_0 B28_1 B28_2 B28_3 B28_4 B28_5 B28_6 B28_7 B28_8 B28_9 T28_0 T28_1 T28_2 T28_3 T28_4 T28_5 T28_6 T28_7 T28_8 T28_9
      clear d28_0_0 d28_0_1 t28_0 d28_1_0 d28_1_1 t28_1 d28_2_0 d28_2_1 t28_2 d28_3_0 d28_3_1 t28_3 d28_4_0 d28_4_1 t28_4 d28_5_0 d28_5_1 t28_5 d28_6_0 d28_6_1 t28_6 d28_7_0 d28_7_1 t28_7 d28_8_0 d28_8_1 t28_8 d28_9_0 d28_9_1 t28_9
      have d29_0_0 := B29_0.cell 0 rfl
      have d29_0_1 := B29_0.cell 1 rfl
      have t29_0 := B29_0.lt
      have d29_1_0 := B29_1.cell 0 rfl
      have d29_1_1 := B29_1.cell 1 rfl
      have t29_1 := B29_1.lt
      have d29_2_0 := B29_2.cell 0 rfl
      have d29_2_1 := B29_2.cell 1 rfl
      have t29_2 := B29_2.lt
      have d29_3_0 := B29_3.cell 0 rfl
      have d29_3_1 := B29_3.cell 1 rfl
      have t29_3 := B29_3.lt
      have d29_4_0 := B29_4.cell 0 rfl
      have d29_4_1 := B29_4.cell 1 rfl
      have t29_4 := B29_4.lt
      have d29_5_0 := B29_5.cell 0 rfl
      have d29_5_1 := B29_5.cell 1 rfl
      have t29_5 := B29_5.lt
      have d29_6_0 := B29_6.cell 0 rfl
      have d29_6_1 := B29_6.cell 1 rfl
      have t29_6 := B29_6.lt
      have d29_7_0 := B29_7.cell 0 rfl
      have d29_7_1 := B29_7.cell 1 rfl
      have t29_7 := B29_7.lt
      have d29_8_0 := B29_8.cell 0 rfl
      have d29_8_1 := B29_8.cell 1 rfl
      have t29_8 := B29_8.lt
      have d29_9_0 := B29_9.cell 0 rfl
      have d29_9_1 := B29_9.cell 1 rfl
      have t29_9 := B29_9.lt
      refine (long_any _ _ 100 w29 _ T29_1.out (by omega)).mono ?_
      rintro e w30 ⟨hr, g30⟩
      have B30_0 := B29_0.grew g30
      have B30_1 := B29_1.grew g30
      have B30_2 := B29_2.grew g30
      have B30_3 := B29_3.grew g30
      have B30_4 := B29_4.grew g30
      have B30_5 := B29_5.grew g30
      have B30_6 := B29_6.grew g30
      have B30_7 := B29_7.grew g30
      have B30_8 := B29_8.grew g30
      have B30_9 := B29_9.grew g30
      have T30_0 := hide (T29_0.out.grew g30)
      have T30_1 := hide (T29_1.out.grew g30)
      have T30_2 := hide (T29_2.out.grew g30)
      have T30_3 := hide (T29_3.out.grew g30)
      have T30_4 := hide (T29_4.out.grew g30)
      have T30_5 := hide (T29_5.out.grew g30)
      have T30_6 := hide (T29_6.out.grew g30)
      have T30_7 := hide (T29_7.out.grew g30)
      have T30_8 := hide (T29_8.out.grew g30)
      have T30_9 := hide (T29_9.out.grew g30)
      have GG30 := hide (GG29.out.trans g30)
      clear g30 GG29 B29_0 B29_1 B29_2 B29_3 B29_4 B29_5 B29_6 B29_7 B29_8 B29_9 T29_0 T29_1 T29_2 T29_3 T29_4 T29_5 T29_6 T29_7 T29_8 T29_9
      clear d29_0_0 d29_0_1 t29_0 d29_1_0 d29_1_1 t29_1 d29_2_0 d29_2_1 t29_2 d29_3_0 d29_3_1 t29_3 d29_4_0 d29_4_1 t29_4 d29_5_0 d29_5_1 t29_5 d29_6_0 d29_6_1 t29_6 d29_7_0 d29_7_1 t29_7 d29_8_0 d29_8_1 t29_8 d29_9_0 d29_9_1 t29_9
      have d30_0_0 := B30_0.cell 0 rfl
      have d30_0_1 := B30_0.cell 1 rfl
      have t30_0 := B30_0.lt
      have d30_1_0 := B30_1.cell 0 rfl
      have d30_1_1 := B30_1.cell 1 rfl
      have t30_1 := B30_1.lt
      have d30_2_0 := B30_2.cell 0 rfl
      have d30_2_1 := B30_2.cell 1 rfl
      have t30_2 := B30_2.lt
      have d30_3_0 := B30_3.cell 0 rfl
      have d30_3_1 := B30_3.cell 1 rfl
      have t30_3 := B30_3.lt
      have d30_4_0 := B30_4.cell 0 rfl
      have d30_4_1 := B30_4.cell 1 rfl
      have t30_4 := B30_4.lt
      have d30_5_0 := B30_5.cell 0 rfl
      have d30_5_1 := B30_5.cell 1 rfl
      have t30_5 := B30_5.lt
      have d30_6_0 := B30_6.cell 0 rfl
      have d30_6_1 := B30_6.cell 1 rfl
      have t30_6 := B30_6.lt
      have d30_7_0 := B30_7.cell 0 rfl
      have d30_7_1 := B30_7.cell 1 rfl
      have t30_7 := B30_7.lt
      have d30_8_0 := B30_8.cell 0 rfl
      have d30_8_1 := B30_8.cell 1 rfl
      have t30_8 := B30_8.lt
      have d30_9_0 := B30_9.cell 0 rfl
      have d30_9_1 := B30_9.cell 1 rfl
      have t30_9 := B30_9.lt
      rcases hr with rfl | rfl
      · go_wp2
        go_ret
        exact ⟨rfl, GG30.out.1⟩
      · skip
        go_wp2_with fail
        refine name_calls fun w31 h31 => ?_
        have g31 : Grew w30 w31 := by
          rw [h31]
          repeat' (first | (with_reducible exact Grew.refl _) | (with_reducible refine Grew.setCell ?_ ?_ _) | (with_reducible refine Grew.drewN ?_ _) | (with_reducible refine Grew.reD ?_ _) | (with_reducible refine Grew.alloc ?_ _) | (dsimp only; omega))
        have B31_0 : Blk w31 (w0.heap.size) 28 [.int .i64 ka, .slice pa ma ca] := B30_0.grew g31
        have B31_1 : Blk w31 (w0.heap.size + 1) 28 [.int .i64 kb, .slice pb mb cb] := B30_1.grew g31
        have B31_2 : Blk w31 (w4.heap.size) 28 [.int .i64 kx, .slice px mx cx] := B30_2.grew g31
        have B31_3 : Blk w31 (w4.heap.size + 1) 28 [.int .i64 ky, .slice py my cy] := B30_3.grew g31
        have B31_4 : Blk w31 (w6.heap.size) 28 [.int .i64 kt, .slice pt mt ct] := B30_4.grew g31
        have B31_5 : Blk w31 (w8.heap.size) 28 [.int .i64 ku, .slice pu mu cu] := B30_5.grew g31
        have B31_6 : Blk w31 (w10.heap.size) 28 [.int .i64 kv, .slice pv mv cv] := B30_6.grew g31
        have B31_7 : Blk w31 (w16.heap.size) 28 [.int .i64 kj, .slice pj mj cj] := B30_7.grew g31
        have B31_8 : Blk w31 (w18.heap.size) 28 [.int .i64 kh, .slice ph mh ch] := B30_8.grew g31
        have B31_9 : Blk w31 (w24.heap.size) 28 [.int .i64 kr, .slice pr mr cr] := B30_9.grew g31
        have T31_0 := hide (T30_0.out.grew g31)
        have T31_1 := hide (T30_1.out.grew g31)
        have T31_2 := hide (T30_2.out.grew g31)
        have T31_3 := hide (T30_3.out.grew g31)
        have T31_4 := hide (T30_4.out.grew g31)
        have T31_5 := hide (T30_5.out.grew g31)
        have T31_6 := hide (T30_6.out.grew g31)
        have T31_7 := hide (T30_7.out.grew g31)
        have T31_8 := hide (T30_8.out.grew g31)
        have T31_9 := hide (T30_9.out.grew g31)
        have GG31 := hide (GG30.out.trans g31)
        clear h31 g31 GG30 B30_0 B30_1 B30_2 B30_3 B30_4 B30_5 B30_6 B30_7 B30_8 B30_9 T30_0 T30_1 T30_2 T30_3 T30_4 T30_5 T30_6 T30_7 T30_8 T30_9
        clear d30_0_0 d30_0_1 t30_0 d30_1_0 d30_1_1 t30_1 d30_2_0 d30_2_1 t30_2 d30_3_0 d30_3_1 t30_3 d30_4_0 d30_4_1 t30_4 d30_5_0 d30_5_1 t30_5 d30_6_0 d30_6_1 t30_6 d30_7_0 d30_7_1 t30_7 d30_8_0 d30_8_1 t30_8 d30_9_0 d30_9_1 t30_9
        have d31_0_0 := B31_0.cell 0 rfl
        have d31_0_1 := B31_0.cell 1 rfl
        have t31_0 := B31_0.lt
        have d31_1_0 := B31_1.cell 0 rfl
        have d31_1_1 := B31_1.cell 1 rfl
        have t31_1 := B31_1.lt
        have d31_2_0 := B31_2.cell 0 rfl
        have d31_2_1 := B31_2.cell 1 rfl
        have t31_2 := B31_2.lt
        have d31_3_0 := B31_3.cell 0 rfl
        have d31_3_1 := B31_3.cell 1 rfl
        have t31_3 := B31_3.lt
        have d31_4_0 := B31_4.cell 0 rfl
        have d31_4_1 := B31_4.cell 1 rfl
        have t31_4 := B31_4.lt
        have d31_5_0 := B31_5.cell 0 rfl
        have d31_5_1 := B31_5.cell 1 rfl
        have t31_5 := B31_5.lt
        have d31_6_0 := B31_6.cell 0 rfl
        have d31_6_1 := B31_6.cell 1 rfl
        have t31_6 := B31_6.lt
        have d31_7_0 := B31_7.cell 0 rfl
        have d31_7_1 := B31_7.cell 1 rfl
        have t31_7 := B31_7.lt
        have d31_8_0 := B31_8.cell 0 rfl
        have d31_8_1 := B31_8.cell 1 rfl
        have t31_8 := B31_8.lt
        have d31_9_0 := B31_9.cell 0 rfl
        have d31_9_1 := B31_9.cell 1 rfl
        have t31_9 := B31_9.lt
        refine ((Join_any _ _ _ _ w31 _ _ T31_0.out T31_1.out)).mono ?_
        rintro e w32 ⟨v, rfl, tt32, g32⟩
        have B32_0 := B31_0.grew g32
        have B32_1 := B31_1.grew g32
        have B32_2 := B31_2.grew g32
        have B32_3 := B31_3.grew g32
        have B32_4 := B31_4.grew g32
        have B32_5 := B31_5.grew g32
        have B32_6 := B31_6.grew g32
        have B32_7 := B31_7.grew g32
        have B32_8 := B31_8.grew g32
        have B32_9 := B31_9.grew g32
        have T32_0 := hide (T31_0.out.grew g32)
        have T32_1 := hide (T31_1.out.grew g32)
        have T32_2 := hide (T31_2.out.grew g32)
        have T32_3 := hide (T31_3.out.grew g32)
        have T32_4 := hide (T31_4.out.grew g32)
        have T32_5 := hide (T31_5.out.grew g32)
        have T32_6 := hide (T31_6.out.grew g32)
        have T32_7 := hide (T31_7.out.grew g32)
        have T32_8 := hide (T31_8.out.grew g32)
        have T32_9 := hide (T31_9.out.grew g32)
        have GG32 := hide (GG31.out.trans g32)
        clear g32 GG31 B31_0 B31_1 B31_2 B31_3 B31_4 B31_5 B31_6 B31_7 B31_8 B31_9 T31_0 T31_1 T31_2 T31_3 T31_4 T31_5 T31_6 T31_7 T31_8 T31_9
        clear d31_0_0 d31_0_1 t31_0 d31_1_0 d31_1_1 t31_1 d31_2_0 d31_2_1 t31_2 d31_3_0 d31_3_1 t31_3 d31_4_0 d31_4_1 t31_4 d31_5_0 d31_5_1 t31_5 d31_6_0 d31_6_1 t31_6 d31_7_0 d31_7_1 t31_7 d31_8_0 d31_8_1 t31_8 d31_9_0 d31_9_1 t31_9
        have T32_10 := hide (TyIn.weak (fun _ _ => trivial) tt32 : TyIn w32 (fun _ => True) _ _)
        obtain ⟨ks, ms, fs, ps, cs, -, rfl⟩ := tt32.root
        clear tt32
        have d32_0_0 := B32_0.cell 0 rfl
        have d32_0_1 := B32_0.cell 1 rfl
        have t32_0 := B32_0.lt
        have d32_1_0 := B32_1.cell 0 rfl
        have d32_1_1 := B32_1.cell 1 rfl
        have t32_1 := B32_1.lt
        have d32_2_0 := B32_2.cell 0 rfl
        have d32_2_1 := B32_2.cell 1 rfl
        have t32_2 := B32_2.lt
        have d32_3_0 := B32_3.cell 0 rfl
        have d32_3_1 := B32_3.cell 1 rfl
        have t32_3 := B32_3.lt
        have d32_4_0 := B32_4.cell 0 rfl
        have d32_4_1 := B32_4.cell 1 rfl
        have t32_4 := B32_4.lt
        have d32_5_0 := B32_5.cell 0 rfl
        have d32_5_1 := B32_5.cell 1 rfl
        have t32_5 := B32_5.lt
        have d32_6_0 := B32_6.cell 0 rfl
        have d32_6_1 := B32_6.cell 1 rfl
        have t32_6 := B32_6.lt
        have d32_7_0 := B32_7.cell 0 rfl
        have d32_7_1 := B32_7.cell 1 rfl
        have t32_7 := B32_7.lt
        have d32_8_0 := B32_8.cell 0 rfl
        have d32_8_1 := B32_8.cell 1 rfl
        have t32_8 := B32_8.lt
        have d32_9_0 := B32_9.cell 0 rfl
        have d32_9_1 := B32_9.cell 1 rfl
        have t32_9 := B32_9.lt
        rw [RA1]
        go_wp2_with fail
        refine name_calls fun w33 h33 => ?_
        have g33 : Grew w32 w33 := by
          rw [h33]
          repeat' (first | (with_reducible exact Grew.refl _) | (with_reducible refine Grew.setCell ?_ ?_ _) | (with_reducible refine Grew.drewN ?_ _) | (with_reducible refine Grew.reD ?_ _) | (with_reducible refine Grew.alloc ?_ _) | (dsimp only; omega))
        have B33_0 : Blk w33 (w0.heap.size) 28 [.int .i64 ka, .slice pa ma ca] := B32_0.grew g33
        have B33_1 : Blk w33 (w0.heap.size + 1) 28 [.int .i64 kb, .slice pb mb cb] := B32_1.grew g33
        have B33_2 : Blk w33 (w4.heap.size) 28 [.int .i64 kx, .slice px mx cx] := B32_2.grew g33
        have B33_3 : Blk w33 (w4.heap.size + 1) 28 [.int .i64 ky, .slice py my cy] := B32_3.grew g33
        have B33_4 : Blk w33 (w6.heap.size) 28 [.int .i64 kt, .slice pt mt ct] := B32_4.grew g33
        have B33_5 : Blk w33 (w8.heap.size) 28 [.int .i64 ku, .slice pu mu cu] := B32_5.grew g33
        have B33_6 : Blk w33 (w10.heap.size) 28 [.int .i64 kv, .slice pv mv cv] := B32_6.grew g33
        have B33_7 : Blk w33 (w16.heap.size) 28 [.int .i64 kj, .slice pj mj cj] := B32_7.grew g33
        have B33_8 : Blk w33 (w18.heap.size) 28 [.int .i64 kh, .slice ph mh ch] := B32_8.grew g33
        have B33_9 : Blk w33 (w24.heap.size) 28 [.int .i64 kr, .slice pr mr cr] := B32_9.grew g33
        have B33_10 : Blk w33 (w32.heap.size) 28 [.int .i64 ks, .slice ps ms cs] := by (rw [h33]; repeat' (first | (with_reducible assumption) | ((with_reducible refine Blk.new ?_); (first | (with_reducible rfl) | (simp only [World.size_alloc, World.size_setCell, size_drewN]; done))) | (with_reducible refine Blk.alloc ?_ _) | (with_reducible refine Blk.drewN ?_ _) | (with_reducible refine Blk.drew ?_) | (refine Blk.other ?_ (by omega) _) | fail))
        have T33_0 := hide (T32_0.out.grew g33)
        have T33_1 := hide (T32_1.out.grew g33)
        have T33_2 := hide (T32_2.out.grew g33)
        have T33_3 := hide (T32_3.out.grew g33)
        have T33_4 := hide (T32_4.out.grew g33)
        have T33_5 := hide (T32_5.out.grew g33)
        have T33_6 := hide (T32_6.out.grew g33)
        have T33_7 := hide (T32_7.out.grew g33)
        have T33_8 := hide (T32_8.out.grew g33)
        have T33_9 := hide (T32_9.out.grew g33)
        have T33_10 := hide (T32_10.out.grew g33)
        have GG33 := hide (GG32.out.trans g33)
        clear h33 g33 GG32 B32_0 B32_1 B32_2 B32_3 B32_4 B32_5 B32_6 B32_7 B32_8 B32_9 T32_0 T32_1 T32_2 T32_3 T32_4 T32_5 T32_6 T32_7 T32_8 T32_9 T32_10
        clear d32_0_0 d32_0_1 t32_0 d32_1_0 d32_1_1 t32_1 d32_2_0 d32_2_1 t32_2 d32_3_0 d32_3_1 t32_3 d32_4_0 d32_4_1 t32_4 d32_5_0 d32_5_1 t32_5 d32_6_0 d32_6_1 t32_6 d32_7_0 d32_7_1 t32_7 d32_8_0 d32_8_1 t32_8 d32_9_0 d32_9_1 t32_9
        have d33_0_0 := B33_0.cell 0 rfl
        have d33_0_1 := B33_0.cell 1 rfl
        have t33_0 := B33_0.lt
        have d33_1_0 := B33_1.cell 0 rfl
        have d33_1_1 := B33_1.cell 1 rfl
        have t33_1 := B33_1.lt
        have d33_2_0 := B33_2.cell 0 rfl
        have d33_2_1 := B33_2.cell 1 rfl
        have t33_2 := B33_2.lt
        have d33_3_0 := B33_3.cell 0 rfl
        have d33_3_1 := B33_3.cell 1 rfl
        have t33_3 := B33_3.lt
        have d33_4_0 := B33_4.cell 0 rfl
        have d33_4_1 := B33_4.cell 1 rfl
        have t33_4 := B33_4.lt
        have d33_5_0 := B33_5.cell 0 rfl
        have d33_5_1 := B33_5.cell 1 rfl
        have t33_5 := B33_5.lt
        have d33_6_0 := B33_6.cell 0 rfl
        have d33_6_1 := B33_6.cell 1 rfl
        have t33_6 := B33_6.lt
        have d33_7_0 := B33_7.cell 0 rfl
        have d33_7_1 := B33_7.cell 1 rfl
        have t33_7 := B33_7.lt
        have d33_8_0 := B33_8.cell 0 rfl
        have d33_8_1 := B33_8.cell 1 rfl
        have t33_8 := B33_8.lt
        have d33_9_0 := B33_9.cell 0 rfl
        have d33_9_1 := B33_9.cell 1 rfl
        have t33_9 := B33_9.lt
        have d33_10_0 := B33_10.cell 0 rfl
        have d33_10_1 := B33_10.cell 1 rfl
        have t33_10 := B33_10.lt
        refine ((rJoin_any _ _ _ _ w33 _ _ T33_0.out T33_1.out)).mono ?_
        rintro e w34 ⟨v, rfl, tt34, g34⟩
        have B34_0 := B33_0.grew g34
        have B34_1 := B33_1.grew g34
        have B34_2 := B33_2.grew g34
        have B34_3 := B33_3.grew g34
        have B34_4 := B33_4.grew g34
        have B34_5 := B33_5.grew g34
        have B34_6 := B33_6.grew g34
        have B34_7 := B33_7.grew g34
        have B34_8 := B33_8.grew g34
        have B34_9 := B33_9.grew g34
        have B34_10 := B33_10.grew g34
        have T34_0 := hide (T33_0.out.grew g34)
        have T34_1 := hide (T33_1.out.grew g34)
        have T34_2 := hide (T33_2.out.grew g34)
        have T34_3 := hide (T33_3.out.grew g34)
        have T34_4 := hide (T33_4.out.grew g34)
        have T34_5 := hide (T33_5.out.grew g34)
        have T34_6 := hide (T33_6.out.grew g34)
        have T34_7 := hide (T33_7.out.grew g34)
        have T34_8 := hide (T33_8.out.grew g34)
        have T34_9 := hide (T33_9.out.grew g34)
        have T34_10 := hide (T33_10.out.grew g34)
        have GG34 := hide (GG33.out.trans g34)
        clear g34 GG33 B33_0 B33_1 B33_2 B33_3 B33_4 B33_5 B33_6 B33_7 B33_8 B33_9 B33_10 T33_0 T33_1 T33_2 T33_3 T33_4 T33_5 T33_6 T33_7 T33_8 T33_9 T33_10
        clear d33_0_0 d33_0_1 t33_0 d33_1_0 d33_1_1 t33_1 d33_2_0 d33_2_1 t33_2 d33_3_0 d33_3_1 t33_3 d33_4_0 d33_4_1 t33_4 d33_5_0 d33_5_1 t33_5 d33_6_0 d33_6_1 t33_6 d33_7_0 d33_7_1 t33_7 d33_8_0 d33_8_1 t33_8 d33_9_0 d33_9_1 t33_9 d33_10_0 d33_10_1 t33_10
        have T34_11 := hide (TyIn.weak (fun _ _ => trivial) tt34 : TyIn w34 (fun _ => True) _ _)
        obtain ⟨kw, mw, fw, pw, cw, -, rfl⟩ := tt34.root
        clear tt34
        have d34_0_0 := B34_0.cell 0 rfl
        have d34_0_1 := B34_0.cell 1 rfl
        have t34_0 := B34_0.lt
        have d34_1_0 := B34_1.cell 0 rfl
        have d34_1_1 := B34_1.cell 1 rfl
        have t34_1 := B34_1.lt
        have d34_2_0 := B34_2.cell 0 rfl
        have d34_2_1 := B34_2.cell 1 rfl
        have t34_2 := B34_2.lt
        have d34_3_0 := B34_3.cell 0 rfl
        have d34_3_1 := B34_3.cell 1 rfl
        have t34_3 := B34_3.lt
        have d34_4_0 := B34_4.cell 0 rfl
        have d34_4_1 := B34_4.cell 1 rfl
        have t34_4 := B34_4.lt
        have d34_5_0 := B34_5.cell 0 rfl
        have d34_5_1 := B34_5.cell 1 rfl
        have t34_5 := B34_5.lt
        have d34_6_0 := B34_6.cell 0 rfl
        have d34_6_1 := B34_6.cell 1 rfl
        have t34_6 := B34_6.lt
        have d34_7_0 := B34_7.cell 0 rfl
        have d34_7_1 := B34_7.cell 1 rfl
        have t34_7 := B34_7.lt
        have d34_8_0 := B34_8.cell 0 rfl
        have d34_8_1 := B34_8.cell 1 rfl
        have t34_8 := B34_8.lt
        have d34_9_0 := B34_9.cell 0 rfl
        have d34_9_1 := B34_9.cell 1 rfl
        have t34_9 := B34_9.lt
        have d34_10_0 := B34_10.cell 0 rfl
        have d34_10_1 := B34_10.cell 1 rfl
        have t34_10 := B34_10.lt
        rw [ho2]
        have hoo : (o2 == o2) = true := by cases o2 <;> rfl
        go_wp2_with fail
        refine name_calls fun w35 h35 => ?_
        have g35 : Grew w34 w35 := by
          rw [h35]
          repeat' (first | (with_reducible exact Grew.refl _) | (with_reducible refine Grew.setCell ?_ ?_ _) | (with_reducible refine Grew.drewN ?_ _) | (with_reducible refine Grew.reD ?_ _) | (with_reducible refine Grew.alloc ?_ _) | (dsimp only; omega))
        have B35_0 : Blk w35 (w0.heap.size) 28 [.int .i64 ka, .slice pa ma ca] := B34_0.grew g35
        have B35_1 : Blk w35 (w0.heap.size + 1) 28 [.int .i64 kb, .slice pb mb cb] := B34_1.grew g35
        have B35_2 : Blk w35 (w4.heap.size) 28 [.int .i64 kx, .slice px mx cx] := B34_2.grew g35
        have B35_3 : Blk w35 (w4.heap.size + 1) 28 [.int .i64 ky, .slice py my cy] := B34_3.grew g35
        have B35_4 : Blk w35 (w6.heap.size) 28 [.int .i64 kt, .slice pt mt ct] := B34_4.grew g35
        have B35_5 : Blk w35 (w8.heap.size) 28 [.int .i64 ku, .slice pu mu cu] := B34_5.grew g35
        have B35_6 : Blk w35 (w10.heap.size) 28 [.int .i64 kv, .slice pv mv cv] := B34_6.grew g35
        have B35_7 : Blk w35 (w16.heap.size) 28 [.int .i64 kj, .slice pj mj cj] := B34_7.grew g35
        have B35_8 : Blk w35 (w18.heap.size) 28 [.int .i64 kh, .slice ph mh ch] := B34_8.grew g35
        have B35_9 : Blk w35 (w24.heap.size) 28 [.int .i64 kr, .slice pr mr cr] := B34_9.grew g35
        have B35_10 : Blk w35 (w32.heap.size) 28 [.int .i64 ks, .slice ps ms cs] := B34_10.grew g35
        have B35_11 : Blk w35 (w34.heap.size) 28 [.int .i64 kw, .slice pw mw cw] := by (rw [h35]; repeat' (first | (with_reducible assumption) | ((with_reducible refine Blk.new ?_); (first | (with_reducible rfl) | (simp only [World.size_alloc, World.size_setCell, size_drewN]; done))) | (with_reducible refine Blk.alloc ?_ _) | (with_reducible refine Blk.drewN ?_ _) | (with_reducible refine Blk.drew ?_) | (refine Blk.other ?_ (by omega) _) | fail))
        have T35_0 := hide (T34_0.out.grew g35)
        have T35_1 := hide (T34_1.out.grew g35)
        have T35_2 := hide (T34_2.out.grew g35)
        have T35_3 := hide (T34_3.out.grew g35)
        have T35_4 := hide (T34_4.out.grew g35)
        have T35_5 := hide (T34_5.out.grew g35)
        have T35_6 := hide (T34_6.out.grew g35)
        have T35_7 := hide (T34_7.out.grew g35)
        have T35_8 := hide (T34_8.out.grew g35)
        have T35_9 := hide (T34_9.out.grew g35)
        have T35_10 := hide (T34_10.out.grew g35)
        have T35_11 := hide (T34_11.out.grew g35)
        have GG35 := hide (GG34.out.trans g35)
        clear h35 g35 GG34 B34_0 B34_1 B34_2 B34_3 B34_4 B34_5 B34_6 B34_7 B34_8 B34_9 B34_10 T34_0 T34_1 T34_2 T34_3 T34_4 T34_5 T34_6 T34_7 T34_8 T34_9 T34_10 T34_11
        clear d34_0_0 d34_0_1 t34_0 d34_1_0 d34_1_1 t34_1 d34_2_0 d34_2_1 t34_2 d34_3_0 d34_3_1 t34_3 d34_4_0 d34_4_1 t34_4 d34_5_0 d34_5_1 t34_5 d34_6_0 d34_6_1 t34_6 d34_7_0 d34_7_1 t34_7 d34_8_0 d34_8_1 t34_8 d34_9_0 d34_9_1 t34_9 d34_10_0 d34_10_1 t34_10
        have d35_0_0 := B35_0.cell 0 rfl
        have d35_0_1 := B35_0.cell 1 rfl
        have t35_0 := B35_0.lt
        have d35_1_0 := B35_1.cell 0 rfl
        have d35_1_1 := B35_1.cell 1 rfl
        have t35_1 := B35_1.lt
        have d35_2_0 := B35_2.cell 0 rfl
        have d35_2_1 := B35_2.cell 1 rfl
        have t35_2 := B35_2.lt
        have d35_3_0 := B35_3.cell 0 rfl
        have d35_3_1 := B35_3.cell 1 rfl
        have t35_3 := B35_3.lt
        have d35_4_0 := B35_4.cell 0 rfl
        have d35_4_1 := B35_4.cell 1 rfl
        have t35_4 := B35_4.lt
        have d35_5_0 := B35_5.cell 0 rfl
        have d35_5_1 := B35_5.cell 1 rfl
        have t35_5 := B35_5.lt
        have d35_6_0 := B35_6.cell 0 rfl
        have d35_6_1 := B35_6.cell 1 rfl
        have t35_6 := B35_6.lt
        have d35_7_0 := B35_7.cell 0 rfl
        have d35_7_1 := B35_7.cell 1 rfl
        have t35_7 := B35_7.lt
        have d35_8_0 := B35_8.cell 0 rfl
        have d35_8_1 := B35_8.cell 1 rfl
        have t35_8 := B35_8.lt
        have d35_9_0 := B35_9.cell 0 rfl
        have d35_9_1 := B35_9.cell 1 rfl
        have t35_9 := B35_9.lt
        have d35_10_0 := B35_10.cell 0 rfl
        have d35_10_1 := B35_10.cell 1 rfl
        have t35_10 := B35_10.lt
        have d35_11_0 := B35_11.cell 0 rfl
        have d35_11_1 := B35_11.cell 1 rfl
        have t35_11 := B35_11.lt
        refine (SameType_any _ _ _ _ w35 _ _ T35_10.out T35_11.out).mono ?_
        rintro e w36 ⟨rfl, g36⟩
        have B36_0 := B35_0.grew g36
        have B36_1 := B35_1.grew g36
        have B36_2 := B35_2.grew g36
        have B36_3 := B35_3.grew g36
        have B36_4 := B35_4.grew g36
        have B36_5 := B35_5.grew g36
        have B36_6 := B35_6.grew g36
        have B36_7 := B35_7.grew g36
        have B36_8 := B35_8.grew g36
        have B36_9 := B35_9.grew g36
        have B36_10 := B35_10.grew g36
        have B36_11 := B35_11.grew g36
        have T36_0 := hide (T35_0.out.grew g36)
        have T36_1 := hide (T35_1.out.grew g36)
        have T36_2 := hide (T35_2.out.grew g36)
        have T36_3 := hide (T35_3.out.grew g36)
        have T36_4 := hide (T35_4.out.grew g36)
        have T36_5 := hide (T35_5.out.grew g36)
        have T36_6 := hide (T35_6.out.grew g36)
        have T36_7 := hide (T35_7.out.grew g36)
        have T36_8 := hide (T35_8.out.grew g36)
        have T36_9 := hide (T35_9.out.grew g36)
        have T36_10 := hide (T35_10.out.grew g36)
        have T36_11 := hide (T35_11.out.grew g36)
        have GG36 := hide (GG35.out.trans g36)
        clear g36 GG35 B35_0 B35_1 B35_2 B35_3 B35_4 B35_5 B35_6 B35_7 B35_8 B35_9 B35_10 B35_11 T35_0 T35_1 T35_2 T35_3 T35_4 T35_5 T35_6 T35_7 T35_8 T35_9 T35_10 T35_11
        clear d35_0_0 d35_0_1 t35_0 d35_1_0 d35_1_1 t35_1 d35_2_0 d35_2_1 t35_2 d35_3_0 d35_3_1 t35_3 d35_4_0 d35_4_1 t35_4 d35_5_0 d35_5_1 t35_5 d35_6_0 d35_6_1 t35_6 d35_7_0 d35_7_1 t35_7 d35_8_0 d35_8_1 t35_8 d35_9_0 d35_9_1 t35_9 d35_10_0 d35_10_1 t35_10 d35_11_0 d35_11_1 t35_11
        have d36_0_0 := B36_0.cell 0 rfl
        have d36_0_1 := B36_0.cell 1 rfl
        have t36_0 := B36_0.lt
        have d36_1_0 := B36_1.cell 0 rfl
        have d36_1_1 := B36_1.cell 1 rfl
        have t36_1 := B36_1.lt
        have d36_2_0 := B36_2.cell 0 rfl
        have d36_2_1 := B36_2.cell 1 rfl
        have t36_2 := B36_2.lt
        have d36_3_0 := B36_3.cell 0 rfl
        have d36_3_1 := B36_3.cell 1 rfl
        have t36_3 := B36_3.lt
        have d36_4_0 := B36_4.cell 0 rfl
        have d36_4_1 := B36_4.cell 1 rfl
        have t36_4 := B36_4.lt
        have d36_5_0 := B36_5.cell 0 rfl
        have d36_5_1 := B36_5.cell 1 rfl
        have t36_5 := B36_5.lt
        have d36_6_0 := B36_6.cell 0 rfl
        have d36_6_1 := B36_6.cell 1 rfl
        have t36_6 := B36_6.lt
        have d36_7_0 := B36_7.cell 0 rfl
        have d36_7_1 := B36_7.cell 1 rfl
        have t36_7 := B36_7.lt
        have d36_8_0 := B36_8.cell 0 rfl
        have d36_8_1 := B36_8.cell 1 rfl
        have t36_8 := B36_8.lt
        have d36_9_0 := B36_9.cell 0 rfl
        have d36_9_1 := B36_9.cell 1 rfl
        have t36_9 := B36_9.lt
        have d36_10_0 := B36_10.cell 0 rfl
        have d36_10_1 := B36_10.cell 1 rfl
        have t36_10 := B36_10.lt
        have d36_11_0 := B36_11.cell 0 rfl
        have d36_11_1 := B36_11.cell 1 rfl
        have t36_11 := B36_11.lt
        rw [RA2]
        go_wp2_with fail
        refine name_calls fun w37 h37 => ?_
        have g37 : Grew w36 w37 := by
          rw [h37]
          repeat' (first | (with_reducible exact Grew.refl _) | (with_reducible refine Grew.setCell ?_ ?_ _) | (with_reducible refine Grew.drewN ?_ _) | (with_reducible refine Grew.reD ?_ _) | (with_reducible refine Grew.alloc ?_ _) | (dsimp only; omega))
        have B37_0 : Blk w37 (w0.heap.size) 28 [.int .i64 ka, .slice pa ma ca] := B36_0.grew g37
        have B37_1 : Blk w37 (w0.heap.size + 1) 28 [.int .i64 kb, .slice pb mb cb] := B36_1.grew g37
        have B37_2 : Blk w37 (w4.heap.size) 28 [.int .i64 kx, .slice px mx cx] := B36_2.grew g37
        have B37_3 : Blk w37 (w4.heap.size + 1) 28 [.int .i64 ky, .slice py my cy] := B36_3.grew g37
        have B37_4 : Blk w37 (w6.heap.size) 28 [.int .i64 kt, .slice pt mt ct] := B36_4.grew g37
        have B37_5 : Blk w37 (w8.heap.size) 28 [.int .i64 ku, .slice pu mu cu] := B36_5.grew g37
        have B37_6 : Blk w37 (w10.heap.size) 28 [.int .i64 kv, .slice pv mv cv] := B36_6.grew g37
        have B37_7 : Blk w37 (w16.heap.size) 28 [.int .i64 kj, .slice pj mj cj] := B36_7.grew g37
        have B37_8 : Blk w37 (w18.heap.size) 28 [.int .i64 kh, .slice ph mh ch] := B36_8.grew g37
        have B37_9 : Blk w37 (w24.heap.size) 28 [.int .i64 kr, .slice pr mr cr] := B36_9.grew g37
        have B37_10 : Blk w37 (w32.heap.size) 28 [.int .i64 ks, .slice ps ms cs] := B36_10.grew g37
        have B37_11 : Blk w37 (w34.heap.size) 28 [.int .i64 kw, .slice pw mw cw] := B36_11.grew g37
        have T37_0 := hide (T36_0.out.grew g37)
        have T37_1 := hide (T36_1.out.grew g37)
        have T37_2 := hide (T36_2.out.grew g37)
        have T37_3 := hide (T36_3.out.grew g37)
        have T37_4 := hide (T36_4.out.grew g37)
        have T37_5 := hide (T36_5.out.grew g37)
        have T37_6 := hide (T36_6.out.grew g37)
        have T37_7 := hide (T36_7.out.grew g37)
        have T37_8 := hide (T36_8.out.grew g37)
        have T37_9 := hide (T36_9.out.grew g37)
        have T37_10 := hide (T36_10.out.grew g37)
        have T37_11 := hide (T36_11.out.grew g37)
        have GG37 := hide (GG36.out.trans g37)
        clear h37 g37 GG36 B36_0 B36_1 B36_2 B36_3 B36_4 B36_5 B36_6 B36_7 B36_8 B36_9 B36_10 B36_11 T36_0 T36_1 T36_2 T36_3 T36_4 T36_5 T36_6 T36_7 T36_8 T36_9 T36_10 T36_11
        clear d36_0_0 d36_0_1 t36_0 d36_1_0 d36_1_1 t36_1 d36_2_0 d36_2_1 t36_2 d36_3_0 d36_3_1 t36_3 d36_4_0 d36_4_1 t36_4 d36_5_0 d36_5_1 t36_5 d36_6_0 d36_6_1 t36_6 d36_7_0 d36_7_1 t36_7 d36_8_0 d36_8_1 t36_8 d36_9_0 d36_9_1 t36_9 d36_10_0 d36_10_1 t36_10 d36_11_0 d36_11_1 t36_11
        have d37_0_0 := B37_0.cell 0 rfl
        have d37_0_1 := B37_0.cell 1 rfl
        have t37_0 := B37_0.lt
        have d37_1_0 := B37_1.cell 0 rfl
        have d37_1_1 := B37_1.cell 1 rfl
        have t37_1 := B37_1.lt
        have d37_2_0 := B37_2.cell 0 rfl
        have d37_2_1 := B37_2.cell 1 rfl
        have t37_2 := B37_2.lt
        have d37_3_0 := B37_3.cell 0 rfl
        have d37_3_1 := B37_3.cell 1 rfl
        have t37_3 := B37_3.lt
        have d37_4_0 := B37_4.cell 0 rfl
        have d37_4_1 := B37_4.cell 1 rfl
        have t37_4 := B37_4.lt
        have d37_5_0 := B37_5.cell 0 rfl
        have d37_5_1 := B37_5.cell 1 rfl
        have t37_5 := B37_5.lt
        have d37_6_0 := B37_6.cell 0 rfl
        have d37_6_1 := B37_6.cell 1 rfl
        have t37_6 := B37_6.lt
        have d37_7_0 := B37_7.cell 0 rfl
        have d37_7_1 := B37_7.cell 1 rfl
        have t37_7 := B37_7.lt
        have d37_8_0 := B37_8.cell 0 rfl
        have d37_8_1 := B37_8.cell 1 rfl
        have t37_8 := B37_8.lt
        have d37_9_0 := B37_9.cell 0 rfl
        have d37_9_1 := B37_9.cell 1 rfl
        have t37_9 := B37_9.lt
        have d37_10_0 := B37_10.cell 0 rfl
        have d37_10_1 := B37_10.cell 1 rfl
        have t37_10 := B37_10.lt
        have d37_11_0 := B37_11.cell 0 rfl
        have d37_11_1 := B37_11.cell 1 rfl
        have t37_11 := B37_11.lt
        refine ((AW w37).out).mono ?_
        rintro e w38 ⟨rfl, g38⟩
        have B38_0 := B37_0.grew g38
        have B38_1 := B37_1.grew g38
        have B38_2 := B37_2.grew g38
        have B38_3 := B37_3.grew g38
        have B38_4 := B37_4.grew g38
        have B38_5 := B37_5.grew g38
        have B38_6 := B37_6.grew g38
        have B38_7 := B37_7.grew g38
        have B38_8 := B37_8.grew g38
        have B38_9 := B37_9.grew g38
        have B38_10 := B37_10.grew g38
        have B38_11 := B37_11.grew g38
        have T38_0 := hide (T37_0.out.grew g38)
        have T38_1 := hide (T37_1.out.grew g38)
        have T38_2 := hide (T37_2.out.grew g38)
        have T38_3 := hide (T37_3.out.grew g38)
        have T38_4 := hide (T37_4.out.grew g38)
        have T38_5 := hide (T37_5.out.grew g38)
        have T38_6 := hide (T37_6.out.grew g38)
        have T38_7 := hide (T37_7.out.grew g38)
        have T38_8 := hide (T37_8.out.grew g38)
        have T38_9 := hide (T37_9.out.grew g38)
        have T38_10 := hide (T37_10.out.grew g38)
        have T38_11 := hide (T37_11.out.grew g38)
        have GG38 := hide (GG37.out.trans g38)
        clear g38 GG37 B37_0 B37_1 B37_2 B37_3 B37_4 B37_5 B37_6 B37_7 B37_8 B37_9 B37_10 B37_11 T37_0 T37_1 T37_2 T37_3 T37_4 T37_5 T37_6 T37_7 T37_8 T37_9 T37_10 T37_11
        clear d37_0_0 d37_0_1 t37_0 d37_1_0 d37_1_1 t37_1 d37_2_0 d37_2_1 t37_2 d37_3_0 d37_3_1 t37_3 d37_4_0 d37_4_1 t37_4 d37_5_0 d37_5_1 t37_5 d37_6_0 d37_6_1 t37_6 d37_7_0 d37_7_1 t37_7 d37_8_0 d37_8_1 t37_8 d37_9_0 d37_9_1 t37_9 d37_10_0 d37_10_1 t37_10 d37_11_0 d37_11_1 t37_11
        have d38_0_0 := B38_0.cell 0 rfl
        have d38_0_1 := B38_0.cell 1 rfl
        have t38_0 := B38_0.lt
        have d38_1_0 := B38_1.cell 0 rfl
        have d38_1_1 := B38_1.cell 1 rfl
        have t38_1 := B38_1.lt
        have d38_2_0 := B38_2.cell 0 rfl
        have d38_2_1 := B38_2.cell 1 rfl
        have t38_2 := B38_2.lt
        have d38_3_0 := B38_3.cell 0 rfl
        have d38_3_1 := B38_3.cell 1 rfl
        have t38_3 := B38_3.lt
        have d38_4_0 := B38_4.cell 0 rfl
        have d38_4_1 := B38_4.cell 1 rfl
        have t38_4 := B38_4.lt
        have d38_5_0 := B38_5.cell 0 rfl
        have d38_5_1 := B38_5.cell 1 rfl
        have t38_5 := B38_5.lt
        have d38_6_0 := B38_6.cell 0 rfl
        have d38_6_1 := B38_6.cell 1 rfl
        have t38_6 := B38_6.lt
        have d38_7_0 := B38_7.cell 0 rfl
        have d38_7_1 := B38_7.cell 1 rfl
        have t38_7 := B38_7.lt
        have d38_8_0 := B38_8.cell 0 rfl
        have d38_8_1 := B38_8.cell 1 rfl
        have t38_8 := B38_8.lt
        have d38_9_0 := B38_9.cell 0 rfl
        have d38_9_1 := B38_9.cell 1 rfl
        have t38_9 := B38_9.lt
        have d38_10_0 := B38_10.cell 0 rfl
        have d38_10_1 := B38_10.cell 1 rfl
        have t38_10 := B38_10.lt
        have d38_11_0 := B38_11.cell 0 rfl
        have d38_11_1 := B38_11.cell 1 rfl
        have t38_11 := B38_11.lt
        go_wp2
        go_ret
        exact ⟨rfl, GG38.out.1⟩
  | false =>
    go_wp2_with fail
    refine name_calls fun w11 h11 => ?_
    have g11 : Grew w10 w11 := by
      rw [h11]
      repeat' (first | (with_reducible exact Grew.refl _) | (with_reducible refine Grew.setCell ?_ ?_ _) | (with_reducible refine Grew.drewN ?_ _) | (with_reducible refine Grew.reD ?_ _) | (with_reducible refine Grew.alloc ?_ _) | (dsimp only; omega))
    have B11_0 : Blk w11 (w0.heap.size) 28 [.int .i64 ka, .slice pa ma ca] := B10_0.grew g11
    have B11_1 : Blk w11 (w0.heap.size + 1) 28 [.int .i64 kb, .slice pb mb cb] := B10_1.grew g11
    have B11_2 : Blk w11 (w4.heap.size) 28 [.int .i64 kx, .slice px mx cx] := B10_2.grew g11
    have B11_3 : Blk w11 (w4.heap.size + 1) 28 [.int .i64 ky, .slice py my cy] := B10_3.grew g11
    have B11_4 : Blk w11 (w6.heap.size) 28 [.int .i64 kt, .slice pt mt ct] := B10_4.grew g11
    have B11_5 : Blk w11 (w8.heap.size) 28 [.int .i64 ku, .slice pu mu cu] := B10_5.grew g11
    have B11_6 : Blk w11 (w10.heap.size) 28 [.int .i64 kv, .slice pv mv cv] := by (rw [h11]; repeat' (first | (with_reducible assumption) | ((with_reducible refine Blk.new ?_); (first | (with_reducible rfl) | (simp only [World.size_alloc, World.size_setCell, size_drewN]; done))) | (with_reducible refine Blk.alloc ?_ _) | (with_reducible refine Blk.drewN ?_ _) | (with_reducible refine Blk.drew ?_) | (refine Blk.other ?_ (by omega) _) | fail))
    have T11_0 := hide (T10_0.out.grew g11)
    have T11_1 := hide (T10_1.out.grew g11)
    have T11_2 := hide (T10_2.out.grew g11)
    have T11_3 := hide (T10_3.out.grew g11)
    have T11_4 := hide (T10_4.out.grew g11)
    have T11_5 := hide (T10_5.out.grew g11)
    have T11_6 := hide (T10_6.out.grew g11)
    have GG11 := hide (GG10.out.trans g11)
    clear h11 g11 GG10 B10_0 B10_1 B10_2 B10_3 B10_4 B10_5 T10_0 T10_1 T10_2 T10_3 T10_4 T10_5 T10_6
    clear d10_0_0 d10_0_1 t10_0 d10_1_0 d10_1_1 t10_1 d10_2_0 d10_2_1 t10_2 d10_3_0 d10_3_1 t10_3 d10_4_0 d10_4_1 t10_4 d10_5_0 d10_5_1 t10_5
    have d11_0_0 := B11_0.cell 0 rfl
    have d11_0_1 := B11_0.cell 1 rfl
    have t11_0 := B11_0.lt
    have d11_1_0 := B11_1.cell 0 rfl
    have d11_1_1 := B11_1.cell 1 rfl
    have t11_1 := B11_1.lt
    have d11_2_0 := B11_2.cell 0 rfl
    have d11_2_1 := B11_2.cell 1 rfl
    have t11_2 := B11_2.lt
    have d11_3_0 := B11_3.cell 0 rfl
    have d11_3_1 := B11_3.cell 1 rfl
    have t11_3 := B11_3.lt
    have d11_4_0 := B11_4.cell 0 rfl
    have d11_4_1 := B11_4.cell 1 rfl
    have t11_4 := B11_4.lt
    have d11_5_0 := B11_5.cell 0 rfl
    have d11_5_1 := B11_5.cell 1 rfl
    have t11_5 := B11_5.lt
    have d11_6_0 := B11_6.cell 0 rfl
    have d11_6_1 := B11_6.cell 1 rfl
    have t11_6 := B11_6.lt
    refine (SameType_any _ _ _ _ w11 _ _ T11_6.out T11_2.out).mono ?_
    rintro e w12 ⟨rfl, g12⟩
    have B12_0 := B11_0.grew g12
    have B12_1 := B11_1.grew g12
    have B12_2 := B11_2.grew g12
    have B12_3 := B11_3.grew g12
    have B12_4 := B11_4.grew g12
    have B12_5 := B11_5.grew g12
    have B12_6 := B11_6.grew g12
    have T12_0 := hide (T11_0.out.grew g12)
    have T12_1 := hide (T11_1.out.grew g12)
    have T12_2 := hide (T11_2.out.grew g12)
    have T12_3 := hide (T11_3.out.grew g12)
    have T12_4 := hide (T11_4.out.grew g12)
    have T12_5 := hide (T11_5.out.grew g12)
    have T12_6 := hide (T11_6.out.grew g12)
    have GG12 := hide (GG11.out.trans g12)
    clear g12 GG11 B11_0 B11_1 B11_2 B11_3 B11_4 B11_5 B11_6 T11_0 T11_1 T11_2 T11_3 T11_4 T11_5 T11_6
    clear d11_0_0 d11_0_1 t11_0 d11_1_0 d11_1_1 t11_1 d11_2_0 d11_2_1 t11_2 d11_3_0 d11_3_1 t11_3 d11_4_0 d11_4_1 t11_4 d11_5_0 d11_5_1 t11_5 d11_6_0 d11_6_1 t11_6
    have d12_0_0 := B12_0.cell 0 rfl
    have d12_0_1 := B12_0.cell 1 rfl
    have t12_0 := B12_0.lt
    have d12_1_0 := B12_1.cell 0 rfl
    have d12_1_1 := B12_1.cell 1 rfl
    have t12_1 := B12_1.lt
    have d12_2_0 := B12_2.cell 0 rfl
    have d12_2_1 := B12_2.cell 1 rfl
    have t12_2 := B12_2.lt
    have d12_3_0 := B12_3.cell 0 rfl
    have d12_3_1 := B12_3.cell 1 rfl
    have t12_3 := B12_3.lt
    have d12_4_0 := B12_4.cell 0 rfl
    have d12_4_1 := B12_4.cell 1 rfl
    have t12_4 := B12_4.lt
    have d12_5_0 := B12_5.cell 0 rfl
    have d12_5_1 := B12_5.cell 1 rfl
    have t12_5 := B12_5.lt
    have d12_6_0 := B12_6.cell 0 rfl
    have d12_6_1 := B12_6.cell 1 rfl
    have t12_6 := B12_6.lt
    rw [L3]
    go_wp2_with fail
    refine name_calls fun w13 h13 => ?_
    have g13 : Grew w12 w13 := by
      rw [h13]
      repeat' (first | (with_reducible exact Grew.refl _) | (with_reducible refine Grew.setCell ?_ ?_ _) | (with_reducible refine Grew.drewN ?_ _) | (with_reducible refine Grew.reD ?_ _) | (with_reducible refine Grew.alloc ?_ _) | (dsimp only; omega))
    have B13_0 : Blk w13 (w0.heap.size) 28 [.int .i64 ka, .slice pa ma ca] := B12_0.grew g13
    have B13_1 : Blk w13 (w0.heap.size + 1) 28 [.int .i64 kb, .slice pb mb cb] := B12_1.grew g13
    have B13_2 : Blk w13 (w4.heap.size) 28 [.int .i64 kx, .slice px mx cx] := B12_2.grew g13
    have B13_3 : Blk w13 (w4.heap.size + 1) 28 [.int .i64 ky, .slice py my cy] := B12_3.grew g13
    have B13_4 : Blk w13 (w6.heap.size) 28 [.int .i64 kt, .slice pt mt ct] := B12_4.grew g13
    have B13_5 : Blk w13 (w8.heap.size) 28 [.int .i64 ku, .slice pu mu cu] := B12_5.grew g13
    have B13_6 : Blk w13 (w10.heap.size) 28 [.int .i64 kv, .slice pv mv cv] := B12_6.grew g13
    have T13_0 := hide (T12_0.out.grew g13)
    have T13_1 := hide (T12_1.out.grew g13)
    have T13_2 := hide (T12_2.out.grew g13)
    have T13_3 := hide (T12_3.out.grew g13)
    have T13_4 := hide (T12_4.out.grew g13)
    have T13_5 := hide (T12_5.out.grew g13)
    have T13_6 := hide (T12_6.out.grew g13)
    have GG13 := hide (GG12.out.trans g13)
    clear h13 g13 GG12 B12_0 B12_1 B12_2 B12_3 B12_4 B12_5 B12_6 T12_0 T12_1 T12_2 T12_3 T12_4 T12_5 T12_6
    clear d12_0_0 d12_0_1 t12_0 d12_1_0 d12_1_1 t12_1 d12_2_0 d12_2_1 t12_2 d12_3_0 d12_3_1 t12_3 d12_4_0 d12_4_1 t12_4 d12_5_0 d12_5_1 t12_5 d12_6_0 d12_6_1 t12_6
    have d13_0_0 := B13_0.cell 0 rfl
    have d13_0_1 := B13_0.cell 1 rfl
    have t13_0 := B13_0.lt
    have d13_1_0 := B13_1.cell 0 rfl
    have d13_1_1 := B13_1.cell 1 rfl
    have t13_1 := B13_1.lt
    have d13_2_0 := B13_2.cell 0 rfl
    have d13_2_1 := B13_2.cell 1 rfl
    have t13_2 := B13_2.lt
    have d13_3_0 := B13_3.cell 0 rfl
    have d13_3_1 := B13_3.cell 1 rfl
    have t13_3 := B13_3.lt
    have d13_4_0 := B13_4.cell 0 rfl
    have d13_4_1 := B13_4.cell 1 rfl
    have t13_4 := B13_4.lt
    have d13_5_0 := B13_5.cell 0 rfl
    have d13_5_1 := B13_5.cell 1 rfl
    have t13_5 := B13_5.lt
    have d13_6_0 := B13_6.cell 0 rfl
    have d13_6_1 := B13_6.cell 1 rfl
    have t13_6 := B13_6.lt
    refine ((rJoin_any _ _ _ _ w13 _ _ T13_2.out T13_3.out)).mono ?_
    rintro e w14 ⟨v, rfl, tt14, g14⟩
    have B14_0 := B13_0.grew g14
    have B14_1 := B13_1.grew g14
    have B14_2 := B13_2.grew g14
    have B14_3 := B13_3.grew g14
    have B14_4 := B13_4.grew g14
    have B14_5 := B13_5.grew g14
    have B14_6 := B13_6.grew g14
    have T14_0 := hide (T13_0.out.grew g14)
    have T14_1 := hide (T13_1.out.grew g14)
    have T14_2 := hide (T13_2.out.grew g14)
    have T14_3 := hide (T13_3.out.grew g14)
    have T14_4 := hide (T13_4.out.grew g14)
    have T14_5 := hide (T13_5.out.grew g14)
    have T14_6 := hide (T13_6.out.grew g14)
    have GG14 := hide (GG13.out.trans g14)
    clear g14 GG13 B13_0 B13_1 B13_2 B13_3 B13_4 B13_5 B13_6 T13_0 T13_1 T13_2 T13_3 T13_4 T13_5 T13_6
    clear d13_0_0 d13_0_1 t13_0 d13_1_0 d13_1_1 t13_1 d13_2_0 d13_2_1 t13_2 d13_3_0 d13_3_1 t13_3 d13_4_0 d13_4_1 t13_4 d13_5_0 d13_5_1 t13_5 d13_6_0 d13_6_1 t13_6
    have T14_7 := hide (TyIn.weak (fun _ _ => trivial) tt14 : TyIn w14 (fun _ => True) _ _)
    obtain ⟨kr, mr, fr, pr, cr, -, rfl⟩ := tt14.root
    clear tt14
    have d14_0_0 := B14_0.cell 0 rfl
    have d14_0_1 := B14_0.cell 1 rfl
    have t14_0 := B14_0.lt
    have d14_1_0 := B14_1.cell 0 rfl
    have d14_1_1 := B14_1.cell 1 rfl
    have t14_1 := B14_1.lt
    have d14_2_0 := B14_2.cell 0 rfl
    have d14_2_1 := B14_2.cell 1 rfl
    have t14_2 := B14_2.lt
    have d14_3_0 := B14_3.cell 0 rfl
    have d14_3_1 := B14_3.cell 1 rfl
    have t14_3 := B14_3.lt
    have d14_4_0 := B14_4.cell 0 rfl
    have d14_4_1 := B14_4.cell 1 rfl
    have t14_4 := B14_4.lt
    have d14_5_0 := B14_5.cell 0 rfl
    have d14_5_1 := B14_5.cell 1 rfl
    have t14_5 := B14_5.lt
    have d14_6_0 := B14_6.cell 0 rfl
    have d14_6_1 := B14_6.cell 1 rfl
    have t14_6 := B14_6.lt
    rw [RJ1]
    go_wp2_with fail
    refine name_calls fun w15 h15 => ?_
    have g15 : Grew w14 w15 := by
      rw [h15]
      repeat' (first | (with_reducible exact Grew.refl _) | (with_reducible refine Grew.setCell ?_ ?_ _) | (with_reducible refine Grew.drewN ?_ _) | (with_reducible refine Grew.reD ?_ _) | (with_reducible refine Grew.alloc ?_ _) | (dsimp only; omega))
    have B15_0 : Blk w15 (w0.heap.size) 28 [.int .i64 ka, .slice pa ma ca] := B14_0.grew g15
    have B15_1 : Blk w15 (w0.heap.size + 1) 28 [.int .i64 kb, .slice pb mb cb] := B14_1.grew g15
    have B15_2 : Blk w15 (w4.heap.size) 28 [.int .i64 kx, .slice px mx cx] := B14_2.grew g15
    have B15_3 : Blk w15 (w4.heap.size + 1) 28 [.int .i64 ky, .slice py my cy] := B14_3.grew g15
    have B15_4 : Blk w15 (w6.heap.size) 28 [.int .i64 kt, .slice pt mt ct] := B14_4.grew g15
    have B15_5 : Blk w15 (w8.heap.size) 28 [.int .i64 ku, .slice pu mu cu] := B14_5.grew g15
    have B15_6 : Blk w15 (w10.heap.size) 28 [.int .i64 kv, .slice pv mv cv] := B14_6.grew g15
    have B15_7 : Blk w15 (w14.heap.size) 28 [.int .i64 kr, .slice pr mr cr] := by (rw [h15]; repeat' (first | (with_reducible assumption) | ((with_reducible refine Blk.new ?_); (first | (with_reducible rfl) | (simp only [World.size_alloc, World.size_setCell, size_drewN]; done))) | (with_reducible refine Blk.alloc ?_ _) | (with_reducible refine Blk.drewN ?_ _) | (with_reducible refine Blk.drew ?_) | (refine Blk.other ?_ (by omega) _) | fail))
    have T15_0 := hide (T14_0.out.grew g15)
    have T15_1 := hide (T14_1.out.grew g15)
    have T15_2 := hide (T14_2.out.grew g15)
    have T15_3 := hide (T14_3.out.grew g15)
    have T15_4 := hide (T14_4.out.grew g15)
    have T15_5 := hide (T14_5.out.grew g15)
    have T15_6 := hide (T14_6.out.grew g15)
    have T15_7 := hide (T14_7.out.grew g15)
    have GG15 := hide (GG14.out.trans g15)
    clear h15 g15 GG14 B14_0 B14_1 B14_2 B14_3 B14_4 B14_5 B14_6 T14_0 T14_1 T14_2 T14_3 T14_4 T14_5 T14_6 T14_7
    clear d14_0_0 d14_0_1 t14_0 d14_1_0 d14_1_1 t14_1 d14_2_0 d14_2_1 t14_2 d14_3_0 d14_3_1 t14_3 d14_4_0 d14_4_1 t14_4 d14_5_0 d14_5_1 t14_5 d14_6_0 d14_6_1 t14_6
    have d15_0_0 := B15_0.cell 0 rfl
    have d15_0_1 := B15_0.cell 1 rfl
    have t15_0 := B15_0.lt
    have d15_1_0 := B15_1.cell 0 rfl
    have d15_1_1 := B15_1.cell 1 rfl
    have t15_1 := B15_1.lt
    have d15_2_0 := B15_2.cell 0 rfl
    have d15_2_1 := B15_2.cell 1 rfl
    have t15_2 := B15_2.lt
    have d15_3_0 := B15_3.cell 0 rfl
    have d15_3_1 := B15_3.cell 1 rfl
    have t15_3 := B15_3.lt
    have d15_4_0 := B15_4.cell 0 rfl
    have d15_4_1 := B15_4.cell 1 rfl
    have t15_4 := B15_4.lt
    have d15_5_0 := B15_5.cell 0 rfl
    have d15_5_1 := B15_5.cell 1 rfl
    have t15_5 := B15_5.lt
    have d15_6_0 := B15_6.cell 0 rfl
    have d15_6_1 := B15_6.cell 1 rfl
    have t15_6 := B15_6.lt
    have d15_7_0 := B15_7.cell 0 rfl
    have d15_7_1 := B15_7.cell 1 rfl
    have t15_7 := B15_7.lt
    refine (SameType_any _ _ _ _ w15 _ _ T15_7.out T15_4.out).mono ?_
    rintro e w16 ⟨rfl, g16⟩
    have B16_0 := B15_0.grew g16
    have B16_1 := B15_1.grew g16
    have B16_2 := B15_2.grew g16
    have B16_3 := B15_3.grew g16
    have B16_4 := B15_4.grew g16
    have B16_5 := B15_5.grew g16
    have B16_6 := B15_6.grew g16
    have B16_7 := B15_7.grew g16
    have T16_0 := hide (T15_0.out.grew g16)
    have T16_1 := hide (T15_1.out.grew g16)
    have T16_2 := hide (T15_2.out.grew g16)
    have T16_3 := hide (T15_3.out.grew g16)
    have T16_4 := hide (T15_4.out.grew g16)
    have T16_5 := hide (T15_5.out.grew g16)
    have T16_6 := hide (T15_6.out.grew g16)
    have T16_7 := hide (T15_7.out.grew g16)
    have GG16 := hide (GG15.out.trans g16)
    clear g16 GG15 B15_0 B15_1 B15_2 B15_3 B15_4 B15_5 B15_6 B15_7 T15_0 T15_1 T15_2 T15_3 T15_4 T15_5 T15_6 T15_7
    clear d15_0_0 d15_0_1 t15_0 d15_1_0 d15_1_1 t15_1 d15_2_0 d15_2_1 t15_2 d15_3_0 d15_3_1 t15_3 d15_4_0 d15_4_1 t15_4 d15_5_0 d15_5_1 t15_5 d15_6_0 d15_6_1 t15_6 d15_7_0 d15_7_1 t15_7
    have d16_0_0 := B16_0.cell 0 rfl
    have d16_0_1 := B16_0.cell 1 rfl
    have t16_0 := B16_0.lt
    have d16_1_0 := B16_1.cell 0 rfl
    have d16_1_1 := B16_1.cell 1 rfl
    have t16_1 := B16_1.lt
    have d16_2_0 := B16_2.cell 0 rfl
    have d16_2_1 := B16_2.cell 1 rfl
    have t16_2 := B16_2.lt
    have d16_3_0 := B16_3.cell 0 rfl
    have d16_3_1 := B16_3.cell 1 rfl
    have t16_3 := B16_3.lt
    have d16_4_0 := B16_4.cell 0 rfl
    have d16_4_1 := B16_4.cell 1 rfl
    have t16_4 := B16_4.lt
    have d16_5_0 := B16_5.cell 0 rfl
    have d16_5_1 := B16_5.cell 1 rfl
    have t16_5 := B16_5.lt
    have d16_6_0 := B16_6.cell 0 rfl
    have d16_6_1 := B16_6.cell 1 rfl
    have t16_6 := B16_6.lt
    have d16_7_0 := B16_7.cell 0 rfl
    have d16_7_1 := B16_7.cell 1 rfl
    have t16_7 := B16_7.lt
    rw [RJ2]
    go_wp2_with fail
    refine name_calls fun w17 h17 => ?_
    have g17 : Grew w16 w17 := by
      rw [h17]
      repeat' (first | (with_reducible exact Grew.refl _) | (with_reducible refine Grew.setCell ?_ ?_ _) | (with_reducible refine Grew.drewN ?_ _) | (with_reducible refine Grew.reD ?_ _) | (with_reducible refine Grew.alloc ?_ _) | (dsimp only; omega))
    have B17_0 : Blk w17 (w0.heap.size) 28 [.int .i64 ka, .slice pa ma ca] := B16_0.grew g17
    have B17_1 : Blk w17 (w0.heap.size + 1) 28 [.int .i64 kb, .slice pb mb cb] := B16_1.grew g17
    have B17_2 : Blk w17 (w4.heap.size) 28 [.int .i64 kx, .slice px mx cx] := B16_2.grew g17
    have B17_3 : Blk w17 (w4.heap.size + 1) 28 [.int .i64 ky, .slice py my cy] := B16_3.grew g17
    have B17_4 : Blk w17 (w6.heap.size) 28 [.int .i64 kt, .slice pt mt ct] := B16_4.grew g17
    have B17_5 : Blk w17 (w8.heap.size) 28 [.int .i64 ku, .slice pu mu cu] := B16_5.grew g17
    have B17_6 : Blk w17 (w10.heap.size) 28 [.int .i64 kv, .slice pv mv cv] := B16_6.grew g17
    have B17_7 : Blk w17 (w14.heap.size) 28 [.int .i64 kr, .slice pr mr cr] := B16_7.grew g17
    have T17_0 := hide (T16_0.out.grew g17)
    have T17_1 := hide (T16_1.out.grew g17)
    have T17_2 := hide (T16_2.out.grew g17)
    have T17_3 := hide (T16_3.out.grew g17)
    have T17_4 := hide (T16_4.out.grew g17)
    have T17_5 := hide (T16_5.out.grew g17)
    have T17_6 := hide (T16_6.out.grew g17)
    have T17_7 := hide (T16_7.out.grew g17)
    have GG17 := hide (GG16.out.trans g17)
    clear h17 g17 GG16 B16_0 B16_1 B16_2 B16_3 B16_4 B16_5 B16_6 B16_7 T16_0 T16_1 T16_2 T16_3 T16_4 T16_5 T16_6 T16_7
    clear d16_0_0 d16_0_1 t16_0 d16_1_0 d16_1_1 t16_1 d16_2_0 d16_2_1 t16_2 d16_3_0 d16_3_1 t16_3 d16_4_0 d16_4_1 t16_4 d16_5_0 d16_5_1 t16_5 d16_6_0 d16_6_1 t16_6 d16_7_0 d16_7_1 t16_7
    have d17_0_0 := B17_0.cell 0 rfl
    have d17_0_1 := B17_0.cell 1 rfl
    have t17_0 := B17_0.lt
    have d17_1_0 := B17_1.cell 0 rfl
    have d17_1_1 := B17_1.cell 1 rfl
    have t17_1 := B17_1.lt
    have d17_2_0 := B17_2.cell 0 rfl
    have d17_2_1 := B17_2.cell 1 rfl
    have t17_2 := B17_2.lt
    have d17_3_0 := B17_3.cell 0 rfl
    have d17_3_1 := B17_3.cell 1 rfl
    have t17_3 := B17_3.lt
    have d17_4_0 := B17_4.cell 0 rfl
    have d17_4_1 := B17_4.cell 1 rfl
    have t17_4 := B17_4.lt
    have d17_5_0 := B17_5.cell 0 rfl
    have d17_5_1 := B17_5.cell 1 rfl
    have t17_5 := B17_5.lt
    have d17_6_0 := B17_6.cell 0 rfl
    have d17_6_1 := B17_6.cell 1 rfl
    have t17_6 := B17_6.lt
    have d17_7_0 := B17_7.cell 0 rfl
    have d17_7_1 := B17_7.cell 1 rfl
    have t17_7 := B17_7.lt
    refine (long_any _ _ 100 w17 _ T17_0.out (by omega)).mono ?_
    rintro e w18 ⟨hr, g18⟩
    have B18_0 := B17_0.grew g18
    have B18_1 := B17_1.grew g18
    have B18_2 := B17_2.grew g18
    have B18_3 := B17_3.grew g18
    have B18_4 := B17_4.grew g18
    have B18_5 := B17_5.grew g18
    have B18_6 := B17_6.grew g18
    have B18_7 := B17_7.grew g18
    have T18_0 := hide (T17_0.out.grew g18)
    have T18_1 := hide (T17_1.out.grew g18)
    have T18_2 := hide (T17_2.out.grew g18)
    have T18_3 := hide (T17_3.out.grew g18)
    have T18_4 := hide (T17_4.out.grew g18)
    have T18_5 := hide (T17_5.out.grew g18)
    have T18_6 := hide (T17_6.out.grew g18)
    have T18_7 := hide (T17_7.out.grew g18)
    have GG18 := hide (GG17.out.trans g18)
    clear g18 GG17 B17_0 B17_1 B17_2 B17_3 B17_4 B17_5 B17_6 B17_7 T17_0 T17_1 T17_2 T17_3 T17_4 T17_5 T17_6 T17_7
    clear d17_0_0 d17_0_1 t17_0 d17_1_0 d17_1_1 t17_1 d17_2_0 d17_2_1 t17_2 d17_3_0 d17_3_1 t17_3 d17_4_0 d17_4_1 t17_4 d17_5_0 d17_5_1 t17_5 d17_6_0 d17_6_1 t17_6 d17_7_0 d17_7_1 t17_7
    have d18_0_0 := B18_0.cell 0 rfl
    have d18_0_1 := B18_0.cell 1 rfl
    have t18_0 := B18_0.lt
    have d18_1_0 := B18_1.cell 0 rfl
    have d18_1_1 := B18_1.cell 1 rfl
    have t18_1 := B18_1.lt
    have d18_2_0 := B18_2.cell 0 rfl
    have d18_2_1 := B18_2.cell 1 rfl
    have t18_2 := B18_2.lt
    have d18_3_0 := B18_3.cell 0 rfl
    have d18_3_1 := B18_3.cell 1 rfl
    have t18_3 := B18_3.lt
    have d18_4_0 := B18_4.cell 0 rfl
    have d18_4_1 := B18_4.cell 1 rfl
    have t18_4 := B18_4.lt
    have d18_5_0 := B18_5.cell 0 rfl
    have d18_5_1 := B18_5.cell 1 rfl
    have t18_5 := B18_5.lt
    have d18_6_0 := B18_6.cell 0 rfl
    have d18_6_1 := B18_6.cell 1 rfl
    have t18_6 := B18_6.lt
    have d18_7_0 := B18_7.cell 0 rfl
    have d18_7_1 := B18_7.cell 1 rfl
    have t18_7 := B18_7.lt
    rcases hr with rfl | rfl
    · go_wp2
      go_ret
      exact ⟨rfl, GG18.out.1⟩
    · skip
      go_wp2_with fail
      refine name_calls fun w19 h19 => ?_
      have g19 : Grew w18 w19 := by
        rw [h19]
        repeat' (first | (with_reducible exact Grew.refl _) | (with_reducible refine Grew.setCell ?_ ?_ _) | (with_reducible refine Grew.drewN ?_ _) | (with_reducible refine Grew.reD ?_ _) | (with_reducible refine Grew.alloc ?_ _) | (dsimp only; omega))
      have B19_0 : Blk w19 (w0.heap.size) 28 [.int .i64 ka, .slice pa ma ca] := B18_0.grew g19
      have B19_1 : Blk w19 (w0.heap.size + 1) 28 [.int .i64 kb, .slice pb mb cb] := B18_1.grew g19
      have B19_2 : Blk w19 (w4.heap.size) 28 [.int .i64 kx, .slice px mx cx] := B18_2.grew g19
      have B19_3 : Blk w19 (w4.heap.size + 1) 28 [.int .i64 ky, .slice py my cy] := B18_3.grew g19
      have B19_4 : Blk w19 (w6.heap.size) 28 [.int .i64 kt, .slice pt mt ct] := B18_4.grew g19
      have B19_5 : Blk w19 (w8.heap.size) 28 [.int .i64 ku, .slice pu mu cu] := B18_5.grew g19
      have B19_6 : Blk w19 (w10.heap.size) 28 [.int .i64 kv, .slice pv mv cv] := B18_6.grew g19
      have B19_7 : Blk w19 (w14.heap.size) 28 [.int .i64 kr, .slice pr mr cr] := B18_7.grew g19
      have T19_0 := hide (T18_0.out.grew g19)
      have T19_1 := hide (T18_1.out.grew g19)
      have T19_2 := hide (T18_2.out.grew g19)
      have T19_3 := hide (T18_3.out.grew g19)
      have T19_4 := hide (T18_4.out.grew g19)
      have T19_5 := hide (T18_5.out.grew g19)
      have T19_6 := hide (T18_6.out.grew g19)
      have T19_7 := hide (T18_7.out.grew g19)
      have GG19 := hide (GG18.out.trans g19)
      clear h19 g19 GG18 B18_0 B18_1 B18_2 B18_3 B18_4 B18_5 B18_6 B18_7 T18_0 T18_1 T18_2 T18_3 T18_4 T18_5 T18_6 T18_7
      clear d18_0_0 d18_0_1 t18_0 d18_1_0 d18_1_1 t18_1 d18_2_0 d18_2_1 t18_2 d18_3_0 d18_3_1 t18_3 d18_4_0 d18_4_1 t18_4 d18_5_0 d18_5_1 t18_5 d18_6_0 d18_6_1 t18_6 d18_7_0 d18_7_1 t18_7
      have d19_0_0 := B19_0.cell 0 rfl
      have d19_0_1 := B19_0.cell 1 rfl
      have t19_0 := B19_0.lt
      have d19_1_0 := B19_1.cell 0 rfl
      have d19_1_1 := B19_1.cell 1 rfl
      have t19_1 := B19_1.lt
      have d19_2_0 := B19_2.cell 0 rfl
      have d19_2_1 := B19_2.cell 1 rfl
      have t19_2 := B19_2.lt
      have d19_3_0 := B19_3.cell 0 rfl
      have d19_3_1 := B19_3.cell 1 rfl
      have t19_3 := B19_3.lt
      have d19_4_0 := B19_4.cell 0 rfl
      have d19_4_1 := B19_4.cell 1 rfl
      have t19_4 := B19_4.lt
      have d19_5_0 := B19_5.cell 0 rfl
      have d19_5_1 := B19_5.cell 1 rfl
      have t19_5 := B19_5.lt
      have d19_6_0 := B19_6.cell 0 rfl
      have d19_6_1 := B19_6.cell 1 rfl
      have t19_6 := B19_6.lt
      have d19_7_0 := B19_7.cell 0 rfl
      have d19_7_1 := B19_7.cell 1 rfl
      have t19_7 := B19_7.lt
      refine (long_any _ _ 100 w19 _ T19_1.out (by omega)).mono ?_
      rintro e w20 ⟨hr, g20⟩
      have B20_0 := B19_0.grew g20
      have B20_1 := B19_1.grew g20
      have B20_2 := B19_2.grew g20
      have B20_3 := B19_3.grew g20
      have B20_4 := B19_4.grew g20
      have B20_5 := B19_5.grew g20
      have B20_6 := B19_6.grew g20
      have B20_7 := B19_7.grew g20
      have T20_0 := hide (T19_0.out.grew g20)
      have T20_1 := hide (T19_1.out.grew g20)
      have T20_2 := hide (T19_2.out.grew g20)
      have T20_3 := hide (T19_3.out.grew g20)
      have T20_4 := hide (T19_4.out.grew g20)
      have T20_5 := hide (T19_5.out.grew g20)
      have T20_6 := hide (T19_6.out.grew g20)
      have T20_7 := hide (T19_7.out.grew g20)
      have GG20 := hide (GG19.out.trans g20)
      clear g20 GG19 B19_0 B19_1 B19_2 B19_3 B19_4 B19_5 B19_6 B19_7 T19_0 T19_1 T19_2 T19_3 T19_4 T19_5 T19_6 T19_7
      clear d19_0_0 d19_0_1 t19_0 d19_1_0 d19_1_1 t19_1 d19_2_0 d19_2_1 t19_2 d19_3_0 d19_3_1 t19_3 d19_4_0 d19_4_1 t19_4 d19_5_0 d19_5_1 t19_5 d19_6_0 d19_6_1 t19_6 d19_7_0 d19_7_1 t19_7
      have d20_0_0 := B20_0.cell 0 rfl
      have d20_0_1 := B20_0.cell 1 rfl
      have t20_0 := B20_0.lt
      have d20_1_0 := B20_1.cell 0 rfl
      have d20_1_1 := B20_1.cell 1 rfl
      have t20_1 := B20_1.lt
      have d20_2_0 := B20_2.cell 0 rfl
      have d20_2_1 := B20_2.cell 1 rfl
      have t20_2 := B20_2.lt
      have d20_3_0 := B20_3.cell 0 rfl
      have d20_3_1 := B20_3.cell 1 rfl
      have t20_3 := B20_3.lt
      have d20_4_0 := B20_4.cell 0 rfl
      have d20_4_1 := B20_4.cell 1 rfl
      have t20_4 := B20_4.lt
      have d20_5_0 := B20_5.cell 0 rfl
      have d20_5_1 := B20_5.cell 1 rfl
      have t20_5 := B20_5.lt
      have d20_6_0 := B20_6.cell 0 rfl
      have d20_6_1 := B20_6.cell 1 rfl
      have t20_6 := B20_6.lt
      have d20_7_0 := B20_7.cell 0 rfl
      have d20_7_1 := B20_7.cell 1 rfl
      have t20_7 := B20_7.lt
      rcases hr with rfl | rfl
      · go_wp2
        go_ret
        exact ⟨rfl, GG20.out.1⟩
      · skip
        go_wp2_with fail
        refine name_calls fun w21 h21 => ?_
        have g21 : Grew w20 w21 := by
          rw [h21]
          repeat' (first | (with_reducible exact Grew.refl _) | (with_reducible refine Grew.setCell ?_ ?_ _) | (with_reducible refine Grew.drewN ?_ _) | (with_reducible refine Grew.reD ?_ _) | (with_reducible refine Grew.alloc ?_ _) | (dsimp only; omega))
        have B21_0 : Blk w21 (w0.heap.size) 28 [.int .i64 ka, .slice pa ma ca] := B20_0.grew g21
        have B21_1 : Blk w21 (w0.heap.size + 1) 28 [.int .i64 kb, .slice pb mb cb] := B20_1.grew g21
        have B21_2 : Blk w21 (w4.heap.size) 28 [.int .i64 kx, .slice px mx cx] := B20_2.grew g21
        have B21_3 : Blk w21 (w4.heap.size + 1) 28 [.int .i64 ky, .slice py my cy] := B20_3.grew g21
        have B21_4 : Blk w21 (w6.heap.size) 28 [.int .i64 kt, .slice pt mt ct] := B20_4.grew g21
        have B21_5 : Blk w21 (w8.heap.size) 28 [.int .i64 ku, .slice pu mu cu] := B20_5.grew g21
        have B21_6 : Blk w21 (w10.heap.size) 28 [.int .i64 kv, .slice pv mv cv] := B20_6.grew g21
        have B21_7 : Blk w21 (w14.heap.size) 28 [.int .i64 kr, .slice pr mr cr] := B20_7.grew g21
        have T21_0 := hide (T20_0.out.grew g21)
        have T21_1 := hide (T20_1.out.grew g21)
        have T21_2 := hide (T20_2.out.grew g21)
        have T21_3 := hide (T20_3.out.grew g21)
        have T21_4 := hide (T20_4.out.grew g21)
        have T21_5 := hide (T20_5.out.grew g21)
        have T21_6 := hide (T20_6.out.grew g21)
        have T21_7 := hide (T20_7.out.grew g21)
        have GG21 := hide (GG20.out.trans g21)
        clear h21 g21 GG20 B20_0 B20_1 B20_2 B20_3 B20_4 B20_5 B20_6 B20_7 T20_0 T20_1 T20_2 T20_3 T20_4 T20_5 T20_6 T20_7
        clear d20_0_0 d20_0_1 t20_0 d20_1_0 d20_1_1 t20_1 d20_2_0 d20_2_1 t20_2 d20_3_0 d20_3_1 t20_3 d20_4_0 d20_4_1 t20_4 d20_5_0 d20_5_1 t20_5 d20_6_0 d20_6_1 t20_6 d20_7_0 d20_7_1 t20_7
        have d21_0_0 := B21_0.cell 0 rfl
        have d21_0_1 := B21_0.cell 1 rfl
        have t21_0 := B21_0.lt
        have d21_1_0 := B21_1.cell 0 rfl
        have d21_1_1 := B21_1.cell 1 rfl
        have t21_1 := B21_1.lt
        have d21_2_0 := B21_2.cell 0 rfl
        have d21_2_1 := B21_2.cell 1 rfl
        have t21_2 := B21_2.lt
        have d21_3_0 := B21_3.cell 0 rfl
        have d21_3_1 := B21_3.cell 1 rfl
        have t21_3 := B21_3.lt
        have d21_4_0 := B21_4.cell 0 rfl
        have d21_4_1 := B21_4.cell 1 rfl
        have t21_4 := B21_4.lt
        have d21_5_0 := B21_5.cell 0 rfl
        have d21_5_1 := B21_5.cell 1 rfl
        have t21_5 := B21_5.lt
        have d21_6_0 := B21_6.cell 0 rfl
        have d21_6_1 := B21_6.cell 1 rfl
        have t21_6 := B21_6.lt
        have d21_7_0 := B21_7.cell 0 rfl
        have d21_7_1 := B21_7.cell 1 rfl
        have t21_7 := B21_7.lt
        refine ((Join_any _ _ _ _ w21 _ _ T21_0.out T21_1.out)).mono ?_
        rintro e w22 ⟨v, rfl, tt22, g22⟩
        have B22_0 := B21_0.grew g22
        have B22_1 := B21_1.grew g22
        have B22_2 := B21_2.grew g22
        have B22_3 := B21_3.grew g22
        have B22_4 := B21_4.grew g22
        have B22_5 := B21_5.grew g22
        have B22_6 := B21_6.grew g22
        have B22_7 := B21_7.grew g22
        have T22_0 := hide (T21_0.out.grew g22)
        have T22_1 := hide (T21_1.out.grew g22)
        have T22_2 := hide (T21_2.out.grew g22)
        have T22_3 := hide (T21_3.out.grew g22)
        have T22_4 := hide (T21_4.out.grew g22)
        have T22_5 := hide (T21_5.out.grew g22)
        have T22_6 := hide (T21_6.out.grew g22)
        have T22_7 := hide (T21_7.out.grew g22)
        have GG22 := hide (GG21.out.trans g22)
        clear g22 GG21 B21_0 B21_1 B21_2 B21_3 B21_4 B21_5 B21_6 B21_7 T21_0 T21_1 T21_2 T21_3 T21_4 T21_5 T21_6 T21_7
        clear d21_0_0 d21_0_1 t21_0 d21_1_0 d21_1_1 t21_1 d21_2_0 d21_2_1 t21_2 d21_3_0 d21_3_1 t21_3 d21_4_0 d21_4_1 t21_4 d21_5_0 d21_5_1 t21_5 d21_6_0 d21_6_1 t21_6 d21_7_0 d21_7_1 t21_7
        have T22_8 := hide (TyIn.weak (fun _ _ => trivial) tt22 : TyIn w22 (fun _ => True) _ _)
        obtain ⟨ks, ms, fs, ps, cs, -, rfl⟩ := tt22.root
        clear tt22
        have d22_0_0 := B22_0.cell 0 rfl
        have d22_0_1 := B22_0.cell 1 rfl
        have t22_0 := B22_0.lt
        have d22_1_0 := B22_1.cell 0 rfl
        have d22_1_1 := B22_1.cell 1 rfl
        have t22_1 := B22_1.lt
        have d22_2_0 := B22_2.cell 0 rfl
        have d22_2_1 := B22_2.cell 1 rfl
        have t22_2 := B22_2.lt
        have d22_3_0 := B22_3.cell 0 rfl
        have d22_3_1 := B22_3.cell 1 rfl
        have t22_3 := B22_3.lt
        have d22_4_0 := B22_4.cell 0 rfl
        have d22_4_1 := B22_4.cell 1 rfl
        have t22_4 := B22_4.lt
        have d22_5_0 := B22_5.cell 0 rfl
        have d22_5_1 := B22_5.cell 1 rfl
        have t22_5 := B22_5.lt
        have d22_6_0 := B22_6.cell 0 rfl
        have d22_6_1 := B22_6.cell 1 rfl
        have t22_6 := B22_6.lt
        have d22_7_0 := B22_7.cell 0 rfl
        have d22_7_1 := B22_7.cell 1 rfl
        have t22_7 := B22_7.lt
        rw [RA1]
        go_wp2_with fail
        refine name_calls fun w23 h23 => ?_
        have g23 : Grew w22 w23 := by
          rw [h23]
          repeat' (first | (with_reducible exact Grew.refl _) | (with_reducible refine Grew.setCell ?_ ?_ _) | (with_reducible refine Grew.drewN ?_ _) | (with_reducible refine Grew.reD ?_ _) | (with_reducible refine Grew.alloc ?_ _) | (dsimp only; omega))
        have B23_0 : Blk w23 (w0.heap.size) 28 [.int .i64 ka, .slice pa ma ca] := B22_0.grew g23
        have B23_1 : Blk w23 (w0.heap.size + 1) 28 [.int .i64 kb, .slice pb mb cb] := B22_1.grew g23
        have B23_2 : Blk w23 (w4.heap.size) 28 [.int .i64 kx, .slice px mx cx] := B22_2.grew g23
        have B23_3 : Blk w23 (w4.heap.size + 1) 28 [.int .i64 ky, .slice py my cy] := B22_3.grew g23
        have B23_4 : Blk w23 (w6.heap.size) 28 [.int .i64 kt, .slice pt mt ct] := B22_4.grew g23
        have B23_5 : Blk w23 (w8.heap.size) 28 [.int .i64 ku, .slice pu mu cu] := B22_5.grew g23
        have B23_6 : Blk w23 (w10.heap.size) 28 [.int .i64 kv, .slice pv mv cv] := B22_6.grew g23
        have B23_7 : Blk w23 (w14.heap.size) 28 [.int .i64 kr, .slice pr mr cr] := B22_7.grew g23
        have B23_8 : Blk w23 (w22.heap.size) 28 [.int .i64 ks, .slice ps ms cs] := by (rw [h23]; repeat' (first | (with_reducible assumption) | ((with_reducible refine Blk.new ?_); (first | (with_reducible rfl) | (simp only [World.size_alloc, World.size_setCell, size_drewN]; done))) | (with_reducible refine Blk.alloc ?_ _) | (with_reducible refine Blk.drewN ?_ _) | (with_reducible refine Blk.drew ?_) | (refine Blk.other ?_ (by omega) _) | fail))
        have T23_0 := hide (T22_0.out.grew g23)
        have T23_1 := hide (T22_1.out.grew g23)
        have T23_2 := hide (T22_2.out.grew g23)
        have T23_3 := hide (T22_3.out.grew g23)
        have T23_4 := hide (T22_4.out.grew g23)
        have T23_5 := hide (T22_5.out.grew g23)
        have T23_6 := hide (T22_6.out.grew g23)
        have T23_7 := hide (T22_7.out.grew g23)
        have T23_8 := hide (T22_8.out.grew g23)
        have GG23 := hide (GG22.out.trans g23)
        clear h23 g23 GG22 B22_0 B22_1 B22_2 B22_3 B22_4 B22_5 B22_6 B22_7 T22_0 T22_1 T22_2 T22_3 T22_4 T22_5 T22_6 T22_7 T22_8
        clear d22_0_0 d22_0_1 t22_0 d22_1_0 d22_1_1 t22_1 d22_2_0 d22_2_1 t22_2 d22_3_0 d22_3_1 t22_3 d22_4_0 d22_4_1 t22_4 d22_5_0 d22_5_1 t22_5 d22_6_0 d22_6_1 t22_6 d22_7_0 d22_7_1 t22_7
        have d23_0_0 := B23_0.cell 0 rfl
        have d23_0_1 := B23_0.cell 1 rfl
        have t23_0 := B23_0.lt
        have d23_1_0 := B23_1.cell 0 rfl
        have d23_1_1 := B23_1.cell 1 rfl
        have t23_1 := B23_1.lt
        have d23_2_0 := B23_2.cell 0 rfl
        have d23_2_1 := B23_2.cell 1 rfl
        have t23_2 := B23_2.lt
        have d23_3_0 := B23_3.cell 0 rfl
        have d23_3_1 := B23_3.cell 1 rfl
        have t23_3 := B23_3.lt
        have d23_4_0 := B23_4.cell 0 rfl
        have d23_4_1 := B23_4.cell 1 rfl
        have t23_4 := B23_4.lt
        have d23_5_0 := B23_5.cell 0 rfl
        have d23_5_1 := B23_5.cell 1 rfl
        have t23_5 := B23_5.lt
        have d23_6_0 := B23_6.cell 0 rfl
        have d23_6_1 := B23_6.cell 1 rfl
        have t23_6 := B23_6.lt
        have d23_7_0 := B23_7.cell 0 rfl
        have d23_7_1 := B23_7.cell 1 rfl
        have t23_7 := B23_7.lt
        have d23_8_0 := B23_8.cell 0 rfl
        have d23_8_1 := B23_8.cell 1 rfl
        have t23_8 := B23_8.lt
        refine ((rJoin_any _ _ _ _ w23 _ _ T23_0.out T23_1.out)).mono ?_
        rintro e w24 ⟨v, rfl, tt24, g24⟩
        have B24_0 := B23_0.grew g24
        have B24_1 := B23_1.grew g24
        have B24_2 := B23_2.grew g24
        have B24_3 := B23_3.grew g24
        have B24_4 := B23_4.grew g24
        have B24_5 := B23_5.grew g24
        have B24_6 := B23_6.grew g24
        have B24_7 := B23_7.grew g24
        have B24_8 := B23_8.grew g24
        have T24_0 := hide (T23_0.out.grew g24)
        have T24_1 := hide (T23_1.out.grew g24)
        have T24_2 := hide (T23_2.out.grew g24)
        have T24_3 := hide (T23_3.out.grew g24)
        have T24_4 := hide (T23_4.out.grew g24)
        have T24_5 := hide (T23_5.out.grew g24)
        have T24_6 := hide (T23_6.out.grew g24)
        have T24_7 := hide (T23_7.out.grew g24)
        have T24_8 := hide (T23_8.out.grew g24)
        have GG24 := hide (GG23.out.trans g24)
        clear g24 GG23 B23_0 B23_1 B23_2 B23_3 B23_4 B23_5 B23_6 B23_7 B23_8 T23_0 T23_1 T23_2 T23_3 T23_4 T23_5 T23_6 T23_7 T23_8
        clear d23_0_0 d23_0_1 t23_0 d23_1_0 d23_1_1 t23_1 d23_2_0 d23_2_1 t23_2 d23_3_0 d23_3_1 t23_3 d23_4_0 d23_4_1 t23_4 d23_5_0 d23_5_1 t23_5 d23_6_0 d23_6_1 t23_6 d23_7_0 d23_7_1 t23_7 d23_8_0 d23_8_1 t23_8
        have T24_9 := hide (TyIn.weak (fun _ _ => trivial) tt24 : TyIn w24 (fun _ => True) _ _)
        obtain ⟨kw, mw, fw, pw, cw, -, rfl⟩ := tt24.root
        clear tt24
        have d24_0_0 := B24_0.cell 0 rfl
        have d24_0_1 := B24_0.cell 1 rfl
        have t24_0 := B24_0.lt
        have d24_1_0 := B24_1.cell 0 rfl
        have d24_1_1 := B24_1.cell 1 rfl
        have t24_1 := B24_1.lt
        have d24_2_0 := B24_2.cell 0 rfl
        have d24_2_1 := B24_2.cell 1 rfl
        have t24_2 := B24_2.lt
        have d24_3_0 := B24_3.cell 0 rfl
        have d24_3_1 := B24_3.cell 1 rfl
        have t24_3 := B24_3.lt
        have d24_4_0 := B24_4.cell 0 rfl
        have d24_4_1 := B24_4.cell 1 rfl
        have t24_4 := B24_4.lt
        have d24_5_0 := B24_5.cell 0 rfl
        have d24_5_1 := B24_5.cell 1 rfl
        have t24_5 := B24_5.lt
        have d24_6_0 := B24_6.cell 0 rfl
        have d24_6_1 := B24_6.cell 1 rfl
        have t24_6 := B24_6.lt
        have d24_7_0 := B24_7.cell 0 rfl
        have d24_7_1 := B24_7.cell 1 rfl
        have t24_7 := B24_7.lt
        have d24_8_0 := B24_8.cell 0 rfl
        have d24_8_1 := B24_8.cell 1 rfl
        have t24_8 := B24_8.lt
        rw [ho2]
        have hoo : (o2 == o2) = true := by cases o2 <;> rfl
        go_wp2_with fail
        refine name_calls fun w25 h25 => ?_
        have g25 : Grew w24 w25 := by
          rw [h25]
          repeat' (first | (with_reducible exact Grew.refl _) | (with_reducible refine Grew.setCell ?_ ?_ _) | (with_reducible refine Grew.drewN ?_ _) | (with_reducible refine Grew.reD ?_ _) | (with_reducible refine Grew.alloc ?_ _) | (dsimp only; omega))
        have B25_0 : Blk w25 (w0.heap.size) 28 [.int .i64 ka, .slice pa ma ca] := B24_0.grew g25
        have B25_1 : Blk w25 (w0.heap.size + 1) 28 [.int .i64 kb, .slice pb mb cb] := B24_1.grew g25
        have B25_2 : Blk w25 (w4.heap.size) 28 [.int .i64 kx, .slice px mx cx] := B24_2.grew g25
        have B25_3 : Blk w25 (w4.heap.size + 1) 28 [.int .i64 ky, .slice py my cy] := B24_3.grew g25
        have B25_4 : Blk w25 (w6.heap.size) 28 [.int .i64 kt, .slice pt mt ct] := B24_4.grew g25
        have B25_5 : Blk w25 (w8.heap.size) 28 [.int .i64 ku, .slice pu mu cu] := B24_5.grew g25
        have B25_6 : Blk w25 (w10.heap.size) 28 [.int .i64 kv, .slice pv mv cv] := B24_6.grew g25
        have B25_7 : Blk w25 (w14.heap.size) 28 [.int .i64 kr, .slice pr mr cr] := B24_7.grew g25
        have B25_8 : Blk w25 (w22.heap.size) 28 [.int .i64 ks, .slice ps ms cs] := B24_8.grew g25
        have B25_9 : Blk w25 (w24.heap.size) 28 [.int .i64 kw, .slice pw mw cw] := by (rw [h25]; repeat' (first | (with_reducible assumption) | ((with_reducible refine Blk.new ?_); (first | (with_reducible rfl) | (simp only [World.size_alloc, World.size_setCell, size_drewN]; done))) | (with_reducible refine Blk.alloc ?_ _) | (with_reducible refine Blk.drewN ?_ _) | (with_reducible refine Blk.drew ?_) | (refine Blk.other ?_ (by omega) _) | fail))
        have T25_0 := hide (T24_0.out.grew g25)
        have T25_1 := hide (T24_1.out.grew g25)
        have T25_2 := hide (T24_2.out.grew g25)
        have T25_3 := hide (T24_3.out.grew g25)
        have T25_4 := hide (T24_4.out.grew g25)
        have T25_5 := hide (T24_5.out.grew g25)
        have T25_6 := hide (T24_6.out.grew g25)
        have T25_7 := hide (T24_7.out.grew g25)
        have T25_8 := hide (T24_8.out.grew g25)
        have T25_9 := hide (T24_9.out.grew g25)
        have GG25 := hide (GG24.out.trans g25)
        clear h25 g25 GG24 B24_0 B24_1 B24_2 B24_3 B24_4 B24_5 B24_6 B24_7 B24_8 T24_0 T24_1 T24_2 T24_3 T24_4 T24_5 T24_6 T24_7 T24_8 T24_9
        clear d24_0_0 d24_0_1 t24_0 d24_1_0 d24_1_1 t24_1 d24_2_0 d24_2_1 t24_2 d24_3_0 d24_3_1 t24_3 d24_4_0 d24_4_1 t24_4 d24_5_0 d24_5_1 t24_5 d24_6_0 d24_6_1 t24_6 d24_7_0 d24_7_1 t24_7 d24_8_0 d24_8_1 t24_8
        have d25_0_0 := B25_0.cell 0 rfl
        have d25_0_1 := B25_0.cell 1 rfl
        have t25_0 := B25_0.lt
        have d25_1_0 := B25_1.cell 0 rfl
        have d25_1_1 := B25_1.cell 1 rfl
        have t25_1 := B25_1.lt
        have d25_2_0 := B25_2.cell 0 rfl
        have d25_2_1 := B25_2.cell 1 rfl
        have t25_2 := B25_2.lt
        have d25_3_0 := B25_3.cell 0 rfl
        have d25_3_1 := B25_3.cell 1 rfl
        have t25_3 := B25_3.lt
        have d25_4_0 := B25_4.cell 0 rfl
        have d25_4_1 := B25_4.cell 1 rfl
        have t25_4 := B25_4.lt
        have d25_5_0 := B25_5.cell 0 rfl
        have d25_5_1 := B25_5.cell 1 rfl
        have t25_5 := B25_5.lt
        have d25_6_0 := B25_6.cell 0 rfl
        have d25_6_1 := B25_6.cell 1 rfl
        have t25_6 := B25_6.lt
        have d25_7_0 := B25_7.cell 0 rfl
        have d25_7_1 := B25_7.cell 1 rfl
        have t25_7 := B25_7.lt
        have d25_8_0 := B25_8.cell 0 rfl
        have d25_8_1 := B25_8.cell 1 rfl
        have t25_8 := B25_8.lt
        have d25_9_0 := B25_9.cell 0 rfl
        have d25_9_1 := B25_9.cell 1 rfl
        have t25_9 := B25_9.lt
        refine (SameType_any _ _ _ _ w25 _ _ T25_8.out T25_9.out).mono ?_
        rintro e w26 ⟨rfl, g26⟩
        have B26_0 := B25_0.grew g26
        have B26_1 := B25_1.grew g26
        have B26_2 := B25_2.grew g26
        have B26_3 := B25_3.grew g26
        have B26_4 := B25_4.grew g26
        have B26_5 := B25_5.grew g26
        have B26_6 := B25_6.grew g26
        have B26_7 := B25_7.grew g26
        have B26_8 := B25_8.grew g26
        have B26_9 := B25_9.grew g26
        have T26_0 := hide (T25_0.out.grew g26)
        have T26_1 := hide (T25_1.out.grew g26)
        have T26_2 := hide (T25_2.out.grew g26)
        have T26_3 := hide (T25_3.out.grew g26)
        have T26_4 := hide (T25_4.out.grew g26)
        have T26_5 := hide (T25_5.out.grew g26)
        have T26_6 := hide (T25_6.out.grew g26)
        have T26_7 := hide (T25_7.out.grew g26)
        have T26_8 := hide (T25_8.out.grew g26)
        have T26_9 := hide (T25_9.out.grew g26)
        have GG26 := hide (GG25.out.trans g26)
        clear g26 GG25 B25_0 B25_1 B25_2 B25_3 B25_4 B25_5 B25_6 B25_7 B25_8 B25_9 T25_0 T25_1 T25_2 T25_3 T25_4 T25_5 T25_6 T25_7 T25_8 T25_9
        clear d25_0_0 d25_0_1 t25_0 d25_1_0 d25_1_1 t25_1 d25_2_0 d25_2_1 t25_2 d25_3_0 d25_3_1 t25_3 d25_4_0 d25_4_1 t25_4 d25_5_0 d25_5_1 t25_5 d25_6_0 d25_6_1 t25_6 d25_7_0 d25_7_1 t25_7 d25_8_0 d25_8_1 t25_8 d25_9_0 d25_9_1 t25_9
        have d26_0_0 := B26_0.cell 0 rfl
        have d26_0_1 := B26_0.cell 1 rfl
        have t26_0 := B26_0.lt
        have d26_1_0 := B26_1.cell 0 rfl
        have d26_1_1 := B26_1.cell 1 rfl
        have t26_1 := B26_1.lt
        have d26_2_0 := B26_2.cell 0 rfl
        have d26_2_1 := B26_2.cell 1 rfl
        have t26_2 := B26_2.lt
        have d26_3_0 := B26_3.cell 0 rfl
        have d26_3_1 := B26_3.cell 1 rfl
        have t26_3 := B26_3.lt
        have d26_4_0 := B26_4.cell 0 rfl
        have d26_4_1 := B26_4.cell 1 rfl
        have t26_4 := B26_4.lt
        have d26_5_0 := B26_5.cell 0 rfl
        have d26_5_1 := B26_5.cell 1 rfl
        have t26_5 := B26_5.lt
        have d26_6_0 := B26_6.cell 0 rfl
        have d26_6_1 := B26_6.cell 1 rfl
        have t26_6 := B26_6.lt
        have d26_7_0 := B26_7.cell 0 rfl
        have d26_7_1 := B26_7.cell 1 rfl
        have t26_7 := B26_7.lt
        have d26_8_0 := B26_8.cell 0 rfl
        have d26_8_1 := B26_8.cell 1 rfl
        have t26_8 := B26_8.lt
        have d26_9_0 := B26_9.cell 0 rfl
        have d26_9_1 := B26_9.cell 1 rfl
        have t26_9 := B26_9.lt
        rw [RA2]
        go_wp2_with fail
        refine name_calls fun w27 h27 => ?_
        have g27 : Grew w26 w27 := by
          rw [h27]
          repeat' (first | (with_reducible exact Grew.refl _) | (with_reducible refine Grew.setCell ?_ ?_ _) | (with_reducible refine Grew.drewN ?_ _) | (with_reducible refine Grew.reD ?_ _) | (with_reducible refine Grew.alloc ?_ _) | (dsimp only; omega))
        have B27_0 : Blk w27 (w0.heap.size) 28 [.int .i64 ka, .slice pa ma ca] := B26_0.grew g27
        have B27_1 : Blk w27 (w0.heap.size + 1) 28 [.int .i64 kb, .slice pb mb cb] := B26_1.grew g27
        have B27_2 : Blk w27 (w4.heap.size) 28 [.int .i64 kx, .slice px mx cx] := B26_2.grew g27
        have B27_3 : Blk w27 (w4.heap.size + 1) 28 [.int .i64 ky, .slice py my cy] := B26_3.grew g27
        have B27_4 : Blk w27 (w6.heap.size) 28 [.int .i64 kt, .slice pt mt ct] := B26_4.grew g27
        have B27_5 : Blk w27 (w8.heap.size) 28 [.int .i64 ku, .slice pu mu cu] := B26_5.grew g27
        have B27_6 : Blk w27 (w10.heap.size) 28 [.int .i64 kv, .slice pv mv cv] := B26_6.grew g27
        have B27_7 : Blk w27 (w14.heap.size) 28 [.int .i64 kr, .slice pr mr cr] := B26_7.grew g27
        have B27_8 : Blk w27 (w22.heap.size) 28 [.int .i64 ks, .slice ps ms cs] := B26_8.grew g27
        have B27_9 : Blk w27 (w24.heap.size) 28 [.int .i64 kw, .slice pw mw cw] := B26_9.grew g27
        have T27_0 := hide (T26_0.out.grew g27)
        have T27_1 := hide (T26_1.out.grew g27)
        have T27_2 := hide (T26_2.out.grew g27)
        have T27_3 := hide (T26_3.out.grew g27)
        have T27_4 := hide (T26_4.out.grew g27)
        have T27_5 := hide (T26_5.out.grew g27)
        have T27_6 := hide (T26_6.out.grew g27)
        have T27_7 := hide (T26_7.out.grew g27)
        have T27_8 := hide (T26_8.out.grew g27)
        have T27_9 := hide (T26_9.out.grew g27)
        have GG27 := hide (GG26.out.trans g27)
        clear h27 g27 GG26 B26_0 B26_1 B26_2 B26_3 B26_4 B26_5 B26_6 B26_7 B26_8 B26_9 T26_0 T26_1 T26_2 T26_3 T26_4 T26_5 T26_6 T26_7 T26_8 T26_9
        clear d26_0_0 d26_0_1 t26_0 d26_1_0 d26_1_1 t26_1 d26_2_0 d26_2_1 t26_2 d26_3_0 d26_3_1 t26_3 d26_4_0 d26_4_1 t26_4 d26_5_0 d26_5_1 t26_5 d26_6_0 d26_6_1 t26_6 d26_7_0 d26_7_1 t26_7 d26_8_0 d26_8_1 t26_8 d26_9_0 d26_9_1 t26_9
        have d27_0_0 := B27_0.cell 0 rfl
        have d27_0_1 := B27_0.cell 1 rfl
        have t27_0 := B27_0.lt
        have d27_1_0 := B27_1.cell 0 rfl
        have d27_1_1 := B27_1.cell 1 rfl
        have t27_1 := B27_1.lt
        have d27_2_0 := B27_2.cell 0 rfl
        have d27_2_1 := B27_2.cell 1 rfl
        have t27_2 := B27_2.lt
        have d27_3_0 := B27_3.cell 0 rfl
        have d27_3_1 := B27_3.cell 1 rfl
        have t27_3 := B27_3.lt
        have d27_4_0 := B27_4.cell 0 rfl
        have d27_4_1 := B27_4.cell 1 rfl
        have t27_4 := B27_4.lt
        have d27_5_0 := B27_5.cell 0 rfl
        have d27_5_1 := B27_5.cell 1 rfl
        have t27_5 := B27_5.lt
        have d27_6_0 := B27_6.cell 0 rfl
        have d27_6_1 := B27_6.cell 1 rfl
        have t27_6 := B27_6.lt
        have d27_7_0 := B27_7.cell 0 rfl
        have d27_7_1 := B27_7.cell 1 rfl
        have t27_7 := B27_7.lt
        have d27_8_0 := B27_8.cell 0 rfl
        have d27_8_1 := B27_8.cell 1 rfl
        have t27_8 := B27_8.lt
        have d27_9_0 := B27_9.cell 0 rfl
        have d27_9_1 := B27_9.cell 1 rfl
        have t27_9 := B27_9.lt
        refine ((AW w27).out).mono ?_
        rintro e w28 ⟨rfl, g28⟩
        have B28_0 := B27_0.grew g28
        have B28_1 := B27_1.grew g28
        have B28_2 := B27_2.grew g28
        have B28_3 := B27_3.grew g28
        have B28_4 := B27_4.grew g28
        have B28_5 := B27_5.grew g28
        have B28_6 := B27_6.grew g28
        have B28_7 := B27_7.grew g28
        have B28_8 := B27_8.grew g28
        have B28_9 := B27_9.grew g28
        have T28_0 := hide (T27_0.out.grew g28)
        have T28_1 := hide (T27_1.out.grew g28)
        have T28_2 := hide (T27_2.out.grew g28)
        have T28_3 := hide (T27_3.out.grew g28)
        have T28_4 := hide (T27_4.out.grew g28)
        have T28_5 := hide (T27_5.out.grew g28)
        have T28_6 := hide (T27_6.out.grew g28)
        have T28_7 := hide (T27_7.out.grew g28)
        have T28_8 := hide (T27_8.out.grew g28)
        have T28_9 := hide (T27_9.out.grew g28)
        have GG28 := hide (GG27.out.trans g28)
        clear g28 GG27 B27_0 B27_1 B27_2 B27_3 B27_4 B27_5 B27_6 B27_7 B27_8 B27_9 T27_0 T27_1 T27_2 T27_3 T27_4 T27_5 T27_6 T27_7 T27_8 T27_9
        clear d27_0_0 d27_0_1 t27_0 d27_1_0 d27_1_1 t27_1 d27_2_0 d27_2_1 t27_2 d27_3_0 d27_3_1 t27_3 d27_4_0 d27_4_1 t27_4 d27_5_0 d27_5_1 t27_5 d27_6_0 d27_6_1 t27_6 d27_7_0 d27_7_1 t27_7 d27_8_0 d27_8_1 t27_8 d27_9_0 d27_9_1 t27_9
        have d28_0_0 := B28_0.cell 0 rfl
        have d28_0_1 := B28_0.cell 1 rfl
        have t28_0 := B28_0.lt
        have d28_1_0 := B28_1.cell 0 rfl
        have d28_1_1 := B28_1.cell 1 rfl
        have t28_1 := B28_1.lt
        have d28_2_0 := B28_2.cell 0 rfl
        have d28_2_1 := B28_2.cell 1 rfl
        have t28_2 := B28_2.lt
        have d28_3_0 := B28_3.cell 0 rfl
        have d28_3_1 := B28_3.cell 1 rfl
        have t28_3 := B28_3.lt
        have d28_4_0 := B28_4.cell 0 rfl
        have d28_4_1 := B28_4.cell 1 rfl
        have t28_4 := B28_4.lt
        have d28_5_0 := B28_5.cell 0 rfl
        have d28_5_1 := B28_5.cell 1 rfl
        have t28_5 := B28_5.lt
        have d28_6_0 := B28_6.cell 0 rfl
        have d28_6_1 := B28_6.cell 1 rfl
        have t28_6 := B28_6.lt
        have d28_7_0 := B28_7.cell 0 rfl
        have d28_7_1 := B28_7.cell 1 rfl
        have t28_7 := B28_7.lt
        have d28_8_0 := B28_8.cell 0 rfl
        have d28_8_1 := B28_8.cell 1 rfl
        have t28_8 := B28_8.lt
        have d28_9_0 := B28_9.cell 0 rfl
        have d28_9_1 := B28_9.cell 1 rfl
        have t28_9 := B28_9.lt
        go_wp2
        go_ret
        exact ⟨rfl, GG28.out.1⟩
end Go.Proofs.YtnhhmndnmkkhlaaDoor
