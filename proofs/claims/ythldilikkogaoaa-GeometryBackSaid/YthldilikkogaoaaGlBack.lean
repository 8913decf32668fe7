/- The law GeometryBack returns true for all numbers, every rectangle and every point, and leaves the arguments and all old memory as they were; no condition. -/
import Derived.Test.YthldilikkogaoaaRows
import Derived.Test.YthldilikkogaoaaGlNear
import Derived.Test.YthldilikkogaoaaGlSmall
import Derived.Test.YthldilikkogaoaaGlAwake
import Derived.Test.YthldilikkogaoaaGlOpen
import Derived.WalkKit
import Derived.ProofKit
import Derived.OpenShut
namespace Go.Proofs.Ythldilikkogaoaa.geometryBack
open Go.ChangeShapes Go.WideShapes Go.ChangeAt Go.RowKit Go.Sort
set_option linter.unusedVariables false
set_option linter.unusedSimpArgs false

set_option maxHeartbeats 4000000 in
theorem walk (k s dx dy : Int) (m : Bool) (r : R) (p : Pt) (w : World) :
    Calls Try.prog 7 #[.int .i64 k, .int .i64 s, .int .i64 dx, .int .i64 dy, .bool m, r.v, p.v] w fun e w' => e = .returned (.bool true) ∧ Below w.heap.size w w' := by
  obtain ⟨x, y, z, h⟩ := r
  obtain ⟨px, py⟩ := p
  have S := fun W => hide (small_any k s dx dy m W)
  have L := back_law k s dx dy m x y z h px py
  have a1 := and63 z
  have a2 := and63 h
  have A1 := fun W => hide (awake_any W)
  have K1 := fun W => hide (Apply_any ⟨k % 4, m, 1 + s % 4, dx.tmod 1000, dy.tmod 1000⟩ ⟨x.tmod 100, y.tmod 100, z % 64, h % 64⟩ W)
  have K2 := fun W => hide (Back_any ⟨k % 4, m, 1 + s % 4, dx.tmod 1000, dy.tmod 1000⟩ ⟨px.tmod 2000, py.tmod 2000⟩ W)
  have K3 := fun W => hide (Contains_any (T.apply ⟨k % 4, m, 1 + s % 4, dx.tmod 1000, dy.tmod 1000⟩ ⟨x.tmod 100, y.tmod 100, z % 64, h % 64⟩) (px.tmod 2000) (py.tmod 2000) W)
  have K4 := fun W => hide (Contains_any ⟨x.tmod 100, y.tmod 100, z % 64, h % 64⟩ (T.back ⟨k % 4, m, 1 + s % 4, dx.tmod 1000, dy.tmod 1000⟩ ⟨px.tmod 2000, py.tmod 2000⟩).x (T.back ⟨k % 4, m, 1 + s % 4, dx.tmod 1000, dy.tmod 1000⟩ ⟨px.tmod 2000, py.tmod 2000⟩).y W)
  rw [← L] at K4
  clear L
  generalize (T.apply ⟨k % 4, m, 1 + s % 4, dx.tmod 1000, dy.tmod 1000⟩ ⟨x.tmod 100, y.tmod 100, z % 64, h % 64⟩).has (px.tmod 2000) (py.tmod 2000) = b at K3 K4
  generalize T.apply ⟨k % 4, m, 1 + s % 4, dx.tmod 1000, dy.tmod 1000⟩ ⟨x.tmod 100, y.tmod 100, z % 64, h % 64⟩ = q1 at K1 K3
  generalize T.back ⟨k % 4, m, 1 + s % 4, dx.tmod 1000, dy.tmod 1000⟩ ⟨px.tmod 2000, py.tmod 2000⟩ = q2 at K2 K4
  obtain ⟨p1, p2, p3, p4⟩ := q1
  obtain ⟨p5, p6⟩ := q2
  simp only at K3 K4
  go_enter Try.func7, Try.ntmps7
  go_wp2_with fail
  refine ((S _).out).mono ?_
  rintro e w1 ⟨rfl, G1⟩
  try (with_reducible replace G1 := Grew.undrawn G1)
  have B1_0 : Blk w1 (w.heap.size) 23 [.int .i64 x, .int .i64 y, .int .i64 z, .int .i64 h] := Blk.grew (by (repeat' (first | (with_reducible assumption) | ((with_reducible refine Blk.new ?_); (first | (with_reducible rfl) | (simp only [World.size_alloc, World.size_setCell, size_drewN]; done))) | (with_reducible refine Blk.alloc ?_ _) | (with_reducible refine Blk.drewN ?_ _) | (with_reducible refine Blk.drew ?_) | (refine Blk.other ?_ (by omega) _) | fail))) G1
  have B1_1 : Blk w1 (w.heap.size + 1) 25 [.int .i64 px, .int .i64 py] := Blk.grew (by (repeat' (first | (with_reducible assumption) | ((with_reducible refine Blk.new ?_); (first | (with_reducible rfl) | (simp only [World.size_alloc, World.size_setCell, size_drewN]; done))) | (with_reducible refine Blk.alloc ?_ _) | (with_reducible refine Blk.drewN ?_ _) | (with_reducible refine Blk.drew ?_) | (refine Blk.other ?_ (by omega) _) | fail))) G1
  have z1 := G1.size
  try simp only [World.size_alloc, World.size_setCell, size_drewN] at z1
  replace G1 := hide G1
  have t1_0 := B1_0.lt
  have d1_0_0 := B1_0.cell 0 rfl
  have e1_0_0 := B1_0.free 0
  have d1_0_1 := B1_0.cell 1 rfl
  have e1_0_1 := B1_0.free 1
  have d1_0_2 := B1_0.cell 2 rfl
  have e1_0_2 := B1_0.free 2
  have d1_0_3 := B1_0.cell 3 rfl
  have e1_0_3 := B1_0.free 3
  have t1_1 := B1_1.lt
  have d1_1_0 := B1_1.cell 0 rfl
  have e1_1_0 := B1_1.free 0
  have d1_1_1 := B1_1.cell 1 rfl
  have e1_1_1 := B1_1.free 1
  go_wp2_with fail
  refine name_world fun w2 h2 => ?_
  have G2 : Grew w w2 := by
    rw [h2]
    repeat' (first | (with_reducible exact Grew.refl _) | (with_reducible refine Grew.setCell ?_ ?_ _) | (with_reducible refine Grew.drewN ?_ _) | (with_reducible refine Grew.alloc ?_ _) | (with_reducible refine Grew.trans ?_ G2.out) | (with_reducible refine Grew.trans ?_ G1.out) | (dsimp only; omega))
  have B2_0 : Blk w2 (w.heap.size) 23 [.int .i64 x, .int .i64 y, .int .i64 z, .int .i64 h] := by (rw [h2]; repeat' (first | (with_reducible assumption) | ((with_reducible refine Blk.new ?_); (first | (with_reducible rfl) | (simp only [World.size_alloc, World.size_setCell, size_drewN]; done))) | (with_reducible refine Blk.alloc ?_ _) | (with_reducible refine Blk.drewN ?_ _) | (with_reducible refine Blk.drew ?_) | (refine Blk.other ?_ (by omega) _) | fail))
  have B2_1 : Blk w2 (w.heap.size + 1) 25 [.int .i64 px, .int .i64 py] := by (rw [h2]; repeat' (first | (with_reducible assumption) | ((with_reducible refine Blk.new ?_); (first | (with_reducible rfl) | (simp only [World.size_alloc, World.size_setCell, size_drewN]; done))) | (with_reducible refine Blk.alloc ?_ _) | (with_reducible refine Blk.drewN ?_ _) | (with_reducible refine Blk.drew ?_) | (refine Blk.other ?_ (by omega) _) | fail))
  have B2_2 : Blk w2 (w1.heap.size) 39 [.int .i64 (k % 4), .bool m, .int .i64 (1 + s % 4), .int .i64 (dx.tmod 1000), .int .i64 (dy.tmod 1000)] := by (rw [h2]; repeat' (first | (with_reducible assumption) | ((with_reducible refine Blk.new ?_); (first | (with_reducible rfl) | (simp only [World.size_alloc, World.size_setCell, size_drewN]; done))) | (with_reducible refine Blk.alloc ?_ _) | (with_reducible refine Blk.drewN ?_ _) | (with_reducible refine Blk.drew ?_) | (refine Blk.other ?_ (by omega) _) | fail))
  have B2_3 : Blk w2 (w1.heap.size + 1) 23 [.int .i64 (x.tmod 100), .int .i64 (y.tmod 100), .int .i64 (z % 64), .int .i64 (h % 64)] := by (rw [h2]; repeat' (first | (with_reducible assumption) | ((with_reducible refine Blk.new ?_); (first | (with_reducible rfl) | (simp only [World.size_alloc, World.size_setCell, size_drewN]; done))) | (with_reducible refine Blk.alloc ?_ _) | (with_reducible refine Blk.drewN ?_ _) | (with_reducible refine Blk.drew ?_) | (refine Blk.other ?_ (by omega) _) | fail))
  have B2_4 : Blk w2 (w1.heap.size + 1 + 1) 25 [.int .i64 (px.tmod 2000), .int .i64 (py.tmod 2000)] := by (rw [h2]; repeat' (first | (with_reducible assumption) | ((with_reducible refine Blk.new ?_); (first | (with_reducible rfl) | (simp only [World.size_alloc, World.size_setCell, size_drewN]; done))) | (with_reducible refine Blk.alloc ?_ _) | (with_reducible refine Blk.drewN ?_ _) | (with_reducible refine Blk.drew ?_) | (refine Blk.other ?_ (by omega) _) | fail))
  have z2 := G2.size
  replace G2 := hide G2
  clear h2
  have t2_0 := B2_0.lt
  have d2_0_0 := B2_0.cell 0 rfl
  have e2_0_0 := B2_0.free 0
  have d2_0_1 := B2_0.cell 1 rfl
  have e2_0_1 := B2_0.free 1
  have d2_0_2 := B2_0.cell 2 rfl
  have e2_0_2 := B2_0.free 2
  have d2_0_3 := B2_0.cell 3 rfl
  have e2_0_3 := B2_0.free 3
  have t2_1 := B2_1.lt
  have d2_1_0 := B2_1.cell 0 rfl
  have e2_1_0 := B2_1.free 0
  have d2_1_1 := B2_1.cell 1 rfl
  have e2_1_1 := B2_1.free 1
  have t2_2 := B2_2.lt
  have d2_2_0 := B2_2.cell 0 rfl
  have e2_2_0 := B2_2.free 0
  have d2_2_1 := B2_2.cell 1 rfl
  have e2_2_1 := B2_2.free 1
  have d2_2_2 := B2_2.cell 2 rfl
  have e2_2_2 := B2_2.free 2
  have d2_2_3 := B2_2.cell 3 rfl
  have e2_2_3 := B2_2.free 3
  have d2_2_4 := B2_2.cell 4 rfl
  have e2_2_4 := B2_2.free 4
  have t2_3 := B2_3.lt
  have d2_3_0 := B2_3.cell 0 rfl
  have e2_3_0 := B2_3.free 0
  have d2_3_1 := B2_3.cell 1 rfl
  have e2_3_1 := B2_3.free 1
  have d2_3_2 := B2_3.cell 2 rfl
  have e2_3_2 := B2_3.free 2
  have d2_3_3 := B2_3.cell 3 rfl
  have e2_3_3 := B2_3.free 3
  have t2_4 := B2_4.lt
  have d2_4_0 := B2_4.cell 0 rfl
  have e2_4_0 := B2_4.free 0
  have d2_4_1 := B2_4.cell 1 rfl
  have e2_4_1 := B2_4.free 1
  have g2_0_0 := fun m os => (B2_0.grow m os).cell 0 rfl
  have g2_0_1 := fun m os => (B2_0.grow m os).cell 1 rfl
  have g2_0_2 := fun m os => (B2_0.grow m os).cell 2 rfl
  have g2_0_3 := fun m os => (B2_0.grow m os).cell 3 rfl
  have g2_1_0 := fun m os => (B2_1.grow m os).cell 0 rfl
  have g2_1_1 := fun m os => (B2_1.grow m os).cell 1 rfl
  have g2_2_0 := fun m os => (B2_2.grow m os).cell 0 rfl
  have g2_2_1 := fun m os => (B2_2.grow m os).cell 1 rfl
  have g2_2_2 := fun m os => (B2_2.grow m os).cell 2 rfl
  have g2_2_3 := fun m os => (B2_2.grow m os).cell 3 rfl
  have g2_2_4 := fun m os => (B2_2.grow m os).cell 4 rfl
  have g2_3_0 := fun m os => (B2_3.grow m os).cell 0 rfl
  have g2_3_1 := fun m os => (B2_3.grow m os).cell 1 rfl
  have g2_3_2 := fun m os => (B2_3.grow m os).cell 2 rfl
  have g2_3_3 := fun m os => (B2_3.grow m os).cell 3 rfl
  have g2_4_0 := fun m os => (B2_4.grow m os).cell 0 rfl
  have g2_4_1 := fun m os => (B2_4.grow m os).cell 1 rfl
  refine wp_region_calm (by kernel_rfl) (by kernel_rfl) ?_
  repeat (first | (refine lex_skip rfl (by rfl) ?_) | (refine lex_calm rfl (by rfl) (fun K hK => ?_); go_simp; first | (refine hK _ ?_; clear hK K) | (apply Exists.intro; refine ⟨fun _ _ => ?_, hK _ ?_⟩; (first | (with_reducible exact (K1 _).out) | (with_reducible exact (K2 _).out) | (with_reducible exact (K3 _).out) | (with_reducible exact (K4 _).out) | (with_reducible exact (A1 _).out)); clear hK K)))
  refine lex_nil ?_
  intro w3 G3
  have B3_0 : Blk w3 (w.heap.size) 23 [.int .i64 x, .int .i64 y, .int .i64 z, .int .i64 h] := B2_0.grew G3
  have B3_1 : Blk w3 (w.heap.size + 1) 25 [.int .i64 px, .int .i64 py] := B2_1.grew G3
  have B3_2 : Blk w3 (w1.heap.size) 39 [.int .i64 (k % 4), .bool m, .int .i64 (1 + s % 4), .int .i64 (dx.tmod 1000), .int .i64 (dy.tmod 1000)] := B2_2.grew G3
  have B3_3 : Blk w3 (w1.heap.size + 1) 23 [.int .i64 (x.tmod 100), .int .i64 (y.tmod 100), .int .i64 (z % 64), .int .i64 (h % 64)] := B2_3.grew G3
  have B3_4 : Blk w3 (w1.heap.size + 1 + 1) 25 [.int .i64 (px.tmod 2000), .int .i64 (py.tmod 2000)] := B2_4.grew G3
  have z3 := G3.size
  replace G3 := hide G3
  have t3_0 := B3_0.lt
  have d3_0_0 := B3_0.cell 0 rfl
  have e3_0_0 := B3_0.free 0
  have d3_0_1 := B3_0.cell 1 rfl
  have e3_0_1 := B3_0.free 1
  have d3_0_2 := B3_0.cell 2 rfl
  have e3_0_2 := B3_0.free 2
  have d3_0_3 := B3_0.cell 3 rfl
  have e3_0_3 := B3_0.free 3
  have t3_1 := B3_1.lt
  have d3_1_0 := B3_1.cell 0 rfl
  have e3_1_0 := B3_1.free 0
  have d3_1_1 := B3_1.cell 1 rfl
  have e3_1_1 := B3_1.free 1
  have t3_2 := B3_2.lt
  have d3_2_0 := B3_2.cell 0 rfl
  have e3_2_0 := B3_2.free 0
  have d3_2_1 := B3_2.cell 1 rfl
  have e3_2_1 := B3_2.free 1
  have d3_2_2 := B3_2.cell 2 rfl
  have e3_2_2 := B3_2.free 2
  have d3_2_3 := B3_2.cell 3 rfl
  have e3_2_3 := B3_2.free 3
  have d3_2_4 := B3_2.cell 4 rfl
  have e3_2_4 := B3_2.free 4
  have t3_3 := B3_3.lt
  have d3_3_0 := B3_3.cell 0 rfl
  have e3_3_0 := B3_3.free 0
  have d3_3_1 := B3_3.cell 1 rfl
  have e3_3_1 := B3_3.free 1
  have d3_3_2 := B3_3.cell 2 rfl
  have e3_3_2 := B3_3.free 2
  have d3_3_3 := B3_3.cell 3 rfl
  have e3_3_3 := B3_3.free 3
  have t3_4 := B3_4.lt
  have d3_4_0 := B3_4.cell 0 rfl
  have e3_4_0 := B3_4.free 0
  have d3_4_1 := B3_4.cell 1 rfl
  have e3_4_1 := B3_4.free 1
  go_wp2
  go_ret
  exact ⟨rfl, (G2.out.trans G3.out).1⟩

set_option maxRecDepth 100000 in
theorem lifted (os : Os) (started : os.Started) (H : Type) (enc : TypeId × Value → H) :
    ReturnsInHanded {} Try.checked os 7 .any (Rows.geometryBackSpec.pre6 enc Try.prog Try.f7 Rows.geometryBackRow.domain false) (Rows.geometryBackSpec.post enc Try.prog Try.f7 false true false false) := by
  refine returnsInHanded_of_change (C := Try.checked) own_knob started (by kernel_rfl) Try.func7
    (ChangeSpec.witness6 (enc := enc) (C := Try.checked) false ⟨#[], #[.int .i64 0, .int .i64 0, .int .i64 0, .int .i64 0, .bool false, .agg #[.int .i64 0, .int .i64 0, .int .i64 0, .int .i64 0], .agg #[.int .i64 0, .int .i64 0]], []⟩ 8 (by kernel_rfl) (by kernel_rfl) (by kernel_rfl) (by kernel_rfl)) ?_
  intro W base args ds gs before hval0 hW hcnd _
  have hval : ∀ (j : Nat) t v, Try.f7.params[j]? = some t → args[j]? = some v → Value.okWide Try.prog W .any base t v := hval0
  have hW' := hW
  obtain ⟨p, q, hA0, hV, rfl, hfz, hnd⟩ := hW
  have hA : DataW.TrodAll enc Try.prog W 0 (fun _ => true) true Try.f7.params.toList args.toList ds p := hA0
  have hAk := hA
  rw [Try.params7] at hA hval
  obtain ⟨v0, vs0, d0, ds0, p0, q0, hargs, rfl, rfl, h0, r0⟩ := trodAll_cons hA
  obtain ⟨v1, vs1, d1, ds1, p1, q1, rfl, rfl, rfl, h1, r1⟩ := trodAll_cons r0
  obtain ⟨v2, vs2, d2, ds2, p2, q2, rfl, rfl, rfl, h2, r2⟩ := trodAll_cons r1
  obtain ⟨v3, vs3, d3, ds3, p3, q3, rfl, rfl, rfl, h3, r3⟩ := trodAll_cons r2
  obtain ⟨v4, vs4, d4, ds4, p4, q4, rfl, rfl, rfl, h4, r4⟩ := trodAll_cons r3
  obtain ⟨v5, vs5, d5, ds5, p5, q5, rfl, rfl, rfl, h5, r5⟩ := trodAll_cons r4
  obtain ⟨v6, vs6, d6, ds6, p6, q6, rfl, rfl, rfl, h6, r6⟩ := trodAll_cons r5
  obtain ⟨rfl, rfl, rfl⟩ := trodAll_nil r6
  obtain rfl : args = #[v0, v1, v2, v3, v4, v5, v6] := by cases args; simp_all
  obtain ⟨rfl, rfl⟩ := trodVars_none hV
  obtain ⟨a0, rfl, _, _, w0⟩ := open_int Try.underlying3 (hval 0 3 v0 rfl rfl) h0
  obtain ⟨a1, rfl, _, _, w1⟩ := open_int Try.underlying3 (hval 1 3 v1 rfl rfl) h1
  obtain ⟨a2, rfl, _, _, w2⟩ := open_int Try.underlying3 (hval 2 3 v2 rfl rfl) h2
  obtain ⟨a3, rfl, _, _, w3⟩ := open_int Try.underlying3 (hval 3 3 v3 rfl rfl) h3
  obtain ⟨a4, rfl, _⟩ := open_bool Try.underlying4 (hval 4 4 v4 rfl rfl) h4
  obtain ⟨a5, rfl⟩ := open_rect (hval 5 23 v5 rfl rfl) h5
  obtain ⟨a6, rfl⟩ := open_point (hval 6 25 v6 rfl rfl) h6
  clear hA0 hval0
  simp only [List.append_nil] at hW'
  refine (walk a0 a1 a2 a3 a4 a5 a6 W).mono fun e W' ⟨he, hg⟩ => ?_
  subst he
  have hargs' := kept_all hg _ _ _ _ (by rw [Try.params7]; intro t ht; simp only [List.mem_cons, List.not_mem_nil, or_false] at ht; (repeat' (rcases ht with rfl | ht)); all_goals first | (subst ht; exact ⟨by kernel_rfl, of_decide_eq_true (by kernel_rfl)⟩) | exact ⟨by kernel_rfl, of_decide_eq_true (by kernel_rfl)⟩) hAk (fun x hx => hW'.lt x (by simpa using hx))
  exact ⟨_, rfl, ⟨_, _, _, [], _, [], hW', trodAll_cons_mk (shut_bool Try.underlying4 _) trodAll_mk0, hargs', rfl, World.keptBut_mono (fun p hp => ⟨hp, Or.inr (by simpa using hp)⟩) (hg.frame _), fun h => by cases h⟩⟩

theorem over : Rows.geometryBackRow.holds Try.pinned (OpenSpec.ofChange Rows.geometryBackSpec) :=
  OpenClaim.holds_of_wide 7 Try.f7 rfl rfl rfl rfl rfl rfl rfl ⟨rfl, rfl, rfl, rfl, rfl⟩ rfl rfl rfl rfl rfl (by kernel_rfl) Try.func7 (by kernel_rfl)
    (of_decide_eq_true (by kernel_rfl)) (by unfold Func.isWrapper; first | (rw [if_pos (by decide +kernel)]; kernel_rfl) | (rw [if_neg (by decide +kernel)]; exact ⟨rfl, rfl⟩))
    (fun os started H enc _ => lifted os started H enc)

theorem proved : Rows.GeometryBackSaid :=
  over
#print axioms proved
end Go.Proofs.Ythldilikkogaoaa.geometryBack
