/- The law GeometryRects returns true for every two rectangles and every point, and leaves the arguments and all old memory as they were; no condition. -/
import Derived.Test.YthldilikkogaoaaRows
import Derived.Test.YthldilikkogaoaaGlOpen
import Derived.Test.YthldilikkogaoaaGlAwake
import Derived.Test.YthldilikkogaoaaGeCont
import Derived.Test.YthldilikkogaoaaGeUnj
import Derived.Test.YthldilikkogaoaaGrC
import Derived.WalkKit
import Derived.ProofKit
import Derived.OpenShut
namespace Go.Proofs.Ythldilikkogaoaa.geometryRects
open Go.ChangeShapes Go.WideShapes Go.ChangeAt Go.RowKit Go.Sort
set_option linter.unusedVariables false
set_option linter.unusedSimpArgs false

set_option maxHeartbeats 4000000 in
theorem walk (a b : R) (p : Pt) (w : World) :
    Calls Try.prog 3 #[a.v, b.v, p.v] w fun e w' => e = .returned (.bool true) ∧ Below w.heap.size w w' := by
  have K1 := fun W => hide (ValidRect_any a W)
  have K2 := fun W => hide (Empty_any a W)
  have K3 := fun W => hide (rEmpty_any a W)
  have K4 := fun W => hide (Contains_any a p.x p.y W)
  have K5 := fun W => hide (rContains_any a p.x p.y W)
  have K6 := fun W => hide (Intersect_any a b W)
  have K7 := fun W => hide (rIntersect_any a b W)
  have K8 := fun W => hide (Union_any a b W)
  have K9 := fun W => hide (rUnion_any a b W)
  have A1 := fun W => hide (awake_any W)
  generalize a.empty = e1 at K2 K3
  generalize a.has p.x p.y = e2 at K4 K5
  generalize isectR a b = q1 at K6 K7
  generalize unionR a b = q2 at K8 K9
  obtain ⟨p1, p2, p3, p4⟩ := q1
  obtain ⟨p5, p6, p7, p8⟩ := q2
  obtain ⟨px, py⟩ := p
  cases c : a.ok with
  | true =>
    have V := fun W => hide (Validate_ok a.x a.y a.w a.h W c)
    rw [c] at K1
    clear c
    obtain ⟨x, y, z, h⟩ := a
    obtain ⟨x', y', z', h'⟩ := b
    go_enter Try.func3, Try.ntmps3
    go_wp2_with fail
    refine name_world fun w1 h1 => ?_
    have G1 : Grew w w1 := by
      rw [h1]
      repeat' (first | (with_reducible exact Grew.refl _) | (with_reducible refine Grew.setCell ?_ ?_ _) | (with_reducible refine Grew.drewN ?_ _) | (with_reducible refine Grew.alloc ?_ _) | (with_reducible refine Grew.trans ?_ G1.out) | (dsimp only; omega))
    have B1_0 : Blk w1 (w.heap.size) 23 [.int .i64 x, .int .i64 y, .int .i64 z, .int .i64 h] := by (rw [h1]; repeat' (first | (with_reducible assumption) | ((with_reducible refine Blk.new ?_); (first | (with_reducible rfl) | (simp only [World.size_alloc, World.size_setCell, size_drewN]; done))) | (with_reducible refine Blk.alloc ?_ _) | (with_reducible refine Blk.drewN ?_ _) | (with_reducible refine Blk.drew ?_) | (refine Blk.other ?_ (by omega) _) | fail))
    have B1_1 : Blk w1 (w.heap.size + 1) 23 [.int .i64 x', .int .i64 y', .int .i64 z', .int .i64 h'] := by (rw [h1]; repeat' (first | (with_reducible assumption) | ((with_reducible refine Blk.new ?_); (first | (with_reducible rfl) | (simp only [World.size_alloc, World.size_setCell, size_drewN]; done))) | (with_reducible refine Blk.alloc ?_ _) | (with_reducible refine Blk.drewN ?_ _) | (with_reducible refine Blk.drew ?_) | (refine Blk.other ?_ (by omega) _) | fail))
    have B1_2 : Blk w1 (w.heap.size + 1 + 1) 25 [.int .i64 px, .int .i64 py] := by (rw [h1]; repeat' (first | (with_reducible assumption) | ((with_reducible refine Blk.new ?_); (first | (with_reducible rfl) | (simp only [World.size_alloc, World.size_setCell, size_drewN]; done))) | (with_reducible refine Blk.alloc ?_ _) | (with_reducible refine Blk.drewN ?_ _) | (with_reducible refine Blk.drew ?_) | (refine Blk.other ?_ (by omega) _) | fail))
    have z1 := G1.size
    replace G1 := hide G1
    clear h1
    have t1_0 := B1_0.lt
    have d1_0_0 := B1_0.cell 0 rfl
    have e1_0_0 := B1_0.free 0
    have d1_0_1 := B1_0.cell 1 rfl
    have e1_0_1 := B1_0.free 1
    have d1_0_2 := B1_0.cell 2 rfl
    have e1_0_2 := B1_0.free 2
    have d1_0_3 := B1_0.cell 3 rfl
    have e1_0_3 := B1_0.free 3
    have t1_1 := B1_1.lt
    have d1_1_0 := B1_1.cell 0 rfl
    have e1_1_0 := B1_1.free 0
    have d1_1_1 := B1_1.cell 1 rfl
    have e1_1_1 := B1_1.free 1
    have d1_1_2 := B1_1.cell 2 rfl
    have e1_1_2 := B1_1.free 2
    have d1_1_3 := B1_1.cell 3 rfl
    have e1_1_3 := B1_1.free 3
    have t1_2 := B1_2.lt
    have d1_2_0 := B1_2.cell 0 rfl
    have e1_2_0 := B1_2.free 0
    have d1_2_1 := B1_2.cell 1 rfl
    have e1_2_1 := B1_2.free 1
    have g1_0_0 := fun m os => (B1_0.grow m os).cell 0 rfl
    have g1_0_1 := fun m os => (B1_0.grow m os).cell 1 rfl
    have g1_0_2 := fun m os => (B1_0.grow m os).cell 2 rfl
    have g1_0_3 := fun m os => (B1_0.grow m os).cell 3 rfl
    have g1_1_0 := fun m os => (B1_1.grow m os).cell 0 rfl
    have g1_1_1 := fun m os => (B1_1.grow m os).cell 1 rfl
    have g1_1_2 := fun m os => (B1_1.grow m os).cell 2 rfl
    have g1_1_3 := fun m os => (B1_1.grow m os).cell 3 rfl
    have g1_2_0 := fun m os => (B1_2.grow m os).cell 0 rfl
    have g1_2_1 := fun m os => (B1_2.grow m os).cell 1 rfl
    refine wp_region_calm (by kernel_rfl) (by kernel_rfl) ?_
    repeat (first | (refine lex_skip rfl (by rfl) ?_) | (refine lex_calm rfl (by rfl) (fun K hK => ?_); go_simp; first | (refine hK _ ?_; clear hK K) | (apply Exists.intro; refine ⟨fun _ _ => ?_, hK _ ?_⟩; (first | (with_reducible exact (V _).out) | (with_reducible exact (K1 _).out) | (with_reducible exact (K2 _).out) | (with_reducible exact (K3 _).out) | (with_reducible exact (K4 _).out) | (with_reducible exact (K5 _).out) | (with_reducible exact (K6 _).out) | (with_reducible exact (K7 _).out) | (with_reducible exact (K8 _).out) | (with_reducible exact (K9 _).out) | (with_reducible exact (A1 _).out)); clear hK K)))
    refine lex_nil ?_
    intro w2 G2
    have B2_0 : Blk w2 (w.heap.size) 23 [.int .i64 x, .int .i64 y, .int .i64 z, .int .i64 h] := B1_0.grew G2
    have B2_1 : Blk w2 (w.heap.size + 1) 23 [.int .i64 x', .int .i64 y', .int .i64 z', .int .i64 h'] := B1_1.grew G2
    have B2_2 : Blk w2 (w.heap.size + 1 + 1) 25 [.int .i64 px, .int .i64 py] := B1_2.grew G2
    have z2 := G2.size
    replace G2 := hide G2
    have t2_0 := B2_0.lt
    have d2_0_0 := B2_0.cell 0 rfl
    have e2_0_0 := B2_0.free 0
    have d2_0_1 := B2_0.cell 1 rfl
    have e2_0_1 := B2_0.free 1
    have d2_0_2 := B2_0.cell 2 rfl
    have e2_0_2 := B2_0.free 2
    have d2_0_3 := B2_0.cell 3 rfl
    have e2_0_3 := B2_0.free 3
    have t2_1 := B2_1.lt
    have d2_1_0 := B2_1.cell 0 rfl
    have e2_1_0 := B2_1.free 0
    have d2_1_1 := B2_1.cell 1 rfl
    have e2_1_1 := B2_1.free 1
    have d2_1_2 := B2_1.cell 2 rfl
    have e2_1_2 := B2_1.free 2
    have d2_1_3 := B2_1.cell 3 rfl
    have e2_1_3 := B2_1.free 3
    have t2_2 := B2_2.lt
    have d2_2_0 := B2_2.cell 0 rfl
    have e2_2_0 := B2_2.free 0
    have d2_2_1 := B2_2.cell 1 rfl
    have e2_2_1 := B2_2.free 1
    go_wp2
    go_ret
    exact ⟨rfl, (G1.out.trans G2.out).1⟩
  | false =>
    have V := fun W => hide (Validate_bad a.x a.y a.w a.h W c)
    rw [c] at K1
    clear c
    obtain ⟨x, y, z, h⟩ := a
    obtain ⟨x', y', z', h'⟩ := b
    go_enter Try.func3, Try.ntmps3
    go_wp2_with fail
    refine name_world fun w1 h1 => ?_
    have G1 : Grew w w1 := by
      rw [h1]
      repeat' (first | (with_reducible exact Grew.refl _) | (with_reducible refine Grew.setCell ?_ ?_ _) | (with_reducible refine Grew.drewN ?_ _) | (with_reducible refine Grew.alloc ?_ _) | (with_reducible refine Grew.trans ?_ G1.out) | (dsimp only; omega))
    have B1_0 : Blk w1 (w.heap.size) 23 [.int .i64 x, .int .i64 y, .int .i64 z, .int .i64 h] := by (rw [h1]; repeat' (first | (with_reducible assumption) | ((with_reducible refine Blk.new ?_); (first | (with_reducible rfl) | (simp only [World.size_alloc, World.size_setCell, size_drewN]; done))) | (with_reducible refine Blk.alloc ?_ _) | (with_reducible refine Blk.drewN ?_ _) | (with_reducible refine Blk.drew ?_) | (refine Blk.other ?_ (by omega) _) | fail))
    have B1_1 : Blk w1 (w.heap.size + 1) 23 [.int .i64 x', .int .i64 y', .int .i64 z', .int .i64 h'] := by (rw [h1]; repeat' (first | (with_reducible assumption) | ((with_reducible refine Blk.new ?_); (first | (with_reducible rfl) | (simp only [World.size_alloc, World.size_setCell, size_drewN]; done))) | (with_reducible refine Blk.alloc ?_ _) | (with_reducible refine Blk.drewN ?_ _) | (with_reducible refine Blk.drew ?_) | (refine Blk.other ?_ (by omega) _) | fail))
    have B1_2 : Blk w1 (w.heap.size + 1 + 1) 25 [.int .i64 px, .int .i64 py] := by (rw [h1]; repeat' (first | (with_reducible assumption) | ((with_reducible refine Blk.new ?_); (first | (with_reducible rfl) | (simp only [World.size_alloc, World.size_setCell, size_drewN]; done))) | (with_reducible refine Blk.alloc ?_ _) | (with_reducible refine Blk.drewN ?_ _) | (with_reducible refine Blk.drew ?_) | (refine Blk.other ?_ (by omega) _) | fail))
    have z1 := G1.size
    replace G1 := hide G1
    clear h1
    have t1_0 := B1_0.lt
    have d1_0_0 := B1_0.cell 0 rfl
    have e1_0_0 := B1_0.free 0
    have d1_0_1 := B1_0.cell 1 rfl
    have e1_0_1 := B1_0.free 1
    have d1_0_2 := B1_0.cell 2 rfl
    have e1_0_2 := B1_0.free 2
    have d1_0_3 := B1_0.cell 3 rfl
    have e1_0_3 := B1_0.free 3
    have t1_1 := B1_1.lt
    have d1_1_0 := B1_1.cell 0 rfl
    have e1_1_0 := B1_1.free 0
    have d1_1_1 := B1_1.cell 1 rfl
    have e1_1_1 := B1_1.free 1
    have d1_1_2 := B1_1.cell 2 rfl
    have e1_1_2 := B1_1.free 2
    have d1_1_3 := B1_1.cell 3 rfl
    have e1_1_3 := B1_1.free 3
    have t1_2 := B1_2.lt
    have d1_2_0 := B1_2.cell 0 rfl
    have e1_2_0 := B1_2.free 0
    have d1_2_1 := B1_2.cell 1 rfl
    have e1_2_1 := B1_2.free 1
    have g1_0_0 := fun m os => (B1_0.grow m os).cell 0 rfl
    have g1_0_1 := fun m os => (B1_0.grow m os).cell 1 rfl
    have g1_0_2 := fun m os => (B1_0.grow m os).cell 2 rfl
    have g1_0_3 := fun m os => (B1_0.grow m os).cell 3 rfl
    have g1_1_0 := fun m os => (B1_1.grow m os).cell 0 rfl
    have g1_1_1 := fun m os => (B1_1.grow m os).cell 1 rfl
    have g1_1_2 := fun m os => (B1_1.grow m os).cell 2 rfl
    have g1_1_3 := fun m os => (B1_1.grow m os).cell 3 rfl
    have g1_2_0 := fun m os => (B1_2.grow m os).cell 0 rfl
    have g1_2_1 := fun m os => (B1_2.grow m os).cell 1 rfl
    refine wp_region_calm (by kernel_rfl) (by kernel_rfl) ?_
    repeat (first | (refine lex_skip rfl (by rfl) ?_) | (refine lex_calm rfl (by rfl) (fun K hK => ?_); go_simp; first | (refine hK _ ?_; clear hK K) | (apply Exists.intro; refine ⟨fun _ _ => ?_, hK _ ?_⟩; (first | (with_reducible exact (V _).out) | (with_reducible exact (K1 _).out) | (with_reducible exact (K2 _).out) | (with_reducible exact (K3 _).out) | (with_reducible exact (K4 _).out) | (with_reducible exact (K5 _).out) | (with_reducible exact (K6 _).out) | (with_reducible exact (K7 _).out) | (with_reducible exact (K8 _).out) | (with_reducible exact (K9 _).out) | (with_reducible exact (A1 _).out)); clear hK K)))
    refine lex_nil ?_
    intro w2 G2
    have B2_0 : Blk w2 (w.heap.size) 23 [.int .i64 x, .int .i64 y, .int .i64 z, .int .i64 h] := B1_0.grew G2
    have B2_1 : Blk w2 (w.heap.size + 1) 23 [.int .i64 x', .int .i64 y', .int .i64 z', .int .i64 h'] := B1_1.grew G2
    have B2_2 : Blk w2 (w.heap.size + 1 + 1) 25 [.int .i64 px, .int .i64 py] := B1_2.grew G2
    have z2 := G2.size
    replace G2 := hide G2
    have t2_0 := B2_0.lt
    have d2_0_0 := B2_0.cell 0 rfl
    have e2_0_0 := B2_0.free 0
    have d2_0_1 := B2_0.cell 1 rfl
    have e2_0_1 := B2_0.free 1
    have d2_0_2 := B2_0.cell 2 rfl
    have e2_0_2 := B2_0.free 2
    have d2_0_3 := B2_0.cell 3 rfl
    have e2_0_3 := B2_0.free 3
    have t2_1 := B2_1.lt
    have d2_1_0 := B2_1.cell 0 rfl
    have e2_1_0 := B2_1.free 0
    have d2_1_1 := B2_1.cell 1 rfl
    have e2_1_1 := B2_1.free 1
    have d2_1_2 := B2_1.cell 2 rfl
    have e2_1_2 := B2_1.free 2
    have d2_1_3 := B2_1.cell 3 rfl
    have e2_1_3 := B2_1.free 3
    have t2_2 := B2_2.lt
    have d2_2_0 := B2_2.cell 0 rfl
    have e2_2_0 := B2_2.free 0
    have d2_2_1 := B2_2.cell 1 rfl
    have e2_2_1 := B2_2.free 1
    go_wp2
    go_ret
    exact ⟨rfl, (G1.out.trans G2.out).1⟩

set_option maxRecDepth 100000 in
theorem lifted (os : Os) (started : os.Started) (H : Type) (enc : TypeId × Value → H) :
    ReturnsInHanded {} Try.checked os 3 .any (Rows.geometryRectsSpec.pre6 enc Try.prog Try.f3 Rows.geometryRectsRow.domain false) (Rows.geometryRectsSpec.post enc Try.prog Try.f3 false true false false) := by
  refine returnsInHanded_of_change (C := Try.checked) own_knob started (by kernel_rfl) Try.func3
    (ChangeSpec.witness6 (enc := enc) (C := Try.checked) false ⟨#[], #[.agg #[.int .i64 0, .int .i64 0, .int .i64 0, .int .i64 0], .agg #[.int .i64 0, .int .i64 0, .int .i64 0, .int .i64 0], .agg #[.int .i64 0, .int .i64 0]], []⟩ 8 (by kernel_rfl) (by kernel_rfl) (by kernel_rfl) (by kernel_rfl)) ?_
  intro W base args ds gs before hval0 hW hcnd _
  have hval : ∀ (j : Nat) t v, Try.f3.params[j]? = some t → args[j]? = some v → Value.okWide Try.prog W .any base t v := hval0
  have hW' := hW
  obtain ⟨p, q, hA0, hV, rfl, hfz, hnd⟩ := hW
  have hA : DataW.TrodAll enc Try.prog W 0 (fun _ => true) true Try.f3.params.toList args.toList ds p := hA0
  have hAk := hA
  rw [Try.params3] at hA hval
  obtain ⟨v0, vs0, d0, ds0, p0, q0, hargs, rfl, rfl, h0, r0⟩ := trodAll_cons hA
  obtain ⟨v1, vs1, d1, ds1, p1, q1, rfl, rfl, rfl, h1, r1⟩ := trodAll_cons r0
  obtain ⟨v2, vs2, d2, ds2, p2, q2, rfl, rfl, rfl, h2, r2⟩ := trodAll_cons r1
  obtain ⟨rfl, rfl, rfl⟩ := trodAll_nil r2
  obtain rfl : args = #[v0, v1, v2] := by cases args; simp_all
  obtain ⟨rfl, rfl⟩ := trodVars_none hV
  obtain ⟨a0, rfl⟩ := open_rect (hval 0 23 v0 rfl rfl) h0
  obtain ⟨a1, rfl⟩ := open_rect (hval 1 23 v1 rfl rfl) h1
  obtain ⟨a2, rfl⟩ := open_point (hval 2 25 v2 rfl rfl) h2
  clear hA0 hval0
  simp only [List.append_nil] at hW'
  refine (walk a0 a1 a2 W).mono fun e W' ⟨he, hg⟩ => ?_
  subst he
  have hargs' := kept_all hg _ _ _ _ (by rw [Try.params3]; intro t ht; simp only [List.mem_cons, List.not_mem_nil, or_false] at ht; (repeat' (rcases ht with rfl | ht)); all_goals first | (subst ht; exact ⟨by kernel_rfl, of_decide_eq_true (by kernel_rfl)⟩) | exact ⟨by kernel_rfl, of_decide_eq_true (by kernel_rfl)⟩) hAk (fun x hx => hW'.lt x (by simpa using hx))
  exact ⟨_, rfl, ⟨_, _, _, [], _, [], hW', trodAll_cons_mk (shut_bool Try.underlying4 _) trodAll_mk0, hargs', rfl, World.keptBut_mono (fun p hp => ⟨hp, Or.inr (by simpa using hp)⟩) (hg.frame _), fun h => by cases h⟩⟩

theorem over : Rows.geometryRectsRow.holds Try.pinned (OpenSpec.ofChange Rows.geometryRectsSpec) :=
  OpenClaim.holds_of_wide 3 Try.f3 rfl rfl rfl rfl rfl rfl rfl ⟨rfl, rfl, rfl, rfl, rfl⟩ rfl rfl rfl rfl rfl (by kernel_rfl) Try.func3 (by kernel_rfl)
    (of_decide_eq_true (by kernel_rfl)) (by unfold Func.isWrapper; first | (rw [if_pos (by decide +kernel)]; kernel_rfl) | (rw [if_neg (by decide +kernel)]; exact ⟨rfl, rfl⟩))
    (fun os started H enc _ => lifted os started H enc)

theorem proved : Rows.GeometryRectsSaid :=
  over
#print axioms proved
end Go.Proofs.Ythldilikkogaoaa.geometryRects
