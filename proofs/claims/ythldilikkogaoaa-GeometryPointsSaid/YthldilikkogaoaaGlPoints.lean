/- The law GeometryPoints returns true for every two rectangles and every point, and leaves the arguments and all old memory as they were; no condition. -/
import Derived.Test.YthldilikkogaoaaRows
import Derived.Test.YthldilikkogaoaaGlOpen
import Derived.Test.YthldilikkogaoaaGlAwake
import Derived.Test.YthldilikkogaoaaGeCont
import Derived.Test.YthldilikkogaoaaGeUnj
import Derived.WalkKit
import Derived.ProofKit
import Derived.OpenShut
namespace Go.Proofs.Ythldilikkogaoaa.geometryPoints
open Go.ChangeShapes Go.WideShapes Go.ChangeAt Go.RowKit Go.Sort
set_option linter.unusedVariables false
set_option linter.unusedSimpArgs false

theorem fill_has {l t r b x y : Int} (h1 : -1048576 ≤ l) (h2 : l ≤ 1048576) (h3 : -1048576 ≤ t) (h4 : t ≤ 1048576) (h5 : r - l ≤ 1048576) (h6 : b - t ≤ 1048576) :
    (fillR l t r b).has x y = decide (l ≤ x ∧ x < r ∧ t ≤ y ∧ y < b) := by
  unfold fillR
  split
  · rename_i h
    rw [show (R.zero.has x y) = false from by simp [R.has, R.zero]]
    symm; simp; omega
  · rename_i h
    have ok : (R.mk l t (r - l) (b - t)).ok = true := by
      simp only [R.ok, rectB, nearB, lenB, Bool.and_eq_true, inB_iff]; omega
    unfold R.has
    rw [ok, Bool.true_and]
    simp only [decide_eq_decide]
    omega
theorem has_in {a : R} {x y : Int} (h : a.ok = true) : a.has x y = decide (a.x ≤ x ∧ x < a.x + a.w ∧ a.y ≤ y ∧ y < a.y + a.h) := by unfold R.has; rw [h, Bool.true_and]
theorem has_full {a : R} {x y : Int} (h : a.has x y = true) : a.empty = false := by
  unfold R.has at h
  simp only [Bool.and_eq_true, decide_eq_true_eq] at h
  unfold R.empty
  rw [h.1]
  simp only [Bool.not_true, Bool.false_or, Bool.or_eq_false_iff, beq_eq_false_iff_ne]
  omega
theorem isect_has (a b : R) (x y : Int) : (isectR a b).has x y = (a.has x y && b.has x y) := by
  unfold isectR
  by_cases c : (a.empty || b.empty) = true
  · rw [if_pos c, show (R.zero.has x y) = false from by simp [R.has, R.zero]]
    cases h1 : a.has x y with
    | false => rfl
    | true =>
      cases h2 : b.has x y with
      | false => rfl
      | true => rw [has_full h1, has_full h2] at c; cases c
  · rw [if_neg c]
    simp only [Bool.or_eq_true, not_or, Bool.not_eq_true] at c
    have h1 := R.full c.1
    have h2 := R.full c.2
    have b1 := R.bounds h1.1
    have b2 := R.bounds h2.1
    rw [fill_has (by omega) (by omega) (by omega) (by omega) (by omega) (by omega), has_in h1.1, has_in h2.1]
    rw [Bool.eq_iff_iff]
    simp only [Bool.and_eq_true, decide_eq_true_eq]
    omega
theorem union_has (a b : R) (x y : Int) (hv : (unionR a b).ok = true) (h : (a.has x y || b.has x y) = true) : (unionR a b).has x y = true := by
  rw [has_in hv]
  revert hv
  unfold unionR
  cases c1 : a.empty <;> cases c2 : b.empty <;> simp only [Bool.and_self, Bool.and_false, Bool.and_true, if_true, Bool.false_eq_true, if_false] <;> intro hv
  · have h1 := R.full c1
    have h2 := R.full c2
    unfold fillR
    rw [if_neg (by omega)]
    simp only [decide_eq_true_eq]
    rw [has_in h1.1, has_in h2.1] at h
    simp only [Bool.or_eq_true, decide_eq_true_eq] at h
    omega
  · have h1 := R.full c1
    have hb : b.has x y = false := by cases e : b.has x y with
      | false => rfl
      | true => rw [has_full e] at c2; cases c2
    rw [hb, Bool.or_false, has_in h1.1] at h
    exact h
  · have h2 := R.full c2
    have ha : a.has x y = false := by cases e : a.has x y with
      | false => rfl
      | true => rw [has_full e] at c1; cases c1
    rw [ha, Bool.false_or, has_in h2.1] at h
    exact h
  · have ha : a.has x y = false := by cases e : a.has x y with
      | false => rfl
      | true => rw [has_full e] at c1; cases c1
    have hb : b.has x y = false := by cases e : b.has x y with
      | false => rfl
      | true => rw [has_full e] at c2; cases c2
    rw [ha, hb] at h; cases h

/-- What the last test comes to. -/
theorem last_ok {v m n u : Bool} (h : v = true → (m || n) = true → u = true) : (v = false) ∨ (v = true ∧ m = false ∧ n = false) ∨ (v = true ∧ m = true ∧ u = true) ∨ (v = true ∧ m = false ∧ n = true ∧ u = true) := by
  cases v <;> cases m <;> cases n <;> cases u <;> simp_all

set_option maxHeartbeats 4000000 in
theorem walk (a b : R) (p : Pt) (w : World) :
    Calls Try.prog 5 #[a.v, b.v, p.v] w fun e w' => e = .returned (.bool true) ∧ Below w.heap.size w w' := by
  have K1 := fun W => hide (Intersect_any a b W)
  have K2 := fun W => hide (Union_any a b W)
  have K3 := fun W => hide (Contains_any a p.x p.y W)
  have K4 := fun W => hide (Contains_any b p.x p.y W)
  have K5 := fun W => hide (Contains_any (isectR a b) p.x p.y W)
  have K6 := fun W => hide (Contains_any (unionR a b) p.x p.y W)
  have A1 := fun W => hide (awake_any W)
  have V1 := fun (h : (unionR a b).ok = true) W => hide (Validate_ok (unionR a b).x (unionR a b).y (unionR a b).w (unionR a b).h W h)
  have V2 := fun (h : (unionR a b).ok = false) W => hide (Validate_bad (unionR a b).x (unionR a b).y (unionR a b).w (unionR a b).h W h)
  rw [isect_has] at K5
  have L := last_ok (union_has a b p.x p.y)
  generalize isectR a b = q1 at K1 K5
  generalize unionR a b = q2 at K2 K6 V1 V2 L
  generalize a.has p.x p.y = m at K3 K5 L
  generalize b.has p.x p.y = n at K4 K5 L
  generalize q2.has p.x p.y = u at K6 L
  obtain ⟨p1, p2, p3, p4⟩ := q1
  obtain ⟨p5, p6, p7, p8⟩ := q2
  obtain ⟨px, py⟩ := p
  obtain ⟨x, y, z, h⟩ := a
  obtain ⟨x', y', z', h'⟩ := b
  simp only at V1 V2
  rcases L with l1 | ⟨l1, l2, l3⟩ | ⟨l1, l2, l3⟩ | ⟨l1, l2, l3, l4⟩
  · have VV := V2 l1
    clear V1 V2 l1
    cases m <;> cases n
    · go_enter Try.func5, Try.ntmps5
      go_wp2_with fail
      refine name_world fun w1 h1 => ?_
      have G1 : Grew w w1 := by
        rw [h1]
        repeat' (first | (with_reducible exact Grew.refl _) | (with_reducible refine Grew.setCell ?_ ?_ _) | (with_reducible refine Grew.drewN ?_ _) | (with_reducible refine Grew.alloc ?_ _) | (with_reducible refine Grew.trans ?_ G1.out) | (dsimp only; omega))
      have B1_0 : Blk w1 (w.heap.size) 23 [.int .i64 x, .int .i64 y, .int .i64 z, .int .i64 h] := by (rw [h1]; repeat' (first | (with_reducible assumption) | ((with_reducible refine Blk.new ?_); (first | (with_reducible rfl) | (simp only [World.size_alloc, World.size_setCell, size_drewN]; done))) | (with_reducible refine Blk.alloc ?_ _) | (with_reducible refine Blk.drewN ?_ _) | (with_reducible refine Blk.drew ?_) | (refine Blk.other ?_ (by omega) _) | fail))
      have B1_1 : Blk w1 (w.heap.size + 1) 23 [.int .i64 x', .int .i64 y', .int .i64 z', .int .i64 h'] := by (rw [h1]; repeat' (first | (with_reducible assumption) | ((with_reducible refine Blk.new ?_); (first | (with_reducible rfl) | (simp only [World.size_alloc, World.size_setCell, size_drewN]; done))) | (with_reducible refine Blk.alloc ?_ _) | (with_reducible refine Blk.drewN ?_ _) | (with_reducible refine Blk.drew ?_) | (refine Blk.other ?_ (by omega) _) | fail))
      have B1_2 : Blk w1 (w.heap.size + 1 + 1) 25 [.int .i64 px, .int .i64 py] := by (rw [h1]; repeat' (first | (with_reducible assumption) | ((with_reducible refine Blk.new ?_); (first | (with_reducible rfl) | (simp only [World.size_alloc, World.size_setCell, size_drewN]; done))) | (with_reducible refine Blk.alloc ?_ _) | (with_reducible refine Blk.drewN ?_ _) | (with_reducible refine Blk.drew ?_) | (refine Blk.other ?_ (by omega) _) | fail))
      have z1 := G1.size
      replace G1 := hide G1
      clear h1
      have t1_0 := B1_0.lt
      have d1_0_0 := B1_0.cell 0 rfl
      have e1_0_0 := B1_0.free 0
      have d1_0_1 := B1_0.cell 1 rfl
      have e1_0_1 := B1_0.free 1
      have d1_0_2 := B1_0.cell 2 rfl
      have e1_0_2 := B1_0.free 2
      have d1_0_3 := B1_0.cell 3 rfl
      have e1_0_3 := B1_0.free 3
      have t1_1 := B1_1.lt
      have d1_1_0 := B1_1.cell 0 rfl
      have e1_1_0 := B1_1.free 0
      have d1_1_1 := B1_1.cell 1 rfl
      have e1_1_1 := B1_1.free 1
      have d1_1_2 := B1_1.cell 2 rfl
      have e1_1_2 := B1_1.free 2
      have d1_1_3 := B1_1.cell 3 rfl
      have e1_1_3 := B1_1.free 3
      have t1_2 := B1_2.lt
      have d1_2_0 := B1_2.cell 0 rfl
      have e1_2_0 := B1_2.free 0
      have d1_2_1 := B1_2.cell 1 rfl
      have e1_2_1 := B1_2.free 1
      have g1_0_0 := fun m os => (B1_0.grow m os).cell 0 rfl
      have g1_0_1 := fun m os => (B1_0.grow m os).cell 1 rfl
      have g1_0_2 := fun m os => (B1_0.grow m os).cell 2 rfl
      have g1_0_3 := fun m os => (B1_0.grow m os).cell 3 rfl
      have g1_1_0 := fun m os => (B1_1.grow m os).cell 0 rfl
      have g1_1_1 := fun m os => (B1_1.grow m os).cell 1 rfl
      have g1_1_2 := fun m os => (B1_1.grow m os).cell 2 rfl
      have g1_1_3 := fun m os => (B1_1.grow m os).cell 3 rfl
      have g1_2_0 := fun m os => (B1_2.grow m os).cell 0 rfl
      have g1_2_1 := fun m os => (B1_2.grow m os).cell 1 rfl
      refine wp_region_made [⟨6, 8, 7, 23, [.int .i64 0, .int .i64 0, .int .i64 0, .int .i64 0], [.int .i64 p1, .int .i64 p2, .int .i64 p3, .int .i64 p4]⟩, ⟨7, 9, 8, 23, [.int .i64 0, .int .i64 0, .int .i64 0, .int .i64 0], [.int .i64 p5, .int .i64 p6, .int .i64 p7, .int .i64 p8]⟩] (by kernel_rfl) (by kernel_rfl) (by simp [madeSlots]) ?_
      repeat (first | (refine lex_skip rfl (by rfl) ?_) | (refine lex_calm rfl (by rfl) (fun K hK => ?_); go_simp; first | (refine hK _ ?_; clear hK K) | (apply Exists.intro; refine ⟨fun _ _ => ?_, hK _ ?_⟩; (first | (with_reducible exact (K1 _).out) | (with_reducible exact (K2 _).out)); clear hK K)))
      refine lex_alloc (m := ⟨6, 8, 7, 23, [.int .i64 0, .int .i64 0, .int .i64 0, .int .i64 0], [.int .i64 p1, .int .i64 p2, .int .i64 p3, .int .i64 p4]⟩) (by kernel_rfl) (by simp) (by rfl) rfl ?_ ?_
      · intro ev w
        go_simp
      repeat (first | (refine lex_skip rfl (by rfl) ?_) | (refine lex_calm rfl (by rfl) (fun K hK => ?_); go_simp; first | (refine hK _ ?_; clear hK K) | (apply Exists.intro; refine ⟨fun _ _ => ?_, hK _ ?_⟩; (first | (with_reducible exact (K1 _).out) | (with_reducible exact (K2 _).out)); clear hK K)))
      refine lex_alloc (m := ⟨7, 9, 8, 23, [.int .i64 0, .int .i64 0, .int .i64 0, .int .i64 0], [.int .i64 p5, .int .i64 p6, .int .i64 p7, .int .i64 p8]⟩) (by kernel_rfl) (by simp) (by rfl) rfl ?_ ?_
      · intro ev w
        go_simp
      repeat (first | (refine lex_skip rfl (by rfl) ?_) | (refine lex_calm rfl (by rfl) (fun K hK => ?_); go_simp; first | (refine hK _ ?_; clear hK K) | (apply Exists.intro; refine ⟨fun _ _ => ?_, hK _ ?_⟩; (first | (with_reducible exact (K1 _).out) | (with_reducible exact (K2 _).out)); clear hK K)))
      refine lex_store (m := ⟨6, 8, 7, 23, [.int .i64 0, .int .i64 0, .int .i64 0, .int .i64 0], [.int .i64 p1, .int .i64 p2, .int .i64 p3, .int .i64 p4]⟩) (by kernel_rfl) (by simp) (by rfl) rfl ?_ ?_
      · intro vs w b hv hB
        have d0 := hB.cell 0 rfl
        have e0 := hB.free 0
        have d1 := hB.cell 1 rfl
        have e1 := hB.free 1
        have d2 := hB.cell 2 rfl
        have e2 := hB.free 2
        have d3 := hB.cell 3 rfl
        have e3 := hB.free 3
        simp only [] at hv
        simp [go_sem, evS, madeSlots, List.lookup, setAll, *]
      repeat (first | (refine lex_skip rfl (by rfl) ?_) | (refine lex_calm rfl (by rfl) (fun K hK => ?_); go_simp; first | (refine hK _ ?_; clear hK K) | (apply Exists.intro; refine ⟨fun _ _ => ?_, hK _ ?_⟩; (first | (with_reducible exact (K1 _).out) | (with_reducible exact (K2 _).out)); clear hK K)))
      refine lex_store (m := ⟨7, 9, 8, 23, [.int .i64 0, .int .i64 0, .int .i64 0, .int .i64 0], [.int .i64 p5, .int .i64 p6, .int .i64 p7, .int .i64 p8]⟩) (by kernel_rfl) (by simp) (by rfl) rfl ?_ ?_
      · intro vs w b hv hB
        have d0 := hB.cell 0 rfl
        have e0 := hB.free 0
        have d1 := hB.cell 1 rfl
        have e1 := hB.free 1
        have d2 := hB.cell 2 rfl
        have e2 := hB.free 2
        have d3 := hB.cell 3 rfl
        have e3 := hB.free 3
        simp only [] at hv
        simp [go_sem, evS, madeSlots, List.lookup, setAll, *]
      repeat (first | (refine lex_skip rfl (by rfl) ?_) | (refine lex_calm rfl (by rfl) (fun K hK => ?_); go_simp; first | (refine hK _ ?_; clear hK K) | (apply Exists.intro; refine ⟨fun _ _ => ?_, hK _ ?_⟩; (first | (with_reducible exact (K1 _).out) | (with_reducible exact (K2 _).out)); clear hK K)))
      refine lex_nil ?_
      rintro vs w2 ⟨G2, hb, hne⟩
      obtain ⟨b2_0, hv0, s2_0, K2_0⟩ := hb ⟨6, 8, 7, 23, [.int .i64 0, .int .i64 0, .int .i64 0, .int .i64 0], [.int .i64 p1, .int .i64 p2, .int .i64 p3, .int .i64 p4]⟩ (by simp) rfl
      obtain ⟨b2_1, hv1, s2_1, K2_1⟩ := hb ⟨7, 9, 8, 23, [.int .i64 0, .int .i64 0, .int .i64 0, .int .i64 0], [.int .i64 p5, .int .i64 p6, .int .i64 p7, .int .i64 p8]⟩ (by simp) rfl
      have hn2_0_1 : b2_0 ≠ b2_1 := fun e => hne ⟨6, 8, 7, 23, [.int .i64 0, .int .i64 0, .int .i64 0, .int .i64 0], [.int .i64 p1, .int .i64 p2, .int .i64 p3, .int .i64 p4]⟩ (by simp) ⟨7, 9, 8, 23, [.int .i64 0, .int .i64 0, .int .i64 0, .int .i64 0], [.int .i64 p5, .int .i64 p6, .int .i64 p7, .int .i64 p8]⟩ (by simp) (by show (6 : Nat) ≠ 7; decide) rfl rfl (hv0.trans (e ▸ hv1.symm))
      simp only [fillS, madeSlots, List.map_cons, List.map_nil, List.foldl_cons, List.foldl_nil, hv0, hv1]
      clear hb hne hv0 hv1 vs
      have B2_0 : Blk w2 (w.heap.size) 23 [.int .i64 x, .int .i64 y, .int .i64 z, .int .i64 h] := B1_0.grew G2
      have B2_1 : Blk w2 (w.heap.size + 1) 23 [.int .i64 x', .int .i64 y', .int .i64 z', .int .i64 h'] := B1_1.grew G2
      have B2_2 : Blk w2 (w.heap.size + 1 + 1) 25 [.int .i64 px, .int .i64 py] := B1_2.grew G2
      have B2_3 : Blk w2 b2_0 23 [.int .i64 p1, .int .i64 p2, .int .i64 p3, .int .i64 p4] := K2_0
      have B2_4 : Blk w2 b2_1 23 [.int .i64 p5, .int .i64 p6, .int .i64 p7, .int .i64 p8] := K2_1
      clear K2_0 K2_1
      have z2 := G2.size
      replace G2 := hide G2
      have t2_0 := B2_0.lt
      have d2_0_0 := B2_0.cell 0 rfl
      have e2_0_0 := B2_0.free 0
      have d2_0_1 := B2_0.cell 1 rfl
      have e2_0_1 := B2_0.free 1
      have d2_0_2 := B2_0.cell 2 rfl
      have e2_0_2 := B2_0.free 2
      have d2_0_3 := B2_0.cell 3 rfl
      have e2_0_3 := B2_0.free 3
      have t2_1 := B2_1.lt
      have d2_1_0 := B2_1.cell 0 rfl
      have e2_1_0 := B2_1.free 0
      have d2_1_1 := B2_1.cell 1 rfl
      have e2_1_1 := B2_1.free 1
      have d2_1_2 := B2_1.cell 2 rfl
      have e2_1_2 := B2_1.free 2
      have d2_1_3 := B2_1.cell 3 rfl
      have e2_1_3 := B2_1.free 3
      have t2_2 := B2_2.lt
      have d2_2_0 := B2_2.cell 0 rfl
      have e2_2_0 := B2_2.free 0
      have d2_2_1 := B2_2.cell 1 rfl
      have e2_2_1 := B2_2.free 1
      have t2_3 := B2_3.lt
      have d2_3_0 := B2_3.cell 0 rfl
      have e2_3_0 := B2_3.free 0
      have d2_3_1 := B2_3.cell 1 rfl
      have e2_3_1 := B2_3.free 1
      have d2_3_2 := B2_3.cell 2 rfl
      have e2_3_2 := B2_3.free 2
      have d2_3_3 := B2_3.cell 3 rfl
      have e2_3_3 := B2_3.free 3
      have t2_4 := B2_4.lt
      have d2_4_0 := B2_4.cell 0 rfl
      have e2_4_0 := B2_4.free 0
      have d2_4_1 := B2_4.cell 1 rfl
      have e2_4_1 := B2_4.free 1
      have d2_4_2 := B2_4.cell 2 rfl
      have e2_4_2 := B2_4.free 2
      have d2_4_3 := B2_4.cell 3 rfl
      have e2_4_3 := B2_4.free 3
      go_simp
      go_wp2_with fail
      have g2_0_0 := fun m os => (B2_0.grow m os).cell 0 rfl
      have g2_0_1 := fun m os => (B2_0.grow m os).cell 1 rfl
      have g2_0_2 := fun m os => (B2_0.grow m os).cell 2 rfl
      have g2_0_3 := fun m os => (B2_0.grow m os).cell 3 rfl
      have g2_1_0 := fun m os => (B2_1.grow m os).cell 0 rfl
      have g2_1_1 := fun m os => (B2_1.grow m os).cell 1 rfl
      have g2_1_2 := fun m os => (B2_1.grow m os).cell 2 rfl
      have g2_1_3 := fun m os => (B2_1.grow m os).cell 3 rfl
      have g2_2_0 := fun m os => (B2_2.grow m os).cell 0 rfl
      have g2_2_1 := fun m os => (B2_2.grow m os).cell 1 rfl
      have g2_3_0 := fun m os => (B2_3.grow m os).cell 0 rfl
      have g2_3_1 := fun m os => (B2_3.grow m os).cell 1 rfl
      have g2_3_2 := fun m os => (B2_3.grow m os).cell 2 rfl
      have g2_3_3 := fun m os => (B2_3.grow m os).cell 3 rfl
      have g2_4_0 := fun m os => (B2_4.grow m os).cell 0 rfl
      have g2_4_1 := fun m os => (B2_4.grow m os).cell 1 rfl
      have g2_4_2 := fun m os => (B2_4.grow m os).cell 2 rfl
      have g2_4_3 := fun m os => (B2_4.grow m os).cell 3 rfl
      refine wp_region_calm (by kernel_rfl) (by kernel_rfl) ?_
      repeat (first | (refine lex_skip rfl (by rfl) ?_) | (refine lex_calm rfl (by rfl) (fun K hK => ?_); go_simp; first | (refine hK _ ?_; clear hK K) | (apply Exists.intro; refine ⟨fun _ _ => ?_, hK _ ?_⟩; (first | (with_reducible exact (K3 _).out) | (with_reducible exact (K4 _).out)); clear hK K)))
      refine lex_nil ?_
      intro w3 G3
      have B3_0 : Blk w3 (w.heap.size) 23 [.int .i64 x, .int .i64 y, .int .i64 z, .int .i64 h] := B2_0.grew G3
      have B3_1 : Blk w3 (w.heap.size + 1) 23 [.int .i64 x', .int .i64 y', .int .i64 z', .int .i64 h'] := B2_1.grew G3
      have B3_2 : Blk w3 (w.heap.size + 1 + 1) 25 [.int .i64 px, .int .i64 py] := B2_2.grew G3
      have B3_3 : Blk w3 (b2_0) 23 [.int .i64 p1, .int .i64 p2, .int .i64 p3, .int .i64 p4] := B2_3.grew G3
      have B3_4 : Blk w3 (b2_1) 23 [.int .i64 p5, .int .i64 p6, .int .i64 p7, .int .i64 p8] := B2_4.grew G3
      have z3 := G3.size
      replace G3 := hide G3
      have t3_0 := B3_0.lt
      have d3_0_0 := B3_0.cell 0 rfl
      have e3_0_0 := B3_0.free 0
      have d3_0_1 := B3_0.cell 1 rfl
      have e3_0_1 := B3_0.free 1
      have d3_0_2 := B3_0.cell 2 rfl
      have e3_0_2 := B3_0.free 2
      have d3_0_3 := B3_0.cell 3 rfl
      have e3_0_3 := B3_0.free 3
      have t3_1 := B3_1.lt
      have d3_1_0 := B3_1.cell 0 rfl
      have e3_1_0 := B3_1.free 0
      have d3_1_1 := B3_1.cell 1 rfl
      have e3_1_1 := B3_1.free 1
      have d3_1_2 := B3_1.cell 2 rfl
      have e3_1_2 := B3_1.free 2
      have d3_1_3 := B3_1.cell 3 rfl
      have e3_1_3 := B3_1.free 3
      have t3_2 := B3_2.lt
      have d3_2_0 := B3_2.cell 0 rfl
      have e3_2_0 := B3_2.free 0
      have d3_2_1 := B3_2.cell 1 rfl
      have e3_2_1 := B3_2.free 1
      have t3_3 := B3_3.lt
      have d3_3_0 := B3_3.cell 0 rfl
      have e3_3_0 := B3_3.free 0
      have d3_3_1 := B3_3.cell 1 rfl
      have e3_3_1 := B3_3.free 1
      have d3_3_2 := B3_3.cell 2 rfl
      have e3_3_2 := B3_3.free 2
      have d3_3_3 := B3_3.cell 3 rfl
      have e3_3_3 := B3_3.free 3
      have t3_4 := B3_4.lt
      have d3_4_0 := B3_4.cell 0 rfl
      have e3_4_0 := B3_4.free 0
      have d3_4_1 := B3_4.cell 1 rfl
      have e3_4_1 := B3_4.free 1
      have d3_4_2 := B3_4.cell 2 rfl
      have e3_4_2 := B3_4.free 2
      have d3_4_3 := B3_4.cell 3 rfl
      have e3_4_3 := B3_4.free 3
      go_wp2_with fail
      refine ((K5 _).out).mono ?_
      rintro e w4 ⟨rfl, G4⟩
      try (with_reducible replace G4 := Grew.undrawn G4)
      have B4_0 : Blk w4 (w.heap.size) 23 [.int .i64 x, .int .i64 y, .int .i64 z, .int .i64 h] := Blk.grew (by (repeat' (first | (with_reducible assumption) | ((with_reducible refine Blk.new ?_); (first | (with_reducible rfl) | (simp only [World.size_alloc, World.size_setCell, size_drewN]; done))) | (with_reducible refine Blk.alloc ?_ _) | (with_reducible refine Blk.drewN ?_ _) | (with_reducible refine Blk.drew ?_) | (refine Blk.other ?_ (by omega) _) | fail))) G4
      have B4_1 : Blk w4 (w.heap.size + 1) 23 [.int .i64 x', .int .i64 y', .int .i64 z', .int .i64 h'] := Blk.grew (by (repeat' (first | (with_reducible assumption) | ((with_reducible refine Blk.new ?_); (first | (with_reducible rfl) | (simp only [World.size_alloc, World.size_setCell, size_drewN]; done))) | (with_reducible refine Blk.alloc ?_ _) | (with_reducible refine Blk.drewN ?_ _) | (with_reducible refine Blk.drew ?_) | (refine Blk.other ?_ (by omega) _) | fail))) G4
      have B4_2 : Blk w4 (w.heap.size + 1 + 1) 25 [.int .i64 px, .int .i64 py] := Blk.grew (by (repeat' (first | (with_reducible assumption) | ((with_reducible refine Blk.new ?_); (first | (with_reducible rfl) | (simp only [World.size_alloc, World.size_setCell, size_drewN]; done))) | (with_reducible refine Blk.alloc ?_ _) | (with_reducible refine Blk.drewN ?_ _) | (with_reducible refine Blk.drew ?_) | (refine Blk.other ?_ (by omega) _) | fail))) G4
      have B4_3 : Blk w4 (b2_0) 23 [.int .i64 p1, .int .i64 p2, .int .i64 p3, .int .i64 p4] := Blk.grew (by (repeat' (first | (with_reducible assumption) | ((with_reducible refine Blk.new ?_); (first | (with_reducible rfl) | (simp only [World.size_alloc, World.size_setCell, size_drewN]; done))) | (with_reducible refine Blk.alloc ?_ _) | (with_reducible refine Blk.drewN ?_ _) | (with_reducible refine Blk.drew ?_) | (refine Blk.other ?_ (by omega) _) | fail))) G4
      have B4_4 : Blk w4 (b2_1) 23 [.int .i64 p5, .int .i64 p6, .int .i64 p7, .int .i64 p8] := Blk.grew (by (repeat' (first | (with_reducible assumption) | ((with_reducible refine Blk.new ?_); (first | (with_reducible rfl) | (simp only [World.size_alloc, World.size_setCell, size_drewN]; done))) | (with_reducible refine Blk.alloc ?_ _) | (with_reducible refine Blk.drewN ?_ _) | (with_reducible refine Blk.drew ?_) | (refine Blk.other ?_ (by omega) _) | fail))) G4
      have z4 := G4.size
      try simp only [World.size_alloc, World.size_setCell, size_drewN] at z4
      replace G4 := hide G4
      have t4_0 := B4_0.lt
      have d4_0_0 := B4_0.cell 0 rfl
      have e4_0_0 := B4_0.free 0
      have d4_0_1 := B4_0.cell 1 rfl
      have e4_0_1 := B4_0.free 1
      have d4_0_2 := B4_0.cell 2 rfl
      have e4_0_2 := B4_0.free 2
      have d4_0_3 := B4_0.cell 3 rfl
      have e4_0_3 := B4_0.free 3
      have t4_1 := B4_1.lt
      have d4_1_0 := B4_1.cell 0 rfl
      have e4_1_0 := B4_1.free 0
      have d4_1_1 := B4_1.cell 1 rfl
      have e4_1_1 := B4_1.free 1
      have d4_1_2 := B4_1.cell 2 rfl
      have e4_1_2 := B4_1.free 2
      have d4_1_3 := B4_1.cell 3 rfl
      have e4_1_3 := B4_1.free 3
      have t4_2 := B4_2.lt
      have d4_2_0 := B4_2.cell 0 rfl
      have e4_2_0 := B4_2.free 0
      have d4_2_1 := B4_2.cell 1 rfl
      have e4_2_1 := B4_2.free 1
      have t4_3 := B4_3.lt
      have d4_3_0 := B4_3.cell 0 rfl
      have e4_3_0 := B4_3.free 0
      have d4_3_1 := B4_3.cell 1 rfl
      have e4_3_1 := B4_3.free 1
      have d4_3_2 := B4_3.cell 2 rfl
      have e4_3_2 := B4_3.free 2
      have d4_3_3 := B4_3.cell 3 rfl
      have e4_3_3 := B4_3.free 3
      have t4_4 := B4_4.lt
      have d4_4_0 := B4_4.cell 0 rfl
      have e4_4_0 := B4_4.free 0
      have d4_4_1 := B4_4.cell 1 rfl
      have e4_4_1 := B4_4.free 1
      have d4_4_2 := B4_4.cell 2 rfl
      have e4_4_2 := B4_4.free 2
      have d4_4_3 := B4_4.cell 3 rfl
      have e4_4_3 := B4_4.free 3
      go_wp2_with fail
      refine ((VV _).out).mono ?_
      rintro e w5 ⟨rfl, G5⟩
      try (with_reducible replace G5 := Grew.undrawn G5)
      have B5_0 : Blk w5 (w.heap.size) 23 [.int .i64 x, .int .i64 y, .int .i64 z, .int .i64 h] := Blk.grew (by (repeat' (first | (with_reducible assumption) | ((with_reducible refine Blk.new ?_); (first | (with_reducible rfl) | (simp only [World.size_alloc, World.size_setCell, size_drewN]; done))) | (with_reducible refine Blk.alloc ?_ _) | (with_reducible refine Blk.drewN ?_ _) | (with_reducible refine Blk.drew ?_) | (refine Blk.other ?_ (by omega) _) | fail))) G5
      have B5_1 : Blk w5 (w.heap.size + 1) 23 [.int .i64 x', .int .i64 y', .int .i64 z', .int .i64 h'] := Blk.grew (by (repeat' (first | (with_reducible assumption) | ((with_reducible refine Blk.new ?_); (first | (with_reducible rfl) | (simp only [World.size_alloc, World.size_setCell, size_drewN]; done))) | (with_reducible refine Blk.alloc ?_ _) | (with_reducible refine Blk.drewN ?_ _) | (with_reducible refine Blk.drew ?_) | (refine Blk.other ?_ (by omega) _) | fail))) G5
      have B5_2 : Blk w5 (w.heap.size + 1 + 1) 25 [.int .i64 px, .int .i64 py] := Blk.grew (by (repeat' (first | (with_reducible assumption) | ((with_reducible refine Blk.new ?_); (first | (with_reducible rfl) | (simp only [World.size_alloc, World.size_setCell, size_drewN]; done))) | (with_reducible refine Blk.alloc ?_ _) | (with_reducible refine Blk.drewN ?_ _) | (with_reducible refine Blk.drew ?_) | (refine Blk.other ?_ (by omega) _) | fail))) G5
      have B5_3 : Blk w5 (b2_0) 23 [.int .i64 p1, .int .i64 p2, .int .i64 p3, .int .i64 p4] := Blk.grew (by (repeat' (first | (with_reducible assumption) | ((with_reducible refine Blk.new ?_); (first | (with_reducible rfl) | (simp only [World.size_alloc, World.size_setCell, size_drewN]; done))) | (with_reducible refine Blk.alloc ?_ _) | (with_reducible refine Blk.drewN ?_ _) | (with_reducible refine Blk.drew ?_) | (refine Blk.other ?_ (by omega) _) | fail))) G5
      have B5_4 : Blk w5 (b2_1) 23 [.int .i64 p5, .int .i64 p6, .int .i64 p7, .int .i64 p8] := Blk.grew (by (repeat' (first | (with_reducible assumption) | ((with_reducible refine Blk.new ?_); (first | (with_reducible rfl) | (simp only [World.size_alloc, World.size_setCell, size_drewN]; done))) | (with_reducible refine Blk.alloc ?_ _) | (with_reducible refine Blk.drewN ?_ _) | (with_reducible refine Blk.drew ?_) | (refine Blk.other ?_ (by omega) _) | fail))) G5
      have z5 := G5.size
      try simp only [World.size_alloc, World.size_setCell, size_drewN] at z5
      replace G5 := hide G5
      have t5_0 := B5_0.lt
      have d5_0_0 := B5_0.cell 0 rfl
      have e5_0_0 := B5_0.free 0
      have d5_0_1 := B5_0.cell 1 rfl
      have e5_0_1 := B5_0.free 1
      have d5_0_2 := B5_0.cell 2 rfl
      have e5_0_2 := B5_0.free 2
      have d5_0_3 := B5_0.cell 3 rfl
      have e5_0_3 := B5_0.free 3
      have t5_1 := B5_1.lt
      have d5_1_0 := B5_1.cell 0 rfl
      have e5_1_0 := B5_1.free 0
      have d5_1_1 := B5_1.cell 1 rfl
      have e5_1_1 := B5_1.free 1
      have d5_1_2 := B5_1.cell 2 rfl
      have e5_1_2 := B5_1.free 2
      have d5_1_3 := B5_1.cell 3 rfl
      have e5_1_3 := B5_1.free 3
      have t5_2 := B5_2.lt
      have d5_2_0 := B5_2.cell 0 rfl
      have e5_2_0 := B5_2.free 0
      have d5_2_1 := B5_2.cell 1 rfl
      have e5_2_1 := B5_2.free 1
      have t5_3 := B5_3.lt
      have d5_3_0 := B5_3.cell 0 rfl
      have e5_3_0 := B5_3.free 0
      have d5_3_1 := B5_3.cell 1 rfl
      have e5_3_1 := B5_3.free 1
      have d5_3_2 := B5_3.cell 2 rfl
      have e5_3_2 := B5_3.free 2
      have d5_3_3 := B5_3.cell 3 rfl
      have e5_3_3 := B5_3.free 3
      have t5_4 := B5_4.lt
      have d5_4_0 := B5_4.cell 0 rfl
      have e5_4_0 := B5_4.free 0
      have d5_4_1 := B5_4.cell 1 rfl
      have e5_4_1 := B5_4.free 1
      have d5_4_2 := B5_4.cell 2 rfl
      have e5_4_2 := B5_4.free 2
      have d5_4_3 := B5_4.cell 3 rfl
      have e5_4_3 := B5_4.free 3
      go_wp2_with fail
      refine ((A1 _).out).mono ?_
      rintro e w6 ⟨rfl, G6⟩
      try (with_reducible replace G6 := Grew.undrawn G6)
      have B6_0 : Blk w6 (w.heap.size) 23 [.int .i64 x, .int .i64 y, .int .i64 z, .int .i64 h] := Blk.grew (by (repeat' (first | (with_reducible assumption) | ((with_reducible refine Blk.new ?_); (first | (with_reducible rfl) | (simp only [World.size_alloc, World.size_setCell, size_drewN]; done))) | (with_reducible refine Blk.alloc ?_ _) | (with_reducible refine Blk.drewN ?_ _) | (with_reducible refine Blk.drew ?_) | (refine Blk.other ?_ (by omega) _) | fail))) G6
      have B6_1 : Blk w6 (w.heap.size + 1) 23 [.int .i64 x', .int .i64 y', .int .i64 z', .int .i64 h'] := Blk.grew (by (repeat' (first | (with_reducible assumption) | ((with_reducible refine Blk.new ?_); (first | (with_reducible rfl) | (simp only [World.size_alloc, World.size_setCell, size_drewN]; done))) | (with_reducible refine Blk.alloc ?_ _) | (with_reducible refine Blk.drewN ?_ _) | (with_reducible refine Blk.drew ?_) | (refine Blk.other ?_ (by omega) _) | fail))) G6
      have B6_2 : Blk w6 (w.heap.size + 1 + 1) 25 [.int .i64 px, .int .i64 py] := Blk.grew (by (repeat' (first | (with_reducible assumption) | ((with_reducible refine Blk.new ?_); (first | (with_reducible rfl) | (simp only [World.size_alloc, World.size_setCell, size_drewN]; done))) | (with_reducible refine Blk.alloc ?_ _) | (with_reducible refine Blk.drewN ?_ _) | (with_reducible refine Blk.drew ?_) | (refine Blk.other ?_ (by omega) _) | fail))) G6
      have B6_3 : Blk w6 (b2_0) 23 [.int .i64 p1, .int .i64 p2, .int .i64 p3, .int .i64 p4] := Blk.grew (by (repeat' (first | (with_reducible assumption) | ((with_reducible refine Blk.new ?_); (first | (with_reducible rfl) | (simp only [World.size_alloc, World.size_setCell, size_drewN]; done))) | (with_reducible refine Blk.alloc ?_ _) | (with_reducible refine Blk.drewN ?_ _) | (with_reducible refine Blk.drew ?_) | (refine Blk.other ?_ (by omega) _) | fail))) G6
      have B6_4 : Blk w6 (b2_1) 23 [.int .i64 p5, .int .i64 p6, .int .i64 p7, .int .i64 p8] := Blk.grew (by (repeat' (first | (with_reducible assumption) | ((with_reducible refine Blk.new ?_); (first | (with_reducible rfl) | (simp only [World.size_alloc, World.size_setCell, size_drewN]; done))) | (with_reducible refine Blk.alloc ?_ _) | (with_reducible refine Blk.drewN ?_ _) | (with_reducible refine Blk.drew ?_) | (refine Blk.other ?_ (by omega) _) | fail))) G6
      have z6 := G6.size
      try simp only [World.size_alloc, World.size_setCell, size_drewN] at z6
      replace G6 := hide G6
      have t6_0 := B6_0.lt
      have d6_0_0 := B6_0.cell 0 rfl
      have e6_0_0 := B6_0.free 0
      have d6_0_1 := B6_0.cell 1 rfl
      have e6_0_1 := B6_0.free 1
      have d6_0_2 := B6_0.cell 2 rfl
      have e6_0_2 := B6_0.free 2
      have d6_0_3 := B6_0.cell 3 rfl
      have e6_0_3 := B6_0.free 3
      have t6_1 := B6_1.lt
      have d6_1_0 := B6_1.cell 0 rfl
      have e6_1_0 := B6_1.free 0
      have d6_1_1 := B6_1.cell 1 rfl
      have e6_1_1 := B6_1.free 1
      have d6_1_2 := B6_1.cell 2 rfl
      have e6_1_2 := B6_1.free 2
      have d6_1_3 := B6_1.cell 3 rfl
      have e6_1_3 := B6_1.free 3
      have t6_2 := B6_2.lt
      have d6_2_0 := B6_2.cell 0 rfl
      have e6_2_0 := B6_2.free 0
      have d6_2_1 := B6_2.cell 1 rfl
      have e6_2_1 := B6_2.free 1
      have t6_3 := B6_3.lt
      have d6_3_0 := B6_3.cell 0 rfl
      have e6_3_0 := B6_3.free 0
      have d6_3_1 := B6_3.cell 1 rfl
      have e6_3_1 := B6_3.free 1
      have d6_3_2 := B6_3.cell 2 rfl
      have e6_3_2 := B6_3.free 2
      have d6_3_3 := B6_3.cell 3 rfl
      have e6_3_3 := B6_3.free 3
      have t6_4 := B6_4.lt
      have d6_4_0 := B6_4.cell 0 rfl
      have e6_4_0 := B6_4.free 0
      have d6_4_1 := B6_4.cell 1 rfl
      have e6_4_1 := B6_4.free 1
      have d6_4_2 := B6_4.cell 2 rfl
      have e6_4_2 := B6_4.free 2
      have d6_4_3 := B6_4.cell 3 rfl
      have e6_4_3 := B6_4.free 3
      go_wp2
      go_ret
      refine ⟨rfl, Grew.below ?_⟩
      repeat' (first | (with_reducible exact Grew.refl _) | (with_reducible refine Grew.setCell ?_ ?_ _) | (with_reducible refine Grew.drewN ?_ _) | (with_reducible refine Grew.alloc ?_ _) | (with_reducible refine Grew.trans ?_ G6.out) | (with_reducible refine Grew.trans ?_ G5.out) | (with_reducible refine Grew.trans ?_ G4.out) | (with_reducible refine Grew.trans ?_ G3.out) | (with_reducible refine Grew.trans ?_ G2.out) | (with_reducible refine Grew.trans ?_ G1.out) | (dsimp only; omega))
    · go_enter Try.func5, Try.ntmps5
      go_wp2_with fail
      refine name_world fun w1 h1 => ?_
      have G1 : Grew w w1 := by
        rw [h1]
        repeat' (first | (with_reducible exact Grew.refl _) | (with_reducible refine Grew.setCell ?_ ?_ _) | (with_reducible refine Grew.drewN ?_ _) | (with_reducible refine Grew.alloc ?_ _) | (with_reducible refine Grew.trans ?_ G1.out) | (dsimp only; omega))
      have B1_0 : Blk w1 (w.heap.size) 23 [.int .i64 x, .int .i64 y, .int .i64 z, .int .i64 h] := by (rw [h1]; repeat' (first | (with_reducible assumption) | ((with_reducible refine Blk.new ?_); (first | (with_reducible rfl) | (simp only [World.size_alloc, World.size_setCell, size_drewN]; done))) | (with_reducible refine Blk.alloc ?_ _) | (with_reducible refine Blk.drewN ?_ _) | (with_reducible refine Blk.drew ?_) | (refine Blk.other ?_ (by omega) _) | fail))
      have B1_1 : Blk w1 (w.heap.size + 1) 23 [.int .i64 x', .int .i64 y', .int .i64 z', .int .i64 h'] := by (rw [h1]; repeat' (first | (with_reducible assumption) | ((with_reducible refine Blk.new ?_); (first | (with_reducible rfl) | (simp only [World.size_alloc, World.size_setCell, size_drewN]; done))) | (with_reducible refine Blk.alloc ?_ _) | (with_reducible refine Blk.drewN ?_ _) | (with_reducible refine Blk.drew ?_) | (refine Blk.other ?_ (by omega) _) | fail))
      have B1_2 : Blk w1 (w.heap.size + 1 + 1) 25 [.int .i64 px, .int .i64 py] := by (rw [h1]; repeat' (first | (with_reducible assumption) | ((with_reducible refine Blk.new ?_); (first | (with_reducible rfl) | (simp only [World.size_alloc, World.size_setCell, size_drewN]; done))) | (with_reducible refine Blk.alloc ?_ _) | (with_reducible refine Blk.drewN ?_ _) | (with_reducible refine Blk.drew ?_) | (refine Blk.other ?_ (by omega) _) | fail))
      have z1 := G1.size
      replace G1 := hide G1
      clear h1
      have t1_0 := B1_0.lt
      have d1_0_0 := B1_0.cell 0 rfl
      have e1_0_0 := B1_0.free 0
      have d1_0_1 := B1_0.cell 1 rfl
      have e1_0_1 := B1_0.free 1
      have d1_0_2 := B1_0.cell 2 rfl
      have e1_0_2 := B1_0.free 2
      have d1_0_3 := B1_0.cell 3 rfl
      have e1_0_3 := B1_0.free 3
      have t1_1 := B1_1.lt
      have d1_1_0 := B1_1.cell 0 rfl
      have e1_1_0 := B1_1.free 0
      have d1_1_1 := B1_1.cell 1 rfl
      have e1_1_1 := B1_1.free 1
      have d1_1_2 := B1_1.cell 2 rfl
      have e1_1_2 := B1_1.free 2
      have d1_1_3 := B1_1.cell 3 rfl
      have e1_1_3 := B1_1.free 3
      have t1_2 := B1_2.lt
      have d1_2_0 := B1_2.cell 0 rfl
      have e1_2_0 := B1_2.free 0
      have d1_2_1 := B1_2.cell 1 rfl
      have e1_2_1 := B1_2.free 1
      have g1_0_0 := fun m os => (B1_0.grow m os).cell 0 rfl
      have g1_0_1 := fun m os => (B1_0.grow m os).cell 1 rfl
      have g1_0_2 := fun m os => (B1_0.grow m os).cell 2 rfl
      have g1_0_3 := fun m os => (B1_0.grow m os).cell 3 rfl
      have g1_1_0 := fun m os => (B1_1.grow m os).cell 0 rfl
      have g1_1_1 := fun m os => (B1_1.grow m os).cell 1 rfl
      have g1_1_2 := fun m os => (B1_1.grow m os).cell 2 rfl
      have g1_1_3 := fun m os => (B1_1.grow m os).cell 3 rfl
      have g1_2_0 := fun m os => (B1_2.grow m os).cell 0 rfl
      have g1_2_1 := fun m os => (B1_2.grow m os).cell 1 rfl
      refine wp_region_made [⟨6, 8, 7, 23, [.int .i64 0, .int .i64 0, .int .i64 0, .int .i64 0], [.int .i64 p1, .int .i64 p2, .int .i64 p3, .int .i64 p4]⟩, ⟨7, 9, 8, 23, [.int .i64 0, .int .i64 0, .int .i64 0, .int .i64 0], [.int .i64 p5, .int .i64 p6, .int .i64 p7, .int .i64 p8]⟩] (by kernel_rfl) (by kernel_rfl) (by simp [madeSlots]) ?_
      repeat (first | (refine lex_skip rfl (by rfl) ?_) | (refine lex_calm rfl (by rfl) (fun K hK => ?_); go_simp; first | (refine hK _ ?_; clear hK K) | (apply Exists.intro; refine ⟨fun _ _ => ?_, hK _ ?_⟩; (first | (with_reducible exact (K1 _).out) | (with_reducible exact (K2 _).out)); clear hK K)))
      refine lex_alloc (m := ⟨6, 8, 7, 23, [.int .i64 0, .int .i64 0, .int .i64 0, .int .i64 0], [.int .i64 p1, .int .i64 p2, .int .i64 p3, .int .i64 p4]⟩) (by kernel_rfl) (by simp) (by rfl) rfl ?_ ?_
      · intro ev w
        go_simp
      repeat (first | (refine lex_skip rfl (by rfl) ?_) | (refine lex_calm rfl (by rfl) (fun K hK => ?_); go_simp; first | (refine hK _ ?_; clear hK K) | (apply Exists.intro; refine ⟨fun _ _ => ?_, hK _ ?_⟩; (first | (with_reducible exact (K1 _).out) | (with_reducible exact (K2 _).out)); clear hK K)))
      refine lex_alloc (m := ⟨7, 9, 8, 23, [.int .i64 0, .int .i64 0, .int .i64 0, .int .i64 0], [.int .i64 p5, .int .i64 p6, .int .i64 p7, .int .i64 p8]⟩) (by kernel_rfl) (by simp) (by rfl) rfl ?_ ?_
      · intro ev w
        go_simp
      repeat (first | (refine lex_skip rfl (by rfl) ?_) | (refine lex_calm rfl (by rfl) (fun K hK => ?_); go_simp; first | (refine hK _ ?_; clear hK K) | (apply Exists.intro; refine ⟨fun _ _ => ?_, hK _ ?_⟩; (first | (with_reducible exact (K1 _).out) | (with_reducible exact (K2 _).out)); clear hK K)))
      refine lex_store (m := ⟨6, 8, 7, 23, [.int .i64 0, .int .i64 0, .int .i64 0, .int .i64 0], [.int .i64 p1, .int .i64 p2, .int .i64 p3, .int .i64 p4]⟩) (by kernel_rfl) (by simp) (by rfl) rfl ?_ ?_
      · intro vs w b hv hB
        have d0 := hB.cell 0 rfl
        have e0 := hB.free 0
        have d1 := hB.cell 1 rfl
        have e1 := hB.free 1
        have d2 := hB.cell 2 rfl
        have e2 := hB.free 2
        have d3 := hB.cell 3 rfl
        have e3 := hB.free 3
        simp only [] at hv
        simp [go_sem, evS, madeSlots, List.lookup, setAll, *]
      repeat (first | (refine lex_skip rfl (by rfl) ?_) | (refine lex_calm rfl (by rfl) (fun K hK => ?_); go_simp; first | (refine hK _ ?_; clear hK K) | (apply Exists.intro; refine ⟨fun _ _ => ?_, hK _ ?_⟩; (first | (with_reducible exact (K1 _).out) | (with_reducible exact (K2 _).out)); clear hK K)))
      refine lex_store (m := ⟨7, 9, 8, 23, [.int .i64 0, .int .i64 0, .int .i64 0, .int .i64 0], [.int .i64 p5, .int .i64 p6, .int .i64 p7, .int .i64 p8]⟩) (by kernel_rfl) (by simp) (by rfl) rfl ?_ ?_
      · intro vs w b hv hB
        have d0 := hB.cell 0 rfl
        have e0 := hB.free 0
        have d1 := hB.cell 1 rfl
        have e1 := hB.free 1
        have d2 := hB.cell 2 rfl
        have e2 := hB.free 2
        have d3 := hB.cell 3 rfl
        have e3 := hB.free 3
        simp only [] at hv
        simp [go_sem, evS, madeSlots, List.lookup, setAll, *]
      repeat (first | (refine lex_skip rfl (by rfl) ?_) | (refine lex_calm rfl (by rfl) (fun K hK => ?_); go_simp; first | (refine hK _ ?_; clear hK K) | (apply Exists.intro; refine ⟨fun _ _ => ?_, hK _ ?_⟩; (first | (with_reducible exact (K1 _).out) | (with_reducible exact (K2 _).out)); clear hK K)))
      refine lex_nil ?_
      rintro vs w2 ⟨G2, hb, hne⟩
      obtain ⟨b2_0, hv0, s2_0, K2_0⟩ := hb ⟨6, 8, 7, 23, [.int .i64 0, .int .i64 0, .int .i64 0, .int .i64 0], [.int .i64 p1, .int .i64 p2, .int .i64 p3, .int .i64 p4]⟩ (by simp) rfl
      obtain ⟨b2_1, hv1, s2_1, K2_1⟩ := hb ⟨7, 9, 8, 23, [.int .i64 0, .int .i64 0, .int .i64 0, .int .i64 0], [.int .i64 p5, .int .i64 p6, .int .i64 p7, .int .i64 p8]⟩ (by simp) rfl
      have hn2_0_1 : b2_0 ≠ b2_1 := fun e => hne ⟨6, 8, 7, 23, [.int .i64 0, .int .i64 0, .int .i64 0, .int .i64 0], [.int .i64 p1, .int .i64 p2, .int .i64 p3, .int .i64 p4]⟩ (by simp) ⟨7, 9, 8, 23, [.int .i64 0, .int .i64 0, .int .i64 0, .int .i64 0], [.int .i64 p5, .int .i64 p6, .int .i64 p7, .int .i64 p8]⟩ (by simp) (by show (6 : Nat) ≠ 7; decide) rfl rfl (hv0.trans (e ▸ hv1.symm))
      simp only [fillS, madeSlots, List.map_cons, List.map_nil, List.foldl_cons, List.foldl_nil, hv0, hv1]
      clear hb hne hv0 hv1 vs
      have B2_0 : Blk w2 (w.heap.size) 23 [.int .i64 x, .int .i64 y, .int .i64 z, .int .i64 h] := B1_0.grew G2
      have B2_1 : Blk w2 (w.heap.size + 1) 23 [.int .i64 x', .int .i64 y', .int .i64 z', .int .i64 h'] := B1_1.grew G2
      have B2_2 : Blk w2 (w.heap.size + 1 + 1) 25 [.int .i64 px, .int .i64 py] := B1_2.grew G2
      have B2_3 : Blk w2 b2_0 23 [.int .i64 p1, .int .i64 p2, .int .i64 p3, .int .i64 p4] := K2_0
      have B2_4 : Blk w2 b2_1 23 [.int .i64 p5, .int .i64 p6, .int .i64 p7, .int .i64 p8] := K2_1
      clear K2_0 K2_1
      have z2 := G2.size
      replace G2 := hide G2
      have t2_0 := B2_0.lt
      have d2_0_0 := B2_0.cell 0 rfl
      have e2_0_0 := B2_0.free 0
      have d2_0_1 := B2_0.cell 1 rfl
      have e2_0_1 := B2_0.free 1
      have d2_0_2 := B2_0.cell 2 rfl
      have e2_0_2 := B2_0.free 2
      have d2_0_3 := B2_0.cell 3 rfl
      have e2_0_3 := B2_0.free 3
      have t2_1 := B2_1.lt
      have d2_1_0 := B2_1.cell 0 rfl
      have e2_1_0 := B2_1.free 0
      have d2_1_1 := B2_1.cell 1 rfl
      have e2_1_1 := B2_1.free 1
      have d2_1_2 := B2_1.cell 2 rfl
      have e2_1_2 := B2_1.free 2
      have d2_1_3 := B2_1.cell 3 rfl
      have e2_1_3 := B2_1.free 3
      have t2_2 := B2_2.lt
      have d2_2_0 := B2_2.cell 0 rfl
      have e2_2_0 := B2_2.free 0
      have d2_2_1 := B2_2.cell 1 rfl
      have e2_2_1 := B2_2.free 1
      have t2_3 := B2_3.lt
      have d2_3_0 := B2_3.cell 0 rfl
      have e2_3_0 := B2_3.free 0
      have d2_3_1 := B2_3.cell 1 rfl
      have e2_3_1 := B2_3.free 1
      have d2_3_2 := B2_3.cell 2 rfl
      have e2_3_2 := B2_3.free 2
      have d2_3_3 := B2_3.cell 3 rfl
      have e2_3_3 := B2_3.free 3
      have t2_4 := B2_4.lt
      have d2_4_0 := B2_4.cell 0 rfl
      have e2_4_0 := B2_4.free 0
      have d2_4_1 := B2_4.cell 1 rfl
      have e2_4_1 := B2_4.free 1
      have d2_4_2 := B2_4.cell 2 rfl
      have e2_4_2 := B2_4.free 2
      have d2_4_3 := B2_4.cell 3 rfl
      have e2_4_3 := B2_4.free 3
      go_simp
      go_wp2_with fail
      have g2_0_0 := fun m os => (B2_0.grow m os).cell 0 rfl
      have g2_0_1 := fun m os => (B2_0.grow m os).cell 1 rfl
      have g2_0_2 := fun m os => (B2_0.grow m os).cell 2 rfl
      have g2_0_3 := fun m os => (B2_0.grow m os).cell 3 rfl
      have g2_1_0 := fun m os => (B2_1.grow m os).cell 0 rfl
      have g2_1_1 := fun m os => (B2_1.grow m os).cell 1 rfl
      have g2_1_2 := fun m os => (B2_1.grow m os).cell 2 rfl
      have g2_1_3 := fun m os => (B2_1.grow m os).cell 3 rfl
      have g2_2_0 := fun m os => (B2_2.grow m os).cell 0 rfl
      have g2_2_1 := fun m os => (B2_2.grow m os).cell 1 rfl
      have g2_3_0 := fun m os => (B2_3.grow m os).cell 0 rfl
      have g2_3_1 := fun m os => (B2_3.grow m os).cell 1 rfl
      have g2_3_2 := fun m os => (B2_3.grow m os).cell 2 rfl
      have g2_3_3 := fun m os => (B2_3.grow m os).cell 3 rfl
      have g2_4_0 := fun m os => (B2_4.grow m os).cell 0 rfl
      have g2_4_1 := fun m os => (B2_4.grow m os).cell 1 rfl
      have g2_4_2 := fun m os => (B2_4.grow m os).cell 2 rfl
      have g2_4_3 := fun m os => (B2_4.grow m os).cell 3 rfl
      refine wp_region_calm (by kernel_rfl) (by kernel_rfl) ?_
      repeat (first | (refine lex_skip rfl (by rfl) ?_) | (refine lex_calm rfl (by rfl) (fun K hK => ?_); go_simp; first | (refine hK _ ?_; clear hK K) | (apply Exists.intro; refine ⟨fun _ _ => ?_, hK _ ?_⟩; (first | (with_reducible exact (K3 _).out) | (with_reducible exact (K4 _).out)); clear hK K)))
      refine lex_nil ?_
      intro w3 G3
      have B3_0 : Blk w3 (w.heap.size) 23 [.int .i64 x, .int .i64 y, .int .i64 z, .int .i64 h] := B2_0.grew G3
      have B3_1 : Blk w3 (w.heap.size + 1) 23 [.int .i64 x', .int .i64 y', .int .i64 z', .int .i64 h'] := B2_1.grew G3
      have B3_2 : Blk w3 (w.heap.size + 1 + 1) 25 [.int .i64 px, .int .i64 py] := B2_2.grew G3
      have B3_3 : Blk w3 (b2_0) 23 [.int .i64 p1, .int .i64 p2, .int .i64 p3, .int .i64 p4] := B2_3.grew G3
      have B3_4 : Blk w3 (b2_1) 23 [.int .i64 p5, .int .i64 p6, .int .i64 p7, .int .i64 p8] := B2_4.grew G3
      have z3 := G3.size
      replace G3 := hide G3
      have t3_0 := B3_0.lt
      have d3_0_0 := B3_0.cell 0 rfl
      have e3_0_0 := B3_0.free 0
      have d3_0_1 := B3_0.cell 1 rfl
      have e3_0_1 := B3_0.free 1
      have d3_0_2 := B3_0.cell 2 rfl
      have e3_0_2 := B3_0.free 2
      have d3_0_3 := B3_0.cell 3 rfl
      have e3_0_3 := B3_0.free 3
      have t3_1 := B3_1.lt
      have d3_1_0 := B3_1.cell 0 rfl
      have e3_1_0 := B3_1.free 0
      have d3_1_1 := B3_1.cell 1 rfl
      have e3_1_1 := B3_1.free 1
      have d3_1_2 := B3_1.cell 2 rfl
      have e3_1_2 := B3_1.free 2
      have d3_1_3 := B3_1.cell 3 rfl
      have e3_1_3 := B3_1.free 3
      have t3_2 := B3_2.lt
      have d3_2_0 := B3_2.cell 0 rfl
      have e3_2_0 := B3_2.free 0
      have d3_2_1 := B3_2.cell 1 rfl
      have e3_2_1 := B3_2.free 1
      have t3_3 := B3_3.lt
      have d3_3_0 := B3_3.cell 0 rfl
      have e3_3_0 := B3_3.free 0
      have d3_3_1 := B3_3.cell 1 rfl
      have e3_3_1 := B3_3.free 1
      have d3_3_2 := B3_3.cell 2 rfl
      have e3_3_2 := B3_3.free 2
      have d3_3_3 := B3_3.cell 3 rfl
      have e3_3_3 := B3_3.free 3
      have t3_4 := B3_4.lt
      have d3_4_0 := B3_4.cell 0 rfl
      have e3_4_0 := B3_4.free 0
      have d3_4_1 := B3_4.cell 1 rfl
      have e3_4_1 := B3_4.free 1
      have d3_4_2 := B3_4.cell 2 rfl
      have e3_4_2 := B3_4.free 2
      have d3_4_3 := B3_4.cell 3 rfl
      have e3_4_3 := B3_4.free 3
      go_wp2_with fail
      refine ((K5 _).out).mono ?_
      rintro e w4 ⟨rfl, G4⟩
      try (with_reducible replace G4 := Grew.undrawn G4)
      have B4_0 : Blk w4 (w.heap.size) 23 [.int .i64 x, .int .i64 y, .int .i64 z, .int .i64 h] := Blk.grew (by (repeat' (first | (with_reducible assumption) | ((with_reducible refine Blk.new ?_); (first | (with_reducible rfl) | (simp only [World.size_alloc, World.size_setCell, size_drewN]; done))) | (with_reducible refine Blk.alloc ?_ _) | (with_reducible refine Blk.drewN ?_ _) | (with_reducible refine Blk.drew ?_) | (refine Blk.other ?_ (by omega) _) | fail))) G4
      have B4_1 : Blk w4 (w.heap.size + 1) 23 [.int .i64 x', .int .i64 y', .int .i64 z', .int .i64 h'] := Blk.grew (by (repeat' (first | (with_reducible assumption) | ((with_reducible refine Blk.new ?_); (first | (with_reducible rfl) | (simp only [World.size_alloc, World.size_setCell, size_drewN]; done))) | (with_reducible refine Blk.alloc ?_ _) | (with_reducible refine Blk.drewN ?_ _) | (with_reducible refine Blk.drew ?_) | (refine Blk.other ?_ (by omega) _) | fail))) G4
      have B4_2 : Blk w4 (w.heap.size + 1 + 1) 25 [.int .i64 px, .int .i64 py] := Blk.grew (by (repeat' (first | (with_reducible assumption) | ((with_reducible refine Blk.new ?_); (first | (with_reducible rfl) | (simp only [World.size_alloc, World.size_setCell, size_drewN]; done))) | (with_reducible refine Blk.alloc ?_ _) | (with_reducible refine Blk.drewN ?_ _) | (with_reducible refine Blk.drew ?_) | (refine Blk.other ?_ (by omega) _) | fail))) G4
      have B4_3 : Blk w4 (b2_0) 23 [.int .i64 p1, .int .i64 p2, .int .i64 p3, .int .i64 p4] := Blk.grew (by (repeat' (first | (with_reducible assumption) | ((with_reducible refine Blk.new ?_); (first | (with_reducible rfl) | (simp only [World.size_alloc, World.size_setCell, size_drewN]; done))) | (with_reducible refine Blk.alloc ?_ _) | (with_reducible refine Blk.drewN ?_ _) | (with_reducible refine Blk.drew ?_) | (refine Blk.other ?_ (by omega) _) | fail))) G4
      have B4_4 : Blk w4 (b2_1) 23 [.int .i64 p5, .int .i64 p6, .int .i64 p7, .int .i64 p8] := Blk.grew (by (repeat' (first | (with_reducible assumption) | ((with_reducible refine Blk.new ?_); (first | (with_reducible rfl) | (simp only [World.size_alloc, World.size_setCell, size_drewN]; done))) | (with_reducible refine Blk.alloc ?_ _) | (with_reducible refine Blk.drewN ?_ _) | (with_reducible refine Blk.drew ?_) | (refine Blk.other ?_ (by omega) _) | fail))) G4
      have z4 := G4.size
      try simp only [World.size_alloc, World.size_setCell, size_drewN] at z4
      replace G4 := hide G4
      have t4_0 := B4_0.lt
      have d4_0_0 := B4_0.cell 0 rfl
      have e4_0_0 := B4_0.free 0
      have d4_0_1 := B4_0.cell 1 rfl
      have e4_0_1 := B4_0.free 1
      have d4_0_2 := B4_0.cell 2 rfl
      have e4_0_2 := B4_0.free 2
      have d4_0_3 := B4_0.cell 3 rfl
      have e4_0_3 := B4_0.free 3
      have t4_1 := B4_1.lt
      have d4_1_0 := B4_1.cell 0 rfl
      have e4_1_0 := B4_1.free 0
      have d4_1_1 := B4_1.cell 1 rfl
      have e4_1_1 := B4_1.free 1
      have d4_1_2 := B4_1.cell 2 rfl
      have e4_1_2 := B4_1.free 2
      have d4_1_3 := B4_1.cell 3 rfl
      have e4_1_3 := B4_1.free 3
      have t4_2 := B4_2.lt
      have d4_2_0 := B4_2.cell 0 rfl
      have e4_2_0 := B4_2.free 0
      have d4_2_1 := B4_2.cell 1 rfl
      have e4_2_1 := B4_2.free 1
      have t4_3 := B4_3.lt
      have d4_3_0 := B4_3.cell 0 rfl
      have e4_3_0 := B4_3.free 0
      have d4_3_1 := B4_3.cell 1 rfl
      have e4_3_1 := B4_3.free 1
      have d4_3_2 := B4_3.cell 2 rfl
      have e4_3_2 := B4_3.free 2
      have d4_3_3 := B4_3.cell 3 rfl
      have e4_3_3 := B4_3.free 3
      have t4_4 := B4_4.lt
      have d4_4_0 := B4_4.cell 0 rfl
      have e4_4_0 := B4_4.free 0
      have d4_4_1 := B4_4.cell 1 rfl
      have e4_4_1 := B4_4.free 1
      have d4_4_2 := B4_4.cell 2 rfl
      have e4_4_2 := B4_4.free 2
      have d4_4_3 := B4_4.cell 3 rfl
      have e4_4_3 := B4_4.free 3
      go_wp2_with fail
      refine ((VV _).out).mono ?_
      rintro e w5 ⟨rfl, G5⟩
      try (with_reducible replace G5 := Grew.undrawn G5)
      have B5_0 : Blk w5 (w.heap.size) 23 [.int .i64 x, .int .i64 y, .int .i64 z, .int .i64 h] := Blk.grew (by (repeat' (first | (with_reducible assumption) | ((with_reducible refine Blk.new ?_); (first | (with_reducible rfl) | (simp only [World.size_alloc, World.size_setCell, size_drewN]; done))) | (with_reducible refine Blk.alloc ?_ _) | (with_reducible refine Blk.drewN ?_ _) | (with_reducible refine Blk.drew ?_) | (refine Blk.other ?_ (by omega) _) | fail))) G5
      have B5_1 : Blk w5 (w.heap.size + 1) 23 [.int .i64 x', .int .i64 y', .int .i64 z', .int .i64 h'] := Blk.grew (by (repeat' (first | (with_reducible assumption) | ((with_reducible refine Blk.new ?_); (first | (with_reducible rfl) | (simp only [World.size_alloc, World.size_setCell, size_drewN]; done))) | (with_reducible refine Blk.alloc ?_ _) | (with_reducible refine Blk.drewN ?_ _) | (with_reducible refine Blk.drew ?_) | (refine Blk.other ?_ (by omega) _) | fail))) G5
      have B5_2 : Blk w5 (w.heap.size + 1 + 1) 25 [.int .i64 px, .int .i64 py] := Blk.grew (by (repeat' (first | (with_reducible assumption) | ((with_reducible refine Blk.new ?_); (first | (with_reducible rfl) | (simp only [World.size_alloc, World.size_setCell, size_drewN]; done))) | (with_reducible refine Blk.alloc ?_ _) | (with_reducible refine Blk.drewN ?_ _) | (with_reducible refine Blk.drew ?_) | (refine Blk.other ?_ (by omega) _) | fail))) G5
      have B5_3 : Blk w5 (b2_0) 23 [.int .i64 p1, .int .i64 p2, .int .i64 p3, .int .i64 p4] := Blk.grew (by (repeat' (first | (with_reducible assumption) | ((with_reducible refine Blk.new ?_); (first | (with_reducible rfl) | (simp only [World.size_alloc, World.size_setCell, size_drewN]; done))) | (with_reducible refine Blk.alloc ?_ _) | (with_reducible refine Blk.drewN ?_ _) | (with_reducible refine Blk.drew ?_) | (refine Blk.other ?_ (by omega) _) | fail))) G5
      have B5_4 : Blk w5 (b2_1) 23 [.int .i64 p5, .int .i64 p6, .int .i64 p7, .int .i64 p8] := Blk.grew (by (repeat' (first | (with_reducible assumption) | ((with_reducible refine Blk.new ?_); (first | (with_reducible rfl) | (simp only [World.size_alloc, World.size_setCell, size_drewN]; done))) | (with_reducible refine Blk.alloc ?_ _) | (with_reducible refine Blk.drewN ?_ _) | (with_reducible refine Blk.drew ?_) | (refine Blk.other ?_ (by omega) _) | fail))) G5
      have z5 := G5.size
      try simp only [World.size_alloc, World.size_setCell, size_drewN] at z5
      replace G5 := hide G5
      have t5_0 := B5_0.lt
      have d5_0_0 := B5_0.cell 0 rfl
      have e5_0_0 := B5_0.free 0
      have d5_0_1 := B5_0.cell 1 rfl
      have e5_0_1 := B5_0.free 1
      have d5_0_2 := B5_0.cell 2 rfl
      have e5_0_2 := B5_0.free 2
      have d5_0_3 := B5_0.cell 3 rfl
      have e5_0_3 := B5_0.free 3
      have t5_1 := B5_1.lt
      have d5_1_0 := B5_1.cell 0 rfl
      have e5_1_0 := B5_1.free 0
      have d5_1_1 := B5_1.cell 1 rfl
      have e5_1_1 := B5_1.free 1
      have d5_1_2 := B5_1.cell 2 rfl
      have e5_1_2 := B5_1.free 2
      have d5_1_3 := B5_1.cell 3 rfl
      have e5_1_3 := B5_1.free 3
      have t5_2 := B5_2.lt
      have d5_2_0 := B5_2.cell 0 rfl
      have e5_2_0 := B5_2.free 0
      have d5_2_1 := B5_2.cell 1 rfl
      have e5_2_1 := B5_2.free 1
      have t5_3 := B5_3.lt
      have d5_3_0 := B5_3.cell 0 rfl
      have e5_3_0 := B5_3.free 0
      have d5_3_1 := B5_3.cell 1 rfl
      have e5_3_1 := B5_3.free 1
      have d5_3_2 := B5_3.cell 2 rfl
      have e5_3_2 := B5_3.free 2
      have d5_3_3 := B5_3.cell 3 rfl
      have e5_3_3 := B5_3.free 3
      have t5_4 := B5_4.lt
      have d5_4_0 := B5_4.cell 0 rfl
      have e5_4_0 := B5_4.free 0
      have d5_4_1 := B5_4.cell 1 rfl
      have e5_4_1 := B5_4.free 1
      have d5_4_2 := B5_4.cell 2 rfl
      have e5_4_2 := B5_4.free 2
      have d5_4_3 := B5_4.cell 3 rfl
      have e5_4_3 := B5_4.free 3
      go_wp2_with fail
      refine ((A1 _).out).mono ?_
      rintro e w6 ⟨rfl, G6⟩
      try (with_reducible replace G6 := Grew.undrawn G6)
      have B6_0 : Blk w6 (w.heap.size) 23 [.int .i64 x, .int .i64 y, .int .i64 z, .int .i64 h] := Blk.grew (by (repeat' (first | (with_reducible assumption) | ((with_reducible refine Blk.new ?_); (first | (with_reducible rfl) | (simp only [World.size_alloc, World.size_setCell, size_drewN]; done))) | (with_reducible refine Blk.alloc ?_ _) | (with_reducible refine Blk.drewN ?_ _) | (with_reducible refine Blk.drew ?_) | (refine Blk.other ?_ (by omega) _) | fail))) G6
      have B6_1 : Blk w6 (w.heap.size + 1) 23 [.int .i64 x', .int .i64 y', .int .i64 z', .int .i64 h'] := Blk.grew (by (repeat' (first | (with_reducible assumption) | ((with_reducible refine Blk.new ?_); (first | (with_reducible rfl) | (simp only [World.size_alloc, World.size_setCell, size_drewN]; done))) | (with_reducible refine Blk.alloc ?_ _) | (with_reducible refine Blk.drewN ?_ _) | (with_reducible refine Blk.drew ?_) | (refine Blk.other ?_ (by omega) _) | fail))) G6
      have B6_2 : Blk w6 (w.heap.size + 1 + 1) 25 [.int .i64 px, .int .i64 py] := Blk.grew (by (repeat' (first | (with_reducible assumption) | ((with_reducible refine Blk.new ?_); (first | (with_reducible rfl) | (simp only [World.size_alloc, World.size_setCell, size_drewN]; done))) | (with_reducible refine Blk.alloc ?_ _) | (with_reducible refine Blk.drewN ?_ _) | (with_reducible refine Blk.drew ?_) | (refine Blk.other ?_ (by omega) _) | fail))) G6
      have B6_3 : Blk w6 (b2_0) 23 [.int .i64 p1, .int .i64 p2, .int .i64 p3, .int .i64 p4] := Blk.grew (by (repeat' (first | (with_reducible assumption) | ((with_reducible refine Blk.new ?_); (first | (with_reducible rfl) | (simp only [World.size_alloc, World.size_setCell, size_drewN]; done))) | (with_reducible refine Blk.alloc ?_ _) | (with_reducible refine Blk.drewN ?_ _) | (with_reducible refine Blk.drew ?_) | (refine Blk.other ?_ (by omega) _) | fail))) G6
      have B6_4 : Blk w6 (b2_1) 23 [.int .i64 p5, .int .i64 p6, .int .i64 p7, .int .i64 p8] := Blk.grew (by (repeat' (first | (with_reducible assumption) | ((with_reducible refine Blk.new ?_); (first | (with_reducible rfl) | (simp only [World.size_alloc, World.size_setCell, size_drewN]; done))) | (with_reducible refine Blk.alloc ?_ _) | (with_reducible refine Blk.drewN ?_ _) | (with_reducible refine Blk.drew ?_) | (refine Blk.other ?_ (by omega) _) | fail))) G6
      have z6 := G6.size
      try simp only [World.size_alloc, World.size_setCell, size_drewN] at z6
      replace G6 := hide G6
      have t6_0 := B6_0.lt
      have d6_0_0 := B6_0.cell 0 rfl
      have e6_0_0 := B6_0.free 0
      have d6_0_1 := B6_0.cell 1 rfl
      have e6_0_1 := B6_0.free 1
      have d6_0_2 := B6_0.cell 2 rfl
      have e6_0_2 := B6_0.free 2
      have d6_0_3 := B6_0.cell 3 rfl
      have e6_0_3 := B6_0.free 3
      have t6_1 := B6_1.lt
      have d6_1_0 := B6_1.cell 0 rfl
      have e6_1_0 := B6_1.free 0
      have d6_1_1 := B6_1.cell 1 rfl
      have e6_1_1 := B6_1.free 1
      have d6_1_2 := B6_1.cell 2 rfl
      have e6_1_2 := B6_1.free 2
      have d6_1_3 := B6_1.cell 3 rfl
      have e6_1_3 := B6_1.free 3
      have t6_2 := B6_2.lt
      have d6_2_0 := B6_2.cell 0 rfl
      have e6_2_0 := B6_2.free 0
      have d6_2_1 := B6_2.cell 1 rfl
      have e6_2_1 := B6_2.free 1
      have t6_3 := B6_3.lt
      have d6_3_0 := B6_3.cell 0 rfl
      have e6_3_0 := B6_3.free 0
      have d6_3_1 := B6_3.cell 1 rfl
      have e6_3_1 := B6_3.free 1
      have d6_3_2 := B6_3.cell 2 rfl
      have e6_3_2 := B6_3.free 2
      have d6_3_3 := B6_3.cell 3 rfl
      have e6_3_3 := B6_3.free 3
      have t6_4 := B6_4.lt
      have d6_4_0 := B6_4.cell 0 rfl
      have e6_4_0 := B6_4.free 0
      have d6_4_1 := B6_4.cell 1 rfl
      have e6_4_1 := B6_4.free 1
      have d6_4_2 := B6_4.cell 2 rfl
      have e6_4_2 := B6_4.free 2
      have d6_4_3 := B6_4.cell 3 rfl
      have e6_4_3 := B6_4.free 3
      go_wp2
      go_ret
      refine ⟨rfl, Grew.below ?_⟩
      repeat' (first | (with_reducible exact Grew.refl _) | (with_reducible refine Grew.setCell ?_ ?_ _) | (with_reducible refine Grew.drewN ?_ _) | (with_reducible refine Grew.alloc ?_ _) | (with_reducible refine Grew.trans ?_ G6.out) | (with_reducible refine Grew.trans ?_ G5.out) | (with_reducible refine Grew.trans ?_ G4.out) | (with_reducible refine Grew.trans ?_ G3.out) | (with_reducible refine Grew.trans ?_ G2.out) | (with_reducible refine Grew.trans ?_ G1.out) | (dsimp only; omega))
    · go_enter Try.func5, Try.ntmps5
      go_wp2_with fail
      refine name_world fun w1 h1 => ?_
      have G1 : Grew w w1 := by
        rw [h1]
        repeat' (first | (with_reducible exact Grew.refl _) | (with_reducible refine Grew.setCell ?_ ?_ _) | (with_reducible refine Grew.drewN ?_ _) | (with_reducible refine Grew.alloc ?_ _) | (with_reducible refine Grew.trans ?_ G1.out) | (dsimp only; omega))
      have B1_0 : Blk w1 (w.heap.size) 23 [.int .i64 x, .int .i64 y, .int .i64 z, .int .i64 h] := by (rw [h1]; repeat' (first | (with_reducible assumption) | ((with_reducible refine Blk.new ?_); (first | (with_reducible rfl) | (simp only [World.size_alloc, World.size_setCell, size_drewN]; done))) | (with_reducible refine Blk.alloc ?_ _) | (with_reducible refine Blk.drewN ?_ _) | (with_reducible refine Blk.drew ?_) | (refine Blk.other ?_ (by omega) _) | fail))
      have B1_1 : Blk w1 (w.heap.size + 1) 23 [.int .i64 x', .int .i64 y', .int .i64 z', .int .i64 h'] := by (rw [h1]; repeat' (first | (with_reducible assumption) | ((with_reducible refine Blk.new ?_); (first | (with_reducible rfl) | (simp only [World.size_alloc, World.size_setCell, size_drewN]; done))) | (with_reducible refine Blk.alloc ?_ _) | (with_reducible refine Blk.drewN ?_ _) | (with_reducible refine Blk.drew ?_) | (refine Blk.other ?_ (by omega) _) | fail))
      have B1_2 : Blk w1 (w.heap.size + 1 + 1) 25 [.int .i64 px, .int .i64 py] := by (rw [h1]; repeat' (first | (with_reducible assumption) | ((with_reducible refine Blk.new ?_); (first | (with_reducible rfl) | (simp only [World.size_alloc, World.size_setCell, size_drewN]; done))) | (with_reducible refine Blk.alloc ?_ _) | (with_reducible refine Blk.drewN ?_ _) | (with_reducible refine Blk.drew ?_) | (refine Blk.other ?_ (by omega) _) | fail))
      have z1 := G1.size
      replace G1 := hide G1
      clear h1
      have t1_0 := B1_0.lt
      have d1_0_0 := B1_0.cell 0 rfl
      have e1_0_0 := B1_0.free 0
      have d1_0_1 := B1_0.cell 1 rfl
      have e1_0_1 := B1_0.free 1
      have d1_0_2 := B1_0.cell 2 rfl
      have e1_0_2 := B1_0.free 2
      have d1_0_3 := B1_0.cell 3 rfl
      have e1_0_3 := B1_0.free 3
      have t1_1 := B1_1.lt
      have d1_1_0 := B1_1.cell 0 rfl
      have e1_1_0 := B1_1.free 0
      have d1_1_1 := B1_1.cell 1 rfl
      have e1_1_1 := B1_1.free 1
      have d1_1_2 := B1_1.cell 2 rfl
      have e1_1_2 := B1_1.free 2
      have d1_1_3 := B1_1.cell 3 rfl
      have e1_1_3 := B1_1.free 3
      have t1_2 := B1_2.lt
      have d1_2_0 := B1_2.cell 0 rfl
      have e1_2_0 := B1_2.free 0
      have d1_2_1 := B1_2.cell 1 rfl
      have e1_2_1 := B1_2.free 1
      have g1_0_0 := fun m os => (B1_0.grow m os).cell 0 rfl
      have g1_0_1 := fun m os => (B1_0.grow m os).cell 1 rfl
      have g1_0_2 := fun m os => (B1_0.grow m os).cell 2 rfl
      have g1_0_3 := fun m os => (B1_0.grow m os).cell 3 rfl
      have g1_1_0 := fun m os => (B1_1.grow m os).cell 0 rfl
      have g1_1_1 := fun m os => (B1_1.grow m os).cell 1 rfl
      have g1_1_2 := fun m os => (B1_1.grow m os).cell 2 rfl
      have g1_1_3 := fun m os => (B1_1.grow m os).cell 3 rfl
      have g1_2_0 := fun m os => (B1_2.grow m os).cell 0 rfl
      have g1_2_1 := fun m os => (B1_2.grow m os).cell 1 rfl
      refine wp_region_made [⟨6, 8, 7, 23, [.int .i64 0, .int .i64 0, .int .i64 0, .int .i64 0], [.int .i64 p1, .int .i64 p2, .int .i64 p3, .int .i64 p4]⟩, ⟨7, 9, 8, 23, [.int .i64 0, .int .i64 0, .int .i64 0, .int .i64 0], [.int .i64 p5, .int .i64 p6, .int .i64 p7, .int .i64 p8]⟩] (by kernel_rfl) (by kernel_rfl) (by simp [madeSlots]) ?_
      repeat (first | (refine lex_skip rfl (by rfl) ?_) | (refine lex_calm rfl (by rfl) (fun K hK => ?_); go_simp; first | (refine hK _ ?_; clear hK K) | (apply Exists.intro; refine ⟨fun _ _ => ?_, hK _ ?_⟩; (first | (with_reducible exact (K1 _).out) | (with_reducible exact (K2 _).out)); clear hK K)))
      refine lex_alloc (m := ⟨6, 8, 7, 23, [.int .i64 0, .int .i64 0, .int .i64 0, .int .i64 0], [.int .i64 p1, .int .i64 p2, .int .i64 p3, .int .i64 p4]⟩) (by kernel_rfl) (by simp) (by rfl) rfl ?_ ?_
      · intro ev w
        go_simp
      repeat (first | (refine lex_skip rfl (by rfl) ?_) | (refine lex_calm rfl (by rfl) (fun K hK => ?_); go_simp; first | (refine hK _ ?_; clear hK K) | (apply Exists.intro; refine ⟨fun _ _ => ?_, hK _ ?_⟩; (first | (with_reducible exact (K1 _).out) | (with_reducible exact (K2 _).out)); clear hK K)))
      refine lex_alloc (m := ⟨7, 9, 8, 23, [.int .i64 0, .int .i64 0, .int .i64 0, .int .i64 0], [.int .i64 p5, .int .i64 p6, .int .i64 p7, .int .i64 p8]⟩) (by kernel_rfl) (by simp) (by rfl) rfl ?_ ?_
      · intro ev w
        go_simp
      repeat (first | (refine lex_skip rfl (by rfl) ?_) | (refine lex_calm rfl (by rfl) (fun K hK => ?_); go_simp; first | (refine hK _ ?_; clear hK K) | (apply Exists.intro; refine ⟨fun _ _ => ?_, hK _ ?_⟩; (first | (with_reducible exact (K1 _).out) | (with_reducible exact (K2 _).out)); clear hK K)))
      refine lex_store (m := ⟨6, 8, 7, 23, [.int .i64 0, .int .i64 0, .int .i64 0, .int .i64 0], [.int .i64 p1, .int .i64 p2, .int .i64 p3, .int .i64 p4]⟩) (by kernel_rfl) (by simp) (by rfl) rfl ?_ ?_
      · intro vs w b hv hB
        have d0 := hB.cell 0 rfl
        have e0 := hB.free 0
        have d1 := hB.cell 1 rfl
        have e1 := hB.free 1
        have d2 := hB.cell 2 rfl
        have e2 := hB.free 2
        have d3 := hB.cell 3 rfl
        have e3 := hB.free 3
        simp only [] at hv
        simp [go_sem, evS, madeSlots, List.lookup, setAll, *]
      repeat (first | (refine lex_skip rfl (by rfl) ?_) | (refine lex_calm rfl (by rfl) (fun K hK => ?_); go_simp; first | (refine hK _ ?_; clear hK K) | (apply Exists.intro; refine ⟨fun _ _ => ?_, hK _ ?_⟩; (first | (with_reducible exact (K1 _).out) | (with_reducible exact (K2 _).out)); clear hK K)))
      refine lex_store (m := ⟨7, 9, 8, 23, [.int .i64 0, .int .i64 0, .int .i64 0, .int .i64 0], [.int .i64 p5, .int .i64 p6, .int .i64 p7, .int .i64 p8]⟩) (by kernel_rfl) (by simp) (by rfl) rfl ?_ ?_
      · intro vs w b hv hB
        have d0 := hB.cell 0 rfl
        have e0 := hB.free 0
        have d1 := hB.cell 1 rfl
        have e1 := hB.free 1
        have d2 := hB.cell 2 rfl
        have e2 := hB.free 2
        have d3 := hB.cell 3 rfl
        have e3 := hB.free 3
        simp only [] at hv
        simp [go_sem, evS, madeSlots, List.lookup, setAll, *]
      repeat (first | (refine lex_skip rfl (by rfl) ?_) | (refine lex_calm rfl (by rfl) (fun K hK => ?_); go_simp; first | (refine hK _ ?_; clear hK K) | (apply Exists.intro; refine ⟨fun _ _ => ?_, hK _ ?_⟩; (first | (with_reducible exact (K1 _).out) | (with_reducible exact (K2 _).out)); clear hK K)))
      refine lex_nil ?_
      rintro vs w2 ⟨G2, hb, hne⟩
      obtain ⟨b2_0, hv0, s2_0, K2_0⟩ := hb ⟨6, 8, 7, 23, [.int .i64 0, .int .i64 0, .int .i64 0, .int .i64 0], [.int .i64 p1, .int .i64 p2, .int .i64 p3, .int .i64 p4]⟩ (by simp) rfl
      obtain ⟨b2_1, hv1, s2_1, K2_1⟩ := hb ⟨7, 9, 8, 23, [.int .i64 0, .int .i64 0, .int .i64 0, .int .i64 0], [.int .i64 p5, .int .i64 p6, .int .i64 p7, .int .i64 p8]⟩ (by simp) rfl
      have hn2_0_1 : b2_0 ≠ b2_1 := fun e => hne ⟨6, 8, 7, 23, [.int .i64 0, .int .i64 0, .int .i64 0, .int .i64 0], [.int .i64 p1, .int .i64 p2, .int .i64 p3, .int .i64 p4]⟩ (by simp) ⟨7, 9, 8, 23, [.int .i64 0, .int .i64 0, .int .i64 0, .int .i64 0], [.int .i64 p5, .int .i64 p6, .int .i64 p7, .int .i64 p8]⟩ (by simp) (by show (6 : Nat) ≠ 7; decide) rfl rfl (hv0.trans (e ▸ hv1.symm))
      simp only [fillS, madeSlots, List.map_cons, List.map_nil, List.foldl_cons, List.foldl_nil, hv0, hv1]
      clear hb hne hv0 hv1 vs
      have B2_0 : Blk w2 (w.heap.size) 23 [.int .i64 x, .int .i64 y, .int .i64 z, .int .i64 h] := B1_0.grew G2
      have B2_1 : Blk w2 (w.heap.size + 1) 23 [.int .i64 x', .int .i64 y', .int .i64 z', .int .i64 h'] := B1_1.grew G2
      have B2_2 : Blk w2 (w.heap.size + 1 + 1) 25 [.int .i64 px, .int .i64 py] := B1_2.grew G2
      have B2_3 : Blk w2 b2_0 23 [.int .i64 p1, .int .i64 p2, .int .i64 p3, .int .i64 p4] := K2_0
      have B2_4 : Blk w2 b2_1 23 [.int .i64 p5, .int .i64 p6, .int .i64 p7, .int .i64 p8] := K2_1
      clear K2_0 K2_1
      have z2 := G2.size
      replace G2 := hide G2
      have t2_0 := B2_0.lt
      have d2_0_0 := B2_0.cell 0 rfl
      have e2_0_0 := B2_0.free 0
      have d2_0_1 := B2_0.cell 1 rfl
      have e2_0_1 := B2_0.free 1
      have d2_0_2 := B2_0.cell 2 rfl
      have e2_0_2 := B2_0.free 2
      have d2_0_3 := B2_0.cell 3 rfl
      have e2_0_3 := B2_0.free 3
      have t2_1 := B2_1.lt
      have d2_1_0 := B2_1.cell 0 rfl
      have e2_1_0 := B2_1.free 0
      have d2_1_1 := B2_1.cell 1 rfl
      have e2_1_1 := B2_1.free 1
      have d2_1_2 := B2_1.cell 2 rfl
      have e2_1_2 := B2_1.free 2
      have d2_1_3 := B2_1.cell 3 rfl
      have e2_1_3 := B2_1.free 3
      have t2_2 := B2_2.lt
      have d2_2_0 := B2_2.cell 0 rfl
      have e2_2_0 := B2_2.free 0
      have d2_2_1 := B2_2.cell 1 rfl
      have e2_2_1 := B2_2.free 1
      have t2_3 := B2_3.lt
      have d2_3_0 := B2_3.cell 0 rfl
      have e2_3_0 := B2_3.free 0
      have d2_3_1 := B2_3.cell 1 rfl
      have e2_3_1 := B2_3.free 1
      have d2_3_2 := B2_3.cell 2 rfl
      have e2_3_2 := B2_3.free 2
      have d2_3_3 := B2_3.cell 3 rfl
      have e2_3_3 := B2_3.free 3
      have t2_4 := B2_4.lt
      have d2_4_0 := B2_4.cell 0 rfl
      have e2_4_0 := B2_4.free 0
      have d2_4_1 := B2_4.cell 1 rfl
      have e2_4_1 := B2_4.free 1
      have d2_4_2 := B2_4.cell 2 rfl
      have e2_4_2 := B2_4.free 2
      have d2_4_3 := B2_4.cell 3 rfl
      have e2_4_3 := B2_4.free 3
      go_simp
      go_wp2_with fail
      have g2_0_0 := fun m os => (B2_0.grow m os).cell 0 rfl
      have g2_0_1 := fun m os => (B2_0.grow m os).cell 1 rfl
      have g2_0_2 := fun m os => (B2_0.grow m os).cell 2 rfl
      have g2_0_3 := fun m os => (B2_0.grow m os).cell 3 rfl
      have g2_1_0 := fun m os => (B2_1.grow m os).cell 0 rfl
      have g2_1_1 := fun m os => (B2_1.grow m os).cell 1 rfl
      have g2_1_2 := fun m os => (B2_1.grow m os).cell 2 rfl
      have g2_1_3 := fun m os => (B2_1.grow m os).cell 3 rfl
      have g2_2_0 := fun m os => (B2_2.grow m os).cell 0 rfl
      have g2_2_1 := fun m os => (B2_2.grow m os).cell 1 rfl
      have g2_3_0 := fun m os => (B2_3.grow m os).cell 0 rfl
      have g2_3_1 := fun m os => (B2_3.grow m os).cell 1 rfl
      have g2_3_2 := fun m os => (B2_3.grow m os).cell 2 rfl
      have g2_3_3 := fun m os => (B2_3.grow m os).cell 3 rfl
      have g2_4_0 := fun m os => (B2_4.grow m os).cell 0 rfl
      have g2_4_1 := fun m os => (B2_4.grow m os).cell 1 rfl
      have g2_4_2 := fun m os => (B2_4.grow m os).cell 2 rfl
      have g2_4_3 := fun m os => (B2_4.grow m os).cell 3 rfl
      refine wp_region_calm (by kernel_rfl) (by kernel_rfl) ?_
      repeat (first | (refine lex_skip rfl (by rfl) ?_) | (refine lex_calm rfl (by rfl) (fun K hK => ?_); go_simp; first | (refine hK _ ?_; clear hK K) | (apply Exists.intro; refine ⟨fun _ _ => ?_, hK _ ?_⟩; (first | (with_reducible exact (K3 _).out) | (with_reducible exact (K4 _).out)); clear hK K)))
      refine lex_nil ?_
      intro w3 G3
      have B3_0 : Blk w3 (w.heap.size) 23 [.int .i64 x, .int .i64 y, .int .i64 z, .int .i64 h] := B2_0.grew G3
      have B3_1 : Blk w3 (w.heap.size + 1) 23 [.int .i64 x', .int .i64 y', .int .i64 z', .int .i64 h'] := B2_1.grew G3
      have B3_2 : Blk w3 (w.heap.size + 1 + 1) 25 [.int .i64 px, .int .i64 py] := B2_2.grew G3
      have B3_3 : Blk w3 (b2_0) 23 [.int .i64 p1, .int .i64 p2, .int .i64 p3, .int .i64 p4] := B2_3.grew G3
      have B3_4 : Blk w3 (b2_1) 23 [.int .i64 p5, .int .i64 p6, .int .i64 p7, .int .i64 p8] := B2_4.grew G3
      have z3 := G3.size
      replace G3 := hide G3
      have t3_0 := B3_0.lt
      have d3_0_0 := B3_0.cell 0 rfl
      have e3_0_0 := B3_0.free 0
      have d3_0_1 := B3_0.cell 1 rfl
      have e3_0_1 := B3_0.free 1
      have d3_0_2 := B3_0.cell 2 rfl
      have e3_0_2 := B3_0.free 2
      have d3_0_3 := B3_0.cell 3 rfl
      have e3_0_3 := B3_0.free 3
      have t3_1 := B3_1.lt
      have d3_1_0 := B3_1.cell 0 rfl
      have e3_1_0 := B3_1.free 0
      have d3_1_1 := B3_1.cell 1 rfl
      have e3_1_1 := B3_1.free 1
      have d3_1_2 := B3_1.cell 2 rfl
      have e3_1_2 := B3_1.free 2
      have d3_1_3 := B3_1.cell 3 rfl
      have e3_1_3 := B3_1.free 3
      have t3_2 := B3_2.lt
      have d3_2_0 := B3_2.cell 0 rfl
      have e3_2_0 := B3_2.free 0
      have d3_2_1 := B3_2.cell 1 rfl
      have e3_2_1 := B3_2.free 1
      have t3_3 := B3_3.lt
      have d3_3_0 := B3_3.cell 0 rfl
      have e3_3_0 := B3_3.free 0
      have d3_3_1 := B3_3.cell 1 rfl
      have e3_3_1 := B3_3.free 1
      have d3_3_2 := B3_3.cell 2 rfl
      have e3_3_2 := B3_3.free 2
      have d3_3_3 := B3_3.cell 3 rfl
      have e3_3_3 := B3_3.free 3
      have t3_4 := B3_4.lt
      have d3_4_0 := B3_4.cell 0 rfl
      have e3_4_0 := B3_4.free 0
      have d3_4_1 := B3_4.cell 1 rfl
      have e3_4_1 := B3_4.free 1
      have d3_4_2 := B3_4.cell 2 rfl
      have e3_4_2 := B3_4.free 2
      have d3_4_3 := B3_4.cell 3 rfl
      have e3_4_3 := B3_4.free 3
      go_wp2_with fail
      refine ((K5 _).out).mono ?_
      rintro e w4 ⟨rfl, G4⟩
      try (with_reducible replace G4 := Grew.undrawn G4)
      have B4_0 : Blk w4 (w.heap.size) 23 [.int .i64 x, .int .i64 y, .int .i64 z, .int .i64 h] := Blk.grew (by (repeat' (first | (with_reducible assumption) | ((with_reducible refine Blk.new ?_); (first | (with_reducible rfl) | (simp only [World.size_alloc, World.size_setCell, size_drewN]; done))) | (with_reducible refine Blk.alloc ?_ _) | (with_reducible refine Blk.drewN ?_ _) | (with_reducible refine Blk.drew ?_) | (refine Blk.other ?_ (by omega) _) | fail))) G4
      have B4_1 : Blk w4 (w.heap.size + 1) 23 [.int .i64 x', .int .i64 y', .int .i64 z', .int .i64 h'] := Blk.grew (by (repeat' (first | (with_reducible assumption) | ((with_reducible refine Blk.new ?_); (first | (with_reducible rfl) | (simp only [World.size_alloc, World.size_setCell, size_drewN]; done))) | (with_reducible refine Blk.alloc ?_ _) | (with_reducible refine Blk.drewN ?_ _) | (with_reducible refine Blk.drew ?_) | (refine Blk.other ?_ (by omega) _) | fail))) G4
      have B4_2 : Blk w4 (w.heap.size + 1 + 1) 25 [.int .i64 px, .int .i64 py] := Blk.grew (by (repeat' (first | (with_reducible assumption) | ((with_reducible refine Blk.new ?_); (first | (with_reducible rfl) | (simp only [World.size_alloc, World.size_setCell, size_drewN]; done))) | (with_reducible refine Blk.alloc ?_ _) | (with_reducible refine Blk.drewN ?_ _) | (with_reducible refine Blk.drew ?_) | (refine Blk.other ?_ (by omega) _) | fail))) G4
      have B4_3 : Blk w4 (b2_0) 23 [.int .i64 p1, .int .i64 p2, .int .i64 p3, .int .i64 p4] := Blk.grew (by (repeat' (first | (with_reducible assumption) | ((with_reducible refine Blk.new ?_); (first | (with_reducible rfl) | (simp only [World.size_alloc, World.size_setCell, size_drewN]; done))) | (with_reducible refine Blk.alloc ?_ _) | (with_reducible refine Blk.drewN ?_ _) | (with_reducible refine Blk.drew ?_) | (refine Blk.other ?_ (by omega) _) | fail))) G4
      have B4_4 : Blk w4 (b2_1) 23 [.int .i64 p5, .int .i64 p6, .int .i64 p7, .int .i64 p8] := Blk.grew (by (repeat' (first | (with_reducible assumption) | ((with_reducible refine Blk.new ?_); (first | (with_reducible rfl) | (simp only [World.size_alloc, World.size_setCell, size_drewN]; done))) | (with_reducible refine Blk.alloc ?_ _) | (with_reducible refine Blk.drewN ?_ _) | (with_reducible refine Blk.drew ?_) | (refine Blk.other ?_ (by omega) _) | fail))) G4
      have z4 := G4.size
      try simp only [World.size_alloc, World.size_setCell, size_drewN] at z4
      replace G4 := hide G4
      have t4_0 := B4_0.lt
      have d4_0_0 := B4_0.cell 0 rfl
      have e4_0_0 := B4_0.free 0
      have d4_0_1 := B4_0.cell 1 rfl
      have e4_0_1 := B4_0.free 1
      have d4_0_2 := B4_0.cell 2 rfl
      have e4_0_2 := B4_0.free 2
      have d4_0_3 := B4_0.cell 3 rfl
      have e4_0_3 := B4_0.free 3
      have t4_1 := B4_1.lt
      have d4_1_0 := B4_1.cell 0 rfl
      have e4_1_0 := B4_1.free 0
      have d4_1_1 := B4_1.cell 1 rfl
      have e4_1_1 := B4_1.free 1
      have d4_1_2 := B4_1.cell 2 rfl
      have e4_1_2 := B4_1.free 2
      have d4_1_3 := B4_1.cell 3 rfl
      have e4_1_3 := B4_1.free 3
      have t4_2 := B4_2.lt
      have d4_2_0 := B4_2.cell 0 rfl
      have e4_2_0 := B4_2.free 0
      have d4_2_1 := B4_2.cell 1 rfl
      have e4_2_1 := B4_2.free 1
      have t4_3 := B4_3.lt
      have d4_3_0 := B4_3.cell 0 rfl
      have e4_3_0 := B4_3.free 0
      have d4_3_1 := B4_3.cell 1 rfl
      have e4_3_1 := B4_3.free 1
      have d4_3_2 := B4_3.cell 2 rfl
      have e4_3_2 := B4_3.free 2
      have d4_3_3 := B4_3.cell 3 rfl
      have e4_3_3 := B4_3.free 3
      have t4_4 := B4_4.lt
      have d4_4_0 := B4_4.cell 0 rfl
      have e4_4_0 := B4_4.free 0
      have d4_4_1 := B4_4.cell 1 rfl
      have e4_4_1 := B4_4.free 1
      have d4_4_2 := B4_4.cell 2 rfl
      have e4_4_2 := B4_4.free 2
      have d4_4_3 := B4_4.cell 3 rfl
      have e4_4_3 := B4_4.free 3
      go_wp2_with fail
      refine ((VV _).out).mono ?_
      rintro e w5 ⟨rfl, G5⟩
      try (with_reducible replace G5 := Grew.undrawn G5)
      have B5_0 : Blk w5 (w.heap.size) 23 [.int .i64 x, .int .i64 y, .int .i64 z, .int .i64 h] := Blk.grew (by (repeat' (first | (with_reducible assumption) | ((with_reducible refine Blk.new ?_); (first | (with_reducible rfl) | (simp only [World.size_alloc, World.size_setCell, size_drewN]; done))) | (with_reducible refine Blk.alloc ?_ _) | (with_reducible refine Blk.drewN ?_ _) | (with_reducible refine Blk.drew ?_) | (refine Blk.other ?_ (by omega) _) | fail))) G5
      have B5_1 : Blk w5 (w.heap.size + 1) 23 [.int .i64 x', .int .i64 y', .int .i64 z', .int .i64 h'] := Blk.grew (by (repeat' (first | (with_reducible assumption) | ((with_reducible refine Blk.new ?_); (first | (with_reducible rfl) | (simp only [World.size_alloc, World.size_setCell, size_drewN]; done))) | (with_reducible refine Blk.alloc ?_ _) | (with_reducible refine Blk.drewN ?_ _) | (with_reducible refine Blk.drew ?_) | (refine Blk.other ?_ (by omega) _) | fail))) G5
      have B5_2 : Blk w5 (w.heap.size + 1 + 1) 25 [.int .i64 px, .int .i64 py] := Blk.grew (by (repeat' (first | (with_reducible assumption) | ((with_reducible refine Blk.new ?_); (first | (with_reducible rfl) | (simp only [World.size_alloc, World.size_setCell, size_drewN]; done))) | (with_reducible refine Blk.alloc ?_ _) | (with_reducible refine Blk.drewN ?_ _) | (with_reducible refine Blk.drew ?_) | (refine Blk.other ?_ (by omega) _) | fail))) G5
      have B5_3 : Blk w5 (b2_0) 23 [.int .i64 p1, .int .i64 p2, .int .i64 p3, .int .i64 p4] := Blk.grew (by (repeat' (first | (with_reducible assumption) | ((with_reducible refine Blk.new ?_); (first | (with_reducible rfl) | (simp only [World.size_alloc, World.size_setCell, size_drewN]; done))) | (with_reducible refine Blk.alloc ?_ _) | (with_reducible refine Blk.drewN ?_ _) | (with_reducible refine Blk.drew ?_) | (refine Blk.other ?_ (by omega) _) | fail))) G5
      have B5_4 : Blk w5 (b2_1) 23 [.int .i64 p5, .int .i64 p6, .int .i64 p7, .int .i64 p8] := Blk.grew (by (repeat' (first | (with_reducible assumption) | ((with_reducible refine Blk.new ?_); (first | (with_reducible rfl) | (simp only [World.size_alloc, World.size_setCell, size_drewN]; done))) | (with_reducible refine Blk.alloc ?_ _) | (with_reducible refine Blk.drewN ?_ _) | (with_reducible refine Blk.drew ?_) | (refine Blk.other ?_ (by omega) _) | fail))) G5
      have z5 := G5.size
      try simp only [World.size_alloc, World.size_setCell, size_drewN] at z5
      replace G5 := hide G5
      have t5_0 := B5_0.lt
      have d5_0_0 := B5_0.cell 0 rfl
      have e5_0_0 := B5_0.free 0
      have d5_0_1 := B5_0.cell 1 rfl
      have e5_0_1 := B5_0.free 1
      have d5_0_2 := B5_0.cell 2 rfl
      have e5_0_2 := B5_0.free 2
      have d5_0_3 := B5_0.cell 3 rfl
      have e5_0_3 := B5_0.free 3
      have t5_1 := B5_1.lt
      have d5_1_0 := B5_1.cell 0 rfl
      have e5_1_0 := B5_1.free 0
      have d5_1_1 := B5_1.cell 1 rfl
      have e5_1_1 := B5_1.free 1
      have d5_1_2 := B5_1.cell 2 rfl
      have e5_1_2 := B5_1.free 2
      have d5_1_3 := B5_1.cell 3 rfl
      have e5_1_3 := B5_1.free 3
      have t5_2 := B5_2.lt
      have d5_2_0 := B5_2.cell 0 rfl
      have e5_2_0 := B5_2.free 0
      have d5_2_1 := B5_2.cell 1 rfl
      have e5_2_1 := B5_2.free 1
      have t5_3 := B5_3.lt
      have d5_3_0 := B5_3.cell 0 rfl
      have e5_3_0 := B5_3.free 0
      have d5_3_1 := B5_3.cell 1 rfl
      have e5_3_1 := B5_3.free 1
      have d5_3_2 := B5_3.cell 2 rfl
      have e5_3_2 := B5_3.free 2
      have d5_3_3 := B5_3.cell 3 rfl
      have e5_3_3 := B5_3.free 3
      have t5_4 := B5_4.lt
      have d5_4_0 := B5_4.cell 0 rfl
      have e5_4_0 := B5_4.free 0
      have d5_4_1 := B5_4.cell 1 rfl
      have e5_4_1 := B5_4.free 1
      have d5_4_2 := B5_4.cell 2 rfl
      have e5_4_2 := B5_4.free 2
      have d5_4_3 := B5_4.cell 3 rfl
      have e5_4_3 := B5_4.free 3
      go_wp2_with fail
      refine ((A1 _).out).mono ?_
      rintro e w6 ⟨rfl, G6⟩
      try (with_reducible replace G6 := Grew.undrawn G6)
      have B6_0 : Blk w6 (w.heap.size) 23 [.int .i64 x, .int .i64 y, .int .i64 z, .int .i64 h] := Blk.grew (by (repeat' (first | (with_reducible assumption) | ((with_reducible refine Blk.new ?_); (first | (with_reducible rfl) | (simp only [World.size_alloc, World.size_setCell, size_drewN]; done))) | (with_reducible refine Blk.alloc ?_ _) | (with_reducible refine Blk.drewN ?_ _) | (with_reducible refine Blk.drew ?_) | (refine Blk.other ?_ (by omega) _) | fail))) G6
      have B6_1 : Blk w6 (w.heap.size + 1) 23 [.int .i64 x', .int .i64 y', .int .i64 z', .int .i64 h'] := Blk.grew (by (repeat' (first | (with_reducible assumption) | ((with_reducible refine Blk.new ?_); (first | (with_reducible rfl) | (simp only [World.size_alloc, World.size_setCell, size_drewN]; done))) | (with_reducible refine Blk.alloc ?_ _) | (with_reducible refine Blk.drewN ?_ _) | (with_reducible refine Blk.drew ?_) | (refine Blk.other ?_ (by omega) _) | fail))) G6
      have B6_2 : Blk w6 (w.heap.size + 1 + 1) 25 [.int .i64 px, .int .i64 py] := Blk.grew (by (repeat' (first | (with_reducible assumption) | ((with_reducible refine Blk.new ?_); (first | (with_reducible rfl) | (simp only [World.size_alloc, World.size_setCell, size_drewN]; done))) | (with_reducible refine Blk.alloc ?_ _) | (with_reducible refine Blk.drewN ?_ _) | (with_reducible refine Blk.drew ?_) | (refine Blk.other ?_ (by omega) _) | fail))) G6
      have B6_3 : Blk w6 (b2_0) 23 [.int .i64 p1, .int .i64 p2, .int .i64 p3, .int .i64 p4] := Blk.grew (by (repeat' (first | (with_reducible assumption) | ((with_reducible refine Blk.new ?_); (first | (with_reducible rfl) | (simp only [World.size_alloc, World.size_setCell, size_drewN]; done))) | (with_reducible refine Blk.alloc ?_ _) | (with_reducible refine Blk.drewN ?_ _) | (with_reducible refine Blk.drew ?_) | (refine Blk.other ?_ (by omega) _) | fail))) G6
      have B6_4 : Blk w6 (b2_1) 23 [.int .i64 p5, .int .i64 p6, .int .i64 p7, .int .i64 p8] := Blk.grew (by (repeat' (first | (with_reducible assumption) | ((with_reducible refine Blk.new ?_); (first | (with_reducible rfl) | (simp only [World.size_alloc, World.size_setCell, size_drewN]; done))) | (with_reducible refine Blk.alloc ?_ _) | (with_reducible refine Blk.drewN ?_ _) | (with_reducible refine Blk.drew ?_) | (refine Blk.other ?_ (by omega) _) | fail))) G6
      have z6 := G6.size
      try simp only [World.size_alloc, World.size_setCell, size_drewN] at z6
      replace G6 := hide G6
      have t6_0 := B6_0.lt
      have d6_0_0 := B6_0.cell 0 rfl
      have e6_0_0 := B6_0.free 0
      have d6_0_1 := B6_0.cell 1 rfl
      have e6_0_1 := B6_0.free 1
      have d6_0_2 := B6_0.cell 2 rfl
      have e6_0_2 := B6_0.free 2
      have d6_0_3 := B6_0.cell 3 rfl
      have e6_0_3 := B6_0.free 3
      have t6_1 := B6_1.lt
      have d6_1_0 := B6_1.cell 0 rfl
      have e6_1_0 := B6_1.free 0
      have d6_1_1 := B6_1.cell 1 rfl
      have e6_1_1 := B6_1.free 1
      have d6_1_2 := B6_1.cell 2 rfl
      have e6_1_2 := B6_1.free 2
      have d6_1_3 := B6_1.cell 3 rfl
      have e6_1_3 := B6_1.free 3
      have t6_2 := B6_2.lt
      have d6_2_0 := B6_2.cell 0 rfl
      have e6_2_0 := B6_2.free 0
      have d6_2_1 := B6_2.cell 1 rfl
      have e6_2_1 := B6_2.free 1
      have t6_3 := B6_3.lt
      have d6_3_0 := B6_3.cell 0 rfl
      have e6_3_0 := B6_3.free 0
      have d6_3_1 := B6_3.cell 1 rfl
      have e6_3_1 := B6_3.free 1
      have d6_3_2 := B6_3.cell 2 rfl
      have e6_3_2 := B6_3.free 2
      have d6_3_3 := B6_3.cell 3 rfl
      have e6_3_3 := B6_3.free 3
      have t6_4 := B6_4.lt
      have d6_4_0 := B6_4.cell 0 rfl
      have e6_4_0 := B6_4.free 0
      have d6_4_1 := B6_4.cell 1 rfl
      have e6_4_1 := B6_4.free 1
      have d6_4_2 := B6_4.cell 2 rfl
      have e6_4_2 := B6_4.free 2
      have d6_4_3 := B6_4.cell 3 rfl
      have e6_4_3 := B6_4.free 3
      go_wp2
      go_ret
      refine ⟨rfl, Grew.below ?_⟩
      repeat' (first | (with_reducible exact Grew.refl _) | (with_reducible refine Grew.setCell ?_ ?_ _) | (with_reducible refine Grew.drewN ?_ _) | (with_reducible refine Grew.alloc ?_ _) | (with_reducible refine Grew.trans ?_ G6.out) | (with_reducible refine Grew.trans ?_ G5.out) | (with_reducible refine Grew.trans ?_ G4.out) | (with_reducible refine Grew.trans ?_ G3.out) | (with_reducible refine Grew.trans ?_ G2.out) | (with_reducible refine Grew.trans ?_ G1.out) | (dsimp only; omega))
    · go_enter Try.func5, Try.ntmps5
      go_wp2_with fail
      refine name_world fun w1 h1 => ?_
      have G1 : Grew w w1 := by
        rw [h1]
        repeat' (first | (with_reducible exact Grew.refl _) | (with_reducible refine Grew.setCell ?_ ?_ _) | (with_reducible refine Grew.drewN ?_ _) | (with_reducible refine Grew.alloc ?_ _) | (with_reducible refine Grew.trans ?_ G1.out) | (dsimp only; omega))
      have B1_0 : Blk w1 (w.heap.size) 23 [.int .i64 x, .int .i64 y, .int .i64 z, .int .i64 h] := by (rw [h1]; repeat' (first | (with_reducible assumption) | ((with_reducible refine Blk.new ?_); (first | (with_reducible rfl) | (simp only [World.size_alloc, World.size_setCell, size_drewN]; done))) | (with_reducible refine Blk.alloc ?_ _) | (with_reducible refine Blk.drewN ?_ _) | (with_reducible refine Blk.drew ?_) | (refine Blk.other ?_ (by omega) _) | fail))
      have B1_1 : Blk w1 (w.heap.size + 1) 23 [.int .i64 x', .int .i64 y', .int .i64 z', .int .i64 h'] := by (rw [h1]; repeat' (first | (with_reducible assumption) | ((with_reducible refine Blk.new ?_); (first | (with_reducible rfl) | (simp only [World.size_alloc, World.size_setCell, size_drewN]; done))) | (with_reducible refine Blk.alloc ?_ _) | (with_reducible refine Blk.drewN ?_ _) | (with_reducible refine Blk.drew ?_) | (refine Blk.other ?_ (by omega) _) | fail))
      have B1_2 : Blk w1 (w.heap.size + 1 + 1) 25 [.int .i64 px, .int .i64 py] := by (rw [h1]; repeat' (first | (with_reducible assumption) | ((with_reducible refine Blk.new ?_); (first | (with_reducible rfl) | (simp only [World.size_alloc, World.size_setCell, size_drewN]; done))) | (with_reducible refine Blk.alloc ?_ _) | (with_reducible refine Blk.drewN ?_ _) | (with_reducible refine Blk.drew ?_) | (refine Blk.other ?_ (by omega) _) | fail))
      have z1 := G1.size
      replace G1 := hide G1
      clear h1
      have t1_0 := B1_0.lt
      have d1_0_0 := B1_0.cell 0 rfl
      have e1_0_0 := B1_0.free 0
      have d1_0_1 := B1_0.cell 1 rfl
      have e1_0_1 := B1_0.free 1
      have d1_0_2 := B1_0.cell 2 rfl
      have e1_0_2 := B1_0.free 2
      have d1_0_3 := B1_0.cell 3 rfl
      have e1_0_3 := B1_0.free 3
      have t1_1 := B1_1.lt
      have d1_1_0 := B1_1.cell 0 rfl
      have e1_1_0 := B1_1.free 0
      have d1_1_1 := B1_1.cell 1 rfl
      have e1_1_1 := B1_1.free 1
      have d1_1_2 := B1_1.cell 2 rfl
      have e1_1_2 := B1_1.free 2
      have d1_1_3 := B1_1.cell 3 rfl
      have e1_1_3 := B1_1.free 3
      have t1_2 := B1_2.lt
      have d1_2_0 := B1_2.cell 0 rfl
      have e1_2_0 := B1_2.free 0
      have d1_2_1 := B1_2.cell 1 rfl
      have e1_2_1 := B1_2.free 1
      have g1_0_0 := fun m os => (B1_0.grow m os).cell 0 rfl
      have g1_0_1 := fun m os => (B1_0.grow m os).cell 1 rfl
      have g1_0_2 := fun m os => (B1_0.grow m os).cell 2 rfl
      have g1_0_3 := fun m os => (B1_0.grow m os).cell 3 rfl
      have g1_1_0 := fun m os => (B1_1.grow m os).cell 0 rfl
      have g1_1_1 := fun m os => (B1_1.grow m os).cell 1 rfl
      have g1_1_2 := fun m os => (B1_1.grow m os).cell 2 rfl
      have g1_1_3 := fun m os => (B1_1.grow m os).cell 3 rfl
      have g1_2_0 := fun m os => (B1_2.grow m os).cell 0 rfl
      have g1_2_1 := fun m os => (B1_2.grow m os).cell 1 rfl
      refine wp_region_made [⟨6, 8, 7, 23, [.int .i64 0, .int .i64 0, .int .i64 0, .int .i64 0], [.int .i64 p1, .int .i64 p2, .int .i64 p3, .int .i64 p4]⟩, ⟨7, 9, 8, 23, [.int .i64 0, .int .i64 0, .int .i64 0, .int .i64 0], [.int .i64 p5, .int .i64 p6, .int .i64 p7, .int .i64 p8]⟩] (by kernel_rfl) (by kernel_rfl) (by simp [madeSlots]) ?_
      repeat (first | (refine lex_skip rfl (by rfl) ?_) | (refine lex_calm rfl (by rfl) (fun K hK => ?_); go_simp; first | (refine hK _ ?_; clear hK K) | (apply Exists.intro; refine ⟨fun _ _ => ?_, hK _ ?_⟩; (first | (with_reducible exact (K1 _).out) | (with_reducible exact (K2 _).out)); clear hK K)))
      refine lex_alloc (m := ⟨6, 8, 7, 23, [.int .i64 0, .int .i64 0, .int .i64 0, .int .i64 0], [.int .i64 p1, .int .i64 p2, .int .i64 p3, .int .i64 p4]⟩) (by kernel_rfl) (by simp) (by rfl) rfl ?_ ?_
      · intro ev w
        go_simp
      repeat (first | (refine lex_skip rfl (by rfl) ?_) | (refine lex_calm rfl (by rfl) (fun K hK => ?_); go_simp; first | (refine hK _ ?_; clear hK K) | (apply Exists.intro; refine ⟨fun _ _ => ?_, hK _ ?_⟩; (first | (with_reducible exact (K1 _).out) | (with_reducible exact (K2 _).out)); clear hK K)))
      refine lex_alloc (m := ⟨7, 9, 8, 23, [.int .i64 0, .int .i64 0, .int .i64 0, .int .i64 0], [.int .i64 p5, .int .i64 p6, .int .i64 p7, .int .i64 p8]⟩) (by kernel_rfl) (by simp) (by rfl) rfl ?_ ?_
      · intro ev w
        go_simp
      repeat (first | (refine lex_skip rfl (by rfl) ?_) | (refine lex_calm rfl (by rfl) (fun K hK => ?_); go_simp; first | (refine hK _ ?_; clear hK K) | (apply Exists.intro; refine ⟨fun _ _ => ?_, hK _ ?_⟩; (first | (with_reducible exact (K1 _).out) | (with_reducible exact (K2 _).out)); clear hK K)))
      refine lex_store (m := ⟨6, 8, 7, 23, [.int .i64 0, .int .i64 0, .int .i64 0, .int .i64 0], [.int .i64 p1, .int .i64 p2, .int .i64 p3, .int .i64 p4]⟩) (by kernel_rfl) (by simp) (by rfl) rfl ?_ ?_
      · intro vs w b hv hB
        have d0 := hB.cell 0 rfl
        have e0 := hB.free 0
        have d1 := hB.cell 1 rfl
        have e1 := hB.free 1
        have d2 := hB.cell 2 rfl
        have e2 := hB.free 2
        have d3 := hB.cell 3 rfl
        have e3 := hB.free 3
        simp only [] at hv
        simp [go_sem, evS, madeSlots, List.lookup, setAll, *]
      repeat (first | (refine lex_skip rfl (by rfl) ?_) | (refine lex_calm rfl (by rfl) (fun K hK => ?_); go_simp; first | (refine hK _ ?_; clear hK K) | (apply Exists.intro; refine ⟨fun _ _ => ?_, hK _ ?_⟩; (first | (with_reducible exact (K1 _).out) | (with_reducible exact (K2 _).out)); clear hK K)))
      refine lex_store (m := ⟨7, 9, 8, 23, [.int .i64 0, .int .i64 0, .int .i64 0, .int .i64 0], [.int .i64 p5, .int .i64 p6, .int .i64 p7, .int .i64 p8]⟩) (by kernel_rfl) (by simp) (by rfl) rfl ?_ ?_
      · intro vs w b hv hB
        have d0 := hB.cell 0 rfl
        have e0 := hB.free 0
        have d1 := hB.cell 1 rfl
        have e1 := hB.free 1
        have d2 := hB.cell 2 rfl
        have e2 := hB.free 2
        have d3 := hB.cell 3 rfl
        have e3 := hB.free 3
        simp only [] at hv
        simp [go_sem, evS, madeSlots, List.lookup, setAll, *]
      repeat (first | (refine lex_skip rfl (by rfl) ?_) | (refine lex_calm rfl (by rfl) (fun K hK => ?_); go_simp; first | (refine hK _ ?_; clear hK K) | (apply Exists.intro; refine ⟨fun _ _ => ?_, hK _ ?_⟩; (first | (with_reducible exact (K1 _).out) | (with_reducible exact (K2 _).out)); clear hK K)))
      refine lex_nil ?_
      rintro vs w2 ⟨G2, hb, hne⟩
      obtain ⟨b2_0, hv0, s2_0, K2_0⟩ := hb ⟨6, 8, 7, 23, [.int .i64 0, .int .i64 0, .int .i64 0, .int .i64 0], [.int .i64 p1, .int .i64 p2, .int .i64 p3, .int .i64 p4]⟩ (by simp) rfl
      obtain ⟨b2_1, hv1, s2_1, K2_1⟩ := hb ⟨7, 9, 8, 23, [.int .i64 0, .int .i64 0, .int .i64 0, .int .i64 0], [.int .i64 p5, .int .i64 p6, .int .i64 p7, .int .i64 p8]⟩ (by simp) rfl
      have hn2_0_1 : b2_0 ≠ b2_1 := fun e => hne ⟨6, 8, 7, 23, [.int .i64 0, .int .i64 0, .int .i64 0, .int .i64 0], [.int .i64 p1, .int .i64 p2, .int .i64 p3, .int .i64 p4]⟩ (by simp) ⟨7, 9, 8, 23, [.int .i64 0, .int .i64 0, .int .i64 0, .int .i64 0], [.int .i64 p5, .int .i64 p6, .int .i64 p7, .int .i64 p8]⟩ (by simp) (by show (6 : Nat) ≠ 7; decide) rfl rfl (hv0.trans (e ▸ hv1.symm))
      simp only [fillS, madeSlots, List.map_cons, List.map_nil, List.foldl_cons, List.foldl_nil, hv0, hv1]
      clear hb hne hv0 hv1 vs
      have B2_0 : Blk w2 (w.heap.size) 23 [.int .i64 x, .int .i64 y, .int .i64 z, .int .i64 h] := B1_0.grew G2
      have B2_1 : Blk w2 (w.heap.size + 1) 23 [.int .i64 x', .int .i64 y', .int .i64 z', .int .i64 h'] := B1_1.grew G2
      have B2_2 : Blk w2 (w.heap.size + 1 + 1) 25 [.int .i64 px, .int .i64 py] := B1_2.grew G2
      have B2_3 : Blk w2 b2_0 23 [.int .i64 p1, .int .i64 p2, .int .i64 p3, .int .i64 p4] := K2_0
      have B2_4 : Blk w2 b2_1 23 [.int .i64 p5, .int .i64 p6, .int .i64 p7, .int .i64 p8] := K2_1
      clear K2_0 K2_1
      have z2 := G2.size
      replace G2 := hide G2
      have t2_0 := B2_0.lt
      have d2_0_0 := B2_0.cell 0 rfl
      have e2_0_0 := B2_0.free 0
      have d2_0_1 := B2_0.cell 1 rfl
      have e2_0_1 := B2_0.free 1
      have d2_0_2 := B2_0.cell 2 rfl
      have e2_0_2 := B2_0.free 2
      have d2_0_3 := B2_0.cell 3 rfl
      have e2_0_3 := B2_0.free 3
      have t2_1 := B2_1.lt
      have d2_1_0 := B2_1.cell 0 rfl
      have e2_1_0 := B2_1.free 0
      have d2_1_1 := B2_1.cell 1 rfl
      have e2_1_1 := B2_1.free 1
      have d2_1_2 := B2_1.cell 2 rfl
      have e2_1_2 := B2_1.free 2
      have d2_1_3 := B2_1.cell 3 rfl
      have e2_1_3 := B2_1.free 3
      have t2_2 := B2_2.lt
      have d2_2_0 := B2_2.cell 0 rfl
      have e2_2_0 := B2_2.free 0
      have d2_2_1 := B2_2.cell 1 rfl
      have e2_2_1 := B2_2.free 1
      have t2_3 := B2_3.lt
      have d2_3_0 := B2_3.cell 0 rfl
      have e2_3_0 := B2_3.free 0
      have d2_3_1 := B2_3.cell 1 rfl
      have e2_3_1 := B2_3.free 1
      have d2_3_2 := B2_3.cell 2 rfl
      have e2_3_2 := B2_3.free 2
      have d2_3_3 := B2_3.cell 3 rfl
      have e2_3_3 := B2_3.free 3
      have t2_4 := B2_4.lt
      have d2_4_0 := B2_4.cell 0 rfl
      have e2_4_0 := B2_4.free 0
      have d2_4_1 := B2_4.cell 1 rfl
      have e2_4_1 := B2_4.free 1
      have d2_4_2 := B2_4.cell 2 rfl
      have e2_4_2 := B2_4.free 2
      have d2_4_3 := B2_4.cell 3 rfl
      have e2_4_3 := B2_4.free 3
      go_simp
      go_wp2_with fail
      have g2_0_0 := fun m os => (B2_0.grow m os).cell 0 rfl
      have g2_0_1 := fun m os => (B2_0.grow m os).cell 1 rfl
      have g2_0_2 := fun m os => (B2_0.grow m os).cell 2 rfl
      have g2_0_3 := fun m os => (B2_0.grow m os).cell 3 rfl
      have g2_1_0 := fun m os => (B2_1.grow m os).cell 0 rfl
      have g2_1_1 := fun m os => (B2_1.grow m os).cell 1 rfl
      have g2_1_2 := fun m os => (B2_1.grow m os).cell 2 rfl
      have g2_1_3 := fun m os => (B2_1.grow m os).cell 3 rfl
      have g2_2_0 := fun m os => (B2_2.grow m os).cell 0 rfl
      have g2_2_1 := fun m os => (B2_2.grow m os).cell 1 rfl
      have g2_3_0 := fun m os => (B2_3.grow m os).cell 0 rfl
      have g2_3_1 := fun m os => (B2_3.grow m os).cell 1 rfl
      have g2_3_2 := fun m os => (B2_3.grow m os).cell 2 rfl
      have g2_3_3 := fun m os => (B2_3.grow m os).cell 3 rfl
      have g2_4_0 := fun m os => (B2_4.grow m os).cell 0 rfl
      have g2_4_1 := fun m os => (B2_4.grow m os).cell 1 rfl
      have g2_4_2 := fun m os => (B2_4.grow m os).cell 2 rfl
      have g2_4_3 := fun m os => (B2_4.grow m os).cell 3 rfl
      refine wp_region_calm (by kernel_rfl) (by kernel_rfl) ?_
      repeat (first | (refine lex_skip rfl (by rfl) ?_) | (refine lex_calm rfl (by rfl) (fun K hK => ?_); go_simp; first | (refine hK _ ?_; clear hK K) | (apply Exists.intro; refine ⟨fun _ _ => ?_, hK _ ?_⟩; (first | (with_reducible exact (K3 _).out) | (with_reducible exact (K4 _).out)); clear hK K)))
      refine lex_nil ?_
      intro w3 G3
      have B3_0 : Blk w3 (w.heap.size) 23 [.int .i64 x, .int .i64 y, .int .i64 z, .int .i64 h] := B2_0.grew G3
      have B3_1 : Blk w3 (w.heap.size + 1) 23 [.int .i64 x', .int .i64 y', .int .i64 z', .int .i64 h'] := B2_1.grew G3
      have B3_2 : Blk w3 (w.heap.size + 1 + 1) 25 [.int .i64 px, .int .i64 py] := B2_2.grew G3
      have B3_3 : Blk w3 (b2_0) 23 [.int .i64 p1, .int .i64 p2, .int .i64 p3, .int .i64 p4] := B2_3.grew G3
      have B3_4 : Blk w3 (b2_1) 23 [.int .i64 p5, .int .i64 p6, .int .i64 p7, .int .i64 p8] := B2_4.grew G3
      have z3 := G3.size
      replace G3 := hide G3
      have t3_0 := B3_0.lt
      have d3_0_0 := B3_0.cell 0 rfl
      have e3_0_0 := B3_0.free 0
      have d3_0_1 := B3_0.cell 1 rfl
      have e3_0_1 := B3_0.free 1
      have d3_0_2 := B3_0.cell 2 rfl
      have e3_0_2 := B3_0.free 2
      have d3_0_3 := B3_0.cell 3 rfl
      have e3_0_3 := B3_0.free 3
      have t3_1 := B3_1.lt
      have d3_1_0 := B3_1.cell 0 rfl
      have e3_1_0 := B3_1.free 0
      have d3_1_1 := B3_1.cell 1 rfl
      have e3_1_1 := B3_1.free 1
      have d3_1_2 := B3_1.cell 2 rfl
      have e3_1_2 := B3_1.free 2
      have d3_1_3 := B3_1.cell 3 rfl
      have e3_1_3 := B3_1.free 3
      have t3_2 := B3_2.lt
      have d3_2_0 := B3_2.cell 0 rfl
      have e3_2_0 := B3_2.free 0
      have d3_2_1 := B3_2.cell 1 rfl
      have e3_2_1 := B3_2.free 1
      have t3_3 := B3_3.lt
      have d3_3_0 := B3_3.cell 0 rfl
      have e3_3_0 := B3_3.free 0
      have d3_3_1 := B3_3.cell 1 rfl
      have e3_3_1 := B3_3.free 1
      have d3_3_2 := B3_3.cell 2 rfl
      have e3_3_2 := B3_3.free 2
      have d3_3_3 := B3_3.cell 3 rfl
      have e3_3_3 := B3_3.free 3
      have t3_4 := B3_4.lt
      have d3_4_0 := B3_4.cell 0 rfl
      have e3_4_0 := B3_4.free 0
      have d3_4_1 := B3_4.cell 1 rfl
      have e3_4_1 := B3_4.free 1
      have d3_4_2 := B3_4.cell 2 rfl
      have e3_4_2 := B3_4.free 2
      have d3_4_3 := B3_4.cell 3 rfl
      have e3_4_3 := B3_4.free 3
      go_wp2_with fail
      refine ((K5 _).out).mono ?_
      rintro e w4 ⟨rfl, G4⟩
      try (with_reducible replace G4 := Grew.undrawn G4)
      have B4_0 : Blk w4 (w.heap.size) 23 [.int .i64 x, .int .i64 y, .int .i64 z, .int .i64 h] := Blk.grew (by (repeat' (first | (with_reducible assumption) | ((with_reducible refine Blk.new ?_); (first | (with_reducible rfl) | (simp only [World.size_alloc, World.size_setCell, size_drewN]; done))) | (with_reducible refine Blk.alloc ?_ _) | (with_reducible refine Blk.drewN ?_ _) | (with_reducible refine Blk.drew ?_) | (refine Blk.other ?_ (by omega) _) | fail))) G4
      have B4_1 : Blk w4 (w.heap.size + 1) 23 [.int .i64 x', .int .i64 y', .int .i64 z', .int .i64 h'] := Blk.grew (by (repeat' (first | (with_reducible assumption) | ((with_reducible refine Blk.new ?_); (first | (with_reducible rfl) | (simp only [World.size_alloc, World.size_setCell, size_drewN]; done))) | (with_reducible refine Blk.alloc ?_ _) | (with_reducible refine Blk.drewN ?_ _) | (with_reducible refine Blk.drew ?_) | (refine Blk.other ?_ (by omega) _) | fail))) G4
      have B4_2 : Blk w4 (w.heap.size + 1 + 1) 25 [.int .i64 px, .int .i64 py] := Blk.grew (by (repeat' (first | (with_reducible assumption) | ((with_reducible refine Blk.new ?_); (first | (with_reducible rfl) | (simp only [World.size_alloc, World.size_setCell, size_drewN]; done))) | (with_reducible refine Blk.alloc ?_ _) | (with_reducible refine Blk.drewN ?_ _) | (with_reducible refine Blk.drew ?_) | (refine Blk.other ?_ (by omega) _) | fail))) G4
      have B4_3 : Blk w4 (b2_0) 23 [.int .i64 p1, .int .i64 p2, .int .i64 p3, .int .i64 p4] := Blk.grew (by (repeat' (first | (with_reducible assumption) | ((with_reducible refine Blk.new ?_); (first | (with_reducible rfl) | (simp only [World.size_alloc, World.size_setCell, size_drewN]; done))) | (with_reducible refine Blk.alloc ?_ _) | (with_reducible refine Blk.drewN ?_ _) | (with_reducible refine Blk.drew ?_) | (refine Blk.other ?_ (by omega) _) | fail))) G4
      have B4_4 : Blk w4 (b2_1) 23 [.int .i64 p5, .int .i64 p6, .int .i64 p7, .int .i64 p8] := Blk.grew (by (repeat' (first | (with_reducible assumption) | ((with_reducible refine Blk.new ?_); (first | (with_reducible rfl) | (simp only [World.size_alloc, World.size_setCell, size_drewN]; done))) | (with_reducible refine Blk.alloc ?_ _) | (with_reducible refine Blk.drewN ?_ _) | (with_reducible refine Blk.drew ?_) | (refine Blk.other ?_ (by omega) _) | fail))) G4
      have z4 := G4.size
      try simp only [World.size_alloc, World.size_setCell, size_drewN] at z4
      replace G4 := hide G4
      have t4_0 := B4_0.lt
      have d4_0_0 := B4_0.cell 0 rfl
      have e4_0_0 := B4_0.free 0
      have d4_0_1 := B4_0.cell 1 rfl
      have e4_0_1 := B4_0.free 1
      have d4_0_2 := B4_0.cell 2 rfl
      have e4_0_2 := B4_0.free 2
      have d4_0_3 := B4_0.cell 3 rfl
      have e4_0_3 := B4_0.free 3
      have t4_1 := B4_1.lt
      have d4_1_0 := B4_1.cell 0 rfl
      have e4_1_0 := B4_1.free 0
      have d4_1_1 := B4_1.cell 1 rfl
      have e4_1_1 := B4_1.free 1
      have d4_1_2 := B4_1.cell 2 rfl
      have e4_1_2 := B4_1.free 2
      have d4_1_3 := B4_1.cell 3 rfl
      have e4_1_3 := B4_1.free 3
      have t4_2 := B4_2.lt
      have d4_2_0 := B4_2.cell 0 rfl
      have e4_2_0 := B4_2.free 0
      have d4_2_1 := B4_2.cell 1 rfl
      have e4_2_1 := B4_2.free 1
      have t4_3 := B4_3.lt
      have d4_3_0 := B4_3.cell 0 rfl
      have e4_3_0 := B4_3.free 0
      have d4_3_1 := B4_3.cell 1 rfl
      have e4_3_1 := B4_3.free 1
      have d4_3_2 := B4_3.cell 2 rfl
      have e4_3_2 := B4_3.free 2
      have d4_3_3 := B4_3.cell 3 rfl
      have e4_3_3 := B4_3.free 3
      have t4_4 := B4_4.lt
      have d4_4_0 := B4_4.cell 0 rfl
      have e4_4_0 := B4_4.free 0
      have d4_4_1 := B4_4.cell 1 rfl
      have e4_4_1 := B4_4.free 1
      have d4_4_2 := B4_4.cell 2 rfl
      have e4_4_2 := B4_4.free 2
      have d4_4_3 := B4_4.cell 3 rfl
      have e4_4_3 := B4_4.free 3
      go_wp2_with fail
      refine ((VV _).out).mono ?_
      rintro e w5 ⟨rfl, G5⟩
      try (with_reducible replace G5 := Grew.undrawn G5)
      have B5_0 : Blk w5 (w.heap.size) 23 [.int .i64 x, .int .i64 y, .int .i64 z, .int .i64 h] := Blk.grew (by (repeat' (first | (with_reducible assumption) | ((with_reducible refine Blk.new ?_); (first | (with_reducible rfl) | (simp only [World.size_alloc, World.size_setCell, size_drewN]; done))) | (with_reducible refine Blk.alloc ?_ _) | (with_reducible refine Blk.drewN ?_ _) | (with_reducible refine Blk.drew ?_) | (refine Blk.other ?_ (by omega) _) | fail))) G5
      have B5_1 : Blk w5 (w.heap.size + 1) 23 [.int .i64 x', .int .i64 y', .int .i64 z', .int .i64 h'] := Blk.grew (by (repeat' (first | (with_reducible assumption) | ((with_reducible refine Blk.new ?_); (first | (with_reducible rfl) | (simp only [World.size_alloc, World.size_setCell, size_drewN]; done))) | (with_reducible refine Blk.alloc ?_ _) | (with_reducible refine Blk.drewN ?_ _) | (with_reducible refine Blk.drew ?_) | (refine Blk.other ?_ (by omega) _) | fail))) G5
      have B5_2 : Blk w5 (w.heap.size + 1 + 1) 25 [.int .i64 px, .int .i64 py] := Blk.grew (by (repeat' (first | (with_reducible assumption) | ((with_reducible refine Blk.new ?_); (first | (with_reducible rfl) | (simp only [World.size_alloc, World.size_setCell, size_drewN]; done))) | (with_reducible refine Blk.alloc ?_ _) | (with_reducible refine Blk.drewN ?_ _) | (with_reducible refine Blk.drew ?_) | (refine Blk.other ?_ (by omega) _) | fail))) G5
      have B5_3 : Blk w5 (b2_0) 23 [.int .i64 p1, .int .i64 p2, .int .i64 p3, .int .i64 p4] := Blk.grew (by (repeat' (first | (with_reducible assumption) | ((with_reducible refine Blk.new ?_); (first | (with_reducible rfl) | (simp only [World.size_alloc, World.size_setCell, size_drewN]; done))) | (with_reducible refine Blk.alloc ?_ _) | (with_reducible refine Blk.drewN ?_ _) | (with_reducible refine Blk.drew ?_) | (refine Blk.other ?_ (by omega) _) | fail))) G5
      have B5_4 : Blk w5 (b2_1) 23 [.int .i64 p5, .int .i64 p6, .int .i64 p7, .int .i64 p8] := Blk.grew (by (repeat' (first | (with_reducible assumption) | ((with_reducible refine Blk.new ?_); (first | (with_reducible rfl) | (simp only [World.size_alloc, World.size_setCell, size_drewN]; done))) | (with_reducible refine Blk.alloc ?_ _) | (with_reducible refine Blk.drewN ?_ _) | (with_reducible refine Blk.drew ?_) | (refine Blk.other ?_ (by omega) _) | fail))) G5
      have z5 := G5.size
      try simp only [World.size_alloc, World.size_setCell, size_drewN] at z5
      replace G5 := hide G5
      have t5_0 := B5_0.lt
      have d5_0_0 := B5_0.cell 0 rfl
      have e5_0_0 := B5_0.free 0
      have d5_0_1 := B5_0.cell 1 rfl
      have e5_0_1 := B5_0.free 1
      have d5_0_2 := B5_0.cell 2 rfl
      have e5_0_2 := B5_0.free 2
      have d5_0_3 := B5_0.cell 3 rfl
      have e5_0_3 := B5_0.free 3
      have t5_1 := B5_1.lt
      have d5_1_0 := B5_1.cell 0 rfl
      have e5_1_0 := B5_1.free 0
      have d5_1_1 := B5_1.cell 1 rfl
      have e5_1_1 := B5_1.free 1
      have d5_1_2 := B5_1.cell 2 rfl
      have e5_1_2 := B5_1.free 2
      have d5_1_3 := B5_1.cell 3 rfl
      have e5_1_3 := B5_1.free 3
      have t5_2 := B5_2.lt
      have d5_2_0 := B5_2.cell 0 rfl
      have e5_2_0 := B5_2.free 0
      have d5_2_1 := B5_2.cell 1 rfl
      have e5_2_1 := B5_2.free 1
      have t5_3 := B5_3.lt
      have d5_3_0 := B5_3.cell 0 rfl
      have e5_3_0 := B5_3.free 0
      have d5_3_1 := B5_3.cell 1 rfl
      have e5_3_1 := B5_3.free 1
      have d5_3_2 := B5_3.cell 2 rfl
      have e5_3_2 := B5_3.free 2
      have d5_3_3 := B5_3.cell 3 rfl
      have e5_3_3 := B5_3.free 3
      have t5_4 := B5_4.lt
      have d5_4_0 := B5_4.cell 0 rfl
      have e5_4_0 := B5_4.free 0
      have d5_4_1 := B5_4.cell 1 rfl
      have e5_4_1 := B5_4.free 1
      have d5_4_2 := B5_4.cell 2 rfl
      have e5_4_2 := B5_4.free 2
      have d5_4_3 := B5_4.cell 3 rfl
      have e5_4_3 := B5_4.free 3
      go_wp2_with fail
      refine ((A1 _).out).mono ?_
      rintro e w6 ⟨rfl, G6⟩
      try (with_reducible replace G6 := Grew.undrawn G6)
      have B6_0 : Blk w6 (w.heap.size) 23 [.int .i64 x, .int .i64 y, .int .i64 z, .int .i64 h] := Blk.grew (by (repeat' (first | (with_reducible assumption) | ((with_reducible refine Blk.new ?_); (first | (with_reducible rfl) | (simp only [World.size_alloc, World.size_setCell, size_drewN]; done))) | (with_reducible refine Blk.alloc ?_ _) | (with_reducible refine Blk.drewN ?_ _) | (with_reducible refine Blk.drew ?_) | (refine Blk.other ?_ (by omega) _) | fail))) G6
      have B6_1 : Blk w6 (w.heap.size + 1) 23 [.int .i64 x', .int .i64 y', .int .i64 z', .int .i64 h'] := Blk.grew (by (repeat' (first | (with_reducible assumption) | ((with_reducible refine Blk.new ?_); (first | (with_reducible rfl) | (simp only [World.size_alloc, World.size_setCell, size_drewN]; done))) | (with_reducible refine Blk.alloc ?_ _) | (with_reducible refine Blk.drewN ?_ _) | (with_reducible refine Blk.drew ?_) | (refine Blk.other ?_ (by omega) _) | fail))) G6
      have B6_2 : Blk w6 (w.heap.size + 1 + 1) 25 [.int .i64 px, .int .i64 py] := Blk.grew (by (repeat' (first | (with_reducible assumption) | ((with_reducible refine Blk.new ?_); (first | (with_reducible rfl) | (simp only [World.size_alloc, World.size_setCell, size_drewN]; done))) | (with_reducible refine Blk.alloc ?_ _) | (with_reducible refine Blk.drewN ?_ _) | (with_reducible refine Blk.drew ?_) | (refine Blk.other ?_ (by omega) _) | fail))) G6
      have B6_3 : Blk w6 (b2_0) 23 [.int .i64 p1, .int .i64 p2, .int .i64 p3, .int .i64 p4] := Blk.grew (by (repeat' (first | (with_reducible assumption) | ((with_reducible refine Blk.new ?_); (first | (with_reducible rfl) | (simp only [World.size_alloc, World.size_setCell, size_drewN]; done))) | (with_reducible refine Blk.alloc ?_ _) | (with_reducible refine Blk.drewN ?_ _) | (with_reducible refine Blk.drew ?_) | (refine Blk.other ?_ (by omega) _) | fail))) G6
      have B6_4 : Blk w6 (b2_1) 23 [.int .i64 p5, .int .i64 p6, .int .i64 p7, .int .i64 p8] := Blk.grew (by (repeat' (first | (with_reducible assumption) | ((with_reducible refine Blk.new ?_); (first | (with_reducible rfl) | (simp only [World.size_alloc, World.size_setCell, size_drewN]; done))) | (with_reducible refine Blk.alloc ?_ _) | (with_reducible refine Blk.drewN ?_ _) | (with_reducible refine Blk.drew ?_) | (refine Blk.other ?_ (by omega) _) | fail))) G6
      have z6 := G6.size
      try simp only [World.size_alloc, World.size_setCell, size_drewN] at z6
      replace G6 := hide G6
      have t6_0 := B6_0.lt
      have d6_0_0 := B6_0.cell 0 rfl
      have e6_0_0 := B6_0.free 0
      have d6_0_1 := B6_0.cell 1 rfl
      have e6_0_1 := B6_0.free 1
      have d6_0_2 := B6_0.cell 2 rfl
      have e6_0_2 := B6_0.free 2
      have d6_0_3 := B6_0.cell 3 rfl
      have e6_0_3 := B6_0.free 3
      have t6_1 := B6_1.lt
      have d6_1_0 := B6_1.cell 0 rfl
      have e6_1_0 := B6_1.free 0
      have d6_1_1 := B6_1.cell 1 rfl
      have e6_1_1 := B6_1.free 1
      have d6_1_2 := B6_1.cell 2 rfl
      have e6_1_2 := B6_1.free 2
      have d6_1_3 := B6_1.cell 3 rfl
      have e6_1_3 := B6_1.free 3
      have t6_2 := B6_2.lt
      have d6_2_0 := B6_2.cell 0 rfl
      have e6_2_0 := B6_2.free 0
      have d6_2_1 := B6_2.cell 1 rfl
      have e6_2_1 := B6_2.free 1
      have t6_3 := B6_3.lt
      have d6_3_0 := B6_3.cell 0 rfl
      have e6_3_0 := B6_3.free 0
      have d6_3_1 := B6_3.cell 1 rfl
      have e6_3_1 := B6_3.free 1
      have d6_3_2 := B6_3.cell 2 rfl
      have e6_3_2 := B6_3.free 2
      have d6_3_3 := B6_3.cell 3 rfl
      have e6_3_3 := B6_3.free 3
      have t6_4 := B6_4.lt
      have d6_4_0 := B6_4.cell 0 rfl
      have e6_4_0 := B6_4.free 0
      have d6_4_1 := B6_4.cell 1 rfl
      have e6_4_1 := B6_4.free 1
      have d6_4_2 := B6_4.cell 2 rfl
      have e6_4_2 := B6_4.free 2
      have d6_4_3 := B6_4.cell 3 rfl
      have e6_4_3 := B6_4.free 3
      go_wp2
      go_ret
      refine ⟨rfl, Grew.below ?_⟩
      repeat' (first | (with_reducible exact Grew.refl _) | (with_reducible refine Grew.setCell ?_ ?_ _) | (with_reducible refine Grew.drewN ?_ _) | (with_reducible refine Grew.alloc ?_ _) | (with_reducible refine Grew.trans ?_ G6.out) | (with_reducible refine Grew.trans ?_ G5.out) | (with_reducible refine Grew.trans ?_ G4.out) | (with_reducible refine Grew.trans ?_ G3.out) | (with_reducible refine Grew.trans ?_ G2.out) | (with_reducible refine Grew.trans ?_ G1.out) | (dsimp only; omega))
  · have VV := V1 l1
    clear V1 V2 l1
    subst l2 l3
    go_enter Try.func5, Try.ntmps5
    go_wp2_with fail
    refine name_world fun w1 h1 => ?_
    have G1 : Grew w w1 := by
      rw [h1]
      repeat' (first | (with_reducible exact Grew.refl _) | (with_reducible refine Grew.setCell ?_ ?_ _) | (with_reducible refine Grew.drewN ?_ _) | (with_reducible refine Grew.alloc ?_ _) | (with_reducible refine Grew.trans ?_ G1.out) | (dsimp only; omega))
    have B1_0 : Blk w1 (w.heap.size) 23 [.int .i64 x, .int .i64 y, .int .i64 z, .int .i64 h] := by (rw [h1]; repeat' (first | (with_reducible assumption) | ((with_reducible refine Blk.new ?_); (first | (with_reducible rfl) | (simp only [World.size_alloc, World.size_setCell, size_drewN]; done))) | (with_reducible refine Blk.alloc ?_ _) | (with_reducible refine Blk.drewN ?_ _) | (with_reducible refine Blk.drew ?_) | (refine Blk.other ?_ (by omega) _) | fail))
    have B1_1 : Blk w1 (w.heap.size + 1) 23 [.int .i64 x', .int .i64 y', .int .i64 z', .int .i64 h'] := by (rw [h1]; repeat' (first | (with_reducible assumption) | ((with_reducible refine Blk.new ?_); (first | (with_reducible rfl) | (simp only [World.size_alloc, World.size_setCell, size_drewN]; done))) | (with_reducible refine Blk.alloc ?_ _) | (with_reducible refine Blk.drewN ?_ _) | (with_reducible refine Blk.drew ?_) | (refine Blk.other ?_ (by omega) _) | fail))
    have B1_2 : Blk w1 (w.heap.size + 1 + 1) 25 [.int .i64 px, .int .i64 py] := by (rw [h1]; repeat' (first | (with_reducible assumption) | ((with_reducible refine Blk.new ?_); (first | (with_reducible rfl) | (simp only [World.size_alloc, World.size_setCell, size_drewN]; done))) | (with_reducible refine Blk.alloc ?_ _) | (with_reducible refine Blk.drewN ?_ _) | (with_reducible refine Blk.drew ?_) | (refine Blk.other ?_ (by omega) _) | fail))
    have z1 := G1.size
    replace G1 := hide G1
    clear h1
    have t1_0 := B1_0.lt
    have d1_0_0 := B1_0.cell 0 rfl
    have e1_0_0 := B1_0.free 0
    have d1_0_1 := B1_0.cell 1 rfl
    have e1_0_1 := B1_0.free 1
    have d1_0_2 := B1_0.cell 2 rfl
    have e1_0_2 := B1_0.free 2
    have d1_0_3 := B1_0.cell 3 rfl
    have e1_0_3 := B1_0.free 3
    have t1_1 := B1_1.lt
    have d1_1_0 := B1_1.cell 0 rfl
    have e1_1_0 := B1_1.free 0
    have d1_1_1 := B1_1.cell 1 rfl
    have e1_1_1 := B1_1.free 1
    have d1_1_2 := B1_1.cell 2 rfl
    have e1_1_2 := B1_1.free 2
    have d1_1_3 := B1_1.cell 3 rfl
    have e1_1_3 := B1_1.free 3
    have t1_2 := B1_2.lt
    have d1_2_0 := B1_2.cell 0 rfl
    have e1_2_0 := B1_2.free 0
    have d1_2_1 := B1_2.cell 1 rfl
    have e1_2_1 := B1_2.free 1
    have g1_0_0 := fun m os => (B1_0.grow m os).cell 0 rfl
    have g1_0_1 := fun m os => (B1_0.grow m os).cell 1 rfl
    have g1_0_2 := fun m os => (B1_0.grow m os).cell 2 rfl
    have g1_0_3 := fun m os => (B1_0.grow m os).cell 3 rfl
    have g1_1_0 := fun m os => (B1_1.grow m os).cell 0 rfl
    have g1_1_1 := fun m os => (B1_1.grow m os).cell 1 rfl
    have g1_1_2 := fun m os => (B1_1.grow m os).cell 2 rfl
    have g1_1_3 := fun m os => (B1_1.grow m os).cell 3 rfl
    have g1_2_0 := fun m os => (B1_2.grow m os).cell 0 rfl
    have g1_2_1 := fun m os => (B1_2.grow m os).cell 1 rfl
    refine wp_region_made [⟨6, 8, 7, 23, [.int .i64 0, .int .i64 0, .int .i64 0, .int .i64 0], [.int .i64 p1, .int .i64 p2, .int .i64 p3, .int .i64 p4]⟩, ⟨7, 9, 8, 23, [.int .i64 0, .int .i64 0, .int .i64 0, .int .i64 0], [.int .i64 p5, .int .i64 p6, .int .i64 p7, .int .i64 p8]⟩] (by kernel_rfl) (by kernel_rfl) (by simp [madeSlots]) ?_
    repeat (first | (refine lex_skip rfl (by rfl) ?_) | (refine lex_calm rfl (by rfl) (fun K hK => ?_); go_simp; first | (refine hK _ ?_; clear hK K) | (apply Exists.intro; refine ⟨fun _ _ => ?_, hK _ ?_⟩; (first | (with_reducible exact (K1 _).out) | (with_reducible exact (K2 _).out)); clear hK K)))
    refine lex_alloc (m := ⟨6, 8, 7, 23, [.int .i64 0, .int .i64 0, .int .i64 0, .int .i64 0], [.int .i64 p1, .int .i64 p2, .int .i64 p3, .int .i64 p4]⟩) (by kernel_rfl) (by simp) (by rfl) rfl ?_ ?_
    · intro ev w
      go_simp
    repeat (first | (refine lex_skip rfl (by rfl) ?_) | (refine lex_calm rfl (by rfl) (fun K hK => ?_); go_simp; first | (refine hK _ ?_; clear hK K) | (apply Exists.intro; refine ⟨fun _ _ => ?_, hK _ ?_⟩; (first | (with_reducible exact (K1 _).out) | (with_reducible exact (K2 _).out)); clear hK K)))
    refine lex_alloc (m := ⟨7, 9, 8, 23, [.int .i64 0, .int .i64 0, .int .i64 0, .int .i64 0], [.int .i64 p5, .int .i64 p6, .int .i64 p7, .int .i64 p8]⟩) (by kernel_rfl) (by simp) (by rfl) rfl ?_ ?_
    · intro ev w
      go_simp
    repeat (first | (refine lex_skip rfl (by rfl) ?_) | (refine lex_calm rfl (by rfl) (fun K hK => ?_); go_simp; first | (refine hK _ ?_; clear hK K) | (apply Exists.intro; refine ⟨fun _ _ => ?_, hK _ ?_⟩; (first | (with_reducible exact (K1 _).out) | (with_reducible exact (K2 _).out)); clear hK K)))
    refine lex_store (m := ⟨6, 8, 7, 23, [.int .i64 0, .int .i64 0, .int .i64 0, .int .i64 0], [.int .i64 p1, .int .i64 p2, .int .i64 p3, .int .i64 p4]⟩) (by kernel_rfl) (by simp) (by rfl) rfl ?_ ?_
    · intro vs w b hv hB
      have d0 := hB.cell 0 rfl
      have e0 := hB.free 0
      have d1 := hB.cell 1 rfl
      have e1 := hB.free 1
      have d2 := hB.cell 2 rfl
      have e2 := hB.free 2
      have d3 := hB.cell 3 rfl
      have e3 := hB.free 3
      simp only [] at hv
      simp [go_sem, evS, madeSlots, List.lookup, setAll, *]
    repeat (first | (refine lex_skip rfl (by rfl) ?_) | (refine lex_calm rfl (by rfl) (fun K hK => ?_); go_simp; first | (refine hK _ ?_; clear hK K) | (apply Exists.intro; refine ⟨fun _ _ => ?_, hK _ ?_⟩; (first | (with_reducible exact (K1 _).out) | (with_reducible exact (K2 _).out)); clear hK K)))
    refine lex_store (m := ⟨7, 9, 8, 23, [.int .i64 0, .int .i64 0, .int .i64 0, .int .i64 0], [.int .i64 p5, .int .i64 p6, .int .i64 p7, .int .i64 p8]⟩) (by kernel_rfl) (by simp) (by rfl) rfl ?_ ?_
    · intro vs w b hv hB
      have d0 := hB.cell 0 rfl
      have e0 := hB.free 0
      have d1 := hB.cell 1 rfl
      have e1 := hB.free 1
      have d2 := hB.cell 2 rfl
      have e2 := hB.free 2
      have d3 := hB.cell 3 rfl
      have e3 := hB.free 3
      simp only [] at hv
      simp [go_sem, evS, madeSlots, List.lookup, setAll, *]
    repeat (first | (refine lex_skip rfl (by rfl) ?_) | (refine lex_calm rfl (by rfl) (fun K hK => ?_); go_simp; first | (refine hK _ ?_; clear hK K) | (apply Exists.intro; refine ⟨fun _ _ => ?_, hK _ ?_⟩; (first | (with_reducible exact (K1 _).out) | (with_reducible exact (K2 _).out)); clear hK K)))
    refine lex_nil ?_
    rintro vs w2 ⟨G2, hb, hne⟩
    obtain ⟨b2_0, hv0, s2_0, K2_0⟩ := hb ⟨6, 8, 7, 23, [.int .i64 0, .int .i64 0, .int .i64 0, .int .i64 0], [.int .i64 p1, .int .i64 p2, .int .i64 p3, .int .i64 p4]⟩ (by simp) rfl
    obtain ⟨b2_1, hv1, s2_1, K2_1⟩ := hb ⟨7, 9, 8, 23, [.int .i64 0, .int .i64 0, .int .i64 0, .int .i64 0], [.int .i64 p5, .int .i64 p6, .int .i64 p7, .int .i64 p8]⟩ (by simp) rfl
    have hn2_0_1 : b2_0 ≠ b2_1 := fun e => hne ⟨6, 8, 7, 23, [.int .i64 0, .int .i64 0, .int .i64 0, .int .i64 0], [.int .i64 p1, .int .i64 p2, .int .i64 p3, .int .i64 p4]⟩ (by simp) ⟨7, 9, 8, 23, [.int .i64 0, .int .i64 0, .int .i64 0, .int .i64 0], [.int .i64 p5, .int .i64 p6, .int .i64 p7, .int .i64 p8]⟩ (by simp) (by show (6 : Nat) ≠ 7; decide) rfl rfl (hv0.trans (e ▸ hv1.symm))
    simp only [fillS, madeSlots, List.map_cons, List.map_nil, List.foldl_cons, List.foldl_nil, hv0, hv1]
    clear hb hne hv0 hv1 vs
    have B2_0 : Blk w2 (w.heap.size) 23 [.int .i64 x, .int .i64 y, .int .i64 z, .int .i64 h] := B1_0.grew G2
    have B2_1 : Blk w2 (w.heap.size + 1) 23 [.int .i64 x', .int .i64 y', .int .i64 z', .int .i64 h'] := B1_1.grew G2
    have B2_2 : Blk w2 (w.heap.size + 1 + 1) 25 [.int .i64 px, .int .i64 py] := B1_2.grew G2
    have B2_3 : Blk w2 b2_0 23 [.int .i64 p1, .int .i64 p2, .int .i64 p3, .int .i64 p4] := K2_0
    have B2_4 : Blk w2 b2_1 23 [.int .i64 p5, .int .i64 p6, .int .i64 p7, .int .i64 p8] := K2_1
    clear K2_0 K2_1
    have z2 := G2.size
    replace G2 := hide G2
    have t2_0 := B2_0.lt
    have d2_0_0 := B2_0.cell 0 rfl
    have e2_0_0 := B2_0.free 0
    have d2_0_1 := B2_0.cell 1 rfl
    have e2_0_1 := B2_0.free 1
    have d2_0_2 := B2_0.cell 2 rfl
    have e2_0_2 := B2_0.free 2
    have d2_0_3 := B2_0.cell 3 rfl
    have e2_0_3 := B2_0.free 3
    have t2_1 := B2_1.lt
    have d2_1_0 := B2_1.cell 0 rfl
    have e2_1_0 := B2_1.free 0
    have d2_1_1 := B2_1.cell 1 rfl
    have e2_1_1 := B2_1.free 1
    have d2_1_2 := B2_1.cell 2 rfl
    have e2_1_2 := B2_1.free 2
    have d2_1_3 := B2_1.cell 3 rfl
    have e2_1_3 := B2_1.free 3
    have t2_2 := B2_2.lt
    have d2_2_0 := B2_2.cell 0 rfl
    have e2_2_0 := B2_2.free 0
    have d2_2_1 := B2_2.cell 1 rfl
    have e2_2_1 := B2_2.free 1
    have t2_3 := B2_3.lt
    have d2_3_0 := B2_3.cell 0 rfl
    have e2_3_0 := B2_3.free 0
    have d2_3_1 := B2_3.cell 1 rfl
    have e2_3_1 := B2_3.free 1
    have d2_3_2 := B2_3.cell 2 rfl
    have e2_3_2 := B2_3.free 2
    have d2_3_3 := B2_3.cell 3 rfl
    have e2_3_3 := B2_3.free 3
    have t2_4 := B2_4.lt
    have d2_4_0 := B2_4.cell 0 rfl
    have e2_4_0 := B2_4.free 0
    have d2_4_1 := B2_4.cell 1 rfl
    have e2_4_1 := B2_4.free 1
    have d2_4_2 := B2_4.cell 2 rfl
    have e2_4_2 := B2_4.free 2
    have d2_4_3 := B2_4.cell 3 rfl
    have e2_4_3 := B2_4.free 3
    go_simp
    go_wp2_with fail
    have g2_0_0 := fun m os => (B2_0.grow m os).cell 0 rfl
    have g2_0_1 := fun m os => (B2_0.grow m os).cell 1 rfl
    have g2_0_2 := fun m os => (B2_0.grow m os).cell 2 rfl
    have g2_0_3 := fun m os => (B2_0.grow m os).cell 3 rfl
    have g2_1_0 := fun m os => (B2_1.grow m os).cell 0 rfl
    have g2_1_1 := fun m os => (B2_1.grow m os).cell 1 rfl
    have g2_1_2 := fun m os => (B2_1.grow m os).cell 2 rfl
    have g2_1_3 := fun m os => (B2_1.grow m os).cell 3 rfl
    have g2_2_0 := fun m os => (B2_2.grow m os).cell 0 rfl
    have g2_2_1 := fun m os => (B2_2.grow m os).cell 1 rfl
    have g2_3_0 := fun m os => (B2_3.grow m os).cell 0 rfl
    have g2_3_1 := fun m os => (B2_3.grow m os).cell 1 rfl
    have g2_3_2 := fun m os => (B2_3.grow m os).cell 2 rfl
    have g2_3_3 := fun m os => (B2_3.grow m os).cell 3 rfl
    have g2_4_0 := fun m os => (B2_4.grow m os).cell 0 rfl
    have g2_4_1 := fun m os => (B2_4.grow m os).cell 1 rfl
    have g2_4_2 := fun m os => (B2_4.grow m os).cell 2 rfl
    have g2_4_3 := fun m os => (B2_4.grow m os).cell 3 rfl
    refine wp_region_calm (by kernel_rfl) (by kernel_rfl) ?_
    repeat (first | (refine lex_skip rfl (by rfl) ?_) | (refine lex_calm rfl (by rfl) (fun K hK => ?_); go_simp; first | (refine hK _ ?_; clear hK K) | (apply Exists.intro; refine ⟨fun _ _ => ?_, hK _ ?_⟩; (first | (with_reducible exact (K3 _).out) | (with_reducible exact (K4 _).out)); clear hK K)))
    refine lex_nil ?_
    intro w3 G3
    have B3_0 : Blk w3 (w.heap.size) 23 [.int .i64 x, .int .i64 y, .int .i64 z, .int .i64 h] := B2_0.grew G3
    have B3_1 : Blk w3 (w.heap.size + 1) 23 [.int .i64 x', .int .i64 y', .int .i64 z', .int .i64 h'] := B2_1.grew G3
    have B3_2 : Blk w3 (w.heap.size + 1 + 1) 25 [.int .i64 px, .int .i64 py] := B2_2.grew G3
    have B3_3 : Blk w3 (b2_0) 23 [.int .i64 p1, .int .i64 p2, .int .i64 p3, .int .i64 p4] := B2_3.grew G3
    have B3_4 : Blk w3 (b2_1) 23 [.int .i64 p5, .int .i64 p6, .int .i64 p7, .int .i64 p8] := B2_4.grew G3
    have z3 := G3.size
    replace G3 := hide G3
    have t3_0 := B3_0.lt
    have d3_0_0 := B3_0.cell 0 rfl
    have e3_0_0 := B3_0.free 0
    have d3_0_1 := B3_0.cell 1 rfl
    have e3_0_1 := B3_0.free 1
    have d3_0_2 := B3_0.cell 2 rfl
    have e3_0_2 := B3_0.free 2
    have d3_0_3 := B3_0.cell 3 rfl
    have e3_0_3 := B3_0.free 3
    have t3_1 := B3_1.lt
    have d3_1_0 := B3_1.cell 0 rfl
    have e3_1_0 := B3_1.free 0
    have d3_1_1 := B3_1.cell 1 rfl
    have e3_1_1 := B3_1.free 1
    have d3_1_2 := B3_1.cell 2 rfl
    have e3_1_2 := B3_1.free 2
    have d3_1_3 := B3_1.cell 3 rfl
    have e3_1_3 := B3_1.free 3
    have t3_2 := B3_2.lt
    have d3_2_0 := B3_2.cell 0 rfl
    have e3_2_0 := B3_2.free 0
    have d3_2_1 := B3_2.cell 1 rfl
    have e3_2_1 := B3_2.free 1
    have t3_3 := B3_3.lt
    have d3_3_0 := B3_3.cell 0 rfl
    have e3_3_0 := B3_3.free 0
    have d3_3_1 := B3_3.cell 1 rfl
    have e3_3_1 := B3_3.free 1
    have d3_3_2 := B3_3.cell 2 rfl
    have e3_3_2 := B3_3.free 2
    have d3_3_3 := B3_3.cell 3 rfl
    have e3_3_3 := B3_3.free 3
    have t3_4 := B3_4.lt
    have d3_4_0 := B3_4.cell 0 rfl
    have e3_4_0 := B3_4.free 0
    have d3_4_1 := B3_4.cell 1 rfl
    have e3_4_1 := B3_4.free 1
    have d3_4_2 := B3_4.cell 2 rfl
    have e3_4_2 := B3_4.free 2
    have d3_4_3 := B3_4.cell 3 rfl
    have e3_4_3 := B3_4.free 3
    go_wp2_with fail
    refine ((K5 _).out).mono ?_
    rintro e w4 ⟨rfl, G4⟩
    try (with_reducible replace G4 := Grew.undrawn G4)
    have B4_0 : Blk w4 (w.heap.size) 23 [.int .i64 x, .int .i64 y, .int .i64 z, .int .i64 h] := Blk.grew (by (repeat' (first | (with_reducible assumption) | ((with_reducible refine Blk.new ?_); (first | (with_reducible rfl) | (simp only [World.size_alloc, World.size_setCell, size_drewN]; done))) | (with_reducible refine Blk.alloc ?_ _) | (with_reducible refine Blk.drewN ?_ _) | (with_reducible refine Blk.drew ?_) | (refine Blk.other ?_ (by omega) _) | fail))) G4
    have B4_1 : Blk w4 (w.heap.size + 1) 23 [.int .i64 x', .int .i64 y', .int .i64 z', .int .i64 h'] := Blk.grew (by (repeat' (first | (with_reducible assumption) | ((with_reducible refine Blk.new ?_); (first | (with_reducible rfl) | (simp only [World.size_alloc, World.size_setCell, size_drewN]; done))) | (with_reducible refine Blk.alloc ?_ _) | (with_reducible refine Blk.drewN ?_ _) | (with_reducible refine Blk.drew ?_) | (refine Blk.other ?_ (by omega) _) | fail))) G4
    have B4_2 : Blk w4 (w.heap.size + 1 + 1) 25 [.int .i64 px, .int .i64 py] := Blk.grew (by (repeat' (first | (with_reducible assumption) | ((with_reducible refine Blk.new ?_); (first | (with_reducible rfl) | (simp only [World.size_alloc, World.size_setCell, size_drewN]; done))) | (with_reducible refine Blk.alloc ?_ _) | (with_reducible refine Blk.drewN ?_ _) | (with_reducible refine Blk.drew ?_) | (refine Blk.other ?_ (by omega) _) | fail))) G4
    have B4_3 : Blk w4 (b2_0) 23 [.int .i64 p1, .int .i64 p2, .int .i64 p3, .int .i64 p4] := Blk.grew (by (repeat' (first | (with_reducible assumption) | ((with_reducible refine Blk.new ?_); (first | (with_reducible rfl) | (simp only [World.size_alloc, World.size_setCell, size_drewN]; done))) | (with_reducible refine Blk.alloc ?_ _) | (with_reducible refine Blk.drewN ?_ _) | (with_reducible refine Blk.drew ?_) | (refine Blk.other ?_ (by omega) _) | fail))) G4
    have B4_4 : Blk w4 (b2_1) 23 [.int .i64 p5, .int .i64 p6, .int .i64 p7, .int .i64 p8] := Blk.grew (by (repeat' (first | (with_reducible assumption) | ((with_reducible refine Blk.new ?_); (first | (with_reducible rfl) | (simp only [World.size_alloc, World.size_setCell, size_drewN]; done))) | (with_reducible refine Blk.alloc ?_ _) | (with_reducible refine Blk.drewN ?_ _) | (with_reducible refine Blk.drew ?_) | (refine Blk.other ?_ (by omega) _) | fail))) G4
    have z4 := G4.size
    try simp only [World.size_alloc, World.size_setCell, size_drewN] at z4
    replace G4 := hide G4
    have t4_0 := B4_0.lt
    have d4_0_0 := B4_0.cell 0 rfl
    have e4_0_0 := B4_0.free 0
    have d4_0_1 := B4_0.cell 1 rfl
    have e4_0_1 := B4_0.free 1
    have d4_0_2 := B4_0.cell 2 rfl
    have e4_0_2 := B4_0.free 2
    have d4_0_3 := B4_0.cell 3 rfl
    have e4_0_3 := B4_0.free 3
    have t4_1 := B4_1.lt
    have d4_1_0 := B4_1.cell 0 rfl
    have e4_1_0 := B4_1.free 0
    have d4_1_1 := B4_1.cell 1 rfl
    have e4_1_1 := B4_1.free 1
    have d4_1_2 := B4_1.cell 2 rfl
    have e4_1_2 := B4_1.free 2
    have d4_1_3 := B4_1.cell 3 rfl
    have e4_1_3 := B4_1.free 3
    have t4_2 := B4_2.lt
    have d4_2_0 := B4_2.cell 0 rfl
    have e4_2_0 := B4_2.free 0
    have d4_2_1 := B4_2.cell 1 rfl
    have e4_2_1 := B4_2.free 1
    have t4_3 := B4_3.lt
    have d4_3_0 := B4_3.cell 0 rfl
    have e4_3_0 := B4_3.free 0
    have d4_3_1 := B4_3.cell 1 rfl
    have e4_3_1 := B4_3.free 1
    have d4_3_2 := B4_3.cell 2 rfl
    have e4_3_2 := B4_3.free 2
    have d4_3_3 := B4_3.cell 3 rfl
    have e4_3_3 := B4_3.free 3
    have t4_4 := B4_4.lt
    have d4_4_0 := B4_4.cell 0 rfl
    have e4_4_0 := B4_4.free 0
    have d4_4_1 := B4_4.cell 1 rfl
    have e4_4_1 := B4_4.free 1
    have d4_4_2 := B4_4.cell 2 rfl
    have e4_4_2 := B4_4.free 2
    have d4_4_3 := B4_4.cell 3 rfl
    have e4_4_3 := B4_4.free 3
    go_wp2_with fail
    refine ((VV _).out).mono ?_
    rintro e w5 ⟨rfl, G5⟩
    try (with_reducible replace G5 := Grew.undrawn G5)
    have B5_0 : Blk w5 (w.heap.size) 23 [.int .i64 x, .int .i64 y, .int .i64 z, .int .i64 h] := Blk.grew (by (repeat' (first | (with_reducible assumption) | ((with_reducible refine Blk.new ?_); (first | (with_reducible rfl) | (simp only [World.size_alloc, World.size_setCell, size_drewN]; done))) | (with_reducible refine Blk.alloc ?_ _) | (with_reducible refine Blk.drewN ?_ _) | (with_reducible refine Blk.drew ?_) | (refine Blk.other ?_ (by omega) _) | fail))) G5
    have B5_1 : Blk w5 (w.heap.size + 1) 23 [.int .i64 x', .int .i64 y', .int .i64 z', .int .i64 h'] := Blk.grew (by (repeat' (first | (with_reducible assumption) | ((with_reducible refine Blk.new ?_); (first | (with_reducible rfl) | (simp only [World.size_alloc, World.size_setCell, size_drewN]; done))) | (with_reducible refine Blk.alloc ?_ _) | (with_reducible refine Blk.drewN ?_ _) | (with_reducible refine Blk.drew ?_) | (refine Blk.other ?_ (by omega) _) | fail))) G5
    have B5_2 : Blk w5 (w.heap.size + 1 + 1) 25 [.int .i64 px, .int .i64 py] := Blk.grew (by (repeat' (first | (with_reducible assumption) | ((with_reducible refine Blk.new ?_); (first | (with_reducible rfl) | (simp only [World.size_alloc, World.size_setCell, size_drewN]; done))) | (with_reducible refine Blk.alloc ?_ _) | (with_reducible refine Blk.drewN ?_ _) | (with_reducible refine Blk.drew ?_) | (refine Blk.other ?_ (by omega) _) | fail))) G5
    have B5_3 : Blk w5 (b2_0) 23 [.int .i64 p1, .int .i64 p2, .int .i64 p3, .int .i64 p4] := Blk.grew (by (repeat' (first | (with_reducible assumption) | ((with_reducible refine Blk.new ?_); (first | (with_reducible rfl) | (simp only [World.size_alloc, World.size_setCell, size_drewN]; done))) | (with_reducible refine Blk.alloc ?_ _) | (with_reducible refine Blk.drewN ?_ _) | (with_reducible refine Blk.drew ?_) | (refine Blk.other ?_ (by omega) _) | fail))) G5
    have B5_4 : Blk w5 (b2_1) 23 [.int .i64 p5, .int .i64 p6, .int .i64 p7, .int .i64 p8] := Blk.grew (by (repeat' (first | (with_reducible assumption) | ((with_reducible refine Blk.new ?_); (first | (with_reducible rfl) | (simp only [World.size_alloc, World.size_setCell, size_drewN]; done))) | (with_reducible refine Blk.alloc ?_ _) | (with_reducible refine Blk.drewN ?_ _) | (with_reducible refine Blk.drew ?_) | (refine Blk.other ?_ (by omega) _) | fail))) G5
    have z5 := G5.size
    try simp only [World.size_alloc, World.size_setCell, size_drewN] at z5
    replace G5 := hide G5
    have t5_0 := B5_0.lt
    have d5_0_0 := B5_0.cell 0 rfl
    have e5_0_0 := B5_0.free 0
    have d5_0_1 := B5_0.cell 1 rfl
    have e5_0_1 := B5_0.free 1
    have d5_0_2 := B5_0.cell 2 rfl
    have e5_0_2 := B5_0.free 2
    have d5_0_3 := B5_0.cell 3 rfl
    have e5_0_3 := B5_0.free 3
    have t5_1 := B5_1.lt
    have d5_1_0 := B5_1.cell 0 rfl
    have e5_1_0 := B5_1.free 0
    have d5_1_1 := B5_1.cell 1 rfl
    have e5_1_1 := B5_1.free 1
    have d5_1_2 := B5_1.cell 2 rfl
    have e5_1_2 := B5_1.free 2
    have d5_1_3 := B5_1.cell 3 rfl
    have e5_1_3 := B5_1.free 3
    have t5_2 := B5_2.lt
    have d5_2_0 := B5_2.cell 0 rfl
    have e5_2_0 := B5_2.free 0
    have d5_2_1 := B5_2.cell 1 rfl
    have e5_2_1 := B5_2.free 1
    have t5_3 := B5_3.lt
    have d5_3_0 := B5_3.cell 0 rfl
    have e5_3_0 := B5_3.free 0
    have d5_3_1 := B5_3.cell 1 rfl
    have e5_3_1 := B5_3.free 1
    have d5_3_2 := B5_3.cell 2 rfl
    have e5_3_2 := B5_3.free 2
    have d5_3_3 := B5_3.cell 3 rfl
    have e5_3_3 := B5_3.free 3
    have t5_4 := B5_4.lt
    have d5_4_0 := B5_4.cell 0 rfl
    have e5_4_0 := B5_4.free 0
    have d5_4_1 := B5_4.cell 1 rfl
    have e5_4_1 := B5_4.free 1
    have d5_4_2 := B5_4.cell 2 rfl
    have e5_4_2 := B5_4.free 2
    have d5_4_3 := B5_4.cell 3 rfl
    have e5_4_3 := B5_4.free 3
    go_wp2_with fail
    refine ((A1 _).out).mono ?_
    rintro e w6 ⟨rfl, G6⟩
    try (with_reducible replace G6 := Grew.undrawn G6)
    have B6_0 : Blk w6 (w.heap.size) 23 [.int .i64 x, .int .i64 y, .int .i64 z, .int .i64 h] := Blk.grew (by (repeat' (first | (with_reducible assumption) | ((with_reducible refine Blk.new ?_); (first | (with_reducible rfl) | (simp only [World.size_alloc, World.size_setCell, size_drewN]; done))) | (with_reducible refine Blk.alloc ?_ _) | (with_reducible refine Blk.drewN ?_ _) | (with_reducible refine Blk.drew ?_) | (refine Blk.other ?_ (by omega) _) | fail))) G6
    have B6_1 : Blk w6 (w.heap.size + 1) 23 [.int .i64 x', .int .i64 y', .int .i64 z', .int .i64 h'] := Blk.grew (by (repeat' (first | (with_reducible assumption) | ((with_reducible refine Blk.new ?_); (first | (with_reducible rfl) | (simp only [World.size_alloc, World.size_setCell, size_drewN]; done))) | (with_reducible refine Blk.alloc ?_ _) | (with_reducible refine Blk.drewN ?_ _) | (with_reducible refine Blk.drew ?_) | (refine Blk.other ?_ (by omega) _) | fail))) G6
    have B6_2 : Blk w6 (w.heap.size + 1 + 1) 25 [.int .i64 px, .int .i64 py] := Blk.grew (by (repeat' (first | (with_reducible assumption) | ((with_reducible refine Blk.new ?_); (first | (with_reducible rfl) | (simp only [World.size_alloc, World.size_setCell, size_drewN]; done))) | (with_reducible refine Blk.alloc ?_ _) | (with_reducible refine Blk.drewN ?_ _) | (with_reducible refine Blk.drew ?_) | (refine Blk.other ?_ (by omega) _) | fail))) G6
    have B6_3 : Blk w6 (b2_0) 23 [.int .i64 p1, .int .i64 p2, .int .i64 p3, .int .i64 p4] := Blk.grew (by (repeat' (first | (with_reducible assumption) | ((with_reducible refine Blk.new ?_); (first | (with_reducible rfl) | (simp only [World.size_alloc, World.size_setCell, size_drewN]; done))) | (with_reducible refine Blk.alloc ?_ _) | (with_reducible refine Blk.drewN ?_ _) | (with_reducible refine Blk.drew ?_) | (refine Blk.other ?_ (by omega) _) | fail))) G6
    have B6_4 : Blk w6 (b2_1) 23 [.int .i64 p5, .int .i64 p6, .int .i64 p7, .int .i64 p8] := Blk.grew (by (repeat' (first | (with_reducible assumption) | ((with_reducible refine Blk.new ?_); (first | (with_reducible rfl) | (simp only [World.size_alloc, World.size_setCell, size_drewN]; done))) | (with_reducible refine Blk.alloc ?_ _) | (with_reducible refine Blk.drewN ?_ _) | (with_reducible refine Blk.drew ?_) | (refine Blk.other ?_ (by omega) _) | fail))) G6
    have z6 := G6.size
    try simp only [World.size_alloc, World.size_setCell, size_drewN] at z6
    replace G6 := hide G6
    have t6_0 := B6_0.lt
    have d6_0_0 := B6_0.cell 0 rfl
    have e6_0_0 := B6_0.free 0
    have d6_0_1 := B6_0.cell 1 rfl
    have e6_0_1 := B6_0.free 1
    have d6_0_2 := B6_0.cell 2 rfl
    have e6_0_2 := B6_0.free 2
    have d6_0_3 := B6_0.cell 3 rfl
    have e6_0_3 := B6_0.free 3
    have t6_1 := B6_1.lt
    have d6_1_0 := B6_1.cell 0 rfl
    have e6_1_0 := B6_1.free 0
    have d6_1_1 := B6_1.cell 1 rfl
    have e6_1_1 := B6_1.free 1
    have d6_1_2 := B6_1.cell 2 rfl
    have e6_1_2 := B6_1.free 2
    have d6_1_3 := B6_1.cell 3 rfl
    have e6_1_3 := B6_1.free 3
    have t6_2 := B6_2.lt
    have d6_2_0 := B6_2.cell 0 rfl
    have e6_2_0 := B6_2.free 0
    have d6_2_1 := B6_2.cell 1 rfl
    have e6_2_1 := B6_2.free 1
    have t6_3 := B6_3.lt
    have d6_3_0 := B6_3.cell 0 rfl
    have e6_3_0 := B6_3.free 0
    have d6_3_1 := B6_3.cell 1 rfl
    have e6_3_1 := B6_3.free 1
    have d6_3_2 := B6_3.cell 2 rfl
    have e6_3_2 := B6_3.free 2
    have d6_3_3 := B6_3.cell 3 rfl
    have e6_3_3 := B6_3.free 3
    have t6_4 := B6_4.lt
    have d6_4_0 := B6_4.cell 0 rfl
    have e6_4_0 := B6_4.free 0
    have d6_4_1 := B6_4.cell 1 rfl
    have e6_4_1 := B6_4.free 1
    have d6_4_2 := B6_4.cell 2 rfl
    have e6_4_2 := B6_4.free 2
    have d6_4_3 := B6_4.cell 3 rfl
    have e6_4_3 := B6_4.free 3
    go_wp2
    go_ret
    refine ⟨rfl, Grew.below ?_⟩
    repeat' (first | (with_reducible exact Grew.refl _) | (with_reducible refine Grew.setCell ?_ ?_ _) | (with_reducible refine Grew.drewN ?_ _) | (with_reducible refine Grew.alloc ?_ _) | (with_reducible refine Grew.trans ?_ G6.out) | (with_reducible refine Grew.trans ?_ G5.out) | (with_reducible refine Grew.trans ?_ G4.out) | (with_reducible refine Grew.trans ?_ G3.out) | (with_reducible refine Grew.trans ?_ G2.out) | (with_reducible refine Grew.trans ?_ G1.out) | (dsimp only; omega))
  · have VV := V1 l1
    clear V1 V2 l1
    subst l2 l3
    cases n
    · go_enter Try.func5, Try.ntmps5
      go_wp2_with fail
      refine name_world fun w1 h1 => ?_
      have G1 : Grew w w1 := by
        rw [h1]
        repeat' (first | (with_reducible exact Grew.refl _) | (with_reducible refine Grew.setCell ?_ ?_ _) | (with_reducible refine Grew.drewN ?_ _) | (with_reducible refine Grew.alloc ?_ _) | (with_reducible refine Grew.trans ?_ G1.out) | (dsimp only; omega))
      have B1_0 : Blk w1 (w.heap.size) 23 [.int .i64 x, .int .i64 y, .int .i64 z, .int .i64 h] := by (rw [h1]; repeat' (first | (with_reducible assumption) | ((with_reducible refine Blk.new ?_); (first | (with_reducible rfl) | (simp only [World.size_alloc, World.size_setCell, size_drewN]; done))) | (with_reducible refine Blk.alloc ?_ _) | (with_reducible refine Blk.drewN ?_ _) | (with_reducible refine Blk.drew ?_) | (refine Blk.other ?_ (by omega) _) | fail))
      have B1_1 : Blk w1 (w.heap.size + 1) 23 [.int .i64 x', .int .i64 y', .int .i64 z', .int .i64 h'] := by (rw [h1]; repeat' (first | (with_reducible assumption) | ((with_reducible refine Blk.new ?_); (first | (with_reducible rfl) | (simp only [World.size_alloc, World.size_setCell, size_drewN]; done))) | (with_reducible refine Blk.alloc ?_ _) | (with_reducible refine Blk.drewN ?_ _) | (with_reducible refine Blk.drew ?_) | (refine Blk.other ?_ (by omega) _) | fail))
      have B1_2 : Blk w1 (w.heap.size + 1 + 1) 25 [.int .i64 px, .int .i64 py] := by (rw [h1]; repeat' (first | (with_reducible assumption) | ((with_reducible refine Blk.new ?_); (first | (with_reducible rfl) | (simp only [World.size_alloc, World.size_setCell, size_drewN]; done))) | (with_reducible refine Blk.alloc ?_ _) | (with_reducible refine Blk.drewN ?_ _) | (with_reducible refine Blk.drew ?_) | (refine Blk.other ?_ (by omega) _) | fail))
      have z1 := G1.size
      replace G1 := hide G1
      clear h1
      have t1_0 := B1_0.lt
      have d1_0_0 := B1_0.cell 0 rfl
      have e1_0_0 := B1_0.free 0
      have d1_0_1 := B1_0.cell 1 rfl
      have e1_0_1 := B1_0.free 1
      have d1_0_2 := B1_0.cell 2 rfl
      have e1_0_2 := B1_0.free 2
      have d1_0_3 := B1_0.cell 3 rfl
      have e1_0_3 := B1_0.free 3
      have t1_1 := B1_1.lt
      have d1_1_0 := B1_1.cell 0 rfl
      have e1_1_0 := B1_1.free 0
      have d1_1_1 := B1_1.cell 1 rfl
      have e1_1_1 := B1_1.free 1
      have d1_1_2 := B1_1.cell 2 rfl
      have e1_1_2 := B1_1.free 2
      have d1_1_3 := B1_1.cell 3 rfl
      have e1_1_3 := B1_1.free 3
      have t1_2 := B1_2.lt
      have d1_2_0 := B1_2.cell 0 rfl
      have e1_2_0 := B1_2.free 0
      have d1_2_1 := B1_2.cell 1 rfl
      have e1_2_1 := B1_2.free 1
      have g1_0_0 := fun m os => (B1_0.grow m os).cell 0 rfl
      have g1_0_1 := fun m os => (B1_0.grow m os).cell 1 rfl
      have g1_0_2 := fun m os => (B1_0.grow m os).cell 2 rfl
      have g1_0_3 := fun m os => (B1_0.grow m os).cell 3 rfl
      have g1_1_0 := fun m os => (B1_1.grow m os).cell 0 rfl
      have g1_1_1 := fun m os => (B1_1.grow m os).cell 1 rfl
      have g1_1_2 := fun m os => (B1_1.grow m os).cell 2 rfl
      have g1_1_3 := fun m os => (B1_1.grow m os).cell 3 rfl
      have g1_2_0 := fun m os => (B1_2.grow m os).cell 0 rfl
      have g1_2_1 := fun m os => (B1_2.grow m os).cell 1 rfl
      refine wp_region_made [⟨6, 8, 7, 23, [.int .i64 0, .int .i64 0, .int .i64 0, .int .i64 0], [.int .i64 p1, .int .i64 p2, .int .i64 p3, .int .i64 p4]⟩, ⟨7, 9, 8, 23, [.int .i64 0, .int .i64 0, .int .i64 0, .int .i64 0], [.int .i64 p5, .int .i64 p6, .int .i64 p7, .int .i64 p8]⟩] (by kernel_rfl) (by kernel_rfl) (by simp [madeSlots]) ?_
      repeat (first | (refine lex_skip rfl (by rfl) ?_) | (refine lex_calm rfl (by rfl) (fun K hK => ?_); go_simp; first | (refine hK _ ?_; clear hK K) | (apply Exists.intro; refine ⟨fun _ _ => ?_, hK _ ?_⟩; (first | (with_reducible exact (K1 _).out) | (with_reducible exact (K2 _).out)); clear hK K)))
      refine lex_alloc (m := ⟨6, 8, 7, 23, [.int .i64 0, .int .i64 0, .int .i64 0, .int .i64 0], [.int .i64 p1, .int .i64 p2, .int .i64 p3, .int .i64 p4]⟩) (by kernel_rfl) (by simp) (by rfl) rfl ?_ ?_
      · intro ev w
        go_simp
      repeat (first | (refine lex_skip rfl (by rfl) ?_) | (refine lex_calm rfl (by rfl) (fun K hK => ?_); go_simp; first | (refine hK _ ?_; clear hK K) | (apply Exists.intro; refine ⟨fun _ _ => ?_, hK _ ?_⟩; (first | (with_reducible exact (K1 _).out) | (with_reducible exact (K2 _).out)); clear hK K)))
      refine lex_alloc (m := ⟨7, 9, 8, 23, [.int .i64 0, .int .i64 0, .int .i64 0, .int .i64 0], [.int .i64 p5, .int .i64 p6, .int .i64 p7, .int .i64 p8]⟩) (by kernel_rfl) (by simp) (by rfl) rfl ?_ ?_
      · intro ev w
        go_simp
      repeat (first | (refine lex_skip rfl (by rfl) ?_) | (refine lex_calm rfl (by rfl) (fun K hK => ?_); go_simp; first | (refine hK _ ?_; clear hK K) | (apply Exists.intro; refine ⟨fun _ _ => ?_, hK _ ?_⟩; (first | (with_reducible exact (K1 _).out) | (with_reducible exact (K2 _).out)); clear hK K)))
      refine lex_store (m := ⟨6, 8, 7, 23, [.int .i64 0, .int .i64 0, .int .i64 0, .int .i64 0], [.int .i64 p1, .int .i64 p2, .int .i64 p3, .int .i64 p4]⟩) (by kernel_rfl) (by simp) (by rfl) rfl ?_ ?_
      · intro vs w b hv hB
        have d0 := hB.cell 0 rfl
        have e0 := hB.free 0
        have d1 := hB.cell 1 rfl
        have e1 := hB.free 1
        have d2 := hB.cell 2 rfl
        have e2 := hB.free 2
        have d3 := hB.cell 3 rfl
        have e3 := hB.free 3
        simp only [] at hv
        simp [go_sem, evS, madeSlots, List.lookup, setAll, *]
      repeat (first | (refine lex_skip rfl (by rfl) ?_) | (refine lex_calm rfl (by rfl) (fun K hK => ?_); go_simp; first | (refine hK _ ?_; clear hK K) | (apply Exists.intro; refine ⟨fun _ _ => ?_, hK _ ?_⟩; (first | (with_reducible exact (K1 _).out) | (with_reducible exact (K2 _).out)); clear hK K)))
      refine lex_store (m := ⟨7, 9, 8, 23, [.int .i64 0, .int .i64 0, .int .i64 0, .int .i64 0], [.int .i64 p5, .int .i64 p6, .int .i64 p7, .int .i64 p8]⟩) (by kernel_rfl) (by simp) (by rfl) rfl ?_ ?_
      · intro vs w b hv hB
        have d0 := hB.cell 0 rfl
        have e0 := hB.free 0
        have d1 := hB.cell 1 rfl
        have e1 := hB.free 1
        have d2 := hB.cell 2 rfl
        have e2 := hB.free 2
        have d3 := hB.cell 3 rfl
        have e3 := hB.free 3
        simp only [] at hv
        simp [go_sem, evS, madeSlots, List.lookup, setAll, *]
      repeat (first | (refine lex_skip rfl (by rfl) ?_) | (refine lex_calm rfl (by rfl) (fun K hK => ?_); go_simp; first | (refine hK _ ?_; clear hK K) | (apply Exists.intro; refine ⟨fun _ _ => ?_, hK _ ?_⟩; (first | (with_reducible exact (K1 _).out) | (with_reducible exact (K2 _).out)); clear hK K)))
      refine lex_nil ?_
      rintro vs w2 ⟨G2, hb, hne⟩
      obtain ⟨b2_0, hv0, s2_0, K2_0⟩ := hb ⟨6, 8, 7, 23, [.int .i64 0, .int .i64 0, .int .i64 0, .int .i64 0], [.int .i64 p1, .int .i64 p2, .int .i64 p3, .int .i64 p4]⟩ (by simp) rfl
      obtain ⟨b2_1, hv1, s2_1, K2_1⟩ := hb ⟨7, 9, 8, 23, [.int .i64 0, .int .i64 0, .int .i64 0, .int .i64 0], [.int .i64 p5, .int .i64 p6, .int .i64 p7, .int .i64 p8]⟩ (by simp) rfl
      have hn2_0_1 : b2_0 ≠ b2_1 := fun e => hne ⟨6, 8, 7, 23, [.int .i64 0, .int .i64 0, .int .i64 0, .int .i64 0], [.int .i64 p1, .int .i64 p2, .int .i64 p3, .int .i64 p4]⟩ (by simp) ⟨7, 9, 8, 23, [.int .i64 0, .int .i64 0, .int .i64 0, .int .i64 0], [.int .i64 p5, .int .i64 p6, .int .i64 p7, .int .i64 p8]⟩ (by simp) (by show (6 : Nat) ≠ 7; decide) rfl rfl (hv0.trans (e ▸ hv1.symm))
      simp only [fillS, madeSlots, List.map_cons, List.map_nil, List.foldl_cons, List.foldl_nil, hv0, hv1]
      clear hb hne hv0 hv1 vs
      have B2_0 : Blk w2 (w.heap.size) 23 [.int .i64 x, .int .i64 y, .int .i64 z, .int .i64 h] := B1_0.grew G2
      have B2_1 : Blk w2 (w.heap.size + 1) 23 [.int .i64 x', .int .i64 y', .int .i64 z', .int .i64 h'] := B1_1.grew G2
      have B2_2 : Blk w2 (w.heap.size + 1 + 1) 25 [.int .i64 px, .int .i64 py] := B1_2.grew G2
      have B2_3 : Blk w2 b2_0 23 [.int .i64 p1, .int .i64 p2, .int .i64 p3, .int .i64 p4] := K2_0
      have B2_4 : Blk w2 b2_1 23 [.int .i64 p5, .int .i64 p6, .int .i64 p7, .int .i64 p8] := K2_1
      clear K2_0 K2_1
      have z2 := G2.size
      replace G2 := hide G2
      have t2_0 := B2_0.lt
      have d2_0_0 := B2_0.cell 0 rfl
      have e2_0_0 := B2_0.free 0
      have d2_0_1 := B2_0.cell 1 rfl
      have e2_0_1 := B2_0.free 1
      have d2_0_2 := B2_0.cell 2 rfl
      have e2_0_2 := B2_0.free 2
      have d2_0_3 := B2_0.cell 3 rfl
      have e2_0_3 := B2_0.free 3
      have t2_1 := B2_1.lt
      have d2_1_0 := B2_1.cell 0 rfl
      have e2_1_0 := B2_1.free 0
      have d2_1_1 := B2_1.cell 1 rfl
      have e2_1_1 := B2_1.free 1
      have d2_1_2 := B2_1.cell 2 rfl
      have e2_1_2 := B2_1.free 2
      have d2_1_3 := B2_1.cell 3 rfl
      have e2_1_3 := B2_1.free 3
      have t2_2 := B2_2.lt
      have d2_2_0 := B2_2.cell 0 rfl
      have e2_2_0 := B2_2.free 0
      have d2_2_1 := B2_2.cell 1 rfl
      have e2_2_1 := B2_2.free 1
      have t2_3 := B2_3.lt
      have d2_3_0 := B2_3.cell 0 rfl
      have e2_3_0 := B2_3.free 0
      have d2_3_1 := B2_3.cell 1 rfl
      have e2_3_1 := B2_3.free 1
      have d2_3_2 := B2_3.cell 2 rfl
      have e2_3_2 := B2_3.free 2
      have d2_3_3 := B2_3.cell 3 rfl
      have e2_3_3 := B2_3.free 3
      have t2_4 := B2_4.lt
      have d2_4_0 := B2_4.cell 0 rfl
      have e2_4_0 := B2_4.free 0
      have d2_4_1 := B2_4.cell 1 rfl
      have e2_4_1 := B2_4.free 1
      have d2_4_2 := B2_4.cell 2 rfl
      have e2_4_2 := B2_4.free 2
      have d2_4_3 := B2_4.cell 3 rfl
      have e2_4_3 := B2_4.free 3
      go_simp
      go_wp2_with fail
      have g2_0_0 := fun m os => (B2_0.grow m os).cell 0 rfl
      have g2_0_1 := fun m os => (B2_0.grow m os).cell 1 rfl
      have g2_0_2 := fun m os => (B2_0.grow m os).cell 2 rfl
      have g2_0_3 := fun m os => (B2_0.grow m os).cell 3 rfl
      have g2_1_0 := fun m os => (B2_1.grow m os).cell 0 rfl
      have g2_1_1 := fun m os => (B2_1.grow m os).cell 1 rfl
      have g2_1_2 := fun m os => (B2_1.grow m os).cell 2 rfl
      have g2_1_3 := fun m os => (B2_1.grow m os).cell 3 rfl
      have g2_2_0 := fun m os => (B2_2.grow m os).cell 0 rfl
      have g2_2_1 := fun m os => (B2_2.grow m os).cell 1 rfl
      have g2_3_0 := fun m os => (B2_3.grow m os).cell 0 rfl
      have g2_3_1 := fun m os => (B2_3.grow m os).cell 1 rfl
      have g2_3_2 := fun m os => (B2_3.grow m os).cell 2 rfl
      have g2_3_3 := fun m os => (B2_3.grow m os).cell 3 rfl
      have g2_4_0 := fun m os => (B2_4.grow m os).cell 0 rfl
      have g2_4_1 := fun m os => (B2_4.grow m os).cell 1 rfl
      have g2_4_2 := fun m os => (B2_4.grow m os).cell 2 rfl
      have g2_4_3 := fun m os => (B2_4.grow m os).cell 3 rfl
      refine wp_region_calm (by kernel_rfl) (by kernel_rfl) ?_
      repeat (first | (refine lex_skip rfl (by rfl) ?_) | (refine lex_calm rfl (by rfl) (fun K hK => ?_); go_simp; first | (refine hK _ ?_; clear hK K) | (apply Exists.intro; refine ⟨fun _ _ => ?_, hK _ ?_⟩; (first | (with_reducible exact (K3 _).out) | (with_reducible exact (K4 _).out)); clear hK K)))
      refine lex_nil ?_
      intro w3 G3
      have B3_0 : Blk w3 (w.heap.size) 23 [.int .i64 x, .int .i64 y, .int .i64 z, .int .i64 h] := B2_0.grew G3
      have B3_1 : Blk w3 (w.heap.size + 1) 23 [.int .i64 x', .int .i64 y', .int .i64 z', .int .i64 h'] := B2_1.grew G3
      have B3_2 : Blk w3 (w.heap.size + 1 + 1) 25 [.int .i64 px, .int .i64 py] := B2_2.grew G3
      have B3_3 : Blk w3 (b2_0) 23 [.int .i64 p1, .int .i64 p2, .int .i64 p3, .int .i64 p4] := B2_3.grew G3
      have B3_4 : Blk w3 (b2_1) 23 [.int .i64 p5, .int .i64 p6, .int .i64 p7, .int .i64 p8] := B2_4.grew G3
      have z3 := G3.size
      replace G3 := hide G3
      have t3_0 := B3_0.lt
      have d3_0_0 := B3_0.cell 0 rfl
      have e3_0_0 := B3_0.free 0
      have d3_0_1 := B3_0.cell 1 rfl
      have e3_0_1 := B3_0.free 1
      have d3_0_2 := B3_0.cell 2 rfl
      have e3_0_2 := B3_0.free 2
      have d3_0_3 := B3_0.cell 3 rfl
      have e3_0_3 := B3_0.free 3
      have t3_1 := B3_1.lt
      have d3_1_0 := B3_1.cell 0 rfl
      have e3_1_0 := B3_1.free 0
      have d3_1_1 := B3_1.cell 1 rfl
      have e3_1_1 := B3_1.free 1
      have d3_1_2 := B3_1.cell 2 rfl
      have e3_1_2 := B3_1.free 2
      have d3_1_3 := B3_1.cell 3 rfl
      have e3_1_3 := B3_1.free 3
      have t3_2 := B3_2.lt
      have d3_2_0 := B3_2.cell 0 rfl
      have e3_2_0 := B3_2.free 0
      have d3_2_1 := B3_2.cell 1 rfl
      have e3_2_1 := B3_2.free 1
      have t3_3 := B3_3.lt
      have d3_3_0 := B3_3.cell 0 rfl
      have e3_3_0 := B3_3.free 0
      have d3_3_1 := B3_3.cell 1 rfl
      have e3_3_1 := B3_3.free 1
      have d3_3_2 := B3_3.cell 2 rfl
      have e3_3_2 := B3_3.free 2
      have d3_3_3 := B3_3.cell 3 rfl
      have e3_3_3 := B3_3.free 3
      have t3_4 := B3_4.lt
      have d3_4_0 := B3_4.cell 0 rfl
      have e3_4_0 := B3_4.free 0
      have d3_4_1 := B3_4.cell 1 rfl
      have e3_4_1 := B3_4.free 1
      have d3_4_2 := B3_4.cell 2 rfl
      have e3_4_2 := B3_4.free 2
      have d3_4_3 := B3_4.cell 3 rfl
      have e3_4_3 := B3_4.free 3
      go_wp2_with fail
      refine ((K5 _).out).mono ?_
      rintro e w4 ⟨rfl, G4⟩
      try (with_reducible replace G4 := Grew.undrawn G4)
      have B4_0 : Blk w4 (w.heap.size) 23 [.int .i64 x, .int .i64 y, .int .i64 z, .int .i64 h] := Blk.grew (by (repeat' (first | (with_reducible assumption) | ((with_reducible refine Blk.new ?_); (first | (with_reducible rfl) | (simp only [World.size_alloc, World.size_setCell, size_drewN]; done))) | (with_reducible refine Blk.alloc ?_ _) | (with_reducible refine Blk.drewN ?_ _) | (with_reducible refine Blk.drew ?_) | (refine Blk.other ?_ (by omega) _) | fail))) G4
      have B4_1 : Blk w4 (w.heap.size + 1) 23 [.int .i64 x', .int .i64 y', .int .i64 z', .int .i64 h'] := Blk.grew (by (repeat' (first | (with_reducible assumption) | ((with_reducible refine Blk.new ?_); (first | (with_reducible rfl) | (simp only [World.size_alloc, World.size_setCell, size_drewN]; done))) | (with_reducible refine Blk.alloc ?_ _) | (with_reducible refine Blk.drewN ?_ _) | (with_reducible refine Blk.drew ?_) | (refine Blk.other ?_ (by omega) _) | fail))) G4
      have B4_2 : Blk w4 (w.heap.size + 1 + 1) 25 [.int .i64 px, .int .i64 py] := Blk.grew (by (repeat' (first | (with_reducible assumption) | ((with_reducible refine Blk.new ?_); (first | (with_reducible rfl) | (simp only [World.size_alloc, World.size_setCell, size_drewN]; done))) | (with_reducible refine Blk.alloc ?_ _) | (with_reducible refine Blk.drewN ?_ _) | (with_reducible refine Blk.drew ?_) | (refine Blk.other ?_ (by omega) _) | fail))) G4
      have B4_3 : Blk w4 (b2_0) 23 [.int .i64 p1, .int .i64 p2, .int .i64 p3, .int .i64 p4] := Blk.grew (by (repeat' (first | (with_reducible assumption) | ((with_reducible refine Blk.new ?_); (first | (with_reducible rfl) | (simp only [World.size_alloc, World.size_setCell, size_drewN]; done))) | (with_reducible refine Blk.alloc ?_ _) | (with_reducible refine Blk.drewN ?_ _) | (with_reducible refine Blk.drew ?_) | (refine Blk.other ?_ (by omega) _) | fail))) G4
      have B4_4 : Blk w4 (b2_1) 23 [.int .i64 p5, .int .i64 p6, .int .i64 p7, .int .i64 p8] := Blk.grew (by (repeat' (first | (with_reducible assumption) | ((with_reducible refine Blk.new ?_); (first | (with_reducible rfl) | (simp only [World.size_alloc, World.size_setCell, size_drewN]; done))) | (with_reducible refine Blk.alloc ?_ _) | (with_reducible refine Blk.drewN ?_ _) | (with_reducible refine Blk.drew ?_) | (refine Blk.other ?_ (by omega) _) | fail))) G4
      have z4 := G4.size
      try simp only [World.size_alloc, World.size_setCell, size_drewN] at z4
      replace G4 := hide G4
      have t4_0 := B4_0.lt
      have d4_0_0 := B4_0.cell 0 rfl
      have e4_0_0 := B4_0.free 0
      have d4_0_1 := B4_0.cell 1 rfl
      have e4_0_1 := B4_0.free 1
      have d4_0_2 := B4_0.cell 2 rfl
      have e4_0_2 := B4_0.free 2
      have d4_0_3 := B4_0.cell 3 rfl
      have e4_0_3 := B4_0.free 3
      have t4_1 := B4_1.lt
      have d4_1_0 := B4_1.cell 0 rfl
      have e4_1_0 := B4_1.free 0
      have d4_1_1 := B4_1.cell 1 rfl
      have e4_1_1 := B4_1.free 1
      have d4_1_2 := B4_1.cell 2 rfl
      have e4_1_2 := B4_1.free 2
      have d4_1_3 := B4_1.cell 3 rfl
      have e4_1_3 := B4_1.free 3
      have t4_2 := B4_2.lt
      have d4_2_0 := B4_2.cell 0 rfl
      have e4_2_0 := B4_2.free 0
      have d4_2_1 := B4_2.cell 1 rfl
      have e4_2_1 := B4_2.free 1
      have t4_3 := B4_3.lt
      have d4_3_0 := B4_3.cell 0 rfl
      have e4_3_0 := B4_3.free 0
      have d4_3_1 := B4_3.cell 1 rfl
      have e4_3_1 := B4_3.free 1
      have d4_3_2 := B4_3.cell 2 rfl
      have e4_3_2 := B4_3.free 2
      have d4_3_3 := B4_3.cell 3 rfl
      have e4_3_3 := B4_3.free 3
      have t4_4 := B4_4.lt
      have d4_4_0 := B4_4.cell 0 rfl
      have e4_4_0 := B4_4.free 0
      have d4_4_1 := B4_4.cell 1 rfl
      have e4_4_1 := B4_4.free 1
      have d4_4_2 := B4_4.cell 2 rfl
      have e4_4_2 := B4_4.free 2
      have d4_4_3 := B4_4.cell 3 rfl
      have e4_4_3 := B4_4.free 3
      go_wp2_with fail
      refine ((VV _).out).mono ?_
      rintro e w5 ⟨rfl, G5⟩
      try (with_reducible replace G5 := Grew.undrawn G5)
      have B5_0 : Blk w5 (w.heap.size) 23 [.int .i64 x, .int .i64 y, .int .i64 z, .int .i64 h] := Blk.grew (by (repeat' (first | (with_reducible assumption) | ((with_reducible refine Blk.new ?_); (first | (with_reducible rfl) | (simp only [World.size_alloc, World.size_setCell, size_drewN]; done))) | (with_reducible refine Blk.alloc ?_ _) | (with_reducible refine Blk.drewN ?_ _) | (with_reducible refine Blk.drew ?_) | (refine Blk.other ?_ (by omega) _) | fail))) G5
      have B5_1 : Blk w5 (w.heap.size + 1) 23 [.int .i64 x', .int .i64 y', .int .i64 z', .int .i64 h'] := Blk.grew (by (repeat' (first | (with_reducible assumption) | ((with_reducible refine Blk.new ?_); (first | (with_reducible rfl) | (simp only [World.size_alloc, World.size_setCell, size_drewN]; done))) | (with_reducible refine Blk.alloc ?_ _) | (with_reducible refine Blk.drewN ?_ _) | (with_reducible refine Blk.drew ?_) | (refine Blk.other ?_ (by omega) _) | fail))) G5
      have B5_2 : Blk w5 (w.heap.size + 1 + 1) 25 [.int .i64 px, .int .i64 py] := Blk.grew (by (repeat' (first | (with_reducible assumption) | ((with_reducible refine Blk.new ?_); (first | (with_reducible rfl) | (simp only [World.size_alloc, World.size_setCell, size_drewN]; done))) | (with_reducible refine Blk.alloc ?_ _) | (with_reducible refine Blk.drewN ?_ _) | (with_reducible refine Blk.drew ?_) | (refine Blk.other ?_ (by omega) _) | fail))) G5
      have B5_3 : Blk w5 (b2_0) 23 [.int .i64 p1, .int .i64 p2, .int .i64 p3, .int .i64 p4] := Blk.grew (by (repeat' (first | (with_reducible assumption) | ((with_reducible refine Blk.new ?_); (first | (with_reducible rfl) | (simp only [World.size_alloc, World.size_setCell, size_drewN]; done))) | (with_reducible refine Blk.alloc ?_ _) | (with_reducible refine Blk.drewN ?_ _) | (with_reducible refine Blk.drew ?_) | (refine Blk.other ?_ (by omega) _) | fail))) G5
      have B5_4 : Blk w5 (b2_1) 23 [.int .i64 p5, .int .i64 p6, .int .i64 p7, .int .i64 p8] := Blk.grew (by (repeat' (first | (with_reducible assumption) | ((with_reducible refine Blk.new ?_); (first | (with_reducible rfl) | (simp only [World.size_alloc, World.size_setCell, size_drewN]; done))) | (with_reducible refine Blk.alloc ?_ _) | (with_reducible refine Blk.drewN ?_ _) | (with_reducible refine Blk.drew ?_) | (refine Blk.other ?_ (by omega) _) | fail))) G5
      have z5 := G5.size
      try simp only [World.size_alloc, World.size_setCell, size_drewN] at z5
      replace G5 := hide G5
      have t5_0 := B5_0.lt
      have d5_0_0 := B5_0.cell 0 rfl
      have e5_0_0 := B5_0.free 0
      have d5_0_1 := B5_0.cell 1 rfl
      have e5_0_1 := B5_0.free 1
      have d5_0_2 := B5_0.cell 2 rfl
      have e5_0_2 := B5_0.free 2
      have d5_0_3 := B5_0.cell 3 rfl
      have e5_0_3 := B5_0.free 3
      have t5_1 := B5_1.lt
      have d5_1_0 := B5_1.cell 0 rfl
      have e5_1_0 := B5_1.free 0
      have d5_1_1 := B5_1.cell 1 rfl
      have e5_1_1 := B5_1.free 1
      have d5_1_2 := B5_1.cell 2 rfl
      have e5_1_2 := B5_1.free 2
      have d5_1_3 := B5_1.cell 3 rfl
      have e5_1_3 := B5_1.free 3
      have t5_2 := B5_2.lt
      have d5_2_0 := B5_2.cell 0 rfl
      have e5_2_0 := B5_2.free 0
      have d5_2_1 := B5_2.cell 1 rfl
      have e5_2_1 := B5_2.free 1
      have t5_3 := B5_3.lt
      have d5_3_0 := B5_3.cell 0 rfl
      have e5_3_0 := B5_3.free 0
      have d5_3_1 := B5_3.cell 1 rfl
      have e5_3_1 := B5_3.free 1
      have d5_3_2 := B5_3.cell 2 rfl
      have e5_3_2 := B5_3.free 2
      have d5_3_3 := B5_3.cell 3 rfl
      have e5_3_3 := B5_3.free 3
      have t5_4 := B5_4.lt
      have d5_4_0 := B5_4.cell 0 rfl
      have e5_4_0 := B5_4.free 0
      have d5_4_1 := B5_4.cell 1 rfl
      have e5_4_1 := B5_4.free 1
      have d5_4_2 := B5_4.cell 2 rfl
      have e5_4_2 := B5_4.free 2
      have d5_4_3 := B5_4.cell 3 rfl
      have e5_4_3 := B5_4.free 3
      go_wp2_with fail
      refine ((K6 _).out).mono ?_
      rintro e w6 ⟨rfl, G6⟩
      try (with_reducible replace G6 := Grew.undrawn G6)
      have B6_0 : Blk w6 (w.heap.size) 23 [.int .i64 x, .int .i64 y, .int .i64 z, .int .i64 h] := Blk.grew (by (repeat' (first | (with_reducible assumption) | ((with_reducible refine Blk.new ?_); (first | (with_reducible rfl) | (simp only [World.size_alloc, World.size_setCell, size_drewN]; done))) | (with_reducible refine Blk.alloc ?_ _) | (with_reducible refine Blk.drewN ?_ _) | (with_reducible refine Blk.drew ?_) | (refine Blk.other ?_ (by omega) _) | fail))) G6
      have B6_1 : Blk w6 (w.heap.size + 1) 23 [.int .i64 x', .int .i64 y', .int .i64 z', .int .i64 h'] := Blk.grew (by (repeat' (first | (with_reducible assumption) | ((with_reducible refine Blk.new ?_); (first | (with_reducible rfl) | (simp only [World.size_alloc, World.size_setCell, size_drewN]; done))) | (with_reducible refine Blk.alloc ?_ _) | (with_reducible refine Blk.drewN ?_ _) | (with_reducible refine Blk.drew ?_) | (refine Blk.other ?_ (by omega) _) | fail))) G6
      have B6_2 : Blk w6 (w.heap.size + 1 + 1) 25 [.int .i64 px, .int .i64 py] := Blk.grew (by (repeat' (first | (with_reducible assumption) | ((with_reducible refine Blk.new ?_); (first | (with_reducible rfl) | (simp only [World.size_alloc, World.size_setCell, size_drewN]; done))) | (with_reducible refine Blk.alloc ?_ _) | (with_reducible refine Blk.drewN ?_ _) | (with_reducible refine Blk.drew ?_) | (refine Blk.other ?_ (by omega) _) | fail))) G6
      have B6_3 : Blk w6 (b2_0) 23 [.int .i64 p1, .int .i64 p2, .int .i64 p3, .int .i64 p4] := Blk.grew (by (repeat' (first | (with_reducible assumption) | ((with_reducible refine Blk.new ?_); (first | (with_reducible rfl) | (simp only [World.size_alloc, World.size_setCell, size_drewN]; done))) | (with_reducible refine Blk.alloc ?_ _) | (with_reducible refine Blk.drewN ?_ _) | (with_reducible refine Blk.drew ?_) | (refine Blk.other ?_ (by omega) _) | fail))) G6
      have B6_4 : Blk w6 (b2_1) 23 [.int .i64 p5, .int .i64 p6, .int .i64 p7, .int .i64 p8] := Blk.grew (by (repeat' (first | (with_reducible assumption) | ((with_reducible refine Blk.new ?_); (first | (with_reducible rfl) | (simp only [World.size_alloc, World.size_setCell, size_drewN]; done))) | (with_reducible refine Blk.alloc ?_ _) | (with_reducible refine Blk.drewN ?_ _) | (with_reducible refine Blk.drew ?_) | (refine Blk.other ?_ (by omega) _) | fail))) G6
      have z6 := G6.size
      try simp only [World.size_alloc, World.size_setCell, size_drewN] at z6
      replace G6 := hide G6
      have t6_0 := B6_0.lt
      have d6_0_0 := B6_0.cell 0 rfl
      have e6_0_0 := B6_0.free 0
      have d6_0_1 := B6_0.cell 1 rfl
      have e6_0_1 := B6_0.free 1
      have d6_0_2 := B6_0.cell 2 rfl
      have e6_0_2 := B6_0.free 2
      have d6_0_3 := B6_0.cell 3 rfl
      have e6_0_3 := B6_0.free 3
      have t6_1 := B6_1.lt
      have d6_1_0 := B6_1.cell 0 rfl
      have e6_1_0 := B6_1.free 0
      have d6_1_1 := B6_1.cell 1 rfl
      have e6_1_1 := B6_1.free 1
      have d6_1_2 := B6_1.cell 2 rfl
      have e6_1_2 := B6_1.free 2
      have d6_1_3 := B6_1.cell 3 rfl
      have e6_1_3 := B6_1.free 3
      have t6_2 := B6_2.lt
      have d6_2_0 := B6_2.cell 0 rfl
      have e6_2_0 := B6_2.free 0
      have d6_2_1 := B6_2.cell 1 rfl
      have e6_2_1 := B6_2.free 1
      have t6_3 := B6_3.lt
      have d6_3_0 := B6_3.cell 0 rfl
      have e6_3_0 := B6_3.free 0
      have d6_3_1 := B6_3.cell 1 rfl
      have e6_3_1 := B6_3.free 1
      have d6_3_2 := B6_3.cell 2 rfl
      have e6_3_2 := B6_3.free 2
      have d6_3_3 := B6_3.cell 3 rfl
      have e6_3_3 := B6_3.free 3
      have t6_4 := B6_4.lt
      have d6_4_0 := B6_4.cell 0 rfl
      have e6_4_0 := B6_4.free 0
      have d6_4_1 := B6_4.cell 1 rfl
      have e6_4_1 := B6_4.free 1
      have d6_4_2 := B6_4.cell 2 rfl
      have e6_4_2 := B6_4.free 2
      have d6_4_3 := B6_4.cell 3 rfl
      have e6_4_3 := B6_4.free 3
      go_wp2_with fail
      refine ((A1 _).out).mono ?_
      rintro e w7 ⟨rfl, G7⟩
      try (with_reducible replace G7 := Grew.undrawn G7)
      have B7_0 : Blk w7 (w.heap.size) 23 [.int .i64 x, .int .i64 y, .int .i64 z, .int .i64 h] := Blk.grew (by (repeat' (first | (with_reducible assumption) | ((with_reducible refine Blk.new ?_); (first | (with_reducible rfl) | (simp only [World.size_alloc, World.size_setCell, size_drewN]; done))) | (with_reducible refine Blk.alloc ?_ _) | (with_reducible refine Blk.drewN ?_ _) | (with_reducible refine Blk.drew ?_) | (refine Blk.other ?_ (by omega) _) | fail))) G7
      have B7_1 : Blk w7 (w.heap.size + 1) 23 [.int .i64 x', .int .i64 y', .int .i64 z', .int .i64 h'] := Blk.grew (by (repeat' (first | (with_reducible assumption) | ((with_reducible refine Blk.new ?_); (first | (with_reducible rfl) | (simp only [World.size_alloc, World.size_setCell, size_drewN]; done))) | (with_reducible refine Blk.alloc ?_ _) | (with_reducible refine Blk.drewN ?_ _) | (with_reducible refine Blk.drew ?_) | (refine Blk.other ?_ (by omega) _) | fail))) G7
      have B7_2 : Blk w7 (w.heap.size + 1 + 1) 25 [.int .i64 px, .int .i64 py] := Blk.grew (by (repeat' (first | (with_reducible assumption) | ((with_reducible refine Blk.new ?_); (first | (with_reducible rfl) | (simp only [World.size_alloc, World.size_setCell, size_drewN]; done))) | (with_reducible refine Blk.alloc ?_ _) | (with_reducible refine Blk.drewN ?_ _) | (with_reducible refine Blk.drew ?_) | (refine Blk.other ?_ (by omega) _) | fail))) G7
      have B7_3 : Blk w7 (b2_0) 23 [.int .i64 p1, .int .i64 p2, .int .i64 p3, .int .i64 p4] := Blk.grew (by (repeat' (first | (with_reducible assumption) | ((with_reducible refine Blk.new ?_); (first | (with_reducible rfl) | (simp only [World.size_alloc, World.size_setCell, size_drewN]; done))) | (with_reducible refine Blk.alloc ?_ _) | (with_reducible refine Blk.drewN ?_ _) | (with_reducible refine Blk.drew ?_) | (refine Blk.other ?_ (by omega) _) | fail))) G7
      have B7_4 : Blk w7 (b2_1) 23 [.int .i64 p5, .int .i64 p6, .int .i64 p7, .int .i64 p8] := Blk.grew (by (repeat' (first | (with_reducible assumption) | ((with_reducible refine Blk.new ?_); (first | (with_reducible rfl) | (simp only [World.size_alloc, World.size_setCell, size_drewN]; done))) | (with_reducible refine Blk.alloc ?_ _) | (with_reducible refine Blk.drewN ?_ _) | (with_reducible refine Blk.drew ?_) | (refine Blk.other ?_ (by omega) _) | fail))) G7
      have z7 := G7.size
      try simp only [World.size_alloc, World.size_setCell, size_drewN] at z7
      replace G7 := hide G7
      have t7_0 := B7_0.lt
      have d7_0_0 := B7_0.cell 0 rfl
      have e7_0_0 := B7_0.free 0
      have d7_0_1 := B7_0.cell 1 rfl
      have e7_0_1 := B7_0.free 1
      have d7_0_2 := B7_0.cell 2 rfl
      have e7_0_2 := B7_0.free 2
      have d7_0_3 := B7_0.cell 3 rfl
      have e7_0_3 := B7_0.free 3
      have t7_1 := B7_1.lt
      have d7_1_0 := B7_1.cell 0 rfl
      have e7_1_0 := B7_1.free 0
      have d7_1_1 := B7_1.cell 1 rfl
      have e7_1_1 := B7_1.free 1
      have d7_1_2 := B7_1.cell 2 rfl
      have e7_1_2 := B7_1.free 2
      have d7_1_3 := B7_1.cell 3 rfl
      have e7_1_3 := B7_1.free 3
      have t7_2 := B7_2.lt
      have d7_2_0 := B7_2.cell 0 rfl
      have e7_2_0 := B7_2.free 0
      have d7_2_1 := B7_2.cell 1 rfl
      have e7_2_1 := B7_2.free 1
      have t7_3 := B7_3.lt
      have d7_3_0 := B7_3.cell 0 rfl
      have e7_3_0 := B7_3.free 0
      have d7_3_1 := B7_3.cell 1 rfl
      have e7_3_1 := B7_3.free 1
      have d7_3_2 := B7_3.cell 2 rfl
      have e7_3_2 := B7_3.free 2
      have d7_3_3 := B7_3.cell 3 rfl
      have e7_3_3 := B7_3.free 3
      have t7_4 := B7_4.lt
      have d7_4_0 := B7_4.cell 0 rfl
      have e7_4_0 := B7_4.free 0
      have d7_4_1 := B7_4.cell 1 rfl
      have e7_4_1 := B7_4.free 1
      have d7_4_2 := B7_4.cell 2 rfl
      have e7_4_2 := B7_4.free 2
      have d7_4_3 := B7_4.cell 3 rfl
      have e7_4_3 := B7_4.free 3
      go_wp2
      go_ret
      refine ⟨rfl, Grew.below ?_⟩
      repeat' (first | (with_reducible exact Grew.refl _) | (with_reducible refine Grew.setCell ?_ ?_ _) | (with_reducible refine Grew.drewN ?_ _) | (with_reducible refine Grew.alloc ?_ _) | (with_reducible refine Grew.trans ?_ G7.out) | (with_reducible refine Grew.trans ?_ G6.out) | (with_reducible refine Grew.trans ?_ G5.out) | (with_reducible refine Grew.trans ?_ G4.out) | (with_reducible refine Grew.trans ?_ G3.out) | (with_reducible refine Grew.trans ?_ G2.out) | (with_reducible refine Grew.trans ?_ G1.out) | (dsimp only; omega))
    · go_enter Try.func5, Try.ntmps5
      go_wp2_with fail
      refine name_world fun w1 h1 => ?_
      have G1 : Grew w w1 := by
        rw [h1]
        repeat' (first | (with_reducible exact Grew.refl _) | (with_reducible refine Grew.setCell ?_ ?_ _) | (with_reducible refine Grew.drewN ?_ _) | (with_reducible refine Grew.alloc ?_ _) | (with_reducible refine Grew.trans ?_ G1.out) | (dsimp only; omega))
      have B1_0 : Blk w1 (w.heap.size) 23 [.int .i64 x, .int .i64 y, .int .i64 z, .int .i64 h] := by (rw [h1]; repeat' (first | (with_reducible assumption) | ((with_reducible refine Blk.new ?_); (first | (with_reducible rfl) | (simp only [World.size_alloc, World.size_setCell, size_drewN]; done))) | (with_reducible refine Blk.alloc ?_ _) | (with_reducible refine Blk.drewN ?_ _) | (with_reducible refine Blk.drew ?_) | (refine Blk.other ?_ (by omega) _) | fail))
      have B1_1 : Blk w1 (w.heap.size + 1) 23 [.int .i64 x', .int .i64 y', .int .i64 z', .int .i64 h'] := by (rw [h1]; repeat' (first | (with_reducible assumption) | ((with_reducible refine Blk.new ?_); (first | (with_reducible rfl) | (simp only [World.size_alloc, World.size_setCell, size_drewN]; done))) | (with_reducible refine Blk.alloc ?_ _) | (with_reducible refine Blk.drewN ?_ _) | (with_reducible refine Blk.drew ?_) | (refine Blk.other ?_ (by omega) _) | fail))
      have B1_2 : Blk w1 (w.heap.size + 1 + 1) 25 [.int .i64 px, .int .i64 py] := by (rw [h1]; repeat' (first | (with_reducible assumption) | ((with_reducible refine Blk.new ?_); (first | (with_reducible rfl) | (simp only [World.size_alloc, World.size_setCell, size_drewN]; done))) | (with_reducible refine Blk.alloc ?_ _) | (with_reducible refine Blk.drewN ?_ _) | (with_reducible refine Blk.drew ?_) | (refine Blk.other ?_ (by omega) _) | fail))
      have z1 := G1.size
      replace G1 := hide G1
      clear h1
      have t1_0 := B1_0.lt
      have d1_0_0 := B1_0.cell 0 rfl
      have e1_0_0 := B1_0.free 0
      have d1_0_1 := B1_0.cell 1 rfl
      have e1_0_1 := B1_0.free 1
      have d1_0_2 := B1_0.cell 2 rfl
      have e1_0_2 := B1_0.free 2
      have d1_0_3 := B1_0.cell 3 rfl
      have e1_0_3 := B1_0.free 3
      have t1_1 := B1_1.lt
      have d1_1_0 := B1_1.cell 0 rfl
      have e1_1_0 := B1_1.free 0
      have d1_1_1 := B1_1.cell 1 rfl
      have e1_1_1 := B1_1.free 1
      have d1_1_2 := B1_1.cell 2 rfl
      have e1_1_2 := B1_1.free 2
      have d1_1_3 := B1_1.cell 3 rfl
      have e1_1_3 := B1_1.free 3
      have t1_2 := B1_2.lt
      have d1_2_0 := B1_2.cell 0 rfl
      have e1_2_0 := B1_2.free 0
      have d1_2_1 := B1_2.cell 1 rfl
      have e1_2_1 := B1_2.free 1
      have g1_0_0 := fun m os => (B1_0.grow m os).cell 0 rfl
      have g1_0_1 := fun m os => (B1_0.grow m os).cell 1 rfl
      have g1_0_2 := fun m os => (B1_0.grow m os).cell 2 rfl
      have g1_0_3 := fun m os => (B1_0.grow m os).cell 3 rfl
      have g1_1_0 := fun m os => (B1_1.grow m os).cell 0 rfl
      have g1_1_1 := fun m os => (B1_1.grow m os).cell 1 rfl
      have g1_1_2 := fun m os => (B1_1.grow m os).cell 2 rfl
      have g1_1_3 := fun m os => (B1_1.grow m os).cell 3 rfl
      have g1_2_0 := fun m os => (B1_2.grow m os).cell 0 rfl
      have g1_2_1 := fun m os => (B1_2.grow m os).cell 1 rfl
      refine wp_region_made [⟨6, 8, 7, 23, [.int .i64 0, .int .i64 0, .int .i64 0, .int .i64 0], [.int .i64 p1, .int .i64 p2, .int .i64 p3, .int .i64 p4]⟩, ⟨7, 9, 8, 23, [.int .i64 0, .int .i64 0, .int .i64 0, .int .i64 0], [.int .i64 p5, .int .i64 p6, .int .i64 p7, .int .i64 p8]⟩] (by kernel_rfl) (by kernel_rfl) (by simp [madeSlots]) ?_
      repeat (first | (refine lex_skip rfl (by rfl) ?_) | (refine lex_calm rfl (by rfl) (fun K hK => ?_); go_simp; first | (refine hK _ ?_; clear hK K) | (apply Exists.intro; refine ⟨fun _ _ => ?_, hK _ ?_⟩; (first | (with_reducible exact (K1 _).out) | (with_reducible exact (K2 _).out)); clear hK K)))
      refine lex_alloc (m := ⟨6, 8, 7, 23, [.int .i64 0, .int .i64 0, .int .i64 0, .int .i64 0], [.int .i64 p1, .int .i64 p2, .int .i64 p3, .int .i64 p4]⟩) (by kernel_rfl) (by simp) (by rfl) rfl ?_ ?_
      · intro ev w
        go_simp
      repeat (first | (refine lex_skip rfl (by rfl) ?_) | (refine lex_calm rfl (by rfl) (fun K hK => ?_); go_simp; first | (refine hK _ ?_; clear hK K) | (apply Exists.intro; refine ⟨fun _ _ => ?_, hK _ ?_⟩; (first | (with_reducible exact (K1 _).out) | (with_reducible exact (K2 _).out)); clear hK K)))
      refine lex_alloc (m := ⟨7, 9, 8, 23, [.int .i64 0, .int .i64 0, .int .i64 0, .int .i64 0], [.int .i64 p5, .int .i64 p6, .int .i64 p7, .int .i64 p8]⟩) (by kernel_rfl) (by simp) (by rfl) rfl ?_ ?_
      · intro ev w
        go_simp
      repeat (first | (refine lex_skip rfl (by rfl) ?_) | (refine lex_calm rfl (by rfl) (fun K hK => ?_); go_simp; first | (refine hK _ ?_; clear hK K) | (apply Exists.intro; refine ⟨fun _ _ => ?_, hK _ ?_⟩; (first | (with_reducible exact (K1 _).out) | (with_reducible exact (K2 _).out)); clear hK K)))
      refine lex_store (m := ⟨6, 8, 7, 23, [.int .i64 0, .int .i64 0, .int .i64 0, .int .i64 0], [.int .i64 p1, .int .i64 p2, .int .i64 p3, .int .i64 p4]⟩) (by kernel_rfl) (by simp) (by rfl) rfl ?_ ?_
      · intro vs w b hv hB
        have d0 := hB.cell 0 rfl
        have e0 := hB.free 0
        have d1 := hB.cell 1 rfl
        have e1 := hB.free 1
        have d2 := hB.cell 2 rfl
        have e2 := hB.free 2
        have d3 := hB.cell 3 rfl
        have e3 := hB.free 3
        simp only [] at hv
        simp [go_sem, evS, madeSlots, List.lookup, setAll, *]
      repeat (first | (refine lex_skip rfl (by rfl) ?_) | (refine lex_calm rfl (by rfl) (fun K hK => ?_); go_simp; first | (refine hK _ ?_; clear hK K) | (apply Exists.intro; refine ⟨fun _ _ => ?_, hK _ ?_⟩; (first | (with_reducible exact (K1 _).out) | (with_reducible exact (K2 _).out)); clear hK K)))
      refine lex_store (m := ⟨7, 9, 8, 23, [.int .i64 0, .int .i64 0, .int .i64 0, .int .i64 0], [.int .i64 p5, .int .i64 p6, .int .i64 p7, .int .i64 p8]⟩) (by kernel_rfl) (by simp) (by rfl) rfl ?_ ?_
      · intro vs w b hv hB
        have d0 := hB.cell 0 rfl
        have e0 := hB.free 0
        have d1 := hB.cell 1 rfl
        have e1 := hB.free 1
        have d2 := hB.cell 2 rfl
        have e2 := hB.free 2
        have d3 := hB.cell 3 rfl
        have e3 := hB.free 3
        simp only [] at hv
        simp [go_sem, evS, madeSlots, List.lookup, setAll, *]
      repeat (first | (refine lex_skip rfl (by rfl) ?_) | (refine lex_calm rfl (by rfl) (fun K hK => ?_); go_simp; first | (refine hK _ ?_; clear hK K) | (apply Exists.intro; refine ⟨fun _ _ => ?_, hK _ ?_⟩; (first | (with_reducible exact (K1 _).out) | (with_reducible exact (K2 _).out)); clear hK K)))
      refine lex_nil ?_
      rintro vs w2 ⟨G2, hb, hne⟩
      obtain ⟨b2_0, hv0, s2_0, K2_0⟩ := hb ⟨6, 8, 7, 23, [.int .i64 0, .int .i64 0, .int .i64 0, .int .i64 0], [.int .i64 p1, .int .i64 p2, .int .i64 p3, .int .i64 p4]⟩ (by simp) rfl
      obtain ⟨b2_1, hv1, s2_1, K2_1⟩ := hb ⟨7, 9, 8, 23, [.int .i64 0, .int .i64 0, .int .i64 0, .int .i64 0], [.int .i64 p5, .int .i64 p6, .int .i64 p7, .int .i64 p8]⟩ (by simp) rfl
      have hn2_0_1 : b2_0 ≠ b2_1 := fun e => hne ⟨6, 8, 7, 23, [.int .i64 0, .int .i64 0, .int .i64 0, .int .i64 0], [.int .i64 p1, .int .i64 p2, .int .i64 p3, .int .i64 p4]⟩ (by simp) ⟨7, 9, 8, 23, [.int .i64 0, .int .i64 0, .int .i64 0, .int .i64 0], [.int .i64 p5, .int .i64 p6, .int .i64 p7, .int .i64 p8]⟩ (by simp) (by show (6 : Nat) ≠ 7; decide) rfl rfl (hv0.trans (e ▸ hv1.symm))
      simp only [fillS, madeSlots, List.map_cons, List.map_nil, List.foldl_cons, List.foldl_nil, hv0, hv1]
      clear hb hne hv0 hv1 vs
      have B2_0 : Blk w2 (w.heap.size) 23 [.int .i64 x, .int .i64 y, .int .i64 z, .int .i64 h] := B1_0.grew G2
      have B2_1 : Blk w2 (w.heap.size + 1) 23 [.int .i64 x', .int .i64 y', .int .i64 z', .int .i64 h'] := B1_1.grew G2
      have B2_2 : Blk w2 (w.heap.size + 1 + 1) 25 [.int .i64 px, .int .i64 py] := B1_2.grew G2
      have B2_3 : Blk w2 b2_0 23 [.int .i64 p1, .int .i64 p2, .int .i64 p3, .int .i64 p4] := K2_0
      have B2_4 : Blk w2 b2_1 23 [.int .i64 p5, .int .i64 p6, .int .i64 p7, .int .i64 p8] := K2_1
      clear K2_0 K2_1
      have z2 := G2.size
      replace G2 := hide G2
      have t2_0 := B2_0.lt
      have d2_0_0 := B2_0.cell 0 rfl
      have e2_0_0 := B2_0.free 0
      have d2_0_1 := B2_0.cell 1 rfl
      have e2_0_1 := B2_0.free 1
      have d2_0_2 := B2_0.cell 2 rfl
      have e2_0_2 := B2_0.free 2
      have d2_0_3 := B2_0.cell 3 rfl
      have e2_0_3 := B2_0.free 3
      have t2_1 := B2_1.lt
      have d2_1_0 := B2_1.cell 0 rfl
      have e2_1_0 := B2_1.free 0
      have d2_1_1 := B2_1.cell 1 rfl
      have e2_1_1 := B2_1.free 1
      have d2_1_2 := B2_1.cell 2 rfl
      have e2_1_2 := B2_1.free 2
      have d2_1_3 := B2_1.cell 3 rfl
      have e2_1_3 := B2_1.free 3
      have t2_2 := B2_2.lt
      have d2_2_0 := B2_2.cell 0 rfl
      have e2_2_0 := B2_2.free 0
      have d2_2_1 := B2_2.cell 1 rfl
      have e2_2_1 := B2_2.free 1
      have t2_3 := B2_3.lt
      have d2_3_0 := B2_3.cell 0 rfl
      have e2_3_0 := B2_3.free 0
      have d2_3_1 := B2_3.cell 1 rfl
      have e2_3_1 := B2_3.free 1
      have d2_3_2 := B2_3.cell 2 rfl
      have e2_3_2 := B2_3.free 2
      have d2_3_3 := B2_3.cell 3 rfl
      have e2_3_3 := B2_3.free 3
      have t2_4 := B2_4.lt
      have d2_4_0 := B2_4.cell 0 rfl
      have e2_4_0 := B2_4.free 0
      have d2_4_1 := B2_4.cell 1 rfl
      have e2_4_1 := B2_4.free 1
      have d2_4_2 := B2_4.cell 2 rfl
      have e2_4_2 := B2_4.free 2
      have d2_4_3 := B2_4.cell 3 rfl
      have e2_4_3 := B2_4.free 3
      go_simp
      go_wp2_with fail
      have g2_0_0 := fun m os => (B2_0.grow m os).cell 0 rfl
      have g2_0_1 := fun m os => (B2_0.grow m os).cell 1 rfl
      have g2_0_2 := fun m os => (B2_0.grow m os).cell 2 rfl
      have g2_0_3 := fun m os => (B2_0.grow m os).cell 3 rfl
      have g2_1_0 := fun m os => (B2_1.grow m os).cell 0 rfl
      have g2_1_1 := fun m os => (B2_1.grow m os).cell 1 rfl
      have g2_1_2 := fun m os => (B2_1.grow m os).cell 2 rfl
      have g2_1_3 := fun m os => (B2_1.grow m os).cell 3 rfl
      have g2_2_0 := fun m os => (B2_2.grow m os).cell 0 rfl
      have g2_2_1 := fun m os => (B2_2.grow m os).cell 1 rfl
      have g2_3_0 := fun m os => (B2_3.grow m os).cell 0 rfl
      have g2_3_1 := fun m os => (B2_3.grow m os).cell 1 rfl
      have g2_3_2 := fun m os => (B2_3.grow m os).cell 2 rfl
      have g2_3_3 := fun m os => (B2_3.grow m os).cell 3 rfl
      have g2_4_0 := fun m os => (B2_4.grow m os).cell 0 rfl
      have g2_4_1 := fun m os => (B2_4.grow m os).cell 1 rfl
      have g2_4_2 := fun m os => (B2_4.grow m os).cell 2 rfl
      have g2_4_3 := fun m os => (B2_4.grow m os).cell 3 rfl
      refine wp_region_calm (by kernel_rfl) (by kernel_rfl) ?_
      repeat (first | (refine lex_skip rfl (by rfl) ?_) | (refine lex_calm rfl (by rfl) (fun K hK => ?_); go_simp; first | (refine hK _ ?_; clear hK K) | (apply Exists.intro; refine ⟨fun _ _ => ?_, hK _ ?_⟩; (first | (with_reducible exact (K3 _).out) | (with_reducible exact (K4 _).out)); clear hK K)))
      refine lex_nil ?_
      intro w3 G3
      have B3_0 : Blk w3 (w.heap.size) 23 [.int .i64 x, .int .i64 y, .int .i64 z, .int .i64 h] := B2_0.grew G3
      have B3_1 : Blk w3 (w.heap.size + 1) 23 [.int .i64 x', .int .i64 y', .int .i64 z', .int .i64 h'] := B2_1.grew G3
      have B3_2 : Blk w3 (w.heap.size + 1 + 1) 25 [.int .i64 px, .int .i64 py] := B2_2.grew G3
      have B3_3 : Blk w3 (b2_0) 23 [.int .i64 p1, .int .i64 p2, .int .i64 p3, .int .i64 p4] := B2_3.grew G3
      have B3_4 : Blk w3 (b2_1) 23 [.int .i64 p5, .int .i64 p6, .int .i64 p7, .int .i64 p8] := B2_4.grew G3
      have z3 := G3.size
      replace G3 := hide G3
      have t3_0 := B3_0.lt
      have d3_0_0 := B3_0.cell 0 rfl
      have e3_0_0 := B3_0.free 0
      have d3_0_1 := B3_0.cell 1 rfl
      have e3_0_1 := B3_0.free 1
      have d3_0_2 := B3_0.cell 2 rfl
      have e3_0_2 := B3_0.free 2
      have d3_0_3 := B3_0.cell 3 rfl
      have e3_0_3 := B3_0.free 3
      have t3_1 := B3_1.lt
      have d3_1_0 := B3_1.cell 0 rfl
      have e3_1_0 := B3_1.free 0
      have d3_1_1 := B3_1.cell 1 rfl
      have e3_1_1 := B3_1.free 1
      have d3_1_2 := B3_1.cell 2 rfl
      have e3_1_2 := B3_1.free 2
      have d3_1_3 := B3_1.cell 3 rfl
      have e3_1_3 := B3_1.free 3
      have t3_2 := B3_2.lt
      have d3_2_0 := B3_2.cell 0 rfl
      have e3_2_0 := B3_2.free 0
      have d3_2_1 := B3_2.cell 1 rfl
      have e3_2_1 := B3_2.free 1
      have t3_3 := B3_3.lt
      have d3_3_0 := B3_3.cell 0 rfl
      have e3_3_0 := B3_3.free 0
      have d3_3_1 := B3_3.cell 1 rfl
      have e3_3_1 := B3_3.free 1
      have d3_3_2 := B3_3.cell 2 rfl
      have e3_3_2 := B3_3.free 2
      have d3_3_3 := B3_3.cell 3 rfl
      have e3_3_3 := B3_3.free 3
      have t3_4 := B3_4.lt
      have d3_4_0 := B3_4.cell 0 rfl
      have e3_4_0 := B3_4.free 0
      have d3_4_1 := B3_4.cell 1 rfl
      have e3_4_1 := B3_4.free 1
      have d3_4_2 := B3_4.cell 2 rfl
      have e3_4_2 := B3_4.free 2
      have d3_4_3 := B3_4.cell 3 rfl
      have e3_4_3 := B3_4.free 3
      go_wp2_with fail
      refine ((K5 _).out).mono ?_
      rintro e w4 ⟨rfl, G4⟩
      try (with_reducible replace G4 := Grew.undrawn G4)
      have B4_0 : Blk w4 (w.heap.size) 23 [.int .i64 x, .int .i64 y, .int .i64 z, .int .i64 h] := Blk.grew (by (repeat' (first | (with_reducible assumption) | ((with_reducible refine Blk.new ?_); (first | (with_reducible rfl) | (simp only [World.size_alloc, World.size_setCell, size_drewN]; done))) | (with_reducible refine Blk.alloc ?_ _) | (with_reducible refine Blk.drewN ?_ _) | (with_reducible refine Blk.drew ?_) | (refine Blk.other ?_ (by omega) _) | fail))) G4
      have B4_1 : Blk w4 (w.heap.size + 1) 23 [.int .i64 x', .int .i64 y', .int .i64 z', .int .i64 h'] := Blk.grew (by (repeat' (first | (with_reducible assumption) | ((with_reducible refine Blk.new ?_); (first | (with_reducible rfl) | (simp only [World.size_alloc, World.size_setCell, size_drewN]; done))) | (with_reducible refine Blk.alloc ?_ _) | (with_reducible refine Blk.drewN ?_ _) | (with_reducible refine Blk.drew ?_) | (refine Blk.other ?_ (by omega) _) | fail))) G4
      have B4_2 : Blk w4 (w.heap.size + 1 + 1) 25 [.int .i64 px, .int .i64 py] := Blk.grew (by (repeat' (first | (with_reducible assumption) | ((with_reducible refine Blk.new ?_); (first | (with_reducible rfl) | (simp only [World.size_alloc, World.size_setCell, size_drewN]; done))) | (with_reducible refine Blk.alloc ?_ _) | (with_reducible refine Blk.drewN ?_ _) | (with_reducible refine Blk.drew ?_) | (refine Blk.other ?_ (by omega) _) | fail))) G4
      have B4_3 : Blk w4 (b2_0) 23 [.int .i64 p1, .int .i64 p2, .int .i64 p3, .int .i64 p4] := Blk.grew (by (repeat' (first | (with_reducible assumption) | ((with_reducible refine Blk.new ?_); (first | (with_reducible rfl) | (simp only [World.size_alloc, World.size_setCell, size_drewN]; done))) | (with_reducible refine Blk.alloc ?_ _) | (with_reducible refine Blk.drewN ?_ _) | (with_reducible refine Blk.drew ?_) | (refine Blk.other ?_ (by omega) _) | fail))) G4
      have B4_4 : Blk w4 (b2_1) 23 [.int .i64 p5, .int .i64 p6, .int .i64 p7, .int .i64 p8] := Blk.grew (by (repeat' (first | (with_reducible assumption) | ((with_reducible refine Blk.new ?_); (first | (with_reducible rfl) | (simp only [World.size_alloc, World.size_setCell, size_drewN]; done))) | (with_reducible refine Blk.alloc ?_ _) | (with_reducible refine Blk.drewN ?_ _) | (with_reducible refine Blk.drew ?_) | (refine Blk.other ?_ (by omega) _) | fail))) G4
      have z4 := G4.size
      try simp only [World.size_alloc, World.size_setCell, size_drewN] at z4
      replace G4 := hide G4
      have t4_0 := B4_0.lt
      have d4_0_0 := B4_0.cell 0 rfl
      have e4_0_0 := B4_0.free 0
      have d4_0_1 := B4_0.cell 1 rfl
      have e4_0_1 := B4_0.free 1
      have d4_0_2 := B4_0.cell 2 rfl
      have e4_0_2 := B4_0.free 2
      have d4_0_3 := B4_0.cell 3 rfl
      have e4_0_3 := B4_0.free 3
      have t4_1 := B4_1.lt
      have d4_1_0 := B4_1.cell 0 rfl
      have e4_1_0 := B4_1.free 0
      have d4_1_1 := B4_1.cell 1 rfl
      have e4_1_1 := B4_1.free 1
      have d4_1_2 := B4_1.cell 2 rfl
      have e4_1_2 := B4_1.free 2
      have d4_1_3 := B4_1.cell 3 rfl
      have e4_1_3 := B4_1.free 3
      have t4_2 := B4_2.lt
      have d4_2_0 := B4_2.cell 0 rfl
      have e4_2_0 := B4_2.free 0
      have d4_2_1 := B4_2.cell 1 rfl
      have e4_2_1 := B4_2.free 1
      have t4_3 := B4_3.lt
      have d4_3_0 := B4_3.cell 0 rfl
      have e4_3_0 := B4_3.free 0
      have d4_3_1 := B4_3.cell 1 rfl
      have e4_3_1 := B4_3.free 1
      have d4_3_2 := B4_3.cell 2 rfl
      have e4_3_2 := B4_3.free 2
      have d4_3_3 := B4_3.cell 3 rfl
      have e4_3_3 := B4_3.free 3
      have t4_4 := B4_4.lt
      have d4_4_0 := B4_4.cell 0 rfl
      have e4_4_0 := B4_4.free 0
      have d4_4_1 := B4_4.cell 1 rfl
      have e4_4_1 := B4_4.free 1
      have d4_4_2 := B4_4.cell 2 rfl
      have e4_4_2 := B4_4.free 2
      have d4_4_3 := B4_4.cell 3 rfl
      have e4_4_3 := B4_4.free 3
      go_wp2_with fail
      refine ((VV _).out).mono ?_
      rintro e w5 ⟨rfl, G5⟩
      try (with_reducible replace G5 := Grew.undrawn G5)
      have B5_0 : Blk w5 (w.heap.size) 23 [.int .i64 x, .int .i64 y, .int .i64 z, .int .i64 h] := Blk.grew (by (repeat' (first | (with_reducible assumption) | ((with_reducible refine Blk.new ?_); (first | (with_reducible rfl) | (simp only [World.size_alloc, World.size_setCell, size_drewN]; done))) | (with_reducible refine Blk.alloc ?_ _) | (with_reducible refine Blk.drewN ?_ _) | (with_reducible refine Blk.drew ?_) | (refine Blk.other ?_ (by omega) _) | fail))) G5
      have B5_1 : Blk w5 (w.heap.size + 1) 23 [.int .i64 x', .int .i64 y', .int .i64 z', .int .i64 h'] := Blk.grew (by (repeat' (first | (with_reducible assumption) | ((with_reducible refine Blk.new ?_); (first | (with_reducible rfl) | (simp only [World.size_alloc, World.size_setCell, size_drewN]; done))) | (with_reducible refine Blk.alloc ?_ _) | (with_reducible refine Blk.drewN ?_ _) | (with_reducible refine Blk.drew ?_) | (refine Blk.other ?_ (by omega) _) | fail))) G5
      have B5_2 : Blk w5 (w.heap.size + 1 + 1) 25 [.int .i64 px, .int .i64 py] := Blk.grew (by (repeat' (first | (with_reducible assumption) | ((with_reducible refine Blk.new ?_); (first | (with_reducible rfl) | (simp only [World.size_alloc, World.size_setCell, size_drewN]; done))) | (with_reducible refine Blk.alloc ?_ _) | (with_reducible refine Blk.drewN ?_ _) | (with_reducible refine Blk.drew ?_) | (refine Blk.other ?_ (by omega) _) | fail))) G5
      have B5_3 : Blk w5 (b2_0) 23 [.int .i64 p1, .int .i64 p2, .int .i64 p3, .int .i64 p4] := Blk.grew (by (repeat' (first | (with_reducible assumption) | ((with_reducible refine Blk.new ?_); (first | (with_reducible rfl) | (simp only [World.size_alloc, World.size_setCell, size_drewN]; done))) | (with_reducible refine Blk.alloc ?_ _) | (with_reducible refine Blk.drewN ?_ _) | (with_reducible refine Blk.drew ?_) | (refine Blk.other ?_ (by omega) _) | fail))) G5
      have B5_4 : Blk w5 (b2_1) 23 [.int .i64 p5, .int .i64 p6, .int .i64 p7, .int .i64 p8] := Blk.grew (by (repeat' (first | (with_reducible assumption) | ((with_reducible refine Blk.new ?_); (first | (with_reducible rfl) | (simp only [World.size_alloc, World.size_setCell, size_drewN]; done))) | (with_reducible refine Blk.alloc ?_ _) | (with_reducible refine Blk.drewN ?_ _) | (with_reducible refine Blk.drew ?_) | (refine Blk.other ?_ (by omega) _) | fail))) G5
      have z5 := G5.size
      try simp only [World.size_alloc, World.size_setCell, size_drewN] at z5
      replace G5 := hide G5
      have t5_0 := B5_0.lt
      have d5_0_0 := B5_0.cell 0 rfl
      have e5_0_0 := B5_0.free 0
      have d5_0_1 := B5_0.cell 1 rfl
      have e5_0_1 := B5_0.free 1
      have d5_0_2 := B5_0.cell 2 rfl
      have e5_0_2 := B5_0.free 2
      have d5_0_3 := B5_0.cell 3 rfl
      have e5_0_3 := B5_0.free 3
      have t5_1 := B5_1.lt
      have d5_1_0 := B5_1.cell 0 rfl
      have e5_1_0 := B5_1.free 0
      have d5_1_1 := B5_1.cell 1 rfl
      have e5_1_1 := B5_1.free 1
      have d5_1_2 := B5_1.cell 2 rfl
      have e5_1_2 := B5_1.free 2
      have d5_1_3 := B5_1.cell 3 rfl
      have e5_1_3 := B5_1.free 3
      have t5_2 := B5_2.lt
      have d5_2_0 := B5_2.cell 0 rfl
      have e5_2_0 := B5_2.free 0
      have d5_2_1 := B5_2.cell 1 rfl
      have e5_2_1 := B5_2.free 1
      have t5_3 := B5_3.lt
      have d5_3_0 := B5_3.cell 0 rfl
      have e5_3_0 := B5_3.free 0
      have d5_3_1 := B5_3.cell 1 rfl
      have e5_3_1 := B5_3.free 1
      have d5_3_2 := B5_3.cell 2 rfl
      have e5_3_2 := B5_3.free 2
      have d5_3_3 := B5_3.cell 3 rfl
      have e5_3_3 := B5_3.free 3
      have t5_4 := B5_4.lt
      have d5_4_0 := B5_4.cell 0 rfl
      have e5_4_0 := B5_4.free 0
      have d5_4_1 := B5_4.cell 1 rfl
      have e5_4_1 := B5_4.free 1
      have d5_4_2 := B5_4.cell 2 rfl
      have e5_4_2 := B5_4.free 2
      have d5_4_3 := B5_4.cell 3 rfl
      have e5_4_3 := B5_4.free 3
      go_wp2_with fail
      refine ((K6 _).out).mono ?_
      rintro e w6 ⟨rfl, G6⟩
      try (with_reducible replace G6 := Grew.undrawn G6)
      have B6_0 : Blk w6 (w.heap.size) 23 [.int .i64 x, .int .i64 y, .int .i64 z, .int .i64 h] := Blk.grew (by (repeat' (first | (with_reducible assumption) | ((with_reducible refine Blk.new ?_); (first | (with_reducible rfl) | (simp only [World.size_alloc, World.size_setCell, size_drewN]; done))) | (with_reducible refine Blk.alloc ?_ _) | (with_reducible refine Blk.drewN ?_ _) | (with_reducible refine Blk.drew ?_) | (refine Blk.other ?_ (by omega) _) | fail))) G6
      have B6_1 : Blk w6 (w.heap.size + 1) 23 [.int .i64 x', .int .i64 y', .int .i64 z', .int .i64 h'] := Blk.grew (by (repeat' (first | (with_reducible assumption) | ((with_reducible refine Blk.new ?_); (first | (with_reducible rfl) | (simp only [World.size_alloc, World.size_setCell, size_drewN]; done))) | (with_reducible refine Blk.alloc ?_ _) | (with_reducible refine Blk.drewN ?_ _) | (with_reducible refine Blk.drew ?_) | (refine Blk.other ?_ (by omega) _) | fail))) G6
      have B6_2 : Blk w6 (w.heap.size + 1 + 1) 25 [.int .i64 px, .int .i64 py] := Blk.grew (by (repeat' (first | (with_reducible assumption) | ((with_reducible refine Blk.new ?_); (first | (with_reducible rfl) | (simp only [World.size_alloc, World.size_setCell, size_drewN]; done))) | (with_reducible refine Blk.alloc ?_ _) | (with_reducible refine Blk.drewN ?_ _) | (with_reducible refine Blk.drew ?_) | (refine Blk.other ?_ (by omega) _) | fail))) G6
      have B6_3 : Blk w6 (b2_0) 23 [.int .i64 p1, .int .i64 p2, .int .i64 p3, .int .i64 p4] := Blk.grew (by (repeat' (first | (with_reducible assumption) | ((with_reducible refine Blk.new ?_); (first | (with_reducible rfl) | (simp only [World.size_alloc, World.size_setCell, size_drewN]; done))) | (with_reducible refine Blk.alloc ?_ _) | (with_reducible refine Blk.drewN ?_ _) | (with_reducible refine Blk.drew ?_) | (refine Blk.other ?_ (by omega) _) | fail))) G6
      have B6_4 : Blk w6 (b2_1) 23 [.int .i64 p5, .int .i64 p6, .int .i64 p7, .int .i64 p8] := Blk.grew (by (repeat' (first | (with_reducible assumption) | ((with_reducible refine Blk.new ?_); (first | (with_reducible rfl) | (simp only [World.size_alloc, World.size_setCell, size_drewN]; done))) | (with_reducible refine Blk.alloc ?_ _) | (with_reducible refine Blk.drewN ?_ _) | (with_reducible refine Blk.drew ?_) | (refine Blk.other ?_ (by omega) _) | fail))) G6
      have z6 := G6.size
      try simp only [World.size_alloc, World.size_setCell, size_drewN] at z6
      replace G6 := hide G6
      have t6_0 := B6_0.lt
      have d6_0_0 := B6_0.cell 0 rfl
      have e6_0_0 := B6_0.free 0
      have d6_0_1 := B6_0.cell 1 rfl
      have e6_0_1 := B6_0.free 1
      have d6_0_2 := B6_0.cell 2 rfl
      have e6_0_2 := B6_0.free 2
      have d6_0_3 := B6_0.cell 3 rfl
      have e6_0_3 := B6_0.free 3
      have t6_1 := B6_1.lt
      have d6_1_0 := B6_1.cell 0 rfl
      have e6_1_0 := B6_1.free 0
      have d6_1_1 := B6_1.cell 1 rfl
      have e6_1_1 := B6_1.free 1
      have d6_1_2 := B6_1.cell 2 rfl
      have e6_1_2 := B6_1.free 2
      have d6_1_3 := B6_1.cell 3 rfl
      have e6_1_3 := B6_1.free 3
      have t6_2 := B6_2.lt
      have d6_2_0 := B6_2.cell 0 rfl
      have e6_2_0 := B6_2.free 0
      have d6_2_1 := B6_2.cell 1 rfl
      have e6_2_1 := B6_2.free 1
      have t6_3 := B6_3.lt
      have d6_3_0 := B6_3.cell 0 rfl
      have e6_3_0 := B6_3.free 0
      have d6_3_1 := B6_3.cell 1 rfl
      have e6_3_1 := B6_3.free 1
      have d6_3_2 := B6_3.cell 2 rfl
      have e6_3_2 := B6_3.free 2
      have d6_3_3 := B6_3.cell 3 rfl
      have e6_3_3 := B6_3.free 3
      have t6_4 := B6_4.lt
      have d6_4_0 := B6_4.cell 0 rfl
      have e6_4_0 := B6_4.free 0
      have d6_4_1 := B6_4.cell 1 rfl
      have e6_4_1 := B6_4.free 1
      have d6_4_2 := B6_4.cell 2 rfl
      have e6_4_2 := B6_4.free 2
      have d6_4_3 := B6_4.cell 3 rfl
      have e6_4_3 := B6_4.free 3
      go_wp2_with fail
      refine ((A1 _).out).mono ?_
      rintro e w7 ⟨rfl, G7⟩
      try (with_reducible replace G7 := Grew.undrawn G7)
      have B7_0 : Blk w7 (w.heap.size) 23 [.int .i64 x, .int .i64 y, .int .i64 z, .int .i64 h] := Blk.grew (by (repeat' (first | (with_reducible assumption) | ((with_reducible refine Blk.new ?_); (first | (with_reducible rfl) | (simp only [World.size_alloc, World.size_setCell, size_drewN]; done))) | (with_reducible refine Blk.alloc ?_ _) | (with_reducible refine Blk.drewN ?_ _) | (with_reducible refine Blk.drew ?_) | (refine Blk.other ?_ (by omega) _) | fail))) G7
      have B7_1 : Blk w7 (w.heap.size + 1) 23 [.int .i64 x', .int .i64 y', .int .i64 z', .int .i64 h'] := Blk.grew (by (repeat' (first | (with_reducible assumption) | ((with_reducible refine Blk.new ?_); (first | (with_reducible rfl) | (simp only [World.size_alloc, World.size_setCell, size_drewN]; done))) | (with_reducible refine Blk.alloc ?_ _) | (with_reducible refine Blk.drewN ?_ _) | (with_reducible refine Blk.drew ?_) | (refine Blk.other ?_ (by omega) _) | fail))) G7
      have B7_2 : Blk w7 (w.heap.size + 1 + 1) 25 [.int .i64 px, .int .i64 py] := Blk.grew (by (repeat' (first | (with_reducible assumption) | ((with_reducible refine Blk.new ?_); (first | (with_reducible rfl) | (simp only [World.size_alloc, World.size_setCell, size_drewN]; done))) | (with_reducible refine Blk.alloc ?_ _) | (with_reducible refine Blk.drewN ?_ _) | (with_reducible refine Blk.drew ?_) | (refine Blk.other ?_ (by omega) _) | fail))) G7
      have B7_3 : Blk w7 (b2_0) 23 [.int .i64 p1, .int .i64 p2, .int .i64 p3, .int .i64 p4] := Blk.grew (by (repeat' (first | (with_reducible assumption) | ((with_reducible refine Blk.new ?_); (first | (with_reducible rfl) | (simp only [World.size_alloc, World.size_setCell, size_drewN]; done))) | (with_reducible refine Blk.alloc ?_ _) | (with_reducible refine Blk.drewN ?_ _) | (with_reducible refine Blk.drew ?_) | (refine Blk.other ?_ (by omega) _) | fail))) G7
      have B7_4 : Blk w7 (b2_1) 23 [.int .i64 p5, .int .i64 p6, .int .i64 p7, .int .i64 p8] := Blk.grew (by (repeat' (first | (with_reducible assumption) | ((with_reducible refine Blk.new ?_); (first | (with_reducible rfl) | (simp only [World.size_alloc, World.size_setCell, size_drewN]; done))) | (with_reducible refine Blk.alloc ?_ _) | (with_reducible refine Blk.drewN ?_ _) | (with_reducible refine Blk.drew ?_) | (refine Blk.other ?_ (by omega) _) | fail))) G7
      have z7 := G7.size
      try simp only [World.size_alloc, World.size_setCell, size_drewN] at z7
      replace G7 := hide G7
      have t7_0 := B7_0.lt
      have d7_0_0 := B7_0.cell 0 rfl
      have e7_0_0 := B7_0.free 0
      have d7_0_1 := B7_0.cell 1 rfl
      have e7_0_1 := B7_0.free 1
      have d7_0_2 := B7_0.cell 2 rfl
      have e7_0_2 := B7_0.free 2
      have d7_0_3 := B7_0.cell 3 rfl
      have e7_0_3 := B7_0.free 3
      have t7_1 := B7_1.lt
      have d7_1_0 := B7_1.cell 0 rfl
      have e7_1_0 := B7_1.free 0
      have d7_1_1 := B7_1.cell 1 rfl
      have e7_1_1 := B7_1.free 1
      have d7_1_2 := B7_1.cell 2 rfl
      have e7_1_2 := B7_1.free 2
      have d7_1_3 := B7_1.cell 3 rfl
      have e7_1_3 := B7_1.free 3
      have t7_2 := B7_2.lt
      have d7_2_0 := B7_2.cell 0 rfl
      have e7_2_0 := B7_2.free 0
      have d7_2_1 := B7_2.cell 1 rfl
      have e7_2_1 := B7_2.free 1
      have t7_3 := B7_3.lt
      have d7_3_0 := B7_3.cell 0 rfl
      have e7_3_0 := B7_3.free 0
      have d7_3_1 := B7_3.cell 1 rfl
      have e7_3_1 := B7_3.free 1
      have d7_3_2 := B7_3.cell 2 rfl
      have e7_3_2 := B7_3.free 2
      have d7_3_3 := B7_3.cell 3 rfl
      have e7_3_3 := B7_3.free 3
      have t7_4 := B7_4.lt
      have d7_4_0 := B7_4.cell 0 rfl
      have e7_4_0 := B7_4.free 0
      have d7_4_1 := B7_4.cell 1 rfl
      have e7_4_1 := B7_4.free 1
      have d7_4_2 := B7_4.cell 2 rfl
      have e7_4_2 := B7_4.free 2
      have d7_4_3 := B7_4.cell 3 rfl
      have e7_4_3 := B7_4.free 3
      go_wp2
      go_ret
      refine ⟨rfl, Grew.below ?_⟩
      repeat' (first | (with_reducible exact Grew.refl _) | (with_reducible refine Grew.setCell ?_ ?_ _) | (with_reducible refine Grew.drewN ?_ _) | (with_reducible refine Grew.alloc ?_ _) | (with_reducible refine Grew.trans ?_ G7.out) | (with_reducible refine Grew.trans ?_ G6.out) | (with_reducible refine Grew.trans ?_ G5.out) | (with_reducible refine Grew.trans ?_ G4.out) | (with_reducible refine Grew.trans ?_ G3.out) | (with_reducible refine Grew.trans ?_ G2.out) | (with_reducible refine Grew.trans ?_ G1.out) | (dsimp only; omega))
  · have VV := V1 l1
    clear V1 V2 l1
    subst l2 l3 l4
    go_enter Try.func5, Try.ntmps5
    go_wp2_with fail
    refine name_world fun w1 h1 => ?_
    have G1 : Grew w w1 := by
      rw [h1]
      repeat' (first | (with_reducible exact Grew.refl _) | (with_reducible refine Grew.setCell ?_ ?_ _) | (with_reducible refine Grew.drewN ?_ _) | (with_reducible refine Grew.alloc ?_ _) | (with_reducible refine Grew.trans ?_ G1.out) | (dsimp only; omega))
    have B1_0 : Blk w1 (w.heap.size) 23 [.int .i64 x, .int .i64 y, .int .i64 z, .int .i64 h] := by (rw [h1]; repeat' (first | (with_reducible assumption) | ((with_reducible refine Blk.new ?_); (first | (with_reducible rfl) | (simp only [World.size_alloc, World.size_setCell, size_drewN]; done))) | (with_reducible refine Blk.alloc ?_ _) | (with_reducible refine Blk.drewN ?_ _) | (with_reducible refine Blk.drew ?_) | (refine Blk.other ?_ (by omega) _) | fail))
    have B1_1 : Blk w1 (w.heap.size + 1) 23 [.int .i64 x', .int .i64 y', .int .i64 z', .int .i64 h'] := by (rw [h1]; repeat' (first | (with_reducible assumption) | ((with_reducible refine Blk.new ?_); (first | (with_reducible rfl) | (simp only [World.size_alloc, World.size_setCell, size_drewN]; done))) | (with_reducible refine Blk.alloc ?_ _) | (with_reducible refine Blk.drewN ?_ _) | (with_reducible refine Blk.drew ?_) | (refine Blk.other ?_ (by omega) _) | fail))
    have B1_2 : Blk w1 (w.heap.size + 1 + 1) 25 [.int .i64 px, .int .i64 py] := by (rw [h1]; repeat' (first | (with_reducible assumption) | ((with_reducible refine Blk.new ?_); (first | (with_reducible rfl) | (simp only [World.size_alloc, World.size_setCell, size_drewN]; done))) | (with_reducible refine Blk.alloc ?_ _) | (with_reducible refine Blk.drewN ?_ _) | (with_reducible refine Blk.drew ?_) | (refine Blk.other ?_ (by omega) _) | fail))
    have z1 := G1.size
    replace G1 := hide G1
    clear h1
    have t1_0 := B1_0.lt
    have d1_0_0 := B1_0.cell 0 rfl
    have e1_0_0 := B1_0.free 0
    have d1_0_1 := B1_0.cell 1 rfl
    have e1_0_1 := B1_0.free 1
    have d1_0_2 := B1_0.cell 2 rfl
    have e1_0_2 := B1_0.free 2
    have d1_0_3 := B1_0.cell 3 rfl
    have e1_0_3 := B1_0.free 3
    have t1_1 := B1_1.lt
    have d1_1_0 := B1_1.cell 0 rfl
    have e1_1_0 := B1_1.free 0
    have d1_1_1 := B1_1.cell 1 rfl
    have e1_1_1 := B1_1.free 1
    have d1_1_2 := B1_1.cell 2 rfl
    have e1_1_2 := B1_1.free 2
    have d1_1_3 := B1_1.cell 3 rfl
    have e1_1_3 := B1_1.free 3
    have t1_2 := B1_2.lt
    have d1_2_0 := B1_2.cell 0 rfl
    have e1_2_0 := B1_2.free 0
    have d1_2_1 := B1_2.cell 1 rfl
    have e1_2_1 := B1_2.free 1
    have g1_0_0 := fun m os => (B1_0.grow m os).cell 0 rfl
    have g1_0_1 := fun m os => (B1_0.grow m os).cell 1 rfl
    have g1_0_2 := fun m os => (B1_0.grow m os).cell 2 rfl
    have g1_0_3 := fun m os => (B1_0.grow m os).cell 3 rfl
    have g1_1_0 := fun m os => (B1_1.grow m os).cell 0 rfl
    have g1_1_1 := fun m os => (B1_1.grow m os).cell 1 rfl
    have g1_1_2 := fun m os => (B1_1.grow m os).cell 2 rfl
    have g1_1_3 := fun m os => (B1_1.grow m os).cell 3 rfl
    have g1_2_0 := fun m os => (B1_2.grow m os).cell 0 rfl
    have g1_2_1 := fun m os => (B1_2.grow m os).cell 1 rfl
    refine wp_region_made [⟨6, 8, 7, 23, [.int .i64 0, .int .i64 0, .int .i64 0, .int .i64 0], [.int .i64 p1, .int .i64 p2, .int .i64 p3, .int .i64 p4]⟩, ⟨7, 9, 8, 23, [.int .i64 0, .int .i64 0, .int .i64 0, .int .i64 0], [.int .i64 p5, .int .i64 p6, .int .i64 p7, .int .i64 p8]⟩] (by kernel_rfl) (by kernel_rfl) (by simp [madeSlots]) ?_
    repeat (first | (refine lex_skip rfl (by rfl) ?_) | (refine lex_calm rfl (by rfl) (fun K hK => ?_); go_simp; first | (refine hK _ ?_; clear hK K) | (apply Exists.intro; refine ⟨fun _ _ => ?_, hK _ ?_⟩; (first | (with_reducible exact (K1 _).out) | (with_reducible exact (K2 _).out)); clear hK K)))
    refine lex_alloc (m := ⟨6, 8, 7, 23, [.int .i64 0, .int .i64 0, .int .i64 0, .int .i64 0], [.int .i64 p1, .int .i64 p2, .int .i64 p3, .int .i64 p4]⟩) (by kernel_rfl) (by simp) (by rfl) rfl ?_ ?_
    · intro ev w
      go_simp
    repeat (first | (refine lex_skip rfl (by rfl) ?_) | (refine lex_calm rfl (by rfl) (fun K hK => ?_); go_simp; first | (refine hK _ ?_; clear hK K) | (apply Exists.intro; refine ⟨fun _ _ => ?_, hK _ ?_⟩; (first | (with_reducible exact (K1 _).out) | (with_reducible exact (K2 _).out)); clear hK K)))
    refine lex_alloc (m := ⟨7, 9, 8, 23, [.int .i64 0, .int .i64 0, .int .i64 0, .int .i64 0], [.int .i64 p5, .int .i64 p6, .int .i64 p7, .int .i64 p8]⟩) (by kernel_rfl) (by simp) (by rfl) rfl ?_ ?_
    · intro ev w
      go_simp
    repeat (first | (refine lex_skip rfl (by rfl) ?_) | (refine lex_calm rfl (by rfl) (fun K hK => ?_); go_simp; first | (refine hK _ ?_; clear hK K) | (apply Exists.intro; refine ⟨fun _ _ => ?_, hK _ ?_⟩; (first | (with_reducible exact (K1 _).out) | (with_reducible exact (K2 _).out)); clear hK K)))
    refine lex_store (m := ⟨6, 8, 7, 23, [.int .i64 0, .int .i64 0, .int .i64 0, .int .i64 0], [.int .i64 p1, .int .i64 p2, .int .i64 p3, .int .i64 p4]⟩) (by kernel_rfl) (by simp) (by rfl) rfl ?_ ?_
    · intro vs w b hv hB
      have d0 := hB.cell 0 rfl
      have e0 := hB.free 0
      have d1 := hB.cell 1 rfl
      have e1 := hB.free 1
      have d2 := hB.cell 2 rfl
      have e2 := hB.free 2
      have d3 := hB.cell 3 rfl
      have e3 := hB.free 3
      simp only [] at hv
      simp [go_sem, evS, madeSlots, List.lookup, setAll, *]
    repeat (first | (refine lex_skip rfl (by rfl) ?_) | (refine lex_calm rfl (by rfl) (fun K hK => ?_); go_simp; first | (refine hK _ ?_; clear hK K) | (apply Exists.intro; refine ⟨fun _ _ => ?_, hK _ ?_⟩; (first | (with_reducible exact (K1 _).out) | (with_reducible exact (K2 _).out)); clear hK K)))
    refine lex_store (m := ⟨7, 9, 8, 23, [.int .i64 0, .int .i64 0, .int .i64 0, .int .i64 0], [.int .i64 p5, .int .i64 p6, .int .i64 p7, .int .i64 p8]⟩) (by kernel_rfl) (by simp) (by rfl) rfl ?_ ?_
    · intro vs w b hv hB
      have d0 := hB.cell 0 rfl
      have e0 := hB.free 0
      have d1 := hB.cell 1 rfl
      have e1 := hB.free 1
      have d2 := hB.cell 2 rfl
      have e2 := hB.free 2
      have d3 := hB.cell 3 rfl
      have e3 := hB.free 3
      simp only [] at hv
      simp [go_sem, evS, madeSlots, List.lookup, setAll, *]
    repeat (first | (refine lex_skip rfl (by rfl) ?_) | (refine lex_calm rfl (by rfl) (fun K hK => ?_); go_simp; first | (refine hK _ ?_; clear hK K) | (apply Exists.intro; refine ⟨fun _ _ => ?_, hK _ ?_⟩; (first | (with_reducible exact (K1 _).out) | (with_reducible exact (K2 _).out)); clear hK K)))
    refine lex_nil ?_
    rintro vs w2 ⟨G2, hb, hne⟩
    obtain ⟨b2_0, hv0, s2_0, K2_0⟩ := hb ⟨6, 8, 7, 23, [.int .i64 0, .int .i64 0, .int .i64 0, .int .i64 0], [.int .i64 p1, .int .i64 p2, .int .i64 p3, .int .i64 p4]⟩ (by simp) rfl
    obtain ⟨b2_1, hv1, s2_1, K2_1⟩ := hb ⟨7, 9, 8, 23, [.int .i64 0, .int .i64 0, .int .i64 0, .int .i64 0], [.int .i64 p5, .int .i64 p6, .int .i64 p7, .int .i64 p8]⟩ (by simp) rfl
    have hn2_0_1 : b2_0 ≠ b2_1 := fun e => hne ⟨6, 8, 7, 23, [.int .i64 0, .int .i64 0, .int .i64 0, .int .i64 0], [.int .i64 p1, .int .i64 p2, .int .i64 p3, .int .i64 p4]⟩ (by simp) ⟨7, 9, 8, 23, [.int .i64 0, .int .i64 0, .int .i64 0, .int .i64 0], [.int .i64 p5, .int .i64 p6, .int .i64 p7, .int .i64 p8]⟩ (by simp) (by show (6 : Nat) ≠ 7; decide) rfl rfl (hv0.trans (e ▸ hv1.symm))
    simp only [fillS, madeSlots, List.map_cons, List.map_nil, List.foldl_cons, List.foldl_nil, hv0, hv1]
    clear hb hne hv0 hv1 vs
    have B2_0 : Blk w2 (w.heap.size) 23 [.int .i64 x, .int .i64 y, .int .i64 z, .int .i64 h] := B1_0.grew G2
    have B2_1 : Blk w2 (w.heap.size + 1) 23 [.int .i64 x', .int .i64 y', .int .i64 z', .int .i64 h'] := B1_1.grew G2
    have B2_2 : Blk w2 (w.heap.size + 1 + 1) 25 [.int .i64 px, .int .i64 py] := B1_2.grew G2
    have B2_3 : Blk w2 b2_0 23 [.int .i64 p1, .int .i64 p2, .int .i64 p3, .int .i64 p4] := K2_0
    have B2_4 : Blk w2 b2_1 23 [.int .i64 p5, .int .i64 p6, .int .i64 p7, .int .i64 p8] := K2_1
    clear K2_0 K2_1
    have z2 := G2.size
    replace G2 := hide G2
    have t2_0 := B2_0.lt
    have d2_0_0 := B2_0.cell 0 rfl
    have e2_0_0 := B2_0.free 0
    have d2_0_1 := B2_0.cell 1 rfl
    have e2_0_1 := B2_0.free 1
    have d2_0_2 := B2_0.cell 2 rfl
    have e2_0_2 := B2_0.free 2
    have d2_0_3 := B2_0.cell 3 rfl
    have e2_0_3 := B2_0.free 3
    have t2_1 := B2_1.lt
    have d2_1_0 := B2_1.cell 0 rfl
    have e2_1_0 := B2_1.free 0
    have d2_1_1 := B2_1.cell 1 rfl
    have e2_1_1 := B2_1.free 1
    have d2_1_2 := B2_1.cell 2 rfl
    have e2_1_2 := B2_1.free 2
    have d2_1_3 := B2_1.cell 3 rfl
    have e2_1_3 := B2_1.free 3
    have t2_2 := B2_2.lt
    have d2_2_0 := B2_2.cell 0 rfl
    have e2_2_0 := B2_2.free 0
    have d2_2_1 := B2_2.cell 1 rfl
    have e2_2_1 := B2_2.free 1
    have t2_3 := B2_3.lt
    have d2_3_0 := B2_3.cell 0 rfl
    have e2_3_0 := B2_3.free 0
    have d2_3_1 := B2_3.cell 1 rfl
    have e2_3_1 := B2_3.free 1
    have d2_3_2 := B2_3.cell 2 rfl
    have e2_3_2 := B2_3.free 2
    have d2_3_3 := B2_3.cell 3 rfl
    have e2_3_3 := B2_3.free 3
    have t2_4 := B2_4.lt
    have d2_4_0 := B2_4.cell 0 rfl
    have e2_4_0 := B2_4.free 0
    have d2_4_1 := B2_4.cell 1 rfl
    have e2_4_1 := B2_4.free 1
    have d2_4_2 := B2_4.cell 2 rfl
    have e2_4_2 := B2_4.free 2
    have d2_4_3 := B2_4.cell 3 rfl
    have e2_4_3 := B2_4.free 3
    go_simp
    go_wp2_with fail
    have g2_0_0 := fun m os => (B2_0.grow m os).cell 0 rfl
    have g2_0_1 := fun m os => (B2_0.grow m os).cell 1 rfl
    have g2_0_2 := fun m os => (B2_0.grow m os).cell 2 rfl
    have g2_0_3 := fun m os => (B2_0.grow m os).cell 3 rfl
    have g2_1_0 := fun m os => (B2_1.grow m os).cell 0 rfl
    have g2_1_1 := fun m os => (B2_1.grow m os).cell 1 rfl
    have g2_1_2 := fun m os => (B2_1.grow m os).cell 2 rfl
    have g2_1_3 := fun m os => (B2_1.grow m os).cell 3 rfl
    have g2_2_0 := fun m os => (B2_2.grow m os).cell 0 rfl
    have g2_2_1 := fun m os => (B2_2.grow m os).cell 1 rfl
    have g2_3_0 := fun m os => (B2_3.grow m os).cell 0 rfl
    have g2_3_1 := fun m os => (B2_3.grow m os).cell 1 rfl
    have g2_3_2 := fun m os => (B2_3.grow m os).cell 2 rfl
    have g2_3_3 := fun m os => (B2_3.grow m os).cell 3 rfl
    have g2_4_0 := fun m os => (B2_4.grow m os).cell 0 rfl
    have g2_4_1 := fun m os => (B2_4.grow m os).cell 1 rfl
    have g2_4_2 := fun m os => (B2_4.grow m os).cell 2 rfl
    have g2_4_3 := fun m os => (B2_4.grow m os).cell 3 rfl
    refine wp_region_calm (by kernel_rfl) (by kernel_rfl) ?_
    repeat (first | (refine lex_skip rfl (by rfl) ?_) | (refine lex_calm rfl (by rfl) (fun K hK => ?_); go_simp; first | (refine hK _ ?_; clear hK K) | (apply Exists.intro; refine ⟨fun _ _ => ?_, hK _ ?_⟩; (first | (with_reducible exact (K3 _).out) | (with_reducible exact (K4 _).out)); clear hK K)))
    refine lex_nil ?_
    intro w3 G3
    have B3_0 : Blk w3 (w.heap.size) 23 [.int .i64 x, .int .i64 y, .int .i64 z, .int .i64 h] := B2_0.grew G3
    have B3_1 : Blk w3 (w.heap.size + 1) 23 [.int .i64 x', .int .i64 y', .int .i64 z', .int .i64 h'] := B2_1.grew G3
    have B3_2 : Blk w3 (w.heap.size + 1 + 1) 25 [.int .i64 px, .int .i64 py] := B2_2.grew G3
    have B3_3 : Blk w3 (b2_0) 23 [.int .i64 p1, .int .i64 p2, .int .i64 p3, .int .i64 p4] := B2_3.grew G3
    have B3_4 : Blk w3 (b2_1) 23 [.int .i64 p5, .int .i64 p6, .int .i64 p7, .int .i64 p8] := B2_4.grew G3
    have z3 := G3.size
    replace G3 := hide G3
    have t3_0 := B3_0.lt
    have d3_0_0 := B3_0.cell 0 rfl
    have e3_0_0 := B3_0.free 0
    have d3_0_1 := B3_0.cell 1 rfl
    have e3_0_1 := B3_0.free 1
    have d3_0_2 := B3_0.cell 2 rfl
    have e3_0_2 := B3_0.free 2
    have d3_0_3 := B3_0.cell 3 rfl
    have e3_0_3 := B3_0.free 3
    have t3_1 := B3_1.lt
    have d3_1_0 := B3_1.cell 0 rfl
    have e3_1_0 := B3_1.free 0
    have d3_1_1 := B3_1.cell 1 rfl
    have e3_1_1 := B3_1.free 1
    have d3_1_2 := B3_1.cell 2 rfl
    have e3_1_2 := B3_1.free 2
    have d3_1_3 := B3_1.cell 3 rfl
    have e3_1_3 := B3_1.free 3
    have t3_2 := B3_2.lt
    have d3_2_0 := B3_2.cell 0 rfl
    have e3_2_0 := B3_2.free 0
    have d3_2_1 := B3_2.cell 1 rfl
    have e3_2_1 := B3_2.free 1
    have t3_3 := B3_3.lt
    have d3_3_0 := B3_3.cell 0 rfl
    have e3_3_0 := B3_3.free 0
    have d3_3_1 := B3_3.cell 1 rfl
    have e3_3_1 := B3_3.free 1
    have d3_3_2 := B3_3.cell 2 rfl
    have e3_3_2 := B3_3.free 2
    have d3_3_3 := B3_3.cell 3 rfl
    have e3_3_3 := B3_3.free 3
    have t3_4 := B3_4.lt
    have d3_4_0 := B3_4.cell 0 rfl
    have e3_4_0 := B3_4.free 0
    have d3_4_1 := B3_4.cell 1 rfl
    have e3_4_1 := B3_4.free 1
    have d3_4_2 := B3_4.cell 2 rfl
    have e3_4_2 := B3_4.free 2
    have d3_4_3 := B3_4.cell 3 rfl
    have e3_4_3 := B3_4.free 3
    go_wp2_with fail
    refine ((K5 _).out).mono ?_
    rintro e w4 ⟨rfl, G4⟩
    try (with_reducible replace G4 := Grew.undrawn G4)
    have B4_0 : Blk w4 (w.heap.size) 23 [.int .i64 x, .int .i64 y, .int .i64 z, .int .i64 h] := Blk.grew (by (repeat' (first | (with_reducible assumption) | ((with_reducible refine Blk.new ?_); (first | (with_reducible rfl) | (simp only [World.size_alloc, World.size_setCell, size_drewN]; done))) | (with_reducible refine Blk.alloc ?_ _) | (with_reducible refine Blk.drewN ?_ _) | (with_reducible refine Blk.drew ?_) | (refine Blk.other ?_ (by omega) _) | fail))) G4
    have B4_1 : Blk w4 (w.heap.size + 1) 23 [.int .i64 x', .int .i64 y', .int .i64 z', .int .i64 h'] := Blk.grew (by (repeat' (first | (with_reducible assumption) | ((with_reducible refine Blk.new ?_); (first | (with_reducible rfl) | (simp only [World.size_alloc, World.size_setCell, size_drewN]; done))) | (with_reducible refine Blk.alloc ?_ _) | (with_reducible refine Blk.drewN ?_ _) | (with_reducible refine Blk.drew ?_) | (refine Blk.other ?_ (by omega) _) | fail))) G4
    have B4_2 : Blk w4 (w.heap.size + 1 + 1) 25 [.int .i64 px, .int .i64 py] := Blk.grew (by (repeat' (first | (with_reducible assumption) | ((with_reducible refine Blk.new ?_); (first | (with_reducible rfl) | (simp only [World.size_alloc, World.size_setCell, size_drewN]; done))) | (with_reducible refine Blk.alloc ?_ _) | (with_reducible refine Blk.drewN ?_ _) | (with_reducible refine Blk.drew ?_) | (refine Blk.other ?_ (by omega) _) | fail))) G4
    have B4_3 : Blk w4 (b2_0) 23 [.int .i64 p1, .int .i64 p2, .int .i64 p3, .int .i64 p4] := Blk.grew (by (repeat' (first | (with_reducible assumption) | ((with_reducible refine Blk.new ?_); (first | (with_reducible rfl) | (simp only [World.size_alloc, World.size_setCell, size_drewN]; done))) | (with_reducible refine Blk.alloc ?_ _) | (with_reducible refine Blk.drewN ?_ _) | (with_reducible refine Blk.drew ?_) | (refine Blk.other ?_ (by omega) _) | fail))) G4
    have B4_4 : Blk w4 (b2_1) 23 [.int .i64 p5, .int .i64 p6, .int .i64 p7, .int .i64 p8] := Blk.grew (by (repeat' (first | (with_reducible assumption) | ((with_reducible refine Blk.new ?_); (first | (with_reducible rfl) | (simp only [World.size_alloc, World.size_setCell, size_drewN]; done))) | (with_reducible refine Blk.alloc ?_ _) | (with_reducible refine Blk.drewN ?_ _) | (with_reducible refine Blk.drew ?_) | (refine Blk.other ?_ (by omega) _) | fail))) G4
    have z4 := G4.size
    try simp only [World.size_alloc, World.size_setCell, size_drewN] at z4
    replace G4 := hide G4
    have t4_0 := B4_0.lt
    have d4_0_0 := B4_0.cell 0 rfl
    have e4_0_0 := B4_0.free 0
    have d4_0_1 := B4_0.cell 1 rfl
    have e4_0_1 := B4_0.free 1
    have d4_0_2 := B4_0.cell 2 rfl
    have e4_0_2 := B4_0.free 2
    have d4_0_3 := B4_0.cell 3 rfl
    have e4_0_3 := B4_0.free 3
    have t4_1 := B4_1.lt
    have d4_1_0 := B4_1.cell 0 rfl
    have e4_1_0 := B4_1.free 0
    have d4_1_1 := B4_1.cell 1 rfl
    have e4_1_1 := B4_1.free 1
    have d4_1_2 := B4_1.cell 2 rfl
    have e4_1_2 := B4_1.free 2
    have d4_1_3 := B4_1.cell 3 rfl
    have e4_1_3 := B4_1.free 3
    have t4_2 := B4_2.lt
    have d4_2_0 := B4_2.cell 0 rfl
    have e4_2_0 := B4_2.free 0
    have d4_2_1 := B4_2.cell 1 rfl
    have e4_2_1 := B4_2.free 1
    have t4_3 := B4_3.lt
    have d4_3_0 := B4_3.cell 0 rfl
    have e4_3_0 := B4_3.free 0
    have d4_3_1 := B4_3.cell 1 rfl
    have e4_3_1 := B4_3.free 1
    have d4_3_2 := B4_3.cell 2 rfl
    have e4_3_2 := B4_3.free 2
    have d4_3_3 := B4_3.cell 3 rfl
    have e4_3_3 := B4_3.free 3
    have t4_4 := B4_4.lt
    have d4_4_0 := B4_4.cell 0 rfl
    have e4_4_0 := B4_4.free 0
    have d4_4_1 := B4_4.cell 1 rfl
    have e4_4_1 := B4_4.free 1
    have d4_4_2 := B4_4.cell 2 rfl
    have e4_4_2 := B4_4.free 2
    have d4_4_3 := B4_4.cell 3 rfl
    have e4_4_3 := B4_4.free 3
    go_wp2_with fail
    refine ((VV _).out).mono ?_
    rintro e w5 ⟨rfl, G5⟩
    try (with_reducible replace G5 := Grew.undrawn G5)
    have B5_0 : Blk w5 (w.heap.size) 23 [.int .i64 x, .int .i64 y, .int .i64 z, .int .i64 h] := Blk.grew (by (repeat' (first | (with_reducible assumption) | ((with_reducible refine Blk.new ?_); (first | (with_reducible rfl) | (simp only [World.size_alloc, World.size_setCell, size_drewN]; done))) | (with_reducible refine Blk.alloc ?_ _) | (with_reducible refine Blk.drewN ?_ _) | (with_reducible refine Blk.drew ?_) | (refine Blk.other ?_ (by omega) _) | fail))) G5
    have B5_1 : Blk w5 (w.heap.size + 1) 23 [.int .i64 x', .int .i64 y', .int .i64 z', .int .i64 h'] := Blk.grew (by (repeat' (first | (with_reducible assumption) | ((with_reducible refine Blk.new ?_); (first | (with_reducible rfl) | (simp only [World.size_alloc, World.size_setCell, size_drewN]; done))) | (with_reducible refine Blk.alloc ?_ _) | (with_reducible refine Blk.drewN ?_ _) | (with_reducible refine Blk.drew ?_) | (refine Blk.other ?_ (by omega) _) | fail))) G5
    have B5_2 : Blk w5 (w.heap.size + 1 + 1) 25 [.int .i64 px, .int .i64 py] := Blk.grew (by (repeat' (first | (with_reducible assumption) | ((with_reducible refine Blk.new ?_); (first | (with_reducible rfl) | (simp only [World.size_alloc, World.size_setCell, size_drewN]; done))) | (with_reducible refine Blk.alloc ?_ _) | (with_reducible refine Blk.drewN ?_ _) | (with_reducible refine Blk.drew ?_) | (refine Blk.other ?_ (by omega) _) | fail))) G5
    have B5_3 : Blk w5 (b2_0) 23 [.int .i64 p1, .int .i64 p2, .int .i64 p3, .int .i64 p4] := Blk.grew (by (repeat' (first | (with_reducible assumption) | ((with_reducible refine Blk.new ?_); (first | (with_reducible rfl) | (simp only [World.size_alloc, World.size_setCell, size_drewN]; done))) | (with_reducible refine Blk.alloc ?_ _) | (with_reducible refine Blk.drewN ?_ _) | (with_reducible refine Blk.drew ?_) | (refine Blk.other ?_ (by omega) _) | fail))) G5
    have B5_4 : Blk w5 (b2_1) 23 [.int .i64 p5, .int .i64 p6, .int .i64 p7, .int .i64 p8] := Blk.grew (by (repeat' (first | (with_reducible assumption) | ((with_reducible refine Blk.new ?_); (first | (with_reducible rfl) | (simp only [World.size_alloc, World.size_setCell, size_drewN]; done))) | (with_reducible refine Blk.alloc ?_ _) | (with_reducible refine Blk.drewN ?_ _) | (with_reducible refine Blk.drew ?_) | (refine Blk.other ?_ (by omega) _) | fail))) G5
    have z5 := G5.size
    try simp only [World.size_alloc, World.size_setCell, size_drewN] at z5
    replace G5 := hide G5
    have t5_0 := B5_0.lt
    have d5_0_0 := B5_0.cell 0 rfl
    have e5_0_0 := B5_0.free 0
    have d5_0_1 := B5_0.cell 1 rfl
    have e5_0_1 := B5_0.free 1
    have d5_0_2 := B5_0.cell 2 rfl
    have e5_0_2 := B5_0.free 2
    have d5_0_3 := B5_0.cell 3 rfl
    have e5_0_3 := B5_0.free 3
    have t5_1 := B5_1.lt
    have d5_1_0 := B5_1.cell 0 rfl
    have e5_1_0 := B5_1.free 0
    have d5_1_1 := B5_1.cell 1 rfl
    have e5_1_1 := B5_1.free 1
    have d5_1_2 := B5_1.cell 2 rfl
    have e5_1_2 := B5_1.free 2
    have d5_1_3 := B5_1.cell 3 rfl
    have e5_1_3 := B5_1.free 3
    have t5_2 := B5_2.lt
    have d5_2_0 := B5_2.cell 0 rfl
    have e5_2_0 := B5_2.free 0
    have d5_2_1 := B5_2.cell 1 rfl
    have e5_2_1 := B5_2.free 1
    have t5_3 := B5_3.lt
    have d5_3_0 := B5_3.cell 0 rfl
    have e5_3_0 := B5_3.free 0
    have d5_3_1 := B5_3.cell 1 rfl
    have e5_3_1 := B5_3.free 1
    have d5_3_2 := B5_3.cell 2 rfl
    have e5_3_2 := B5_3.free 2
    have d5_3_3 := B5_3.cell 3 rfl
    have e5_3_3 := B5_3.free 3
    have t5_4 := B5_4.lt
    have d5_4_0 := B5_4.cell 0 rfl
    have e5_4_0 := B5_4.free 0
    have d5_4_1 := B5_4.cell 1 rfl
    have e5_4_1 := B5_4.free 1
    have d5_4_2 := B5_4.cell 2 rfl
    have e5_4_2 := B5_4.free 2
    have d5_4_3 := B5_4.cell 3 rfl
    have e5_4_3 := B5_4.free 3
    go_wp2_with fail
    refine ((K6 _).out).mono ?_
    rintro e w6 ⟨rfl, G6⟩
    try (with_reducible replace G6 := Grew.undrawn G6)
    have B6_0 : Blk w6 (w.heap.size) 23 [.int .i64 x, .int .i64 y, .int .i64 z, .int .i64 h] := Blk.grew (by (repeat' (first | (with_reducible assumption) | ((with_reducible refine Blk.new ?_); (first | (with_reducible rfl) | (simp only [World.size_alloc, World.size_setCell, size_drewN]; done))) | (with_reducible refine Blk.alloc ?_ _) | (with_reducible refine Blk.drewN ?_ _) | (with_reducible refine Blk.drew ?_) | (refine Blk.other ?_ (by omega) _) | fail))) G6
    have B6_1 : Blk w6 (w.heap.size + 1) 23 [.int .i64 x', .int .i64 y', .int .i64 z', .int .i64 h'] := Blk.grew (by (repeat' (first | (with_reducible assumption) | ((with_reducible refine Blk.new ?_); (first | (with_reducible rfl) | (simp only [World.size_alloc, World.size_setCell, size_drewN]; done))) | (with_reducible refine Blk.alloc ?_ _) | (with_reducible refine Blk.drewN ?_ _) | (with_reducible refine Blk.drew ?_) | (refine Blk.other ?_ (by omega) _) | fail))) G6
    have B6_2 : Blk w6 (w.heap.size + 1 + 1) 25 [.int .i64 px, .int .i64 py] := Blk.grew (by (repeat' (first | (with_reducible assumption) | ((with_reducible refine Blk.new ?_); (first | (with_reducible rfl) | (simp only [World.size_alloc, World.size_setCell, size_drewN]; done))) | (with_reducible refine Blk.alloc ?_ _) | (with_reducible refine Blk.drewN ?_ _) | (with_reducible refine Blk.drew ?_) | (refine Blk.other ?_ (by omega) _) | fail))) G6
    have B6_3 : Blk w6 (b2_0) 23 [.int .i64 p1, .int .i64 p2, .int .i64 p3, .int .i64 p4] := Blk.grew (by (repeat' (first | (with_reducible assumption) | ((with_reducible refine Blk.new ?_); (first | (with_reducible rfl) | (simp only [World.size_alloc, World.size_setCell, size_drewN]; done))) | (with_reducible refine Blk.alloc ?_ _) | (with_reducible refine Blk.drewN ?_ _) | (with_reducible refine Blk.drew ?_) | (refine Blk.other ?_ (by omega) _) | fail))) G6
    have B6_4 : Blk w6 (b2_1) 23 [.int .i64 p5, .int .i64 p6, .int .i64 p7, .int .i64 p8] := Blk.grew (by (repeat' (first | (with_reducible assumption) | ((with_reducible refine Blk.new ?_); (first | (with_reducible rfl) | (simp only [World.size_alloc, World.size_setCell, size_drewN]; done))) | (with_reducible refine Blk.alloc ?_ _) | (with_reducible refine Blk.drewN ?_ _) | (with_reducible refine Blk.drew ?_) | (refine Blk.other ?_ (by omega) _) | fail))) G6
    have z6 := G6.size
    try simp only [World.size_alloc, World.size_setCell, size_drewN] at z6
    replace G6 := hide G6
    have t6_0 := B6_0.lt
    have d6_0_0 := B6_0.cell 0 rfl
    have e6_0_0 := B6_0.free 0
    have d6_0_1 := B6_0.cell 1 rfl
    have e6_0_1 := B6_0.free 1
    have d6_0_2 := B6_0.cell 2 rfl
    have e6_0_2 := B6_0.free 2
    have d6_0_3 := B6_0.cell 3 rfl
    have e6_0_3 := B6_0.free 3
    have t6_1 := B6_1.lt
    have d6_1_0 := B6_1.cell 0 rfl
    have e6_1_0 := B6_1.free 0
    have d6_1_1 := B6_1.cell 1 rfl
    have e6_1_1 := B6_1.free 1
    have d6_1_2 := B6_1.cell 2 rfl
    have e6_1_2 := B6_1.free 2
    have d6_1_3 := B6_1.cell 3 rfl
    have e6_1_3 := B6_1.free 3
    have t6_2 := B6_2.lt
    have d6_2_0 := B6_2.cell 0 rfl
    have e6_2_0 := B6_2.free 0
    have d6_2_1 := B6_2.cell 1 rfl
    have e6_2_1 := B6_2.free 1
    have t6_3 := B6_3.lt
    have d6_3_0 := B6_3.cell 0 rfl
    have e6_3_0 := B6_3.free 0
    have d6_3_1 := B6_3.cell 1 rfl
    have e6_3_1 := B6_3.free 1
    have d6_3_2 := B6_3.cell 2 rfl
    have e6_3_2 := B6_3.free 2
    have d6_3_3 := B6_3.cell 3 rfl
    have e6_3_3 := B6_3.free 3
    have t6_4 := B6_4.lt
    have d6_4_0 := B6_4.cell 0 rfl
    have e6_4_0 := B6_4.free 0
    have d6_4_1 := B6_4.cell 1 rfl
    have e6_4_1 := B6_4.free 1
    have d6_4_2 := B6_4.cell 2 rfl
    have e6_4_2 := B6_4.free 2
    have d6_4_3 := B6_4.cell 3 rfl
    have e6_4_3 := B6_4.free 3
    go_wp2_with fail
    refine ((A1 _).out).mono ?_
    rintro e w7 ⟨rfl, G7⟩
    try (with_reducible replace G7 := Grew.undrawn G7)
    have B7_0 : Blk w7 (w.heap.size) 23 [.int .i64 x, .int .i64 y, .int .i64 z, .int .i64 h] := Blk.grew (by (repeat' (first | (with_reducible assumption) | ((with_reducible refine Blk.new ?_); (first | (with_reducible rfl) | (simp only [World.size_alloc, World.size_setCell, size_drewN]; done))) | (with_reducible refine Blk.alloc ?_ _) | (with_reducible refine Blk.drewN ?_ _) | (with_reducible refine Blk.drew ?_) | (refine Blk.other ?_ (by omega) _) | fail))) G7
    have B7_1 : Blk w7 (w.heap.size + 1) 23 [.int .i64 x', .int .i64 y', .int .i64 z', .int .i64 h'] := Blk.grew (by (repeat' (first | (with_reducible assumption) | ((with_reducible refine Blk.new ?_); (first | (with_reducible rfl) | (simp only [World.size_alloc, World.size_setCell, size_drewN]; done))) | (with_reducible refine Blk.alloc ?_ _) | (with_reducible refine Blk.drewN ?_ _) | (with_reducible refine Blk.drew ?_) | (refine Blk.other ?_ (by omega) _) | fail))) G7
    have B7_2 : Blk w7 (w.heap.size + 1 + 1) 25 [.int .i64 px, .int .i64 py] := Blk.grew (by (repeat' (first | (with_reducible assumption) | ((with_reducible refine Blk.new ?_); (first | (with_reducible rfl) | (simp only [World.size_alloc, World.size_setCell, size_drewN]; done))) | (with_reducible refine Blk.alloc ?_ _) | (with_reducible refine Blk.drewN ?_ _) | (with_reducible refine Blk.drew ?_) | (refine Blk.other ?_ (by omega) _) | fail))) G7
    have B7_3 : Blk w7 (b2_0) 23 [.int .i64 p1, .int .i64 p2, .int .i64 p3, .int .i64 p4] := Blk.grew (by (repeat' (first | (with_reducible assumption) | ((with_reducible refine Blk.new ?_); (first | (with_reducible rfl) | (simp only [World.size_alloc, World.size_setCell, size_drewN]; done))) | (with_reducible refine Blk.alloc ?_ _) | (with_reducible refine Blk.drewN ?_ _) | (with_reducible refine Blk.drew ?_) | (refine Blk.other ?_ (by omega) _) | fail))) G7
    have B7_4 : Blk w7 (b2_1) 23 [.int .i64 p5, .int .i64 p6, .int .i64 p7, .int .i64 p8] := Blk.grew (by (repeat' (first | (with_reducible assumption) | ((with_reducible refine Blk.new ?_); (first | (with_reducible rfl) | (simp only [World.size_alloc, World.size_setCell, size_drewN]; done))) | (with_reducible refine Blk.alloc ?_ _) | (with_reducible refine Blk.drewN ?_ _) | (with_reducible refine Blk.drew ?_) | (refine Blk.other ?_ (by omega) _) | fail))) G7
    have z7 := G7.size
    try simp only [World.size_alloc, World.size_setCell, size_drewN] at z7
    replace G7 := hide G7
    have t7_0 := B7_0.lt
    have d7_0_0 := B7_0.cell 0 rfl
    have e7_0_0 := B7_0.free 0
    have d7_0_1 := B7_0.cell 1 rfl
    have e7_0_1 := B7_0.free 1
    have d7_0_2 := B7_0.cell 2 rfl
    have e7_0_2 := B7_0.free 2
    have d7_0_3 := B7_0.cell 3 rfl
    have e7_0_3 := B7_0.free 3
    have t7_1 := B7_1.lt
    have d7_1_0 := B7_1.cell 0 rfl
    have e7_1_0 := B7_1.free 0
    have d7_1_1 := B7_1.cell 1 rfl
    have e7_1_1 := B7_1.free 1
    have d7_1_2 := B7_1.cell 2 rfl
    have e7_1_2 := B7_1.free 2
    have d7_1_3 := B7_1.cell 3 rfl
    have e7_1_3 := B7_1.free 3
    have t7_2 := B7_2.lt
    have d7_2_0 := B7_2.cell 0 rfl
    have e7_2_0 := B7_2.free 0
    have d7_2_1 := B7_2.cell 1 rfl
    have e7_2_1 := B7_2.free 1
    have t7_3 := B7_3.lt
    have d7_3_0 := B7_3.cell 0 rfl
    have e7_3_0 := B7_3.free 0
    have d7_3_1 := B7_3.cell 1 rfl
    have e7_3_1 := B7_3.free 1
    have d7_3_2 := B7_3.cell 2 rfl
    have e7_3_2 := B7_3.free 2
    have d7_3_3 := B7_3.cell 3 rfl
    have e7_3_3 := B7_3.free 3
    have t7_4 := B7_4.lt
    have d7_4_0 := B7_4.cell 0 rfl
    have e7_4_0 := B7_4.free 0
    have d7_4_1 := B7_4.cell 1 rfl
    have e7_4_1 := B7_4.free 1
    have d7_4_2 := B7_4.cell 2 rfl
    have e7_4_2 := B7_4.free 2
    have d7_4_3 := B7_4.cell 3 rfl
    have e7_4_3 := B7_4.free 3
    go_wp2
    go_ret
    refine ⟨rfl, Grew.below ?_⟩
    repeat' (first | (with_reducible exact Grew.refl _) | (with_reducible refine Grew.setCell ?_ ?_ _) | (with_reducible refine Grew.drewN ?_ _) | (with_reducible refine Grew.alloc ?_ _) | (with_reducible refine Grew.trans ?_ G7.out) | (with_reducible refine Grew.trans ?_ G6.out) | (with_reducible refine Grew.trans ?_ G5.out) | (with_reducible refine Grew.trans ?_ G4.out) | (with_reducible refine Grew.trans ?_ G3.out) | (with_reducible refine Grew.trans ?_ G2.out) | (with_reducible refine Grew.trans ?_ G1.out) | (dsimp only; omega))

set_option maxRecDepth 100000 in
theorem lifted (os : Os) (started : os.Started) (H : Type) (enc : TypeId × Value → H) :
    ReturnsInHanded {} Try.checked os 5 .any (Rows.geometryPointsSpec.pre6 enc Try.prog Try.f5 Rows.geometryPointsRow.domain false) (Rows.geometryPointsSpec.post enc Try.prog Try.f5 false true false false) := by
  refine returnsInHanded_of_change (C := Try.checked) own_knob started (by kernel_rfl) Try.func5
    (ChangeSpec.witness6 (enc := enc) (C := Try.checked) false ⟨#[], #[.agg #[.int .i64 0, .int .i64 0, .int .i64 0, .int .i64 0], .agg #[.int .i64 0, .int .i64 0, .int .i64 0, .int .i64 0], .agg #[.int .i64 0, .int .i64 0]], []⟩ 8 (by kernel_rfl) (by kernel_rfl) (by kernel_rfl) (by kernel_rfl)) ?_
  intro W base args ds gs before hval0 hW hcnd _
  have hval : ∀ (j : Nat) t v, Try.f5.params[j]? = some t → args[j]? = some v → Value.okWide Try.prog W .any base t v := hval0
  have hW' := hW
  obtain ⟨p, q, hA0, hV, rfl, hfz, hnd⟩ := hW
  have hA : DataW.TrodAll enc Try.prog W 0 (fun _ => true) true Try.f5.params.toList args.toList ds p := hA0
  have hAk := hA
  rw [Try.params5] at hA hval
  obtain ⟨v0, vs0, d0, ds0, p0, q0, hargs, rfl, rfl, h0, r0⟩ := trodAll_cons hA
  obtain ⟨v1, vs1, d1, ds1, p1, q1, rfl, rfl, rfl, h1, r1⟩ := trodAll_cons r0
  obtain ⟨v2, vs2, d2, ds2, p2, q2, rfl, rfl, rfl, h2, r2⟩ := trodAll_cons r1
  obtain ⟨rfl, rfl, rfl⟩ := trodAll_nil r2
  obtain rfl : args = #[v0, v1, v2] := by cases args; simp_all
  obtain ⟨rfl, rfl⟩ := trodVars_none hV
  obtain ⟨a0, rfl⟩ := open_rect (hval 0 23 v0 rfl rfl) h0
  obtain ⟨a1, rfl⟩ := open_rect (hval 1 23 v1 rfl rfl) h1
  obtain ⟨a2, rfl⟩ := open_point (hval 2 25 v2 rfl rfl) h2
  clear hA0 hval0
  simp only [List.append_nil] at hW'
  refine (walk a0 a1 a2 W).mono fun e W' ⟨he, hg⟩ => ?_
  subst he
  have hargs' := kept_all hg _ _ _ _ (by rw [Try.params5]; intro t ht; simp only [List.mem_cons, List.not_mem_nil, or_false] at ht; (repeat' (rcases ht with rfl | ht)); all_goals first | (subst ht; exact ⟨by kernel_rfl, of_decide_eq_true (by kernel_rfl)⟩) | exact ⟨by kernel_rfl, of_decide_eq_true (by kernel_rfl)⟩) hAk (fun x hx => hW'.lt x (by simpa using hx))
  exact ⟨_, rfl, ⟨_, _, _, [], _, [], hW', trodAll_cons_mk (shut_bool Try.underlying4 _) trodAll_mk0, hargs', rfl, World.keptBut_mono (fun p hp => ⟨hp, Or.inr (by simpa using hp)⟩) (hg.frame _), fun h => by cases h⟩⟩

theorem over : Rows.geometryPointsRow.holds Try.pinned (OpenSpec.ofChange Rows.geometryPointsSpec) :=
  OpenClaim.holds_of_wide 5 Try.f5 rfl rfl rfl rfl rfl rfl rfl ⟨rfl, rfl, rfl, rfl, rfl⟩ rfl rfl rfl rfl rfl (by kernel_rfl) Try.func5 (by kernel_rfl)
    (of_decide_eq_true (by kernel_rfl)) (by unfold Func.isWrapper; first | (rw [if_pos (by decide +kernel)]; kernel_rfl) | (rw [if_neg (by decide +kernel)]; exact ⟨rfl, rfl⟩))
    (fun os started H enc _ => lifted os started H enc)

theorem proved : Rows.GeometryPointsSaid :=
  over
#print axioms proved
end Go.Proofs.Ythldilikkogaoaa.geometryPoints
