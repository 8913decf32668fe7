/- What Back of package geometry returns; no condition. -/
import Derived.Test.YthldilikkogaoaaGtB
namespace Go.Proofs.Ythldilikkogaoaa
open Go.RowKit Go.Sort
set_option linter.unusedSimpArgs false
set_option linter.unusedVariables false

/-- A quarter turn back k times, of the unit square at (x, y). -/
def bkx (k x y : Int) : Int := if k = 0 then x else if k = 1 then y else if k = 2 then -x - 1 else -y - 1
def bky (k x y : Int) : Int := if k = 0 then y else if k = 1 then -x - 1 else if k = 2 then -y - 1 else x
def bmir (m : Bool) (x : Int) : Int := if m then -x - 1 else x
structure Pt where
  x : Int
  y : Int
abbrev Pt.v (p : Pt) : Value := .agg #[.int .i64 p.x, .int .i64 p.y]
def T.back (t : T) (p : Pt) : Pt := if t.ok && reachB p.x && reachB p.y then
  ⟨bmir t.mirror (bkx t.turn ((p.x - t.dx) / t.scale) ((p.y - t.dy) / t.scale)), bky t.turn ((p.x - t.dx) / t.scale) ((p.y - t.dy) / t.scale)⟩ else ⟨0, 0⟩

theorem stepG (x s : Int) (W : World) (h1 : 1 ≤ s) (h2 : s ≤ 16) (h3 : -16777216 ≤ x) (h4 : x ≤ 16777216) :
    Calls Try.prog 43 #[.int .i64 x, .int .i64 s] W fun e w' => e = .returned (.int .i64 (x / s)) ∧ Grew W w' :=
  (stepOf_any x s W h1 h2 h3 h4).mono fun _ _ ⟨he, hw⟩ => ⟨he, hw ▸ Grew.refl _⟩

set_option maxHeartbeats 4000000 in
theorem Back_bad (t : T) (p : Pt) (w : World) (c : (t.ok && reachB p.x && reachB p.y) = false) :
    Calls Try.prog 31 #[t.v, p.v] w fun e w' => e = .returned (t.back p).v ∧ Grew w w' := by
  have H : Hid (t.back p = ⟨0, 0⟩) := if_neg (by rw [c]; simp)
  have hc : t.ok = false ∨ (t.ok = true ∧ reachB p.x = false) ∨ (t.ok = true ∧ reachB p.x = true ∧ reachB p.y = false) := by
    cases e1 : t.ok <;> cases e2 : reachB p.x <;> cases e3 : reachB p.y <;> simp [e1, e2, e3] at c ⊢
  clear c
  obtain ⟨k, m, s, dx, dy⟩ := t
  obtain ⟨x, y⟩ := p
  rcases hc with c1 | ⟨c1, c2⟩ | ⟨c1, c2, c3⟩
  · have V1 := fun W => hide (Check_bad ⟨k, m, s, dx, dy⟩ W c1)
    clear c1
    go_enter Try.func31, Try.ntmps31
    go_wp2_with fail
    refine ((V1 _).out).mono ?_
    rintro e w1 ⟨rfl, G1⟩
    try (with_reducible replace G1 := Grew.undrawn G1)
    obtain ⟨c1, f1⟩ := G1.cells
    have z1 := G1.size
    try simp only [World.size_alloc, World.size_setCell, size_drewN] at z1
    replace G1 := hide G1
    have l1_w_0 : w.heap.size < w1.heap.size := by omega
    have l1_w_1 : w.heap.size + 1 < w1.heap.size := by omega
    have l1_w_2 : w.heap.size + 1 + 1 < w1.heap.size := by omega
    go_wp2
    rw [H.out]
    refine bodyPost_ret (v := .agg #[.int .i64 0, .int .i64 0]) (by simp [results, Try.results31, go_sem, R.zero, T.zero, c1, l1_w_0, l1_w_1, l1_w_2]) rfl ⟨rfl, ?_⟩
    repeat' (first | (with_reducible exact Grew.refl _) | (with_reducible refine Grew.setCell ?_ ?_ _) | (with_reducible refine Grew.drewN ?_ _) | (with_reducible refine Grew.alloc ?_ _) | (with_reducible refine Grew.trans ?_ G1.out) | (dsimp only; omega))
  · have V1 := fun W => hide (Check_ok ⟨k, m, s, dx, dy⟩ W c1)
    clear c1
    simp only at c2
    go_enter Try.func31, Try.ntmps31
    go_wp2_with fail
    refine ((V1 _).out).mono ?_
    rintro e w1 ⟨rfl, G1⟩
    try (with_reducible replace G1 := Grew.undrawn G1)
    obtain ⟨c1, f1⟩ := G1.cells
    have z1 := G1.size
    try simp only [World.size_alloc, World.size_setCell, size_drewN] at z1
    replace G1 := hide G1
    have l1_w_0 : w.heap.size < w1.heap.size := by omega
    have l1_w_1 : w.heap.size + 1 < w1.heap.size := by omega
    have l1_w_2 : w.heap.size + 1 + 1 < w1.heap.size := by omega
    go_wp2_with fail
    refine (reachable_any _ _).mono ?_
    rintro e _ ⟨rfl, rfl⟩
    go_wp2
    rw [H.out]
    refine bodyPost_ret (v := .agg #[.int .i64 0, .int .i64 0]) (by simp [results, Try.results31, go_sem, R.zero, T.zero, c1, l1_w_0, l1_w_1, l1_w_2]) rfl ⟨rfl, ?_⟩
    repeat' (first | (with_reducible exact Grew.refl _) | (with_reducible refine Grew.setCell ?_ ?_ _) | (with_reducible refine Grew.drewN ?_ _) | (with_reducible refine Grew.alloc ?_ _) | (with_reducible refine Grew.trans ?_ G1.out) | (dsimp only; omega))
  · have V1 := fun W => hide (Check_ok ⟨k, m, s, dx, dy⟩ W c1)
    clear c1
    simp only at c2 c3
    go_enter Try.func31, Try.ntmps31
    go_wp2_with fail
    refine ((V1 _).out).mono ?_
    rintro e w1 ⟨rfl, G1⟩
    try (with_reducible replace G1 := Grew.undrawn G1)
    obtain ⟨c1, f1⟩ := G1.cells
    have z1 := G1.size
    try simp only [World.size_alloc, World.size_setCell, size_drewN] at z1
    replace G1 := hide G1
    have l1_w_0 : w.heap.size < w1.heap.size := by omega
    have l1_w_1 : w.heap.size + 1 < w1.heap.size := by omega
    have l1_w_2 : w.heap.size + 1 + 1 < w1.heap.size := by omega
    go_wp2_with fail
    refine (reachable_any _ _).mono ?_
    rintro e _ ⟨rfl, rfl⟩
    go_wp2_with fail
    refine (reachable_any _ _).mono ?_
    rintro e _ ⟨rfl, rfl⟩
    go_wp2
    rw [H.out]
    refine bodyPost_ret (v := .agg #[.int .i64 0, .int .i64 0]) (by simp [results, Try.results31, go_sem, R.zero, T.zero, c1, l1_w_0, l1_w_1, l1_w_2]) rfl ⟨rfl, ?_⟩
    repeat' (first | (with_reducible exact Grew.refl _) | (with_reducible refine Grew.setCell ?_ ?_ _) | (with_reducible refine Grew.drewN ?_ _) | (with_reducible refine Grew.alloc ?_ _) | (with_reducible refine Grew.trans ?_ G1.out) | (dsimp only; omega))

set_option maxHeartbeats 4000000 in
theorem Back_ok (t : T) (p : Pt) (w : World) (c1 : t.ok = true) (c2 : reachB p.x = true) (c3 : reachB p.y = true) :
    Calls Try.prog 31 #[t.v, p.v] w fun e w' => e = .returned (t.back p).v ∧ Grew w w' := by
  have H : Hid (t.back p = _) := if_pos (show (t.ok && reachB p.x && reachB p.y) = true by rw [c1, c2, c3]; rfl)
  have V1 := fun W => hide (Check_ok t W c1)
  obtain ⟨h1, ⟨s1, s2⟩, ⟨d1, d2⟩, d3, d4⟩ := T.bounds c1
  have e1 := inB_iff.1 c2
  have e2 := inB_iff.1 c3
  have S1 := fun W => hide (stepG (p.x - t.dx) t.scale W s1 s2 (by omega) (by omega))
  have S2 := fun W => hide (stepG (p.y - t.dy) t.scale W s1 s2 (by omega) (by omega))
  obtain ⟨q1, q2⟩ := div_bd (p.x - t.dx) t.scale s1 (by omega)
  obtain ⟨q3, q4⟩ := div_bd (p.y - t.dy) t.scale s1 (by omega)
  clear c1
  obtain ⟨k, m, s, dx, dy⟩ := t
  obtain ⟨x, y⟩ := p
  simp only at h1 s1 s2 d1 d2 d3 d4 e1 e2 S1 S2 q1 q2 q3 q4 c2 c3 H V1
  obtain ⟨e3, e4⟩ := e1
  obtain ⟨e5, e6⟩ := e2
  generalize (x - dx) / s = a at S1 q1 q2 H
  generalize (y - dy) / s = b at S2 q3 q4 H
  have u1 : IntKind.i64.wrap (x - dx) = x - dx := wr (by omega) (by omega)
  have u2 : IntKind.i64.wrap (y - dy) = y - dy := wr (by omega) (by omega)
  cases m <;> rcases four h1 with rfl | rfl | rfl | rfl
  · have H0 : Hid (T.back ⟨0, false, s, dx, dy⟩ ⟨x, y⟩ = ⟨a, b⟩) := by
      rw [Hid, H.out]; simp [bmir, bkx, bky]; try omega
    clear h1 H
    go_enter Try.func31, Try.ntmps31
    go_wp2_with fail
    refine ((V1 _).out).mono ?_
    rintro e w1 ⟨rfl, G1⟩
    try (with_reducible replace G1 := Grew.undrawn G1)
    have B1_0 : Blk w1 (w.heap.size) 39 [.int .i64 0, .bool false, .int .i64 s, .int .i64 dx, .int .i64 dy] := Blk.grew (by (repeat' (first | (with_reducible assumption) | ((with_reducible refine Blk.new ?_); (first | (with_reducible rfl) | (simp only [World.size_alloc, World.size_setCell, size_drewN]; done))) | (with_reducible refine Blk.alloc ?_ _) | (with_reducible refine Blk.drewN ?_ _) | (with_reducible refine Blk.drew ?_) | (refine Blk.other ?_ (by omega) _) | fail))) G1
    have B1_1 : Blk w1 (w.heap.size + 1) 25 [.int .i64 x, .int .i64 y] := Blk.grew (by (repeat' (first | (with_reducible assumption) | ((with_reducible refine Blk.new ?_); (first | (with_reducible rfl) | (simp only [World.size_alloc, World.size_setCell, size_drewN]; done))) | (with_reducible refine Blk.alloc ?_ _) | (with_reducible refine Blk.drewN ?_ _) | (with_reducible refine Blk.drew ?_) | (refine Blk.other ?_ (by omega) _) | fail))) G1
    have B1_2 : Blk w1 (w.heap.size + 1 + 1) 25 [.int .i64 0, .int .i64 0] := Blk.grew (by (repeat' (first | (with_reducible assumption) | ((with_reducible refine Blk.new ?_); (first | (with_reducible rfl) | (simp only [World.size_alloc, World.size_setCell, size_drewN]; done))) | (with_reducible refine Blk.alloc ?_ _) | (with_reducible refine Blk.drewN ?_ _) | (with_reducible refine Blk.drew ?_) | (refine Blk.other ?_ (by omega) _) | fail))) G1
    have z1 := G1.size
    try simp only [World.size_alloc, World.size_setCell, size_drewN] at z1
    replace G1 := hide G1
    have t1_0 := B1_0.lt
    have d1_0_0 := B1_0.cell 0 rfl
    have e1_0_0 := B1_0.free 0
    have d1_0_1 := B1_0.cell 1 rfl
    have e1_0_1 := B1_0.free 1
    have d1_0_2 := B1_0.cell 2 rfl
    have e1_0_2 := B1_0.free 2
    have d1_0_3 := B1_0.cell 3 rfl
    have e1_0_3 := B1_0.free 3
    have d1_0_4 := B1_0.cell 4 rfl
    have e1_0_4 := B1_0.free 4
    have t1_1 := B1_1.lt
    have d1_1_0 := B1_1.cell 0 rfl
    have e1_1_0 := B1_1.free 0
    have d1_1_1 := B1_1.cell 1 rfl
    have e1_1_1 := B1_1.free 1
    have t1_2 := B1_2.lt
    have d1_2_0 := B1_2.cell 0 rfl
    have e1_2_0 := B1_2.free 0
    have d1_2_1 := B1_2.cell 1 rfl
    have e1_2_1 := B1_2.free 1
    go_wp2_with fail
    refine (reachable_any _ _).mono ?_
    rintro e _ ⟨rfl, rfl⟩
    go_wp2_with fail
    refine (reachable_any _ _).mono ?_
    rintro e _ ⟨rfl, rfl⟩
    go_wp2_with fail
    have g1_0_0 := fun m os => (B1_0.grow m os).cell 0 rfl
    have g1_0_1 := fun m os => (B1_0.grow m os).cell 1 rfl
    have g1_0_2 := fun m os => (B1_0.grow m os).cell 2 rfl
    have g1_0_3 := fun m os => (B1_0.grow m os).cell 3 rfl
    have g1_0_4 := fun m os => (B1_0.grow m os).cell 4 rfl
    have g1_1_0 := fun m os => (B1_1.grow m os).cell 0 rfl
    have g1_1_1 := fun m os => (B1_1.grow m os).cell 1 rfl
    have g1_2_0 := fun m os => (B1_2.grow m os).cell 0 rfl
    have g1_2_1 := fun m os => (B1_2.grow m os).cell 1 rfl
    refine wp_region_made [⟨17, 18, 5, 25, [.int .i64 0, .int .i64 0], [.int .i64 a, .int .i64 b]⟩] (by kernel_rfl) (by kernel_rfl) (by simp [madeSlots]) ?_
    repeat (first | (refine lex_skip rfl (by rfl) ?_) | (refine lex_calm rfl (by rfl) (fun K hK => ?_); go_simp; first | (refine hK _ ?_; clear hK K) | (apply Exists.intro; refine ⟨fun _ _ => ?_, hK _ ?_⟩; (first | (with_reducible exact (S1 _).out) | (with_reducible exact (S2 _).out)); clear hK K)))
    refine lex_alloc (m := ⟨17, 18, 5, 25, [.int .i64 0, .int .i64 0], [.int .i64 a, .int .i64 b]⟩) (by kernel_rfl) (by simp) (by rfl) rfl ?_ ?_
    · intro ev w
      go_simp
    repeat (first | (refine lex_skip rfl (by rfl) ?_) | (refine lex_calm rfl (by rfl) (fun K hK => ?_); go_simp; first | (refine hK _ ?_; clear hK K) | (apply Exists.intro; refine ⟨fun _ _ => ?_, hK _ ?_⟩; (first | (with_reducible exact (S1 _).out) | (with_reducible exact (S2 _).out)); clear hK K)))
    refine lex_store (m := ⟨17, 18, 5, 25, [.int .i64 0, .int .i64 0], [.int .i64 a, .int .i64 b]⟩) (by kernel_rfl) (by simp) (by rfl) rfl ?_ ?_
    · intro vs w b hv hB
      have d0 := hB.cell 0 rfl
      have e0 := hB.free 0
      have d1 := hB.cell 1 rfl
      have e1 := hB.free 1
      simp only [] at hv
      simp [go_sem, evS, madeSlots, List.lookup, setAll, *]
    repeat (first | (refine lex_skip rfl (by rfl) ?_) | (refine lex_calm rfl (by rfl) (fun K hK => ?_); go_simp; first | (refine hK _ ?_; clear hK K) | (apply Exists.intro; refine ⟨fun _ _ => ?_, hK _ ?_⟩; (first | (with_reducible exact (S1 _).out) | (with_reducible exact (S2 _).out)); clear hK K)))
    refine lex_nil ?_
    rintro vs w2 ⟨G2, hb, hne⟩
    obtain ⟨b2_0, hv0, s2_0, K2_0⟩ := hb ⟨17, 18, 5, 25, [.int .i64 0, .int .i64 0], [.int .i64 a, .int .i64 b]⟩ (by simp) rfl
    simp only [fillS, madeSlots, List.map_cons, List.map_nil, List.foldl_cons, List.foldl_nil, hv0]
    clear hb hne hv0 vs
    have B2_0 : Blk w2 (w.heap.size) 39 [.int .i64 0, .bool false, .int .i64 s, .int .i64 dx, .int .i64 dy] := B1_0.grew G2
    have B2_1 : Blk w2 (w.heap.size + 1) 25 [.int .i64 x, .int .i64 y] := B1_1.grew G2
    have B2_2 : Blk w2 (w.heap.size + 1 + 1) 25 [.int .i64 0, .int .i64 0] := B1_2.grew G2
    have B2_3 : Blk w2 b2_0 25 [.int .i64 a, .int .i64 b] := K2_0
    clear K2_0
    have z2 := G2.size
    replace G2 := hide G2
    have t2_0 := B2_0.lt
    have d2_0_0 := B2_0.cell 0 rfl
    have e2_0_0 := B2_0.free 0
    have d2_0_1 := B2_0.cell 1 rfl
    have e2_0_1 := B2_0.free 1
    have d2_0_2 := B2_0.cell 2 rfl
    have e2_0_2 := B2_0.free 2
    have d2_0_3 := B2_0.cell 3 rfl
    have e2_0_3 := B2_0.free 3
    have d2_0_4 := B2_0.cell 4 rfl
    have e2_0_4 := B2_0.free 4
    have t2_1 := B2_1.lt
    have d2_1_0 := B2_1.cell 0 rfl
    have e2_1_0 := B2_1.free 0
    have d2_1_1 := B2_1.cell 1 rfl
    have e2_1_1 := B2_1.free 1
    have t2_2 := B2_2.lt
    have d2_2_0 := B2_2.cell 0 rfl
    have e2_2_0 := B2_2.free 0
    have d2_2_1 := B2_2.cell 1 rfl
    have e2_2_1 := B2_2.free 1
    have t2_3 := B2_3.lt
    have d2_3_0 := B2_3.cell 0 rfl
    have e2_3_0 := B2_3.free 0
    have d2_3_1 := B2_3.cell 1 rfl
    have e2_3_1 := B2_3.free 1
    go_simp
    go_wp2_with fail
    refine wp_loop_rounds 1 ?_
    rw [rounds_succ]
    go_wp2_with fail
    go_wp2
    rw [H0.out]
    refine bodyPost_ret (v := .agg #[.int .i64 (a), .int .i64 (b)]) (by simp [results, Try.results31, go_sem, R.zero, T.zero, d2_0_0, d2_0_1, d2_0_2, d2_0_3, d2_0_4, d2_1_0, d2_1_1, d2_2_0, d2_2_1, d2_3_0, d2_3_1, t2_0, t2_1, t2_2, t2_3]) rfl ⟨rfl, ?_⟩
    repeat' (first | (with_reducible exact Grew.refl _) | (with_reducible refine Grew.setCell ?_ ?_ _) | (with_reducible refine Grew.drewN ?_ _) | (with_reducible refine Grew.alloc ?_ _) | (with_reducible refine Grew.trans ?_ G2.out) | (with_reducible refine Grew.trans ?_ G1.out) | (dsimp only; omega))
  · have H0 : Hid (T.back ⟨1, false, s, dx, dy⟩ ⟨x, y⟩ = ⟨b, -a - 1⟩) := by
      rw [Hid, H.out]; simp [bmir, bkx, bky]; try omega
    clear h1 H
    go_enter Try.func31, Try.ntmps31
    go_wp2_with fail
    refine ((V1 _).out).mono ?_
    rintro e w1 ⟨rfl, G1⟩
    try (with_reducible replace G1 := Grew.undrawn G1)
    have B1_0 : Blk w1 (w.heap.size) 39 [.int .i64 1, .bool false, .int .i64 s, .int .i64 dx, .int .i64 dy] := Blk.grew (by (repeat' (first | (with_reducible assumption) | ((with_reducible refine Blk.new ?_); (first | (with_reducible rfl) | (simp only [World.size_alloc, World.size_setCell, size_drewN]; done))) | (with_reducible refine Blk.alloc ?_ _) | (with_reducible refine Blk.drewN ?_ _) | (with_reducible refine Blk.drew ?_) | (refine Blk.other ?_ (by omega) _) | fail))) G1
    have B1_1 : Blk w1 (w.heap.size + 1) 25 [.int .i64 x, .int .i64 y] := Blk.grew (by (repeat' (first | (with_reducible assumption) | ((with_reducible refine Blk.new ?_); (first | (with_reducible rfl) | (simp only [World.size_alloc, World.size_setCell, size_drewN]; done))) | (with_reducible refine Blk.alloc ?_ _) | (with_reducible refine Blk.drewN ?_ _) | (with_reducible refine Blk.drew ?_) | (refine Blk.other ?_ (by omega) _) | fail))) G1
    have B1_2 : Blk w1 (w.heap.size + 1 + 1) 25 [.int .i64 0, .int .i64 0] := Blk.grew (by (repeat' (first | (with_reducible assumption) | ((with_reducible refine Blk.new ?_); (first | (with_reducible rfl) | (simp only [World.size_alloc, World.size_setCell, size_drewN]; done))) | (with_reducible refine Blk.alloc ?_ _) | (with_reducible refine Blk.drewN ?_ _) | (with_reducible refine Blk.drew ?_) | (refine Blk.other ?_ (by omega) _) | fail))) G1
    have z1 := G1.size
    try simp only [World.size_alloc, World.size_setCell, size_drewN] at z1
    replace G1 := hide G1
    have t1_0 := B1_0.lt
    have d1_0_0 := B1_0.cell 0 rfl
    have e1_0_0 := B1_0.free 0
    have d1_0_1 := B1_0.cell 1 rfl
    have e1_0_1 := B1_0.free 1
    have d1_0_2 := B1_0.cell 2 rfl
    have e1_0_2 := B1_0.free 2
    have d1_0_3 := B1_0.cell 3 rfl
    have e1_0_3 := B1_0.free 3
    have d1_0_4 := B1_0.cell 4 rfl
    have e1_0_4 := B1_0.free 4
    have t1_1 := B1_1.lt
    have d1_1_0 := B1_1.cell 0 rfl
    have e1_1_0 := B1_1.free 0
    have d1_1_1 := B1_1.cell 1 rfl
    have e1_1_1 := B1_1.free 1
    have t1_2 := B1_2.lt
    have d1_2_0 := B1_2.cell 0 rfl
    have e1_2_0 := B1_2.free 0
    have d1_2_1 := B1_2.cell 1 rfl
    have e1_2_1 := B1_2.free 1
    go_wp2_with fail
    refine (reachable_any _ _).mono ?_
    rintro e _ ⟨rfl, rfl⟩
    go_wp2_with fail
    refine (reachable_any _ _).mono ?_
    rintro e _ ⟨rfl, rfl⟩
    go_wp2_with fail
    have g1_0_0 := fun m os => (B1_0.grow m os).cell 0 rfl
    have g1_0_1 := fun m os => (B1_0.grow m os).cell 1 rfl
    have g1_0_2 := fun m os => (B1_0.grow m os).cell 2 rfl
    have g1_0_3 := fun m os => (B1_0.grow m os).cell 3 rfl
    have g1_0_4 := fun m os => (B1_0.grow m os).cell 4 rfl
    have g1_1_0 := fun m os => (B1_1.grow m os).cell 0 rfl
    have g1_1_1 := fun m os => (B1_1.grow m os).cell 1 rfl
    have g1_2_0 := fun m os => (B1_2.grow m os).cell 0 rfl
    have g1_2_1 := fun m os => (B1_2.grow m os).cell 1 rfl
    refine wp_region_made [⟨17, 18, 5, 25, [.int .i64 0, .int .i64 0], [.int .i64 a, .int .i64 b]⟩] (by kernel_rfl) (by kernel_rfl) (by simp [madeSlots]) ?_
    repeat (first | (refine lex_skip rfl (by rfl) ?_) | (refine lex_calm rfl (by rfl) (fun K hK => ?_); go_simp; first | (refine hK _ ?_; clear hK K) | (apply Exists.intro; refine ⟨fun _ _ => ?_, hK _ ?_⟩; (first | (with_reducible exact (S1 _).out) | (with_reducible exact (S2 _).out)); clear hK K)))
    refine lex_alloc (m := ⟨17, 18, 5, 25, [.int .i64 0, .int .i64 0], [.int .i64 a, .int .i64 b]⟩) (by kernel_rfl) (by simp) (by rfl) rfl ?_ ?_
    · intro ev w
      go_simp
    repeat (first | (refine lex_skip rfl (by rfl) ?_) | (refine lex_calm rfl (by rfl) (fun K hK => ?_); go_simp; first | (refine hK _ ?_; clear hK K) | (apply Exists.intro; refine ⟨fun _ _ => ?_, hK _ ?_⟩; (first | (with_reducible exact (S1 _).out) | (with_reducible exact (S2 _).out)); clear hK K)))
    refine lex_store (m := ⟨17, 18, 5, 25, [.int .i64 0, .int .i64 0], [.int .i64 a, .int .i64 b]⟩) (by kernel_rfl) (by simp) (by rfl) rfl ?_ ?_
    · intro vs w b hv hB
      have d0 := hB.cell 0 rfl
      have e0 := hB.free 0
      have d1 := hB.cell 1 rfl
      have e1 := hB.free 1
      simp only [] at hv
      simp [go_sem, evS, madeSlots, List.lookup, setAll, *]
    repeat (first | (refine lex_skip rfl (by rfl) ?_) | (refine lex_calm rfl (by rfl) (fun K hK => ?_); go_simp; first | (refine hK _ ?_; clear hK K) | (apply Exists.intro; refine ⟨fun _ _ => ?_, hK _ ?_⟩; (first | (with_reducible exact (S1 _).out) | (with_reducible exact (S2 _).out)); clear hK K)))
    refine lex_nil ?_
    rintro vs w2 ⟨G2, hb, hne⟩
    obtain ⟨b2_0, hv0, s2_0, K2_0⟩ := hb ⟨17, 18, 5, 25, [.int .i64 0, .int .i64 0], [.int .i64 a, .int .i64 b]⟩ (by simp) rfl
    simp only [fillS, madeSlots, List.map_cons, List.map_nil, List.foldl_cons, List.foldl_nil, hv0]
    clear hb hne hv0 vs
    have B2_0 : Blk w2 (w.heap.size) 39 [.int .i64 1, .bool false, .int .i64 s, .int .i64 dx, .int .i64 dy] := B1_0.grew G2
    have B2_1 : Blk w2 (w.heap.size + 1) 25 [.int .i64 x, .int .i64 y] := B1_1.grew G2
    have B2_2 : Blk w2 (w.heap.size + 1 + 1) 25 [.int .i64 0, .int .i64 0] := B1_2.grew G2
    have B2_3 : Blk w2 b2_0 25 [.int .i64 a, .int .i64 b] := K2_0
    clear K2_0
    have z2 := G2.size
    replace G2 := hide G2
    have t2_0 := B2_0.lt
    have d2_0_0 := B2_0.cell 0 rfl
    have e2_0_0 := B2_0.free 0
    have d2_0_1 := B2_0.cell 1 rfl
    have e2_0_1 := B2_0.free 1
    have d2_0_2 := B2_0.cell 2 rfl
    have e2_0_2 := B2_0.free 2
    have d2_0_3 := B2_0.cell 3 rfl
    have e2_0_3 := B2_0.free 3
    have d2_0_4 := B2_0.cell 4 rfl
    have e2_0_4 := B2_0.free 4
    have t2_1 := B2_1.lt
    have d2_1_0 := B2_1.cell 0 rfl
    have e2_1_0 := B2_1.free 0
    have d2_1_1 := B2_1.cell 1 rfl
    have e2_1_1 := B2_1.free 1
    have t2_2 := B2_2.lt
    have d2_2_0 := B2_2.cell 0 rfl
    have e2_2_0 := B2_2.free 0
    have d2_2_1 := B2_2.cell 1 rfl
    have e2_2_1 := B2_2.free 1
    have t2_3 := B2_3.lt
    have d2_3_0 := B2_3.cell 0 rfl
    have e2_3_0 := B2_3.free 0
    have d2_3_1 := B2_3.cell 1 rfl
    have e2_3_1 := B2_3.free 1
    go_simp
    go_wp2_with fail
    refine wp_loop_rounds 2 ?_
    rw [rounds_succ]
    go_wp2_with fail
    generalize h3 : ((w2.setCell ⟨b2_0, 0, none⟩ (.int .i64 (b))).setCell ⟨b2_0, 1, none⟩ (.int .i64 (-a - 1))) = w3
    replace h3 := h3.symm
    have G3 : Grew w w3 := by
      rw [h3]
      repeat' (first | (with_reducible exact Grew.refl _) | (with_reducible refine Grew.setCell ?_ ?_ _) | (with_reducible refine Grew.drewN ?_ _) | (with_reducible refine Grew.alloc ?_ _) | (with_reducible refine Grew.trans ?_ G3.out) | (with_reducible refine Grew.trans ?_ G2.out) | (with_reducible refine Grew.trans ?_ G1.out) | (dsimp only; omega))
    have B3_0 : Blk w3 (w.heap.size) 39 [.int .i64 1, .bool false, .int .i64 s, .int .i64 dx, .int .i64 dy] := by (rw [h3]; repeat' (first | (with_reducible assumption) | ((with_reducible refine Blk.new ?_); (first | (with_reducible rfl) | (simp only [World.size_alloc, World.size_setCell, size_drewN]; done))) | (with_reducible refine Blk.alloc ?_ _) | (with_reducible refine Blk.drewN ?_ _) | (with_reducible refine Blk.drew ?_) | (refine Blk.other ?_ (by omega) _) | fail))
    have B3_1 : Blk w3 (w.heap.size + 1) 25 [.int .i64 x, .int .i64 y] := by (rw [h3]; repeat' (first | (with_reducible assumption) | ((with_reducible refine Blk.new ?_); (first | (with_reducible rfl) | (simp only [World.size_alloc, World.size_setCell, size_drewN]; done))) | (with_reducible refine Blk.alloc ?_ _) | (with_reducible refine Blk.drewN ?_ _) | (with_reducible refine Blk.drew ?_) | (refine Blk.other ?_ (by omega) _) | fail))
    have B3_2 : Blk w3 (w.heap.size + 1 + 1) 25 [.int .i64 0, .int .i64 0] := by (rw [h3]; repeat' (first | (with_reducible assumption) | ((with_reducible refine Blk.new ?_); (first | (with_reducible rfl) | (simp only [World.size_alloc, World.size_setCell, size_drewN]; done))) | (with_reducible refine Blk.alloc ?_ _) | (with_reducible refine Blk.drewN ?_ _) | (with_reducible refine Blk.drew ?_) | (refine Blk.other ?_ (by omega) _) | fail))
    have B3_3 : Blk w3 (b2_0) 25 [.int .i64 (b), .int .i64 (-a - 1)] := by (rw [h3]; (repeat' (first | (refine Blk.other ?_ (by omega) _) | fail)); refine Blk.set_as (vs := [.int .i64 (b), .int .i64 b]) ?_ 1 (.int .i64 (-a - 1)) (by rfl); refine Blk.set_as (vs := [.int .i64 a, .int .i64 b]) ?_ 0 (.int .i64 (b)) (by rfl); repeat' (first | (with_reducible assumption) | ((with_reducible refine Blk.new ?_); (first | (with_reducible rfl) | (simp only [World.size_alloc, World.size_setCell, size_drewN]; done))) | (with_reducible refine Blk.alloc ?_ _) | (with_reducible refine Blk.drewN ?_ _) | (with_reducible refine Blk.drew ?_) | (refine Blk.other ?_ (by omega) _) | fail))
    have z3 := G3.size
    replace G3 := hide G3
    clear h3
    have t3_0 := B3_0.lt
    have d3_0_0 := B3_0.cell 0 rfl
    have e3_0_0 := B3_0.free 0
    have d3_0_1 := B3_0.cell 1 rfl
    have e3_0_1 := B3_0.free 1
    have d3_0_2 := B3_0.cell 2 rfl
    have e3_0_2 := B3_0.free 2
    have d3_0_3 := B3_0.cell 3 rfl
    have e3_0_3 := B3_0.free 3
    have d3_0_4 := B3_0.cell 4 rfl
    have e3_0_4 := B3_0.free 4
    have t3_1 := B3_1.lt
    have d3_1_0 := B3_1.cell 0 rfl
    have e3_1_0 := B3_1.free 0
    have d3_1_1 := B3_1.cell 1 rfl
    have e3_1_1 := B3_1.free 1
    have t3_2 := B3_2.lt
    have d3_2_0 := B3_2.cell 0 rfl
    have e3_2_0 := B3_2.free 0
    have d3_2_1 := B3_2.cell 1 rfl
    have e3_2_1 := B3_2.free 1
    have t3_3 := B3_3.lt
    have d3_3_0 := B3_3.cell 0 rfl
    have e3_3_0 := B3_3.free 0
    have d3_3_1 := B3_3.cell 1 rfl
    have e3_3_1 := B3_3.free 1
    rw [rounds_succ]
    go_wp2_with fail
    go_wp2
    rw [H0.out]
    refine bodyPost_ret (v := .agg #[.int .i64 (b), .int .i64 (-a - 1)]) (by simp [results, Try.results31, go_sem, R.zero, T.zero, d3_0_0, d3_0_1, d3_0_2, d3_0_3, d3_0_4, d3_1_0, d3_1_1, d3_2_0, d3_2_1, d3_3_0, d3_3_1, t3_0, t3_1, t3_2, t3_3]) rfl ⟨rfl, ?_⟩
    repeat' (first | (with_reducible exact Grew.refl _) | (with_reducible refine Grew.setCell ?_ ?_ _) | (with_reducible refine Grew.drewN ?_ _) | (with_reducible refine Grew.alloc ?_ _) | (with_reducible refine Grew.trans ?_ G3.out) | (with_reducible refine Grew.trans ?_ G2.out) | (with_reducible refine Grew.trans ?_ G1.out) | (dsimp only; omega))
  · have H0 : Hid (T.back ⟨2, false, s, dx, dy⟩ ⟨x, y⟩ = ⟨-a - 1, -b - 1⟩) := by
      rw [Hid, H.out]; simp [bmir, bkx, bky]; try omega
    clear h1 H
    go_enter Try.func31, Try.ntmps31
    go_wp2_with fail
    refine ((V1 _).out).mono ?_
    rintro e w1 ⟨rfl, G1⟩
    try (with_reducible replace G1 := Grew.undrawn G1)
    have B1_0 : Blk w1 (w.heap.size) 39 [.int .i64 2, .bool false, .int .i64 s, .int .i64 dx, .int .i64 dy] := Blk.grew (by (repeat' (first | (with_reducible assumption) | ((with_reducible refine Blk.new ?_); (first | (with_reducible rfl) | (simp only [World.size_alloc, World.size_setCell, size_drewN]; done))) | (with_reducible refine Blk.alloc ?_ _) | (with_reducible refine Blk.drewN ?_ _) | (with_reducible refine Blk.drew ?_) | (refine Blk.other ?_ (by omega) _) | fail))) G1
    have B1_1 : Blk w1 (w.heap.size + 1) 25 [.int .i64 x, .int .i64 y] := Blk.grew (by (repeat' (first | (with_reducible assumption) | ((with_reducible refine Blk.new ?_); (first | (with_reducible rfl) | (simp only [World.size_alloc, World.size_setCell, size_drewN]; done))) | (with_reducible refine Blk.alloc ?_ _) | (with_reducible refine Blk.drewN ?_ _) | (with_reducible refine Blk.drew ?_) | (refine Blk.other ?_ (by omega) _) | fail))) G1
    have B1_2 : Blk w1 (w.heap.size + 1 + 1) 25 [.int .i64 0, .int .i64 0] := Blk.grew (by (repeat' (first | (with_reducible assumption) | ((with_reducible refine Blk.new ?_); (first | (with_reducible rfl) | (simp only [World.size_alloc, World.size_setCell, size_drewN]; done))) | (with_reducible refine Blk.alloc ?_ _) | (with_reducible refine Blk.drewN ?_ _) | (with_reducible refine Blk.drew ?_) | (refine Blk.other ?_ (by omega) _) | fail))) G1
    have z1 := G1.size
    try simp only [World.size_alloc, World.size_setCell, size_drewN] at z1
    replace G1 := hide G1
    have t1_0 := B1_0.lt
    have d1_0_0 := B1_0.cell 0 rfl
    have e1_0_0 := B1_0.free 0
    have d1_0_1 := B1_0.cell 1 rfl
    have e1_0_1 := B1_0.free 1
    have d1_0_2 := B1_0.cell 2 rfl
    have e1_0_2 := B1_0.free 2
    have d1_0_3 := B1_0.cell 3 rfl
    have e1_0_3 := B1_0.free 3
    have d1_0_4 := B1_0.cell 4 rfl
    have e1_0_4 := B1_0.free 4
    have t1_1 := B1_1.lt
    have d1_1_0 := B1_1.cell 0 rfl
    have e1_1_0 := B1_1.free 0
    have d1_1_1 := B1_1.cell 1 rfl
    have e1_1_1 := B1_1.free 1
    have t1_2 := B1_2.lt
    have d1_2_0 := B1_2.cell 0 rfl
    have e1_2_0 := B1_2.free 0
    have d1_2_1 := B1_2.cell 1 rfl
    have e1_2_1 := B1_2.free 1
    go_wp2_with fail
    refine (reachable_any _ _).mono ?_
    rintro e _ ⟨rfl, rfl⟩
    go_wp2_with fail
    refine (reachable_any _ _).mono ?_
    rintro e _ ⟨rfl, rfl⟩
    go_wp2_with fail
    have g1_0_0 := fun m os => (B1_0.grow m os).cell 0 rfl
    have g1_0_1 := fun m os => (B1_0.grow m os).cell 1 rfl
    have g1_0_2 := fun m os => (B1_0.grow m os).cell 2 rfl
    have g1_0_3 := fun m os => (B1_0.grow m os).cell 3 rfl
    have g1_0_4 := fun m os => (B1_0.grow m os).cell 4 rfl
    have g1_1_0 := fun m os => (B1_1.grow m os).cell 0 rfl
    have g1_1_1 := fun m os => (B1_1.grow m os).cell 1 rfl
    have g1_2_0 := fun m os => (B1_2.grow m os).cell 0 rfl
    have g1_2_1 := fun m os => (B1_2.grow m os).cell 1 rfl
    refine wp_region_made [⟨17, 18, 5, 25, [.int .i64 0, .int .i64 0], [.int .i64 a, .int .i64 b]⟩] (by kernel_rfl) (by kernel_rfl) (by simp [madeSlots]) ?_
    repeat (first | (refine lex_skip rfl (by rfl) ?_) | (refine lex_calm rfl (by rfl) (fun K hK => ?_); go_simp; first | (refine hK _ ?_; clear hK K) | (apply Exists.intro; refine ⟨fun _ _ => ?_, hK _ ?_⟩; (first | (with_reducible exact (S1 _).out) | (with_reducible exact (S2 _).out)); clear hK K)))
    refine lex_alloc (m := ⟨17, 18, 5, 25, [.int .i64 0, .int .i64 0], [.int .i64 a, .int .i64 b]⟩) (by kernel_rfl) (by simp) (by rfl) rfl ?_ ?_
    · intro ev w
      go_simp
    repeat (first | (refine lex_skip rfl (by rfl) ?_) | (refine lex_calm rfl (by rfl) (fun K hK => ?_); go_simp; first | (refine hK _ ?_; clear hK K) | (apply Exists.intro; refine ⟨fun _ _ => ?_, hK _ ?_⟩; (first | (with_reducible exact (S1 _).out) | (with_reducible exact (S2 _).out)); clear hK K)))
    refine lex_store (m := ⟨17, 18, 5, 25, [.int .i64 0, .int .i64 0], [.int .i64 a, .int .i64 b]⟩) (by kernel_rfl) (by simp) (by rfl) rfl ?_ ?_
    · intro vs w b hv hB
      have d0 := hB.cell 0 rfl
      have e0 := hB.free 0
      have d1 := hB.cell 1 rfl
      have e1 := hB.free 1
      simp only [] at hv
      simp [go_sem, evS, madeSlots, List.lookup, setAll, *]
    repeat (first | (refine lex_skip rfl (by rfl) ?_) | (refine lex_calm rfl (by rfl) (fun K hK => ?_); go_simp; first | (refine hK _ ?_; clear hK K) | (apply Exists.intro; refine ⟨fun _ _ => ?_, hK _ ?_⟩; (first | (with_reducible exact (S1 _).out) | (with_reducible exact (S2 _).out)); clear hK K)))
    refine lex_nil ?_
    rintro vs w2 ⟨G2, hb, hne⟩
    obtain ⟨b2_0, hv0, s2_0, K2_0⟩ := hb ⟨17, 18, 5, 25, [.int .i64 0, .int .i64 0], [.int .i64 a, .int .i64 b]⟩ (by simp) rfl
    simp only [fillS, madeSlots, List.map_cons, List.map_nil, List.foldl_cons, List.foldl_nil, hv0]
    clear hb hne hv0 vs
    have B2_0 : Blk w2 (w.heap.size) 39 [.int .i64 2, .bool false, .int .i64 s, .int .i64 dx, .int .i64 dy] := B1_0.grew G2
    have B2_1 : Blk w2 (w.heap.size + 1) 25 [.int .i64 x, .int .i64 y] := B1_1.grew G2
    have B2_2 : Blk w2 (w.heap.size + 1 + 1) 25 [.int .i64 0, .int .i64 0] := B1_2.grew G2
    have B2_3 : Blk w2 b2_0 25 [.int .i64 a, .int .i64 b] := K2_0
    clear K2_0
    have z2 := G2.size
    replace G2 := hide G2
    have t2_0 := B2_0.lt
    have d2_0_0 := B2_0.cell 0 rfl
    have e2_0_0 := B2_0.free 0
    have d2_0_1 := B2_0.cell 1 rfl
    have e2_0_1 := B2_0.free 1
    have d2_0_2 := B2_0.cell 2 rfl
    have e2_0_2 := B2_0.free 2
    have d2_0_3 := B2_0.cell 3 rfl
    have e2_0_3 := B2_0.free 3
    have d2_0_4 := B2_0.cell 4 rfl
    have e2_0_4 := B2_0.free 4
    have t2_1 := B2_1.lt
    have d2_1_0 := B2_1.cell 0 rfl
    have e2_1_0 := B2_1.free 0
    have d2_1_1 := B2_1.cell 1 rfl
    have e2_1_1 := B2_1.free 1
    have t2_2 := B2_2.lt
    have d2_2_0 := B2_2.cell 0 rfl
    have e2_2_0 := B2_2.free 0
    have d2_2_1 := B2_2.cell 1 rfl
    have e2_2_1 := B2_2.free 1
    have t2_3 := B2_3.lt
    have d2_3_0 := B2_3.cell 0 rfl
    have e2_3_0 := B2_3.free 0
    have d2_3_1 := B2_3.cell 1 rfl
    have e2_3_1 := B2_3.free 1
    go_simp
    go_wp2_with fail
    refine wp_loop_rounds 3 ?_
    rw [rounds_succ]
    go_wp2_with fail
    generalize h3 : ((w2.setCell ⟨b2_0, 0, none⟩ (.int .i64 (b))).setCell ⟨b2_0, 1, none⟩ (.int .i64 (-a - 1))) = w3
    replace h3 := h3.symm
    have G3 : Grew w w3 := by
      rw [h3]
      repeat' (first | (with_reducible exact Grew.refl _) | (with_reducible refine Grew.setCell ?_ ?_ _) | (with_reducible refine Grew.drewN ?_ _) | (with_reducible refine Grew.alloc ?_ _) | (with_reducible refine Grew.trans ?_ G3.out) | (with_reducible refine Grew.trans ?_ G2.out) | (with_reducible refine Grew.trans ?_ G1.out) | (dsimp only; omega))
    have B3_0 : Blk w3 (w.heap.size) 39 [.int .i64 2, .bool false, .int .i64 s, .int .i64 dx, .int .i64 dy] := by (rw [h3]; repeat' (first | (with_reducible assumption) | ((with_reducible refine Blk.new ?_); (first | (with_reducible rfl) | (simp only [World.size_alloc, World.size_setCell, size_drewN]; done))) | (with_reducible refine Blk.alloc ?_ _) | (with_reducible refine Blk.drewN ?_ _) | (with_reducible refine Blk.drew ?_) | (refine Blk.other ?_ (by omega) _) | fail))
    have B3_1 : Blk w3 (w.heap.size + 1) 25 [.int .i64 x, .int .i64 y] := by (rw [h3]; repeat' (first | (with_reducible assumption) | ((with_reducible refine Blk.new ?_); (first | (with_reducible rfl) | (simp only [World.size_alloc, World.size_setCell, size_drewN]; done))) | (with_reducible refine Blk.alloc ?_ _) | (with_reducible refine Blk.drewN ?_ _) | (with_reducible refine Blk.drew ?_) | (refine Blk.other ?_ (by omega) _) | fail))
    have B3_2 : Blk w3 (w.heap.size + 1 + 1) 25 [.int .i64 0, .int .i64 0] := by (rw [h3]; repeat' (first | (with_reducible assumption) | ((with_reducible refine Blk.new ?_); (first | (with_reducible rfl) | (simp only [World.size_alloc, World.size_setCell, size_drewN]; done))) | (with_reducible refine Blk.alloc ?_ _) | (with_reducible refine Blk.drewN ?_ _) | (with_reducible refine Blk.drew ?_) | (refine Blk.other ?_ (by omega) _) | fail))
    have B3_3 : Blk w3 (b2_0) 25 [.int .i64 (b), .int .i64 (-a - 1)] := by (rw [h3]; (repeat' (first | (refine Blk.other ?_ (by omega) _) | fail)); refine Blk.set_as (vs := [.int .i64 (b), .int .i64 b]) ?_ 1 (.int .i64 (-a - 1)) (by rfl); refine Blk.set_as (vs := [.int .i64 a, .int .i64 b]) ?_ 0 (.int .i64 (b)) (by rfl); repeat' (first | (with_reducible assumption) | ((with_reducible refine Blk.new ?_); (first | (with_reducible rfl) | (simp only [World.size_alloc, World.size_setCell, size_drewN]; done))) | (with_reducible refine Blk.alloc ?_ _) | (with_reducible refine Blk.drewN ?_ _) | (with_reducible refine Blk.drew ?_) | (refine Blk.other ?_ (by omega) _) | fail))
    have z3 := G3.size
    replace G3 := hide G3
    clear h3
    have t3_0 := B3_0.lt
    have d3_0_0 := B3_0.cell 0 rfl
    have e3_0_0 := B3_0.free 0
    have d3_0_1 := B3_0.cell 1 rfl
    have e3_0_1 := B3_0.free 1
    have d3_0_2 := B3_0.cell 2 rfl
    have e3_0_2 := B3_0.free 2
    have d3_0_3 := B3_0.cell 3 rfl
    have e3_0_3 := B3_0.free 3
    have d3_0_4 := B3_0.cell 4 rfl
    have e3_0_4 := B3_0.free 4
    have t3_1 := B3_1.lt
    have d3_1_0 := B3_1.cell 0 rfl
    have e3_1_0 := B3_1.free 0
    have d3_1_1 := B3_1.cell 1 rfl
    have e3_1_1 := B3_1.free 1
    have t3_2 := B3_2.lt
    have d3_2_0 := B3_2.cell 0 rfl
    have e3_2_0 := B3_2.free 0
    have d3_2_1 := B3_2.cell 1 rfl
    have e3_2_1 := B3_2.free 1
    have t3_3 := B3_3.lt
    have d3_3_0 := B3_3.cell 0 rfl
    have e3_3_0 := B3_3.free 0
    have d3_3_1 := B3_3.cell 1 rfl
    have e3_3_1 := B3_3.free 1
    rw [rounds_succ]
    go_wp2_with fail
    generalize h4 : ((w3.setCell ⟨b2_0, 0, none⟩ (.int .i64 (-a - 1))).setCell ⟨b2_0, 1, none⟩ (.int .i64 (-b - 1))) = w4
    replace h4 := h4.symm
    have G4 : Grew w w4 := by
      rw [h4]
      repeat' (first | (with_reducible exact Grew.refl _) | (with_reducible refine Grew.setCell ?_ ?_ _) | (with_reducible refine Grew.drewN ?_ _) | (with_reducible refine Grew.alloc ?_ _) | (with_reducible refine Grew.trans ?_ G4.out) | (with_reducible refine Grew.trans ?_ G3.out) | (with_reducible refine Grew.trans ?_ G2.out) | (with_reducible refine Grew.trans ?_ G1.out) | (dsimp only; omega))
    have B4_0 : Blk w4 (w.heap.size) 39 [.int .i64 2, .bool false, .int .i64 s, .int .i64 dx, .int .i64 dy] := by (rw [h4]; repeat' (first | (with_reducible assumption) | ((with_reducible refine Blk.new ?_); (first | (with_reducible rfl) | (simp only [World.size_alloc, World.size_setCell, size_drewN]; done))) | (with_reducible refine Blk.alloc ?_ _) | (with_reducible refine Blk.drewN ?_ _) | (with_reducible refine Blk.drew ?_) | (refine Blk.other ?_ (by omega) _) | fail))
    have B4_1 : Blk w4 (w.heap.size + 1) 25 [.int .i64 x, .int .i64 y] := by (rw [h4]; repeat' (first | (with_reducible assumption) | ((with_reducible refine Blk.new ?_); (first | (with_reducible rfl) | (simp only [World.size_alloc, World.size_setCell, size_drewN]; done))) | (with_reducible refine Blk.alloc ?_ _) | (with_reducible refine Blk.drewN ?_ _) | (with_reducible refine Blk.drew ?_) | (refine Blk.other ?_ (by omega) _) | fail))
    have B4_2 : Blk w4 (w.heap.size + 1 + 1) 25 [.int .i64 0, .int .i64 0] := by (rw [h4]; repeat' (first | (with_reducible assumption) | ((with_reducible refine Blk.new ?_); (first | (with_reducible rfl) | (simp only [World.size_alloc, World.size_setCell, size_drewN]; done))) | (with_reducible refine Blk.alloc ?_ _) | (with_reducible refine Blk.drewN ?_ _) | (with_reducible refine Blk.drew ?_) | (refine Blk.other ?_ (by omega) _) | fail))
    have B4_3 : Blk w4 (b2_0) 25 [.int .i64 (-a - 1), .int .i64 (-b - 1)] := by (rw [h4]; (repeat' (first | (refine Blk.other ?_ (by omega) _) | fail)); refine Blk.set_as (vs := [.int .i64 (-a - 1), .int .i64 (-a - 1)]) ?_ 1 (.int .i64 (-b - 1)) (by rfl); refine Blk.set_as (vs := [.int .i64 (b), .int .i64 (-a - 1)]) ?_ 0 (.int .i64 (-a - 1)) (by rfl); repeat' (first | (with_reducible assumption) | ((with_reducible refine Blk.new ?_); (first | (with_reducible rfl) | (simp only [World.size_alloc, World.size_setCell, size_drewN]; done))) | (with_reducible refine Blk.alloc ?_ _) | (with_reducible refine Blk.drewN ?_ _) | (with_reducible refine Blk.drew ?_) | (refine Blk.other ?_ (by omega) _) | fail))
    have z4 := G4.size
    replace G4 := hide G4
    clear h4
    have t4_0 := B4_0.lt
    have d4_0_0 := B4_0.cell 0 rfl
    have e4_0_0 := B4_0.free 0
    have d4_0_1 := B4_0.cell 1 rfl
    have e4_0_1 := B4_0.free 1
    have d4_0_2 := B4_0.cell 2 rfl
    have e4_0_2 := B4_0.free 2
    have d4_0_3 := B4_0.cell 3 rfl
    have e4_0_3 := B4_0.free 3
    have d4_0_4 := B4_0.cell 4 rfl
    have e4_0_4 := B4_0.free 4
    have t4_1 := B4_1.lt
    have d4_1_0 := B4_1.cell 0 rfl
    have e4_1_0 := B4_1.free 0
    have d4_1_1 := B4_1.cell 1 rfl
    have e4_1_1 := B4_1.free 1
    have t4_2 := B4_2.lt
    have d4_2_0 := B4_2.cell 0 rfl
    have e4_2_0 := B4_2.free 0
    have d4_2_1 := B4_2.cell 1 rfl
    have e4_2_1 := B4_2.free 1
    have t4_3 := B4_3.lt
    have d4_3_0 := B4_3.cell 0 rfl
    have e4_3_0 := B4_3.free 0
    have d4_3_1 := B4_3.cell 1 rfl
    have e4_3_1 := B4_3.free 1
    rw [rounds_succ]
    go_wp2_with fail
    go_wp2
    rw [H0.out]
    refine bodyPost_ret (v := .agg #[.int .i64 (-a - 1), .int .i64 (-b - 1)]) (by simp [results, Try.results31, go_sem, R.zero, T.zero, d4_0_0, d4_0_1, d4_0_2, d4_0_3, d4_0_4, d4_1_0, d4_1_1, d4_2_0, d4_2_1, d4_3_0, d4_3_1, t4_0, t4_1, t4_2, t4_3]) rfl ⟨rfl, ?_⟩
    repeat' (first | (with_reducible exact Grew.refl _) | (with_reducible refine Grew.setCell ?_ ?_ _) | (with_reducible refine Grew.drewN ?_ _) | (with_reducible refine Grew.alloc ?_ _) | (with_reducible refine Grew.trans ?_ G4.out) | (with_reducible refine Grew.trans ?_ G3.out) | (with_reducible refine Grew.trans ?_ G2.out) | (with_reducible refine Grew.trans ?_ G1.out) | (dsimp only; omega))
  · have H0 : Hid (T.back ⟨3, false, s, dx, dy⟩ ⟨x, y⟩ = ⟨-b - 1, -(-a - 1) - 1⟩) := by
      rw [Hid, H.out]; simp [bmir, bkx, bky]; try omega
    clear h1 H
    go_enter Try.func31, Try.ntmps31
    go_wp2_with fail
    refine ((V1 _).out).mono ?_
    rintro e w1 ⟨rfl, G1⟩
    try (with_reducible replace G1 := Grew.undrawn G1)
    have B1_0 : Blk w1 (w.heap.size) 39 [.int .i64 3, .bool false, .int .i64 s, .int .i64 dx, .int .i64 dy] := Blk.grew (by (repeat' (first | (with_reducible assumption) | ((with_reducible refine Blk.new ?_); (first | (with_reducible rfl) | (simp only [World.size_alloc, World.size_setCell, size_drewN]; done))) | (with_reducible refine Blk.alloc ?_ _) | (with_reducible refine Blk.drewN ?_ _) | (with_reducible refine Blk.drew ?_) | (refine Blk.other ?_ (by omega) _) | fail))) G1
    have B1_1 : Blk w1 (w.heap.size + 1) 25 [.int .i64 x, .int .i64 y] := Blk.grew (by (repeat' (first | (with_reducible assumption) | ((with_reducible refine Blk.new ?_); (first | (with_reducible rfl) | (simp only [World.size_alloc, World.size_setCell, size_drewN]; done))) | (with_reducible refine Blk.alloc ?_ _) | (with_reducible refine Blk.drewN ?_ _) | (with_reducible refine Blk.drew ?_) | (refine Blk.other ?_ (by omega) _) | fail))) G1
    have B1_2 : Blk w1 (w.heap.size + 1 + 1) 25 [.int .i64 0, .int .i64 0] := Blk.grew (by (repeat' (first | (with_reducible assumption) | ((with_reducible refine Blk.new ?_); (first | (with_reducible rfl) | (simp only [World.size_alloc, World.size_setCell, size_drewN]; done))) | (with_reducible refine Blk.alloc ?_ _) | (with_reducible refine Blk.drewN ?_ _) | (with_reducible refine Blk.drew ?_) | (refine Blk.other ?_ (by omega) _) | fail))) G1
    have z1 := G1.size
    try simp only [World.size_alloc, World.size_setCell, size_drewN] at z1
    replace G1 := hide G1
    have t1_0 := B1_0.lt
    have d1_0_0 := B1_0.cell 0 rfl
    have e1_0_0 := B1_0.free 0
    have d1_0_1 := B1_0.cell 1 rfl
    have e1_0_1 := B1_0.free 1
    have d1_0_2 := B1_0.cell 2 rfl
    have e1_0_2 := B1_0.free 2
    have d1_0_3 := B1_0.cell 3 rfl
    have e1_0_3 := B1_0.free 3
    have d1_0_4 := B1_0.cell 4 rfl
    have e1_0_4 := B1_0.free 4
    have t1_1 := B1_1.lt
    have d1_1_0 := B1_1.cell 0 rfl
    have e1_1_0 := B1_1.free 0
    have d1_1_1 := B1_1.cell 1 rfl
    have e1_1_1 := B1_1.free 1
    have t1_2 := B1_2.lt
    have d1_2_0 := B1_2.cell 0 rfl
    have e1_2_0 := B1_2.free 0
    have d1_2_1 := B1_2.cell 1 rfl
    have e1_2_1 := B1_2.free 1
    go_wp2_with fail
    refine (reachable_any _ _).mono ?_
    rintro e _ ⟨rfl, rfl⟩
    go_wp2_with fail
    refine (reachable_any _ _).mono ?_
    rintro e _ ⟨rfl, rfl⟩
    go_wp2_with fail
    have g1_0_0 := fun m os => (B1_0.grow m os).cell 0 rfl
    have g1_0_1 := fun m os => (B1_0.grow m os).cell 1 rfl
    have g1_0_2 := fun m os => (B1_0.grow m os).cell 2 rfl
    have g1_0_3 := fun m os => (B1_0.grow m os).cell 3 rfl
    have g1_0_4 := fun m os => (B1_0.grow m os).cell 4 rfl
    have g1_1_0 := fun m os => (B1_1.grow m os).cell 0 rfl
    have g1_1_1 := fun m os => (B1_1.grow m os).cell 1 rfl
    have g1_2_0 := fun m os => (B1_2.grow m os).cell 0 rfl
    have g1_2_1 := fun m os => (B1_2.grow m os).cell 1 rfl
    refine wp_region_made [⟨17, 18, 5, 25, [.int .i64 0, .int .i64 0], [.int .i64 a, .int .i64 b]⟩] (by kernel_rfl) (by kernel_rfl) (by simp [madeSlots]) ?_
    repeat (first | (refine lex_skip rfl (by rfl) ?_) | (refine lex_calm rfl (by rfl) (fun K hK => ?_); go_simp; first | (refine hK _ ?_; clear hK K) | (apply Exists.intro; refine ⟨fun _ _ => ?_, hK _ ?_⟩; (first | (with_reducible exact (S1 _).out) | (with_reducible exact (S2 _).out)); clear hK K)))
    refine lex_alloc (m := ⟨17, 18, 5, 25, [.int .i64 0, .int .i64 0], [.int .i64 a, .int .i64 b]⟩) (by kernel_rfl) (by simp) (by rfl) rfl ?_ ?_
    · intro ev w
      go_simp
    repeat (first | (refine lex_skip rfl (by rfl) ?_) | (refine lex_calm rfl (by rfl) (fun K hK => ?_); go_simp; first | (refine hK _ ?_; clear hK K) | (apply Exists.intro; refine ⟨fun _ _ => ?_, hK _ ?_⟩; (first | (with_reducible exact (S1 _).out) | (with_reducible exact (S2 _).out)); clear hK K)))
    refine lex_store (m := ⟨17, 18, 5, 25, [.int .i64 0, .int .i64 0], [.int .i64 a, .int .i64 b]⟩) (by kernel_rfl) (by simp) (by rfl) rfl ?_ ?_
    · intro vs w b hv hB
      have d0 := hB.cell 0 rfl
      have e0 := hB.free 0
      have d1 := hB.cell 1 rfl
      have e1 := hB.free 1
      simp only [] at hv
      simp [go_sem, evS, madeSlots, List.lookup, setAll, *]
    repeat (first | (refine lex_skip rfl (by rfl) ?_) | (refine lex_calm rfl (by rfl) (fun K hK => ?_); go_simp; first | (refine hK _ ?_; clear hK K) | (apply Exists.intro; refine ⟨fun _ _ => ?_, hK _ ?_⟩; (first | (with_reducible exact (S1 _).out) | (with_reducible exact (S2 _).out)); clear hK K)))
    refine lex_nil ?_
    rintro vs w2 ⟨G2, hb, hne⟩
    obtain ⟨b2_0, hv0, s2_0, K2_0⟩ := hb ⟨17, 18, 5, 25, [.int .i64 0, .int .i64 0], [.int .i64 a, .int .i64 b]⟩ (by simp) rfl
    simp only [fillS, madeSlots, List.map_cons, List.map_nil, List.foldl_cons, List.foldl_nil, hv0]
    clear hb hne hv0 vs
    have B2_0 : Blk w2 (w.heap.size) 39 [.int .i64 3, .bool false, .int .i64 s, .int .i64 dx, .int .i64 dy] := B1_0.grew G2
    have B2_1 : Blk w2 (w.heap.size + 1) 25 [.int .i64 x, .int .i64 y] := B1_1.grew G2
    have B2_2 : Blk w2 (w.heap.size + 1 + 1) 25 [.int .i64 0, .int .i64 0] := B1_2.grew G2
    have B2_3 : Blk w2 b2_0 25 [.int .i64 a, .int .i64 b] := K2_0
    clear K2_0
    have z2 := G2.size
    replace G2 := hide G2
    have t2_0 := B2_0.lt
    have d2_0_0 := B2_0.cell 0 rfl
    have e2_0_0 := B2_0.free 0
    have d2_0_1 := B2_0.cell 1 rfl
    have e2_0_1 := B2_0.free 1
    have d2_0_2 := B2_0.cell 2 rfl
    have e2_0_2 := B2_0.free 2
    have d2_0_3 := B2_0.cell 3 rfl
    have e2_0_3 := B2_0.free 3
    have d2_0_4 := B2_0.cell 4 rfl
    have e2_0_4 := B2_0.free 4
    have t2_1 := B2_1.lt
    have d2_1_0 := B2_1.cell 0 rfl
    have e2_1_0 := B2_1.free 0
    have d2_1_1 := B2_1.cell 1 rfl
    have e2_1_1 := B2_1.free 1
    have t2_2 := B2_2.lt
    have d2_2_0 := B2_2.cell 0 rfl
    have e2_2_0 := B2_2.free 0
    have d2_2_1 := B2_2.cell 1 rfl
    have e2_2_1 := B2_2.free 1
    have t2_3 := B2_3.lt
    have d2_3_0 := B2_3.cell 0 rfl
    have e2_3_0 := B2_3.free 0
    have d2_3_1 := B2_3.cell 1 rfl
    have e2_3_1 := B2_3.free 1
    go_simp
    go_wp2_with fail
    refine wp_loop_rounds 4 ?_
    rw [rounds_succ]
    go_wp2_with fail
    generalize h3 : ((w2.setCell ⟨b2_0, 0, none⟩ (.int .i64 (b))).setCell ⟨b2_0, 1, none⟩ (.int .i64 (-a - 1))) = w3
    replace h3 := h3.symm
    have G3 : Grew w w3 := by
      rw [h3]
      repeat' (first | (with_reducible exact Grew.refl _) | (with_reducible refine Grew.setCell ?_ ?_ _) | (with_reducible refine Grew.drewN ?_ _) | (with_reducible refine Grew.alloc ?_ _) | (with_reducible refine Grew.trans ?_ G3.out) | (with_reducible refine Grew.trans ?_ G2.out) | (with_reducible refine Grew.trans ?_ G1.out) | (dsimp only; omega))
    have B3_0 : Blk w3 (w.heap.size) 39 [.int .i64 3, .bool false, .int .i64 s, .int .i64 dx, .int .i64 dy] := by (rw [h3]; repeat' (first | (with_reducible assumption) | ((with_reducible refine Blk.new ?_); (first | (with_reducible rfl) | (simp only [World.size_alloc, World.size_setCell, size_drewN]; done))) | (with_reducible refine Blk.alloc ?_ _) | (with_reducible refine Blk.drewN ?_ _) | (with_reducible refine Blk.drew ?_) | (refine Blk.other ?_ (by omega) _) | fail))
    have B3_1 : Blk w3 (w.heap.size + 1) 25 [.int .i64 x, .int .i64 y] := by (rw [h3]; repeat' (first | (with_reducible assumption) | ((with_reducible refine Blk.new ?_); (first | (with_reducible rfl) | (simp only [World.size_alloc, World.size_setCell, size_drewN]; done))) | (with_reducible refine Blk.alloc ?_ _) | (with_reducible refine Blk.drewN ?_ _) | (with_reducible refine Blk.drew ?_) | (refine Blk.other ?_ (by omega) _) | fail))
    have B3_2 : Blk w3 (w.heap.size + 1 + 1) 25 [.int .i64 0, .int .i64 0] := by (rw [h3]; repeat' (first | (with_reducible assumption) | ((with_reducible refine Blk.new ?_); (first | (with_reducible rfl) | (simp only [World.size_alloc, World.size_setCell, size_drewN]; done))) | (with_reducible refine Blk.alloc ?_ _) | (with_reducible refine Blk.drewN ?_ _) | (with_reducible refine Blk.drew ?_) | (refine Blk.other ?_ (by omega) _) | fail))
    have B3_3 : Blk w3 (b2_0) 25 [.int .i64 (b), .int .i64 (-a - 1)] := by (rw [h3]; (repeat' (first | (refine Blk.other ?_ (by omega) _) | fail)); refine Blk.set_as (vs := [.int .i64 (b), .int .i64 b]) ?_ 1 (.int .i64 (-a - 1)) (by rfl); refine Blk.set_as (vs := [.int .i64 a, .int .i64 b]) ?_ 0 (.int .i64 (b)) (by rfl); repeat' (first | (with_reducible assumption) | ((with_reducible refine Blk.new ?_); (first | (with_reducible rfl) | (simp only [World.size_alloc, World.size_setCell, size_drewN]; done))) | (with_reducible refine Blk.alloc ?_ _) | (with_reducible refine Blk.drewN ?_ _) | (with_reducible refine Blk.drew ?_) | (refine Blk.other ?_ (by omega) _) | fail))
    have z3 := G3.size
    replace G3 := hide G3
    clear h3
    have t3_0 := B3_0.lt
    have d3_0_0 := B3_0.cell 0 rfl
    have e3_0_0 := B3_0.free 0
    have d3_0_1 := B3_0.cell 1 rfl
    have e3_0_1 := B3_0.free 1
    have d3_0_2 := B3_0.cell 2 rfl
    have e3_0_2 := B3_0.free 2
    have d3_0_3 := B3_0.cell 3 rfl
    have e3_0_3 := B3_0.free 3
    have d3_0_4 := B3_0.cell 4 rfl
    have e3_0_4 := B3_0.free 4
    have t3_1 := B3_1.lt
    have d3_1_0 := B3_1.cell 0 rfl
    have e3_1_0 := B3_1.free 0
    have d3_1_1 := B3_1.cell 1 rfl
    have e3_1_1 := B3_1.free 1
    have t3_2 := B3_2.lt
    have d3_2_0 := B3_2.cell 0 rfl
    have e3_2_0 := B3_2.free 0
    have d3_2_1 := B3_2.cell 1 rfl
    have e3_2_1 := B3_2.free 1
    have t3_3 := B3_3.lt
    have d3_3_0 := B3_3.cell 0 rfl
    have e3_3_0 := B3_3.free 0
    have d3_3_1 := B3_3.cell 1 rfl
    have e3_3_1 := B3_3.free 1
    rw [rounds_succ]
    go_wp2_with fail
    generalize h4 : ((w3.setCell ⟨b2_0, 0, none⟩ (.int .i64 (-a - 1))).setCell ⟨b2_0, 1, none⟩ (.int .i64 (-b - 1))) = w4
    replace h4 := h4.symm
    have G4 : Grew w w4 := by
      rw [h4]
      repeat' (first | (with_reducible exact Grew.refl _) | (with_reducible refine Grew.setCell ?_ ?_ _) | (with_reducible refine Grew.drewN ?_ _) | (with_reducible refine Grew.alloc ?_ _) | (with_reducible refine Grew.trans ?_ G4.out) | (with_reducible refine Grew.trans ?_ G3.out) | (with_reducible refine Grew.trans ?_ G2.out) | (with_reducible refine Grew.trans ?_ G1.out) | (dsimp only; omega))
    have B4_0 : Blk w4 (w.heap.size) 39 [.int .i64 3, .bool false, .int .i64 s, .int .i64 dx, .int .i64 dy] := by (rw [h4]; repeat' (first | (with_reducible assumption) | ((with_reducible refine Blk.new ?_); (first | (with_reducible rfl) | (simp only [World.size_alloc, World.size_setCell, size_drewN]; done))) | (with_reducible refine Blk.alloc ?_ _) | (with_reducible refine Blk.drewN ?_ _) | (with_reducible refine Blk.drew ?_) | (refine Blk.other ?_ (by omega) _) | fail))
    have B4_1 : Blk w4 (w.heap.size + 1) 25 [.int .i64 x, .int .i64 y] := by (rw [h4]; repeat' (first | (with_reducible assumption) | ((with_reducible refine Blk.new ?_); (first | (with_reducible rfl) | (simp only [World.size_alloc, World.size_setCell, size_drewN]; done))) | (with_reducible refine Blk.alloc ?_ _) | (with_reducible refine Blk.drewN ?_ _) | (with_reducible refine Blk.drew ?_) | (refine Blk.other ?_ (by omega) _) | fail))
    have B4_2 : Blk w4 (w.heap.size + 1 + 1) 25 [.int .i64 0, .int .i64 0] := by (rw [h4]; repeat' (first | (with_reducible assumption) | ((with_reducible refine Blk.new ?_); (first | (with_reducible rfl) | (simp only [World.size_alloc, World.size_setCell, size_drewN]; done))) | (with_reducible refine Blk.alloc ?_ _) | (with_reducible refine Blk.drewN ?_ _) | (with_reducible refine Blk.drew ?_) | (refine Blk.other ?_ (by omega) _) | fail))
    have B4_3 : Blk w4 (b2_0) 25 [.int .i64 (-a - 1), .int .i64 (-b - 1)] := by (rw [h4]; (repeat' (first | (refine Blk.other ?_ (by omega) _) | fail)); refine Blk.set_as (vs := [.int .i64 (-a - 1), .int .i64 (-a - 1)]) ?_ 1 (.int .i64 (-b - 1)) (by rfl); refine Blk.set_as (vs := [.int .i64 (b), .int .i64 (-a - 1)]) ?_ 0 (.int .i64 (-a - 1)) (by rfl); repeat' (first | (with_reducible assumption) | ((with_reducible refine Blk.new ?_); (first | (with_reducible rfl) | (simp only [World.size_alloc, World.size_setCell, size_drewN]; done))) | (with_reducible refine Blk.alloc ?_ _) | (with_reducible refine Blk.drewN ?_ _) | (with_reducible refine Blk.drew ?_) | (refine Blk.other ?_ (by omega) _) | fail))
    have z4 := G4.size
    replace G4 := hide G4
    clear h4
    have t4_0 := B4_0.lt
    have d4_0_0 := B4_0.cell 0 rfl
    have e4_0_0 := B4_0.free 0
    have d4_0_1 := B4_0.cell 1 rfl
    have e4_0_1 := B4_0.free 1
    have d4_0_2 := B4_0.cell 2 rfl
    have e4_0_2 := B4_0.free 2
    have d4_0_3 := B4_0.cell 3 rfl
    have e4_0_3 := B4_0.free 3
    have d4_0_4 := B4_0.cell 4 rfl
    have e4_0_4 := B4_0.free 4
    have t4_1 := B4_1.lt
    have d4_1_0 := B4_1.cell 0 rfl
    have e4_1_0 := B4_1.free 0
    have d4_1_1 := B4_1.cell 1 rfl
    have e4_1_1 := B4_1.free 1
    have t4_2 := B4_2.lt
    have d4_2_0 := B4_2.cell 0 rfl
    have e4_2_0 := B4_2.free 0
    have d4_2_1 := B4_2.cell 1 rfl
    have e4_2_1 := B4_2.free 1
    have t4_3 := B4_3.lt
    have d4_3_0 := B4_3.cell 0 rfl
    have e4_3_0 := B4_3.free 0
    have d4_3_1 := B4_3.cell 1 rfl
    have e4_3_1 := B4_3.free 1
    rw [rounds_succ]
    go_wp2_with fail
    generalize h5 : ((w4.setCell ⟨b2_0, 0, none⟩ (.int .i64 (-b - 1))).setCell ⟨b2_0, 1, none⟩ (.int .i64 (-(-a - 1) - 1))) = w5
    replace h5 := h5.symm
    have G5 : Grew w w5 := by
      rw [h5]
      repeat' (first | (with_reducible exact Grew.refl _) | (with_reducible refine Grew.setCell ?_ ?_ _) | (with_reducible refine Grew.drewN ?_ _) | (with_reducible refine Grew.alloc ?_ _) | (with_reducible refine Grew.trans ?_ G5.out) | (with_reducible refine Grew.trans ?_ G4.out) | (with_reducible refine Grew.trans ?_ G3.out) | (with_reducible refine Grew.trans ?_ G2.out) | (with_reducible refine Grew.trans ?_ G1.out) | (dsimp only; omega))
    have B5_0 : Blk w5 (w.heap.size) 39 [.int .i64 3, .bool false, .int .i64 s, .int .i64 dx, .int .i64 dy] := by (rw [h5]; repeat' (first | (with_reducible assumption) | ((with_reducible refine Blk.new ?_); (first | (with_reducible rfl) | (simp only [World.size_alloc, World.size_setCell, size_drewN]; done))) | (with_reducible refine Blk.alloc ?_ _) | (with_reducible refine Blk.drewN ?_ _) | (with_reducible refine Blk.drew ?_) | (refine Blk.other ?_ (by omega) _) | fail))
    have B5_1 : Blk w5 (w.heap.size + 1) 25 [.int .i64 x, .int .i64 y] := by (rw [h5]; repeat' (first | (with_reducible assumption) | ((with_reducible refine Blk.new ?_); (first | (with_reducible rfl) | (simp only [World.size_alloc, World.size_setCell, size_drewN]; done))) | (with_reducible refine Blk.alloc ?_ _) | (with_reducible refine Blk.drewN ?_ _) | (with_reducible refine Blk.drew ?_) | (refine Blk.other ?_ (by omega) _) | fail))
    have B5_2 : Blk w5 (w.heap.size + 1 + 1) 25 [.int .i64 0, .int .i64 0] := by (rw [h5]; repeat' (first | (with_reducible assumption) | ((with_reducible refine Blk.new ?_); (first | (with_reducible rfl) | (simp only [World.size_alloc, World.size_setCell, size_drewN]; done))) | (with_reducible refine Blk.alloc ?_ _) | (with_reducible refine Blk.drewN ?_ _) | (with_reducible refine Blk.drew ?_) | (refine Blk.other ?_ (by omega) _) | fail))
    have B5_3 : Blk w5 (b2_0) 25 [.int .i64 (-b - 1), .int .i64 (-(-a - 1) - 1)] := by (rw [h5]; (repeat' (first | (refine Blk.other ?_ (by omega) _) | fail)); refine Blk.set_as (vs := [.int .i64 (-b - 1), .int .i64 (-b - 1)]) ?_ 1 (.int .i64 (-(-a - 1) - 1)) (by rfl); refine Blk.set_as (vs := [.int .i64 (-a - 1), .int .i64 (-b - 1)]) ?_ 0 (.int .i64 (-b - 1)) (by rfl); repeat' (first | (with_reducible assumption) | ((with_reducible refine Blk.new ?_); (first | (with_reducible rfl) | (simp only [World.size_alloc, World.size_setCell, size_drewN]; done))) | (with_reducible refine Blk.alloc ?_ _) | (with_reducible refine Blk.drewN ?_ _) | (with_reducible refine Blk.drew ?_) | (refine Blk.other ?_ (by omega) _) | fail))
    have z5 := G5.size
    replace G5 := hide G5
    clear h5
    have t5_0 := B5_0.lt
    have d5_0_0 := B5_0.cell 0 rfl
    have e5_0_0 := B5_0.free 0
    have d5_0_1 := B5_0.cell 1 rfl
    have e5_0_1 := B5_0.free 1
    have d5_0_2 := B5_0.cell 2 rfl
    have e5_0_2 := B5_0.free 2
    have d5_0_3 := B5_0.cell 3 rfl
    have e5_0_3 := B5_0.free 3
    have d5_0_4 := B5_0.cell 4 rfl
    have e5_0_4 := B5_0.free 4
    have t5_1 := B5_1.lt
    have d5_1_0 := B5_1.cell 0 rfl
    have e5_1_0 := B5_1.free 0
    have d5_1_1 := B5_1.cell 1 rfl
    have e5_1_1 := B5_1.free 1
    have t5_2 := B5_2.lt
    have d5_2_0 := B5_2.cell 0 rfl
    have e5_2_0 := B5_2.free 0
    have d5_2_1 := B5_2.cell 1 rfl
    have e5_2_1 := B5_2.free 1
    have t5_3 := B5_3.lt
    have d5_3_0 := B5_3.cell 0 rfl
    have e5_3_0 := B5_3.free 0
    have d5_3_1 := B5_3.cell 1 rfl
    have e5_3_1 := B5_3.free 1
    rw [rounds_succ]
    go_wp2_with fail
    go_wp2
    rw [H0.out]
    refine bodyPost_ret (v := .agg #[.int .i64 (-b - 1), .int .i64 (-(-a - 1) - 1)]) (by simp [results, Try.results31, go_sem, R.zero, T.zero, d5_0_0, d5_0_1, d5_0_2, d5_0_3, d5_0_4, d5_1_0, d5_1_1, d5_2_0, d5_2_1, d5_3_0, d5_3_1, t5_0, t5_1, t5_2, t5_3]) rfl ⟨rfl, ?_⟩
    repeat' (first | (with_reducible exact Grew.refl _) | (with_reducible refine Grew.setCell ?_ ?_ _) | (with_reducible refine Grew.drewN ?_ _) | (with_reducible refine Grew.alloc ?_ _) | (with_reducible refine Grew.trans ?_ G5.out) | (with_reducible refine Grew.trans ?_ G4.out) | (with_reducible refine Grew.trans ?_ G3.out) | (with_reducible refine Grew.trans ?_ G2.out) | (with_reducible refine Grew.trans ?_ G1.out) | (dsimp only; omega))
  · have H0 : Hid (T.back ⟨0, true, s, dx, dy⟩ ⟨x, y⟩ = ⟨-a - 1, b⟩) := by
      rw [Hid, H.out]; simp [bmir, bkx, bky]; try omega
    clear h1 H
    go_enter Try.func31, Try.ntmps31
    go_wp2_with fail
    refine ((V1 _).out).mono ?_
    rintro e w1 ⟨rfl, G1⟩
    try (with_reducible replace G1 := Grew.undrawn G1)
    have B1_0 : Blk w1 (w.heap.size) 39 [.int .i64 0, .bool true, .int .i64 s, .int .i64 dx, .int .i64 dy] := Blk.grew (by (repeat' (first | (with_reducible assumption) | ((with_reducible refine Blk.new ?_); (first | (with_reducible rfl) | (simp only [World.size_alloc, World.size_setCell, size_drewN]; done))) | (with_reducible refine Blk.alloc ?_ _) | (with_reducible refine Blk.drewN ?_ _) | (with_reducible refine Blk.drew ?_) | (refine Blk.other ?_ (by omega) _) | fail))) G1
    have B1_1 : Blk w1 (w.heap.size + 1) 25 [.int .i64 x, .int .i64 y] := Blk.grew (by (repeat' (first | (with_reducible assumption) | ((with_reducible refine Blk.new ?_); (first | (with_reducible rfl) | (simp only [World.size_alloc, World.size_setCell, size_drewN]; done))) | (with_reducible refine Blk.alloc ?_ _) | (with_reducible refine Blk.drewN ?_ _) | (with_reducible refine Blk.drew ?_) | (refine Blk.other ?_ (by omega) _) | fail))) G1
    have B1_2 : Blk w1 (w.heap.size + 1 + 1) 25 [.int .i64 0, .int .i64 0] := Blk.grew (by (repeat' (first | (with_reducible assumption) | ((with_reducible refine Blk.new ?_); (first | (with_reducible rfl) | (simp only [World.size_alloc, World.size_setCell, size_drewN]; done))) | (with_reducible refine Blk.alloc ?_ _) | (with_reducible refine Blk.drewN ?_ _) | (with_reducible refine Blk.drew ?_) | (refine Blk.other ?_ (by omega) _) | fail))) G1
    have z1 := G1.size
    try simp only [World.size_alloc, World.size_setCell, size_drewN] at z1
    replace G1 := hide G1
    have t1_0 := B1_0.lt
    have d1_0_0 := B1_0.cell 0 rfl
    have e1_0_0 := B1_0.free 0
    have d1_0_1 := B1_0.cell 1 rfl
    have e1_0_1 := B1_0.free 1
    have d1_0_2 := B1_0.cell 2 rfl
    have e1_0_2 := B1_0.free 2
    have d1_0_3 := B1_0.cell 3 rfl
    have e1_0_3 := B1_0.free 3
    have d1_0_4 := B1_0.cell 4 rfl
    have e1_0_4 := B1_0.free 4
    have t1_1 := B1_1.lt
    have d1_1_0 := B1_1.cell 0 rfl
    have e1_1_0 := B1_1.free 0
    have d1_1_1 := B1_1.cell 1 rfl
    have e1_1_1 := B1_1.free 1
    have t1_2 := B1_2.lt
    have d1_2_0 := B1_2.cell 0 rfl
    have e1_2_0 := B1_2.free 0
    have d1_2_1 := B1_2.cell 1 rfl
    have e1_2_1 := B1_2.free 1
    go_wp2_with fail
    refine (reachable_any _ _).mono ?_
    rintro e _ ⟨rfl, rfl⟩
    go_wp2_with fail
    refine (reachable_any _ _).mono ?_
    rintro e _ ⟨rfl, rfl⟩
    go_wp2_with fail
    have g1_0_0 := fun m os => (B1_0.grow m os).cell 0 rfl
    have g1_0_1 := fun m os => (B1_0.grow m os).cell 1 rfl
    have g1_0_2 := fun m os => (B1_0.grow m os).cell 2 rfl
    have g1_0_3 := fun m os => (B1_0.grow m os).cell 3 rfl
    have g1_0_4 := fun m os => (B1_0.grow m os).cell 4 rfl
    have g1_1_0 := fun m os => (B1_1.grow m os).cell 0 rfl
    have g1_1_1 := fun m os => (B1_1.grow m os).cell 1 rfl
    have g1_2_0 := fun m os => (B1_2.grow m os).cell 0 rfl
    have g1_2_1 := fun m os => (B1_2.grow m os).cell 1 rfl
    refine wp_region_made [⟨17, 18, 5, 25, [.int .i64 0, .int .i64 0], [.int .i64 a, .int .i64 b]⟩] (by kernel_rfl) (by kernel_rfl) (by simp [madeSlots]) ?_
    repeat (first | (refine lex_skip rfl (by rfl) ?_) | (refine lex_calm rfl (by rfl) (fun K hK => ?_); go_simp; first | (refine hK _ ?_; clear hK K) | (apply Exists.intro; refine ⟨fun _ _ => ?_, hK _ ?_⟩; (first | (with_reducible exact (S1 _).out) | (with_reducible exact (S2 _).out)); clear hK K)))
    refine lex_alloc (m := ⟨17, 18, 5, 25, [.int .i64 0, .int .i64 0], [.int .i64 a, .int .i64 b]⟩) (by kernel_rfl) (by simp) (by rfl) rfl ?_ ?_
    · intro ev w
      go_simp
    repeat (first | (refine lex_skip rfl (by rfl) ?_) | (refine lex_calm rfl (by rfl) (fun K hK => ?_); go_simp; first | (refine hK _ ?_; clear hK K) | (apply Exists.intro; refine ⟨fun _ _ => ?_, hK _ ?_⟩; (first | (with_reducible exact (S1 _).out) | (with_reducible exact (S2 _).out)); clear hK K)))
    refine lex_store (m := ⟨17, 18, 5, 25, [.int .i64 0, .int .i64 0], [.int .i64 a, .int .i64 b]⟩) (by kernel_rfl) (by simp) (by rfl) rfl ?_ ?_
    · intro vs w b hv hB
      have d0 := hB.cell 0 rfl
      have e0 := hB.free 0
      have d1 := hB.cell 1 rfl
      have e1 := hB.free 1
      simp only [] at hv
      simp [go_sem, evS, madeSlots, List.lookup, setAll, *]
    repeat (first | (refine lex_skip rfl (by rfl) ?_) | (refine lex_calm rfl (by rfl) (fun K hK => ?_); go_simp; first | (refine hK _ ?_; clear hK K) | (apply Exists.intro; refine ⟨fun _ _ => ?_, hK _ ?_⟩; (first | (with_reducible exact (S1 _).out) | (with_reducible exact (S2 _).out)); clear hK K)))
    refine lex_nil ?_
    rintro vs w2 ⟨G2, hb, hne⟩
    obtain ⟨b2_0, hv0, s2_0, K2_0⟩ := hb ⟨17, 18, 5, 25, [.int .i64 0, .int .i64 0], [.int .i64 a, .int .i64 b]⟩ (by simp) rfl
    simp only [fillS, madeSlots, List.map_cons, List.map_nil, List.foldl_cons, List.foldl_nil, hv0]
    clear hb hne hv0 vs
    have B2_0 : Blk w2 (w.heap.size) 39 [.int .i64 0, .bool true, .int .i64 s, .int .i64 dx, .int .i64 dy] := B1_0.grew G2
    have B2_1 : Blk w2 (w.heap.size + 1) 25 [.int .i64 x, .int .i64 y] := B1_1.grew G2
    have B2_2 : Blk w2 (w.heap.size + 1 + 1) 25 [.int .i64 0, .int .i64 0] := B1_2.grew G2
    have B2_3 : Blk w2 b2_0 25 [.int .i64 a, .int .i64 b] := K2_0
    clear K2_0
    have z2 := G2.size
    replace G2 := hide G2
    have t2_0 := B2_0.lt
    have d2_0_0 := B2_0.cell 0 rfl
    have e2_0_0 := B2_0.free 0
    have d2_0_1 := B2_0.cell 1 rfl
    have e2_0_1 := B2_0.free 1
    have d2_0_2 := B2_0.cell 2 rfl
    have e2_0_2 := B2_0.free 2
    have d2_0_3 := B2_0.cell 3 rfl
    have e2_0_3 := B2_0.free 3
    have d2_0_4 := B2_0.cell 4 rfl
    have e2_0_4 := B2_0.free 4
    have t2_1 := B2_1.lt
    have d2_1_0 := B2_1.cell 0 rfl
    have e2_1_0 := B2_1.free 0
    have d2_1_1 := B2_1.cell 1 rfl
    have e2_1_1 := B2_1.free 1
    have t2_2 := B2_2.lt
    have d2_2_0 := B2_2.cell 0 rfl
    have e2_2_0 := B2_2.free 0
    have d2_2_1 := B2_2.cell 1 rfl
    have e2_2_1 := B2_2.free 1
    have t2_3 := B2_3.lt
    have d2_3_0 := B2_3.cell 0 rfl
    have e2_3_0 := B2_3.free 0
    have d2_3_1 := B2_3.cell 1 rfl
    have e2_3_1 := B2_3.free 1
    go_simp
    go_wp2_with fail
    refine wp_loop_rounds 1 ?_
    rw [rounds_succ]
    go_wp2_with fail
    go_wp2
    rw [H0.out]
    refine bodyPost_ret (v := .agg #[.int .i64 (-a - 1), .int .i64 (b)]) (by simp [results, Try.results31, go_sem, R.zero, T.zero, d2_0_0, d2_0_1, d2_0_2, d2_0_3, d2_0_4, d2_1_0, d2_1_1, d2_2_0, d2_2_1, d2_3_0, d2_3_1, t2_0, t2_1, t2_2, t2_3]) rfl ⟨rfl, ?_⟩
    repeat' (first | (with_reducible exact Grew.refl _) | (with_reducible refine Grew.setCell ?_ ?_ _) | (with_reducible refine Grew.drewN ?_ _) | (with_reducible refine Grew.alloc ?_ _) | (with_reducible refine Grew.trans ?_ G2.out) | (with_reducible refine Grew.trans ?_ G1.out) | (dsimp only; omega))
  · have H0 : Hid (T.back ⟨1, true, s, dx, dy⟩ ⟨x, y⟩ = ⟨-b - 1, -a - 1⟩) := by
      rw [Hid, H.out]; simp [bmir, bkx, bky]; try omega
    clear h1 H
    go_enter Try.func31, Try.ntmps31
    go_wp2_with fail
    refine ((V1 _).out).mono ?_
    rintro e w1 ⟨rfl, G1⟩
    try (with_reducible replace G1 := Grew.undrawn G1)
    have B1_0 : Blk w1 (w.heap.size) 39 [.int .i64 1, .bool true, .int .i64 s, .int .i64 dx, .int .i64 dy] := Blk.grew (by (repeat' (first | (with_reducible assumption) | ((with_reducible refine Blk.new ?_); (first | (with_reducible rfl) | (simp only [World.size_alloc, World.size_setCell, size_drewN]; done))) | (with_reducible refine Blk.alloc ?_ _) | (with_reducible refine Blk.drewN ?_ _) | (with_reducible refine Blk.drew ?_) | (refine Blk.other ?_ (by omega) _) | fail))) G1
    have B1_1 : Blk w1 (w.heap.size + 1) 25 [.int .i64 x, .int .i64 y] := Blk.grew (by (repeat' (first | (with_reducible assumption) | ((with_reducible refine Blk.new ?_); (first | (with_reducible rfl) | (simp only [World.size_alloc, World.size_setCell, size_drewN]; done))) | (with_reducible refine Blk.alloc ?_ _) | (with_reducible refine Blk.drewN ?_ _) | (with_reducible refine Blk.drew ?_) | (refine Blk.other ?_ (by omega) _) | fail))) G1
    have B1_2 : Blk w1 (w.heap.size + 1 + 1) 25 [.int .i64 0, .int .i64 0] := Blk.grew (by (repeat' (first | (with_reducible assumption) | ((with_reducible refine Blk.new ?_); (first | (with_reducible rfl) | (simp only [World.size_alloc, World.size_setCell, size_drewN]; done))) | (with_reducible refine Blk.alloc ?_ _) | (with_reducible refine Blk.drewN ?_ _) | (with_reducible refine Blk.drew ?_) | (refine Blk.other ?_ (by omega) _) | fail))) G1
    have z1 := G1.size
    try simp only [World.size_alloc, World.size_setCell, size_drewN] at z1
    replace G1 := hide G1
    have t1_0 := B1_0.lt
    have d1_0_0 := B1_0.cell 0 rfl
    have e1_0_0 := B1_0.free 0
    have d1_0_1 := B1_0.cell 1 rfl
    have e1_0_1 := B1_0.free 1
    have d1_0_2 := B1_0.cell 2 rfl
    have e1_0_2 := B1_0.free 2
    have d1_0_3 := B1_0.cell 3 rfl
    have e1_0_3 := B1_0.free 3
    have d1_0_4 := B1_0.cell 4 rfl
    have e1_0_4 := B1_0.free 4
    have t1_1 := B1_1.lt
    have d1_1_0 := B1_1.cell 0 rfl
    have e1_1_0 := B1_1.free 0
    have d1_1_1 := B1_1.cell 1 rfl
    have e1_1_1 := B1_1.free 1
    have t1_2 := B1_2.lt
    have d1_2_0 := B1_2.cell 0 rfl
    have e1_2_0 := B1_2.free 0
    have d1_2_1 := B1_2.cell 1 rfl
    have e1_2_1 := B1_2.free 1
    go_wp2_with fail
    refine (reachable_any _ _).mono ?_
    rintro e _ ⟨rfl, rfl⟩
    go_wp2_with fail
    refine (reachable_any _ _).mono ?_
    rintro e _ ⟨rfl, rfl⟩
    go_wp2_with fail
    have g1_0_0 := fun m os => (B1_0.grow m os).cell 0 rfl
    have g1_0_1 := fun m os => (B1_0.grow m os).cell 1 rfl
    have g1_0_2 := fun m os => (B1_0.grow m os).cell 2 rfl
    have g1_0_3 := fun m os => (B1_0.grow m os).cell 3 rfl
    have g1_0_4 := fun m os => (B1_0.grow m os).cell 4 rfl
    have g1_1_0 := fun m os => (B1_1.grow m os).cell 0 rfl
    have g1_1_1 := fun m os => (B1_1.grow m os).cell 1 rfl
    have g1_2_0 := fun m os => (B1_2.grow m os).cell 0 rfl
    have g1_2_1 := fun m os => (B1_2.grow m os).cell 1 rfl
    refine wp_region_made [⟨17, 18, 5, 25, [.int .i64 0, .int .i64 0], [.int .i64 a, .int .i64 b]⟩] (by kernel_rfl) (by kernel_rfl) (by simp [madeSlots]) ?_
    repeat (first | (refine lex_skip rfl (by rfl) ?_) | (refine lex_calm rfl (by rfl) (fun K hK => ?_); go_simp; first | (refine hK _ ?_; clear hK K) | (apply Exists.intro; refine ⟨fun _ _ => ?_, hK _ ?_⟩; (first | (with_reducible exact (S1 _).out) | (with_reducible exact (S2 _).out)); clear hK K)))
    refine lex_alloc (m := ⟨17, 18, 5, 25, [.int .i64 0, .int .i64 0], [.int .i64 a, .int .i64 b]⟩) (by kernel_rfl) (by simp) (by rfl) rfl ?_ ?_
    · intro ev w
      go_simp
    repeat (first | (refine lex_skip rfl (by rfl) ?_) | (refine lex_calm rfl (by rfl) (fun K hK => ?_); go_simp; first | (refine hK _ ?_; clear hK K) | (apply Exists.intro; refine ⟨fun _ _ => ?_, hK _ ?_⟩; (first | (with_reducible exact (S1 _).out) | (with_reducible exact (S2 _).out)); clear hK K)))
    refine lex_store (m := ⟨17, 18, 5, 25, [.int .i64 0, .int .i64 0], [.int .i64 a, .int .i64 b]⟩) (by kernel_rfl) (by simp) (by rfl) rfl ?_ ?_
    · intro vs w b hv hB
      have d0 := hB.cell 0 rfl
      have e0 := hB.free 0
      have d1 := hB.cell 1 rfl
      have e1 := hB.free 1
      simp only [] at hv
      simp [go_sem, evS, madeSlots, List.lookup, setAll, *]
    repeat (first | (refine lex_skip rfl (by rfl) ?_) | (refine lex_calm rfl (by rfl) (fun K hK => ?_); go_simp; first | (refine hK _ ?_; clear hK K) | (apply Exists.intro; refine ⟨fun _ _ => ?_, hK _ ?_⟩; (first | (with_reducible exact (S1 _).out) | (with_reducible exact (S2 _).out)); clear hK K)))
    refine lex_nil ?_
    rintro vs w2 ⟨G2, hb, hne⟩
    obtain ⟨b2_0, hv0, s2_0, K2_0⟩ := hb ⟨17, 18, 5, 25, [.int .i64 0, .int .i64 0], [.int .i64 a, .int .i64 b]⟩ (by simp) rfl
    simp only [fillS, madeSlots, List.map_cons, List.map_nil, List.foldl_cons, List.foldl_nil, hv0]
    clear hb hne hv0 vs
    have B2_0 : Blk w2 (w.heap.size) 39 [.int .i64 1, .bool true, .int .i64 s, .int .i64 dx, .int .i64 dy] := B1_0.grew G2
    have B2_1 : Blk w2 (w.heap.size + 1) 25 [.int .i64 x, .int .i64 y] := B1_1.grew G2
    have B2_2 : Blk w2 (w.heap.size + 1 + 1) 25 [.int .i64 0, .int .i64 0] := B1_2.grew G2
    have B2_3 : Blk w2 b2_0 25 [.int .i64 a, .int .i64 b] := K2_0
    clear K2_0
    have z2 := G2.size
    replace G2 := hide G2
    have t2_0 := B2_0.lt
    have d2_0_0 := B2_0.cell 0 rfl
    have e2_0_0 := B2_0.free 0
    have d2_0_1 := B2_0.cell 1 rfl
    have e2_0_1 := B2_0.free 1
    have d2_0_2 := B2_0.cell 2 rfl
    have e2_0_2 := B2_0.free 2
    have d2_0_3 := B2_0.cell 3 rfl
    have e2_0_3 := B2_0.free 3
    have d2_0_4 := B2_0.cell 4 rfl
    have e2_0_4 := B2_0.free 4
    have t2_1 := B2_1.lt
    have d2_1_0 := B2_1.cell 0 rfl
    have e2_1_0 := B2_1.free 0
    have d2_1_1 := B2_1.cell 1 rfl
    have e2_1_1 := B2_1.free 1
    have t2_2 := B2_2.lt
    have d2_2_0 := B2_2.cell 0 rfl
    have e2_2_0 := B2_2.free 0
    have d2_2_1 := B2_2.cell 1 rfl
    have e2_2_1 := B2_2.free 1
    have t2_3 := B2_3.lt
    have d2_3_0 := B2_3.cell 0 rfl
    have e2_3_0 := B2_3.free 0
    have d2_3_1 := B2_3.cell 1 rfl
    have e2_3_1 := B2_3.free 1
    go_simp
    go_wp2_with fail
    refine wp_loop_rounds 2 ?_
    rw [rounds_succ]
    go_wp2_with fail
    generalize h3 : ((w2.setCell ⟨b2_0, 0, none⟩ (.int .i64 (b))).setCell ⟨b2_0, 1, none⟩ (.int .i64 (-a - 1))) = w3
    replace h3 := h3.symm
    have G3 : Grew w w3 := by
      rw [h3]
      repeat' (first | (with_reducible exact Grew.refl _) | (with_reducible refine Grew.setCell ?_ ?_ _) | (with_reducible refine Grew.drewN ?_ _) | (with_reducible refine Grew.alloc ?_ _) | (with_reducible refine Grew.trans ?_ G3.out) | (with_reducible refine Grew.trans ?_ G2.out) | (with_reducible refine Grew.trans ?_ G1.out) | (dsimp only; omega))
    have B3_0 : Blk w3 (w.heap.size) 39 [.int .i64 1, .bool true, .int .i64 s, .int .i64 dx, .int .i64 dy] := by (rw [h3]; repeat' (first | (with_reducible assumption) | ((with_reducible refine Blk.new ?_); (first | (with_reducible rfl) | (simp only [World.size_alloc, World.size_setCell, size_drewN]; done))) | (with_reducible refine Blk.alloc ?_ _) | (with_reducible refine Blk.drewN ?_ _) | (with_reducible refine Blk.drew ?_) | (refine Blk.other ?_ (by omega) _) | fail))
    have B3_1 : Blk w3 (w.heap.size + 1) 25 [.int .i64 x, .int .i64 y] := by (rw [h3]; repeat' (first | (with_reducible assumption) | ((with_reducible refine Blk.new ?_); (first | (with_reducible rfl) | (simp only [World.size_alloc, World.size_setCell, size_drewN]; done))) | (with_reducible refine Blk.alloc ?_ _) | (with_reducible refine Blk.drewN ?_ _) | (with_reducible refine Blk.drew ?_) | (refine Blk.other ?_ (by omega) _) | fail))
    have B3_2 : Blk w3 (w.heap.size + 1 + 1) 25 [.int .i64 0, .int .i64 0] := by (rw [h3]; repeat' (first | (with_reducible assumption) | ((with_reducible refine Blk.new ?_); (first | (with_reducible rfl) | (simp only [World.size_alloc, World.size_setCell, size_drewN]; done))) | (with_reducible refine Blk.alloc ?_ _) | (with_reducible refine Blk.drewN ?_ _) | (with_reducible refine Blk.drew ?_) | (refine Blk.other ?_ (by omega) _) | fail))
    have B3_3 : Blk w3 (b2_0) 25 [.int .i64 (b), .int .i64 (-a - 1)] := by (rw [h3]; (repeat' (first | (refine Blk.other ?_ (by omega) _) | fail)); refine Blk.set_as (vs := [.int .i64 (b), .int .i64 b]) ?_ 1 (.int .i64 (-a - 1)) (by rfl); refine Blk.set_as (vs := [.int .i64 a, .int .i64 b]) ?_ 0 (.int .i64 (b)) (by rfl); repeat' (first | (with_reducible assumption) | ((with_reducible refine Blk.new ?_); (first | (with_reducible rfl) | (simp only [World.size_alloc, World.size_setCell, size_drewN]; done))) | (with_reducible refine Blk.alloc ?_ _) | (with_reducible refine Blk.drewN ?_ _) | (with_reducible refine Blk.drew ?_) | (refine Blk.other ?_ (by omega) _) | fail))
    have z3 := G3.size
    replace G3 := hide G3
    clear h3
    have t3_0 := B3_0.lt
    have d3_0_0 := B3_0.cell 0 rfl
    have e3_0_0 := B3_0.free 0
    have d3_0_1 := B3_0.cell 1 rfl
    have e3_0_1 := B3_0.free 1
    have d3_0_2 := B3_0.cell 2 rfl
    have e3_0_2 := B3_0.free 2
    have d3_0_3 := B3_0.cell 3 rfl
    have e3_0_3 := B3_0.free 3
    have d3_0_4 := B3_0.cell 4 rfl
    have e3_0_4 := B3_0.free 4
    have t3_1 := B3_1.lt
    have d3_1_0 := B3_1.cell 0 rfl
    have e3_1_0 := B3_1.free 0
    have d3_1_1 := B3_1.cell 1 rfl
    have e3_1_1 := B3_1.free 1
    have t3_2 := B3_2.lt
    have d3_2_0 := B3_2.cell 0 rfl
    have e3_2_0 := B3_2.free 0
    have d3_2_1 := B3_2.cell 1 rfl
    have e3_2_1 := B3_2.free 1
    have t3_3 := B3_3.lt
    have d3_3_0 := B3_3.cell 0 rfl
    have e3_3_0 := B3_3.free 0
    have d3_3_1 := B3_3.cell 1 rfl
    have e3_3_1 := B3_3.free 1
    rw [rounds_succ]
    go_wp2_with fail
    go_wp2
    rw [H0.out]
    refine bodyPost_ret (v := .agg #[.int .i64 (-b - 1), .int .i64 (-a - 1)]) (by simp [results, Try.results31, go_sem, R.zero, T.zero, d3_0_0, d3_0_1, d3_0_2, d3_0_3, d3_0_4, d3_1_0, d3_1_1, d3_2_0, d3_2_1, d3_3_0, d3_3_1, t3_0, t3_1, t3_2, t3_3]) rfl ⟨rfl, ?_⟩
    repeat' (first | (with_reducible exact Grew.refl _) | (with_reducible refine Grew.setCell ?_ ?_ _) | (with_reducible refine Grew.drewN ?_ _) | (with_reducible refine Grew.alloc ?_ _) | (with_reducible refine Grew.trans ?_ G3.out) | (with_reducible refine Grew.trans ?_ G2.out) | (with_reducible refine Grew.trans ?_ G1.out) | (dsimp only; omega))
  · have H0 : Hid (T.back ⟨2, true, s, dx, dy⟩ ⟨x, y⟩ = ⟨-(-a - 1) - 1, -b - 1⟩) := by
      rw [Hid, H.out]; simp [bmir, bkx, bky]; try omega
    clear h1 H
    go_enter Try.func31, Try.ntmps31
    go_wp2_with fail
    refine ((V1 _).out).mono ?_
    rintro e w1 ⟨rfl, G1⟩
    try (with_reducible replace G1 := Grew.undrawn G1)
    have B1_0 : Blk w1 (w.heap.size) 39 [.int .i64 2, .bool true, .int .i64 s, .int .i64 dx, .int .i64 dy] := Blk.grew (by (repeat' (first | (with_reducible assumption) | ((with_reducible refine Blk.new ?_); (first | (with_reducible rfl) | (simp only [World.size_alloc, World.size_setCell, size_drewN]; done))) | (with_reducible refine Blk.alloc ?_ _) | (with_reducible refine Blk.drewN ?_ _) | (with_reducible refine Blk.drew ?_) | (refine Blk.other ?_ (by omega) _) | fail))) G1
    have B1_1 : Blk w1 (w.heap.size + 1) 25 [.int .i64 x, .int .i64 y] := Blk.grew (by (repeat' (first | (with_reducible assumption) | ((with_reducible refine Blk.new ?_); (first | (with_reducible rfl) | (simp only [World.size_alloc, World.size_setCell, size_drewN]; done))) | (with_reducible refine Blk.alloc ?_ _) | (with_reducible refine Blk.drewN ?_ _) | (with_reducible refine Blk.drew ?_) | (refine Blk.other ?_ (by omega) _) | fail))) G1
    have B1_2 : Blk w1 (w.heap.size + 1 + 1) 25 [.int .i64 0, .int .i64 0] := Blk.grew (by (repeat' (first | (with_reducible assumption) | ((with_reducible refine Blk.new ?_); (first | (with_reducible rfl) | (simp only [World.size_alloc, World.size_setCell, size_drewN]; done))) | (with_reducible refine Blk.alloc ?_ _) | (with_reducible refine Blk.drewN ?_ _) | (with_reducible refine Blk.drew ?_) | (refine Blk.other ?_ (by omega) _) | fail))) G1
    have z1 := G1.size
    try simp only [World.size_alloc, World.size_setCell, size_drewN] at z1
    replace G1 := hide G1
    have t1_0 := B1_0.lt
    have d1_0_0 := B1_0.cell 0 rfl
    have e1_0_0 := B1_0.free 0
    have d1_0_1 := B1_0.cell 1 rfl
    have e1_0_1 := B1_0.free 1
    have d1_0_2 := B1_0.cell 2 rfl
    have e1_0_2 := B1_0.free 2
    have d1_0_3 := B1_0.cell 3 rfl
    have e1_0_3 := B1_0.free 3
    have d1_0_4 := B1_0.cell 4 rfl
    have e1_0_4 := B1_0.free 4
    have t1_1 := B1_1.lt
    have d1_1_0 := B1_1.cell 0 rfl
    have e1_1_0 := B1_1.free 0
    have d1_1_1 := B1_1.cell 1 rfl
    have e1_1_1 := B1_1.free 1
    have t1_2 := B1_2.lt
    have d1_2_0 := B1_2.cell 0 rfl
    have e1_2_0 := B1_2.free 0
    have d1_2_1 := B1_2.cell 1 rfl
    have e1_2_1 := B1_2.free 1
    go_wp2_with fail
    refine (reachable_any _ _).mono ?_
    rintro e _ ⟨rfl, rfl⟩
    go_wp2_with fail
    refine (reachable_any _ _).mono ?_
    rintro e _ ⟨rfl, rfl⟩
    go_wp2_with fail
    have g1_0_0 := fun m os => (B1_0.grow m os).cell 0 rfl
    have g1_0_1 := fun m os => (B1_0.grow m os).cell 1 rfl
    have g1_0_2 := fun m os => (B1_0.grow m os).cell 2 rfl
    have g1_0_3 := fun m os => (B1_0.grow m os).cell 3 rfl
    have g1_0_4 := fun m os => (B1_0.grow m os).cell 4 rfl
    have g1_1_0 := fun m os => (B1_1.grow m os).cell 0 rfl
    have g1_1_1 := fun m os => (B1_1.grow m os).cell 1 rfl
    have g1_2_0 := fun m os => (B1_2.grow m os).cell 0 rfl
    have g1_2_1 := fun m os => (B1_2.grow m os).cell 1 rfl
    refine wp_region_made [⟨17, 18, 5, 25, [.int .i64 0, .int .i64 0], [.int .i64 a, .int .i64 b]⟩] (by kernel_rfl) (by kernel_rfl) (by simp [madeSlots]) ?_
    repeat (first | (refine lex_skip rfl (by rfl) ?_) | (refine lex_calm rfl (by rfl) (fun K hK => ?_); go_simp; first | (refine hK _ ?_; clear hK K) | (apply Exists.intro; refine ⟨fun _ _ => ?_, hK _ ?_⟩; (first | (with_reducible exact (S1 _).out) | (with_reducible exact (S2 _).out)); clear hK K)))
    refine lex_alloc (m := ⟨17, 18, 5, 25, [.int .i64 0, .int .i64 0], [.int .i64 a, .int .i64 b]⟩) (by kernel_rfl) (by simp) (by rfl) rfl ?_ ?_
    · intro ev w
      go_simp
    repeat (first | (refine lex_skip rfl (by rfl) ?_) | (refine lex_calm rfl (by rfl) (fun K hK => ?_); go_simp; first | (refine hK _ ?_; clear hK K) | (apply Exists.intro; refine ⟨fun _ _ => ?_, hK _ ?_⟩; (first | (with_reducible exact (S1 _).out) | (with_reducible exact (S2 _).out)); clear hK K)))
    refine lex_store (m := ⟨17, 18, 5, 25, [.int .i64 0, .int .i64 0], [.int .i64 a, .int .i64 b]⟩) (by kernel_rfl) (by simp) (by rfl) rfl ?_ ?_
    · intro vs w b hv hB
      have d0 := hB.cell 0 rfl
      have e0 := hB.free 0
      have d1 := hB.cell 1 rfl
      have e1 := hB.free 1
      simp only [] at hv
      simp [go_sem, evS, madeSlots, List.lookup, setAll, *]
    repeat (first | (refine lex_skip rfl (by rfl) ?_) | (refine lex_calm rfl (by rfl) (fun K hK => ?_); go_simp; first | (refine hK _ ?_; clear hK K) | (apply Exists.intro; refine ⟨fun _ _ => ?_, hK _ ?_⟩; (first | (with_reducible exact (S1 _).out) | (with_reducible exact (S2 _).out)); clear hK K)))
    refine lex_nil ?_
    rintro vs w2 ⟨G2, hb, hne⟩
    obtain ⟨b2_0, hv0, s2_0, K2_0⟩ := hb ⟨17, 18, 5, 25, [.int .i64 0, .int .i64 0], [.int .i64 a, .int .i64 b]⟩ (by simp) rfl
    simp only [fillS, madeSlots, List.map_cons, List.map_nil, List.foldl_cons, List.foldl_nil, hv0]
    clear hb hne hv0 vs
    have B2_0 : Blk w2 (w.heap.size) 39 [.int .i64 2, .bool true, .int .i64 s, .int .i64 dx, .int .i64 dy] := B1_0.grew G2
    have B2_1 : Blk w2 (w.heap.size + 1) 25 [.int .i64 x, .int .i64 y] := B1_1.grew G2
    have B2_2 : Blk w2 (w.heap.size + 1 + 1) 25 [.int .i64 0, .int .i64 0] := B1_2.grew G2
    have B2_3 : Blk w2 b2_0 25 [.int .i64 a, .int .i64 b] := K2_0
    clear K2_0
    have z2 := G2.size
    replace G2 := hide G2
    have t2_0 := B2_0.lt
    have d2_0_0 := B2_0.cell 0 rfl
    have e2_0_0 := B2_0.free 0
    have d2_0_1 := B2_0.cell 1 rfl
    have e2_0_1 := B2_0.free 1
    have d2_0_2 := B2_0.cell 2 rfl
    have e2_0_2 := B2_0.free 2
    have d2_0_3 := B2_0.cell 3 rfl
    have e2_0_3 := B2_0.free 3
    have d2_0_4 := B2_0.cell 4 rfl
    have e2_0_4 := B2_0.free 4
    have t2_1 := B2_1.lt
    have d2_1_0 := B2_1.cell 0 rfl
    have e2_1_0 := B2_1.free 0
    have d2_1_1 := B2_1.cell 1 rfl
    have e2_1_1 := B2_1.free 1
    have t2_2 := B2_2.lt
    have d2_2_0 := B2_2.cell 0 rfl
    have e2_2_0 := B2_2.free 0
    have d2_2_1 := B2_2.cell 1 rfl
    have e2_2_1 := B2_2.free 1
    have t2_3 := B2_3.lt
    have d2_3_0 := B2_3.cell 0 rfl
    have e2_3_0 := B2_3.free 0
    have d2_3_1 := B2_3.cell 1 rfl
    have e2_3_1 := B2_3.free 1
    go_simp
    go_wp2_with fail
    refine wp_loop_rounds 3 ?_
    rw [rounds_succ]
    go_wp2_with fail
    generalize h3 : ((w2.setCell ⟨b2_0, 0, none⟩ (.int .i64 (b))).setCell ⟨b2_0, 1, none⟩ (.int .i64 (-a - 1))) = w3
    replace h3 := h3.symm
    have G3 : Grew w w3 := by
      rw [h3]
      repeat' (first | (with_reducible exact Grew.refl _) | (with_reducible refine Grew.setCell ?_ ?_ _) | (with_reducible refine Grew.drewN ?_ _) | (with_reducible refine Grew.alloc ?_ _) | (with_reducible refine Grew.trans ?_ G3.out) | (with_reducible refine Grew.trans ?_ G2.out) | (with_reducible refine Grew.trans ?_ G1.out) | (dsimp only; omega))
    have B3_0 : Blk w3 (w.heap.size) 39 [.int .i64 2, .bool true, .int .i64 s, .int .i64 dx, .int .i64 dy] := by (rw [h3]; repeat' (first | (with_reducible assumption) | ((with_reducible refine Blk.new ?_); (first | (with_reducible rfl) | (simp only [World.size_alloc, World.size_setCell, size_drewN]; done))) | (with_reducible refine Blk.alloc ?_ _) | (with_reducible refine Blk.drewN ?_ _) | (with_reducible refine Blk.drew ?_) | (refine Blk.other ?_ (by omega) _) | fail))
    have B3_1 : Blk w3 (w.heap.size + 1) 25 [.int .i64 x, .int .i64 y] := by (rw [h3]; repeat' (first | (with_reducible assumption) | ((with_reducible refine Blk.new ?_); (first | (with_reducible rfl) | (simp only [World.size_alloc, World.size_setCell, size_drewN]; done))) | (with_reducible refine Blk.alloc ?_ _) | (with_reducible refine Blk.drewN ?_ _) | (with_reducible refine Blk.drew ?_) | (refine Blk.other ?_ (by omega) _) | fail))
    have B3_2 : Blk w3 (w.heap.size + 1 + 1) 25 [.int .i64 0, .int .i64 0] := by (rw [h3]; repeat' (first | (with_reducible assumption) | ((with_reducible refine Blk.new ?_); (first | (with_reducible rfl) | (simp only [World.size_alloc, World.size_setCell, size_drewN]; done))) | (with_reducible refine Blk.alloc ?_ _) | (with_reducible refine Blk.drewN ?_ _) | (with_reducible refine Blk.drew ?_) | (refine Blk.other ?_ (by omega) _) | fail))
    have B3_3 : Blk w3 (b2_0) 25 [.int .i64 (b), .int .i64 (-a - 1)] := by (rw [h3]; (repeat' (first | (refine Blk.other ?_ (by omega) _) | fail)); refine Blk.set_as (vs := [.int .i64 (b), .int .i64 b]) ?_ 1 (.int .i64 (-a - 1)) (by rfl); refine Blk.set_as (vs := [.int .i64 a, .int .i64 b]) ?_ 0 (.int .i64 (b)) (by rfl); repeat' (first | (with_reducible assumption) | ((with_reducible refine Blk.new ?_); (first | (with_reducible rfl) | (simp only [World.size_alloc, World.size_setCell, size_drewN]; done))) | (with_reducible refine Blk.alloc ?_ _) | (with_reducible refine Blk.drewN ?_ _) | (with_reducible refine Blk.drew ?_) | (refine Blk.other ?_ (by omega) _) | fail))
    have z3 := G3.size
    replace G3 := hide G3
    clear h3
    have t3_0 := B3_0.lt
    have d3_0_0 := B3_0.cell 0 rfl
    have e3_0_0 := B3_0.free 0
    have d3_0_1 := B3_0.cell 1 rfl
    have e3_0_1 := B3_0.free 1
    have d3_0_2 := B3_0.cell 2 rfl
    have e3_0_2 := B3_0.free 2
    have d3_0_3 := B3_0.cell 3 rfl
    have e3_0_3 := B3_0.free 3
    have d3_0_4 := B3_0.cell 4 rfl
    have e3_0_4 := B3_0.free 4
    have t3_1 := B3_1.lt
    have d3_1_0 := B3_1.cell 0 rfl
    have e3_1_0 := B3_1.free 0
    have d3_1_1 := B3_1.cell 1 rfl
    have e3_1_1 := B3_1.free 1
    have t3_2 := B3_2.lt
    have d3_2_0 := B3_2.cell 0 rfl
    have e3_2_0 := B3_2.free 0
    have d3_2_1 := B3_2.cell 1 rfl
    have e3_2_1 := B3_2.free 1
    have t3_3 := B3_3.lt
    have d3_3_0 := B3_3.cell 0 rfl
    have e3_3_0 := B3_3.free 0
    have d3_3_1 := B3_3.cell 1 rfl
    have e3_3_1 := B3_3.free 1
    rw [rounds_succ]
    go_wp2_with fail
    generalize h4 : ((w3.setCell ⟨b2_0, 0, none⟩ (.int .i64 (-a - 1))).setCell ⟨b2_0, 1, none⟩ (.int .i64 (-b - 1))) = w4
    replace h4 := h4.symm
    have G4 : Grew w w4 := by
      rw [h4]
      repeat' (first | (with_reducible exact Grew.refl _) | (with_reducible refine Grew.setCell ?_ ?_ _) | (with_reducible refine Grew.drewN ?_ _) | (with_reducible refine Grew.alloc ?_ _) | (with_reducible refine Grew.trans ?_ G4.out) | (with_reducible refine Grew.trans ?_ G3.out) | (with_reducible refine Grew.trans ?_ G2.out) | (with_reducible refine Grew.trans ?_ G1.out) | (dsimp only; omega))
    have B4_0 : Blk w4 (w.heap.size) 39 [.int .i64 2, .bool true, .int .i64 s, .int .i64 dx, .int .i64 dy] := by (rw [h4]; repeat' (first | (with_reducible assumption) | ((with_reducible refine Blk.new ?_); (first | (with_reducible rfl) | (simp only [World.size_alloc, World.size_setCell, size_drewN]; done))) | (with_reducible refine Blk.alloc ?_ _) | (with_reducible refine Blk.drewN ?_ _) | (with_reducible refine Blk.drew ?_) | (refine Blk.other ?_ (by omega) _) | fail))
    have B4_1 : Blk w4 (w.heap.size + 1) 25 [.int .i64 x, .int .i64 y] := by (rw [h4]; repeat' (first | (with_reducible assumption) | ((with_reducible refine Blk.new ?_); (first | (with_reducible rfl) | (simp only [World.size_alloc, World.size_setCell, size_drewN]; done))) | (with_reducible refine Blk.alloc ?_ _) | (with_reducible refine Blk.drewN ?_ _) | (with_reducible refine Blk.drew ?_) | (refine Blk.other ?_ (by omega) _) | fail))
    have B4_2 : Blk w4 (w.heap.size + 1 + 1) 25 [.int .i64 0, .int .i64 0] := by (rw [h4]; repeat' (first | (with_reducible assumption) | ((with_reducible refine Blk.new ?_); (first | (with_reducible rfl) | (simp only [World.size_alloc, World.size_setCell, size_drewN]; done))) | (with_reducible refine Blk.alloc ?_ _) | (with_reducible refine Blk.drewN ?_ _) | (with_reducible refine Blk.drew ?_) | (refine Blk.other ?_ (by omega) _) | fail))
    have B4_3 : Blk w4 (b2_0) 25 [.int .i64 (-a - 1), .int .i64 (-b - 1)] := by (rw [h4]; (repeat' (first | (refine Blk.other ?_ (by omega) _) | fail)); refine Blk.set_as (vs := [.int .i64 (-a - 1), .int .i64 (-a - 1)]) ?_ 1 (.int .i64 (-b - 1)) (by rfl); refine Blk.set_as (vs := [.int .i64 (b), .int .i64 (-a - 1)]) ?_ 0 (.int .i64 (-a - 1)) (by rfl); repeat' (first | (with_reducible assumption) | ((with_reducible refine Blk.new ?_); (first | (with_reducible rfl) | (simp only [World.size_alloc, World.size_setCell, size_drewN]; done))) | (with_reducible refine Blk.alloc ?_ _) | (with_reducible refine Blk.drewN ?_ _) | (with_reducible refine Blk.drew ?_) | (refine Blk.other ?_ (by omega) _) | fail))
    have z4 := G4.size
    replace G4 := hide G4
    clear h4
    have t4_0 := B4_0.lt
    have d4_0_0 := B4_0.cell 0 rfl
    have e4_0_0 := B4_0.free 0
    have d4_0_1 := B4_0.cell 1 rfl
    have e4_0_1 := B4_0.free 1
    have d4_0_2 := B4_0.cell 2 rfl
    have e4_0_2 := B4_0.free 2
    have d4_0_3 := B4_0.cell 3 rfl
    have e4_0_3 := B4_0.free 3
    have d4_0_4 := B4_0.cell 4 rfl
    have e4_0_4 := B4_0.free 4
    have t4_1 := B4_1.lt
    have d4_1_0 := B4_1.cell 0 rfl
    have e4_1_0 := B4_1.free 0
    have d4_1_1 := B4_1.cell 1 rfl
    have e4_1_1 := B4_1.free 1
    have t4_2 := B4_2.lt
    have d4_2_0 := B4_2.cell 0 rfl
    have e4_2_0 := B4_2.free 0
    have d4_2_1 := B4_2.cell 1 rfl
    have e4_2_1 := B4_2.free 1
    have t4_3 := B4_3.lt
    have d4_3_0 := B4_3.cell 0 rfl
    have e4_3_0 := B4_3.free 0
    have d4_3_1 := B4_3.cell 1 rfl
    have e4_3_1 := B4_3.free 1
    rw [rounds_succ]
    go_wp2_with fail
    go_wp2
    rw [H0.out]
    refine bodyPost_ret (v := .agg #[.int .i64 (-(-a - 1) - 1), .int .i64 (-b - 1)]) (by simp [results, Try.results31, go_sem, R.zero, T.zero, d4_0_0, d4_0_1, d4_0_2, d4_0_3, d4_0_4, d4_1_0, d4_1_1, d4_2_0, d4_2_1, d4_3_0, d4_3_1, t4_0, t4_1, t4_2, t4_3]) rfl ⟨rfl, ?_⟩
    repeat' (first | (with_reducible exact Grew.refl _) | (with_reducible refine Grew.setCell ?_ ?_ _) | (with_reducible refine Grew.drewN ?_ _) | (with_reducible refine Grew.alloc ?_ _) | (with_reducible refine Grew.trans ?_ G4.out) | (with_reducible refine Grew.trans ?_ G3.out) | (with_reducible refine Grew.trans ?_ G2.out) | (with_reducible refine Grew.trans ?_ G1.out) | (dsimp only; omega))
  · have H0 : Hid (T.back ⟨3, true, s, dx, dy⟩ ⟨x, y⟩ = ⟨-(-b - 1) - 1, -(-a - 1) - 1⟩) := by
      rw [Hid, H.out]; simp [bmir, bkx, bky]; try omega
    clear h1 H
    go_enter Try.func31, Try.ntmps31
    go_wp2_with fail
    refine ((V1 _).out).mono ?_
    rintro e w1 ⟨rfl, G1⟩
    try (with_reducible replace G1 := Grew.undrawn G1)
    have B1_0 : Blk w1 (w.heap.size) 39 [.int .i64 3, .bool true, .int .i64 s, .int .i64 dx, .int .i64 dy] := Blk.grew (by (repeat' (first | (with_reducible assumption) | ((with_reducible refine Blk.new ?_); (first | (with_reducible rfl) | (simp only [World.size_alloc, World.size_setCell, size_drewN]; done))) | (with_reducible refine Blk.alloc ?_ _) | (with_reducible refine Blk.drewN ?_ _) | (with_reducible refine Blk.drew ?_) | (refine Blk.other ?_ (by omega) _) | fail))) G1
    have B1_1 : Blk w1 (w.heap.size + 1) 25 [.int .i64 x, .int .i64 y] := Blk.grew (by (repeat' (first | (with_reducible assumption) | ((with_reducible refine Blk.new ?_); (first | (with_reducible rfl) | (simp only [World.size_alloc, World.size_setCell, size_drewN]; done))) | (with_reducible refine Blk.alloc ?_ _) | (with_reducible refine Blk.drewN ?_ _) | (with_reducible refine Blk.drew ?_) | (refine Blk.other ?_ (by omega) _) | fail))) G1
    have B1_2 : Blk w1 (w.heap.size + 1 + 1) 25 [.int .i64 0, .int .i64 0] := Blk.grew (by (repeat' (first | (with_reducible assumption) | ((with_reducible refine Blk.new ?_); (first | (with_reducible rfl) | (simp only [World.size_alloc, World.size_setCell, size_drewN]; done))) | (with_reducible refine Blk.alloc ?_ _) | (with_reducible refine Blk.drewN ?_ _) | (with_reducible refine Blk.drew ?_) | (refine Blk.other ?_ (by omega) _) | fail))) G1
    have z1 := G1.size
    try simp only [World.size_alloc, World.size_setCell, size_drewN] at z1
    replace G1 := hide G1
    have t1_0 := B1_0.lt
    have d1_0_0 := B1_0.cell 0 rfl
    have e1_0_0 := B1_0.free 0
    have d1_0_1 := B1_0.cell 1 rfl
    have e1_0_1 := B1_0.free 1
    have d1_0_2 := B1_0.cell 2 rfl
    have e1_0_2 := B1_0.free 2
    have d1_0_3 := B1_0.cell 3 rfl
    have e1_0_3 := B1_0.free 3
    have d1_0_4 := B1_0.cell 4 rfl
    have e1_0_4 := B1_0.free 4
    have t1_1 := B1_1.lt
    have d1_1_0 := B1_1.cell 0 rfl
    have e1_1_0 := B1_1.free 0
    have d1_1_1 := B1_1.cell 1 rfl
    have e1_1_1 := B1_1.free 1
    have t1_2 := B1_2.lt
    have d1_2_0 := B1_2.cell 0 rfl
    have e1_2_0 := B1_2.free 0
    have d1_2_1 := B1_2.cell 1 rfl
    have e1_2_1 := B1_2.free 1
    go_wp2_with fail
    refine (reachable_any _ _).mono ?_
    rintro e _ ⟨rfl, rfl⟩
    go_wp2_with fail
    refine (reachable_any _ _).mono ?_
    rintro e _ ⟨rfl, rfl⟩
    go_wp2_with fail
    have g1_0_0 := fun m os => (B1_0.grow m os).cell 0 rfl
    have g1_0_1 := fun m os => (B1_0.grow m os).cell 1 rfl
    have g1_0_2 := fun m os => (B1_0.grow m os).cell 2 rfl
    have g1_0_3 := fun m os => (B1_0.grow m os).cell 3 rfl
    have g1_0_4 := fun m os => (B1_0.grow m os).cell 4 rfl
    have g1_1_0 := fun m os => (B1_1.grow m os).cell 0 rfl
    have g1_1_1 := fun m os => (B1_1.grow m os).cell 1 rfl
    have g1_2_0 := fun m os => (B1_2.grow m os).cell 0 rfl
    have g1_2_1 := fun m os => (B1_2.grow m os).cell 1 rfl
    refine wp_region_made [⟨17, 18, 5, 25, [.int .i64 0, .int .i64 0], [.int .i64 a, .int .i64 b]⟩] (by kernel_rfl) (by kernel_rfl) (by simp [madeSlots]) ?_
    repeat (first | (refine lex_skip rfl (by rfl) ?_) | (refine lex_calm rfl (by rfl) (fun K hK => ?_); go_simp; first | (refine hK _ ?_; clear hK K) | (apply Exists.intro; refine ⟨fun _ _ => ?_, hK _ ?_⟩; (first | (with_reducible exact (S1 _).out) | (with_reducible exact (S2 _).out)); clear hK K)))
    refine lex_alloc (m := ⟨17, 18, 5, 25, [.int .i64 0, .int .i64 0], [.int .i64 a, .int .i64 b]⟩) (by kernel_rfl) (by simp) (by rfl) rfl ?_ ?_
    · intro ev w
      go_simp
    repeat (first | (refine lex_skip rfl (by rfl) ?_) | (refine lex_calm rfl (by rfl) (fun K hK => ?_); go_simp; first | (refine hK _ ?_; clear hK K) | (apply Exists.intro; refine ⟨fun _ _ => ?_, hK _ ?_⟩; (first | (with_reducible exact (S1 _).out) | (with_reducible exact (S2 _).out)); clear hK K)))
    refine lex_store (m := ⟨17, 18, 5, 25, [.int .i64 0, .int .i64 0], [.int .i64 a, .int .i64 b]⟩) (by kernel_rfl) (by simp) (by rfl) rfl ?_ ?_
    · intro vs w b hv hB
      have d0 := hB.cell 0 rfl
      have e0 := hB.free 0
      have d1 := hB.cell 1 rfl
      have e1 := hB.free 1
      simp only [] at hv
      simp [go_sem, evS, madeSlots, List.lookup, setAll, *]
    repeat (first | (refine lex_skip rfl (by rfl) ?_) | (refine lex_calm rfl (by rfl) (fun K hK => ?_); go_simp; first | (refine hK _ ?_; clear hK K) | (apply Exists.intro; refine ⟨fun _ _ => ?_, hK _ ?_⟩; (first | (with_reducible exact (S1 _).out) | (with_reducible exact (S2 _).out)); clear hK K)))
    refine lex_nil ?_
    rintro vs w2 ⟨G2, hb, hne⟩
    obtain ⟨b2_0, hv0, s2_0, K2_0⟩ := hb ⟨17, 18, 5, 25, [.int .i64 0, .int .i64 0], [.int .i64 a, .int .i64 b]⟩ (by simp) rfl
    simp only [fillS, madeSlots, List.map_cons, List.map_nil, List.foldl_cons, List.foldl_nil, hv0]
    clear hb hne hv0 vs
    have B2_0 : Blk w2 (w.heap.size) 39 [.int .i64 3, .bool true, .int .i64 s, .int .i64 dx, .int .i64 dy] := B1_0.grew G2
    have B2_1 : Blk w2 (w.heap.size + 1) 25 [.int .i64 x, .int .i64 y] := B1_1.grew G2
    have B2_2 : Blk w2 (w.heap.size + 1 + 1) 25 [.int .i64 0, .int .i64 0] := B1_2.grew G2
    have B2_3 : Blk w2 b2_0 25 [.int .i64 a, .int .i64 b] := K2_0
    clear K2_0
    have z2 := G2.size
    replace G2 := hide G2
    have t2_0 := B2_0.lt
    have d2_0_0 := B2_0.cell 0 rfl
    have e2_0_0 := B2_0.free 0
    have d2_0_1 := B2_0.cell 1 rfl
    have e2_0_1 := B2_0.free 1
    have d2_0_2 := B2_0.cell 2 rfl
    have e2_0_2 := B2_0.free 2
    have d2_0_3 := B2_0.cell 3 rfl
    have e2_0_3 := B2_0.free 3
    have d2_0_4 := B2_0.cell 4 rfl
    have e2_0_4 := B2_0.free 4
    have t2_1 := B2_1.lt
    have d2_1_0 := B2_1.cell 0 rfl
    have e2_1_0 := B2_1.free 0
    have d2_1_1 := B2_1.cell 1 rfl
    have e2_1_1 := B2_1.free 1
    have t2_2 := B2_2.lt
    have d2_2_0 := B2_2.cell 0 rfl
    have e2_2_0 := B2_2.free 0
    have d2_2_1 := B2_2.cell 1 rfl
    have e2_2_1 := B2_2.free 1
    have t2_3 := B2_3.lt
    have d2_3_0 := B2_3.cell 0 rfl
    have e2_3_0 := B2_3.free 0
    have d2_3_1 := B2_3.cell 1 rfl
    have e2_3_1 := B2_3.free 1
    go_simp
    go_wp2_with fail
    refine wp_loop_rounds 4 ?_
    rw [rounds_succ]
    go_wp2_with fail
    generalize h3 : ((w2.setCell ⟨b2_0, 0, none⟩ (.int .i64 (b))).setCell ⟨b2_0, 1, none⟩ (.int .i64 (-a - 1))) = w3
    replace h3 := h3.symm
    have G3 : Grew w w3 := by
      rw [h3]
      repeat' (first | (with_reducible exact Grew.refl _) | (with_reducible refine Grew.setCell ?_ ?_ _) | (with_reducible refine Grew.drewN ?_ _) | (with_reducible refine Grew.alloc ?_ _) | (with_reducible refine Grew.trans ?_ G3.out) | (with_reducible refine Grew.trans ?_ G2.out) | (with_reducible refine Grew.trans ?_ G1.out) | (dsimp only; omega))
    have B3_0 : Blk w3 (w.heap.size) 39 [.int .i64 3, .bool true, .int .i64 s, .int .i64 dx, .int .i64 dy] := by (rw [h3]; repeat' (first | (with_reducible assumption) | ((with_reducible refine Blk.new ?_); (first | (with_reducible rfl) | (simp only [World.size_alloc, World.size_setCell, size_drewN]; done))) | (with_reducible refine Blk.alloc ?_ _) | (with_reducible refine Blk.drewN ?_ _) | (with_reducible refine Blk.drew ?_) | (refine Blk.other ?_ (by omega) _) | fail))
    have B3_1 : Blk w3 (w.heap.size + 1) 25 [.int .i64 x, .int .i64 y] := by (rw [h3]; repeat' (first | (with_reducible assumption) | ((with_reducible refine Blk.new ?_); (first | (with_reducible rfl) | (simp only [World.size_alloc, World.size_setCell, size_drewN]; done))) | (with_reducible refine Blk.alloc ?_ _) | (with_reducible refine Blk.drewN ?_ _) | (with_reducible refine Blk.drew ?_) | (refine Blk.other ?_ (by omega) _) | fail))
    have B3_2 : Blk w3 (w.heap.size + 1 + 1) 25 [.int .i64 0, .int .i64 0] := by (rw [h3]; repeat' (first | (with_reducible assumption) | ((with_reducible refine Blk.new ?_); (first | (with_reducible rfl) | (simp only [World.size_alloc, World.size_setCell, size_drewN]; done))) | (with_reducible refine Blk.alloc ?_ _) | (with_reducible refine Blk.drewN ?_ _) | (with_reducible refine Blk.drew ?_) | (refine Blk.other ?_ (by omega) _) | fail))
    have B3_3 : Blk w3 (b2_0) 25 [.int .i64 (b), .int .i64 (-a - 1)] := by (rw [h3]; (repeat' (first | (refine Blk.other ?_ (by omega) _) | fail)); refine Blk.set_as (vs := [.int .i64 (b), .int .i64 b]) ?_ 1 (.int .i64 (-a - 1)) (by rfl); refine Blk.set_as (vs := [.int .i64 a, .int .i64 b]) ?_ 0 (.int .i64 (b)) (by rfl); repeat' (first | (with_reducible assumption) | ((with_reducible refine Blk.new ?_); (first | (with_reducible rfl) | (simp only [World.size_alloc, World.size_setCell, size_drewN]; done))) | (with_reducible refine Blk.alloc ?_ _) | (with_reducible refine Blk.drewN ?_ _) | (with_reducible refine Blk.drew ?_) | (refine Blk.other ?_ (by omega) _) | fail))
    have z3 := G3.size
    replace G3 := hide G3
    clear h3
    have t3_0 := B3_0.lt
    have d3_0_0 := B3_0.cell 0 rfl
    have e3_0_0 := B3_0.free 0
    have d3_0_1 := B3_0.cell 1 rfl
    have e3_0_1 := B3_0.free 1
    have d3_0_2 := B3_0.cell 2 rfl
    have e3_0_2 := B3_0.free 2
    have d3_0_3 := B3_0.cell 3 rfl
    have e3_0_3 := B3_0.free 3
    have d3_0_4 := B3_0.cell 4 rfl
    have e3_0_4 := B3_0.free 4
    have t3_1 := B3_1.lt
    have d3_1_0 := B3_1.cell 0 rfl
    have e3_1_0 := B3_1.free 0
    have d3_1_1 := B3_1.cell 1 rfl
    have e3_1_1 := B3_1.free 1
    have t3_2 := B3_2.lt
    have d3_2_0 := B3_2.cell 0 rfl
    have e3_2_0 := B3_2.free 0
    have d3_2_1 := B3_2.cell 1 rfl
    have e3_2_1 := B3_2.free 1
    have t3_3 := B3_3.lt
    have d3_3_0 := B3_3.cell 0 rfl
    have e3_3_0 := B3_3.free 0
    have d3_3_1 := B3_3.cell 1 rfl
    have e3_3_1 := B3_3.free 1
    rw [rounds_succ]
    go_wp2_with fail
    generalize h4 : ((w3.setCell ⟨b2_0, 0, none⟩ (.int .i64 (-a - 1))).setCell ⟨b2_0, 1, none⟩ (.int .i64 (-b - 1))) = w4
    replace h4 := h4.symm
    have G4 : Grew w w4 := by
      rw [h4]
      repeat' (first | (with_reducible exact Grew.refl _) | (with_reducible refine Grew.setCell ?_ ?_ _) | (with_reducible refine Grew.drewN ?_ _) | (with_reducible refine Grew.alloc ?_ _) | (with_reducible refine Grew.trans ?_ G4.out) | (with_reducible refine Grew.trans ?_ G3.out) | (with_reducible refine Grew.trans ?_ G2.out) | (with_reducible refine Grew.trans ?_ G1.out) | (dsimp only; omega))
    have B4_0 : Blk w4 (w.heap.size) 39 [.int .i64 3, .bool true, .int .i64 s, .int .i64 dx, .int .i64 dy] := by (rw [h4]; repeat' (first | (with_reducible assumption) | ((with_reducible refine Blk.new ?_); (first | (with_reducible rfl) | (simp only [World.size_alloc, World.size_setCell, size_drewN]; done))) | (with_reducible refine Blk.alloc ?_ _) | (with_reducible refine Blk.drewN ?_ _) | (with_reducible refine Blk.drew ?_) | (refine Blk.other ?_ (by omega) _) | fail))
    have B4_1 : Blk w4 (w.heap.size + 1) 25 [.int .i64 x, .int .i64 y] := by (rw [h4]; repeat' (first | (with_reducible assumption) | ((with_reducible refine Blk.new ?_); (first | (with_reducible rfl) | (simp only [World.size_alloc, World.size_setCell, size_drewN]; done))) | (with_reducible refine Blk.alloc ?_ _) | (with_reducible refine Blk.drewN ?_ _) | (with_reducible refine Blk.drew ?_) | (refine Blk.other ?_ (by omega) _) | fail))
    have B4_2 : Blk w4 (w.heap.size + 1 + 1) 25 [.int .i64 0, .int .i64 0] := by (rw [h4]; repeat' (first | (with_reducible assumption) | ((with_reducible refine Blk.new ?_); (first | (with_reducible rfl) | (simp only [World.size_alloc, World.size_setCell, size_drewN]; done))) | (with_reducible refine Blk.alloc ?_ _) | (with_reducible refine Blk.drewN ?_ _) | (with_reducible refine Blk.drew ?_) | (refine Blk.other ?_ (by omega) _) | fail))
    have B4_3 : Blk w4 (b2_0) 25 [.int .i64 (-a - 1), .int .i64 (-b - 1)] := by (rw [h4]; (repeat' (first | (refine Blk.other ?_ (by omega) _) | fail)); refine Blk.set_as (vs := [.int .i64 (-a - 1), .int .i64 (-a - 1)]) ?_ 1 (.int .i64 (-b - 1)) (by rfl); refine Blk.set_as (vs := [.int .i64 (b), .int .i64 (-a - 1)]) ?_ 0 (.int .i64 (-a - 1)) (by rfl); repeat' (first | (with_reducible assumption) | ((with_reducible refine Blk.new ?_); (first | (with_reducible rfl) | (simp only [World.size_alloc, World.size_setCell, size_drewN]; done))) | (with_reducible refine Blk.alloc ?_ _) | (with_reducible refine Blk.drewN ?_ _) | (with_reducible refine Blk.drew ?_) | (refine Blk.other ?_ (by omega) _) | fail))
    have z4 := G4.size
    replace G4 := hide G4
    clear h4
    have t4_0 := B4_0.lt
    have d4_0_0 := B4_0.cell 0 rfl
    have e4_0_0 := B4_0.free 0
    have d4_0_1 := B4_0.cell 1 rfl
    have e4_0_1 := B4_0.free 1
    have d4_0_2 := B4_0.cell 2 rfl
    have e4_0_2 := B4_0.free 2
    have d4_0_3 := B4_0.cell 3 rfl
    have e4_0_3 := B4_0.free 3
    have d4_0_4 := B4_0.cell 4 rfl
    have e4_0_4 := B4_0.free 4
    have t4_1 := B4_1.lt
    have d4_1_0 := B4_1.cell 0 rfl
    have e4_1_0 := B4_1.free 0
    have d4_1_1 := B4_1.cell 1 rfl
    have e4_1_1 := B4_1.free 1
    have t4_2 := B4_2.lt
    have d4_2_0 := B4_2.cell 0 rfl
    have e4_2_0 := B4_2.free 0
    have d4_2_1 := B4_2.cell 1 rfl
    have e4_2_1 := B4_2.free 1
    have t4_3 := B4_3.lt
    have d4_3_0 := B4_3.cell 0 rfl
    have e4_3_0 := B4_3.free 0
    have d4_3_1 := B4_3.cell 1 rfl
    have e4_3_1 := B4_3.free 1
    rw [rounds_succ]
    go_wp2_with fail
    generalize h5 : ((w4.setCell ⟨b2_0, 0, none⟩ (.int .i64 (-b - 1))).setCell ⟨b2_0, 1, none⟩ (.int .i64 (-(-a - 1) - 1))) = w5
    replace h5 := h5.symm
    have G5 : Grew w w5 := by
      rw [h5]
      repeat' (first | (with_reducible exact Grew.refl _) | (with_reducible refine Grew.setCell ?_ ?_ _) | (with_reducible refine Grew.drewN ?_ _) | (with_reducible refine Grew.alloc ?_ _) | (with_reducible refine Grew.trans ?_ G5.out) | (with_reducible refine Grew.trans ?_ G4.out) | (with_reducible refine Grew.trans ?_ G3.out) | (with_reducible refine Grew.trans ?_ G2.out) | (with_reducible refine Grew.trans ?_ G1.out) | (dsimp only; omega))
    have B5_0 : Blk w5 (w.heap.size) 39 [.int .i64 3, .bool true, .int .i64 s, .int .i64 dx, .int .i64 dy] := by (rw [h5]; repeat' (first | (with_reducible assumption) | ((with_reducible refine Blk.new ?_); (first | (with_reducible rfl) | (simp only [World.size_alloc, World.size_setCell, size_drewN]; done))) | (with_reducible refine Blk.alloc ?_ _) | (with_reducible refine Blk.drewN ?_ _) | (with_reducible refine Blk.drew ?_) | (refine Blk.other ?_ (by omega) _) | fail))
    have B5_1 : Blk w5 (w.heap.size + 1) 25 [.int .i64 x, .int .i64 y] := by (rw [h5]; repeat' (first | (with_reducible assumption) | ((with_reducible refine Blk.new ?_); (first | (with_reducible rfl) | (simp only [World.size_alloc, World.size_setCell, size_drewN]; done))) | (with_reducible refine Blk.alloc ?_ _) | (with_reducible refine Blk.drewN ?_ _) | (with_reducible refine Blk.drew ?_) | (refine Blk.other ?_ (by omega) _) | fail))
    have B5_2 : Blk w5 (w.heap.size + 1 + 1) 25 [.int .i64 0, .int .i64 0] := by (rw [h5]; repeat' (first | (with_reducible assumption) | ((with_reducible refine Blk.new ?_); (first | (with_reducible rfl) | (simp only [World.size_alloc, World.size_setCell, size_drewN]; done))) | (with_reducible refine Blk.alloc ?_ _) | (with_reducible refine Blk.drewN ?_ _) | (with_reducible refine Blk.drew ?_) | (refine Blk.other ?_ (by omega) _) | fail))
    have B5_3 : Blk w5 (b2_0) 25 [.int .i64 (-b - 1), .int .i64 (-(-a - 1) - 1)] := by (rw [h5]; (repeat' (first | (refine Blk.other ?_ (by omega) _) | fail)); refine Blk.set_as (vs := [.int .i64 (-b - 1), .int .i64 (-b - 1)]) ?_ 1 (.int .i64 (-(-a - 1) - 1)) (by rfl); refine Blk.set_as (vs := [.int .i64 (-a - 1), .int .i64 (-b - 1)]) ?_ 0 (.int .i64 (-b - 1)) (by rfl); repeat' (first | (with_reducible assumption) | ((with_reducible refine Blk.new ?_); (first | (with_reducible rfl) | (simp only [World.size_alloc, World.size_setCell, size_drewN]; done))) | (with_reducible refine Blk.alloc ?_ _) | (with_reducible refine Blk.drewN ?_ _) | (with_reducible refine Blk.drew ?_) | (refine Blk.other ?_ (by omega) _) | fail))
    have z5 := G5.size
    replace G5 := hide G5
    clear h5
    have t5_0 := B5_0.lt
    have d5_0_0 := B5_0.cell 0 rfl
    have e5_0_0 := B5_0.free 0
    have d5_0_1 := B5_0.cell 1 rfl
    have e5_0_1 := B5_0.free 1
    have d5_0_2 := B5_0.cell 2 rfl
    have e5_0_2 := B5_0.free 2
    have d5_0_3 := B5_0.cell 3 rfl
    have e5_0_3 := B5_0.free 3
    have d5_0_4 := B5_0.cell 4 rfl
    have e5_0_4 := B5_0.free 4
    have t5_1 := B5_1.lt
    have d5_1_0 := B5_1.cell 0 rfl
    have e5_1_0 := B5_1.free 0
    have d5_1_1 := B5_1.cell 1 rfl
    have e5_1_1 := B5_1.free 1
    have t5_2 := B5_2.lt
    have d5_2_0 := B5_2.cell 0 rfl
    have e5_2_0 := B5_2.free 0
    have d5_2_1 := B5_2.cell 1 rfl
    have e5_2_1 := B5_2.free 1
    have t5_3 := B5_3.lt
    have d5_3_0 := B5_3.cell 0 rfl
    have e5_3_0 := B5_3.free 0
    have d5_3_1 := B5_3.cell 1 rfl
    have e5_3_1 := B5_3.free 1
    rw [rounds_succ]
    go_wp2_with fail
    go_wp2
    rw [H0.out]
    refine bodyPost_ret (v := .agg #[.int .i64 (-(-b - 1) - 1), .int .i64 (-(-a - 1) - 1)]) (by simp [results, Try.results31, go_sem, R.zero, T.zero, d5_0_0, d5_0_1, d5_0_2, d5_0_3, d5_0_4, d5_1_0, d5_1_1, d5_2_0, d5_2_1, d5_3_0, d5_3_1, t5_0, t5_1, t5_2, t5_3]) rfl ⟨rfl, ?_⟩
    repeat' (first | (with_reducible exact Grew.refl _) | (with_reducible refine Grew.setCell ?_ ?_ _) | (with_reducible refine Grew.drewN ?_ _) | (with_reducible refine Grew.alloc ?_ _) | (with_reducible refine Grew.trans ?_ G5.out) | (with_reducible refine Grew.trans ?_ G4.out) | (with_reducible refine Grew.trans ?_ G3.out) | (with_reducible refine Grew.trans ?_ G2.out) | (with_reducible refine Grew.trans ?_ G1.out) | (dsimp only; omega))

theorem Back_any (t : T) (p : Pt) (w : World) :
    Calls Try.prog 31 #[t.v, p.v] w fun e w' => e = .returned (t.back p).v ∧ Grew w w' := by
  cases c : (t.ok && reachB p.x && reachB p.y) with
  | false => exact Back_bad t p w c
  | true =>
    simp only [Bool.and_eq_true] at c
    exact Back_ok t p w c.1.1 c.1.2 c.2
end Go.Proofs.Ythldilikkogaoaa
