/- apply: an item, and a list without an element. -/
import Derived.Test.YtnhhmndnmkkhlaaDoorExLh
namespace Go.Proofs.YtnhhmndnmkkhlaaDoor
open Go.RowKit Go.Sort
set_option linter.unusedVariables false
set_option linter.unusedSimpArgs false
set_option maxRecDepth 20000

/-- A list of m and an int at p. -/
def TwoLI (w : World) (p : Option Addr) (q : Option Addr) (m cq : Nat) (n1 : Int) : Prop := ∃ b off, p = some ⟨b, off, none⟩ ∧ b < w.heap.size ∧
  (w.cell? ⟨b, off, none⟩ = some (.int .i64 4) ∧ w.cell? ⟨b, off + 1, none⟩ = some (.int .i64 0) ∧ w.cell? ⟨b, off + 2, none⟩ = some (.string ⟨#[]⟩) ∧ w.cell? ⟨b, off + 3, none⟩ = some (.slice q m cq)) ∧
  (w.cell? ⟨b, off + 4, none⟩ = some (.int .i64 1) ∧ w.cell? ⟨b, off + 4 + 1, none⟩ = some (.int .i64 n1) ∧ w.cell? ⟨b, off + 4 + 2, none⟩ = some (.string ⟨#[]⟩) ∧ w.cell? ⟨b, off + 4 + 3, none⟩ = some (.slice none 0 0))
theorem TwoLI.grew {w w' : World} {p q : Option Addr} {m cq : Nat} {n1 : Int} (h : TwoLI w p q m cq n1) (g : Grew w w') : TwoLI w' p q m cq n1 := by
  obtain ⟨b, off, hp, hb, ⟨h0, h1, h2, h3⟩, h4, h5, h6, h7⟩ := h
  have c := fun o => g.cell b o hb
  exact ⟨b, off, hp, Nat.lt_of_lt_of_le hb g.size, ⟨(c _).trans h0, (c _).trans h1, (c _).trans h2, (c _).trans h3⟩, (c _).trans h4, (c _).trans h5, (c _).trans h6, (c _).trans h7⟩

def PA (op at_ kd nn er : Int) (bb off c m cq : Nat) (q : Option Addr) (Gd : Value → World → Prop) (i : Nat) (v : Value) (w : World) : Prop := match i with
  | 0 => v = .int .i64 op
  | 1 => v = .slice (some ⟨bb, off, none⟩) 2 c
  | 2 => v = .pointer (some ⟨bb, off, none⟩)
  | 3 => v = .pointer (some ⟨bb, off + 3, none⟩)
  | 4 => v = .slice q m cq
  | 5 => v = .slice (some ⟨bb, off, none⟩) 2 c
  | 6 => v = .pointer (some ⟨bb, off + 4, none⟩)
  | 7 => v = .pointer (some ⟨bb, off + 4 + 1, none⟩)
  | 8 => v = .int .i64 at_
  | 9 => ∃ L, v = .tuple #[.agg #[.int .i64 kd, .int .i64 nn, .string ⟨#[]⟩, L], .int .i64 er] ∧ Gd L w
  | 10 => ∃ L, v = .agg #[.int .i64 kd, .int .i64 nn, .string ⟨#[]⟩, L] ∧ Gd L w
  | 11 => v = .int .i64 er
  | _ => True
theorem PA.grew {op at_ kd nn er : Int} {bb off c m cq : Nat} {q : Option Addr} {Gd : Value → World → Prop} (hGg : ∀ L w w', Gd L w → Grew w w' → Gd L w') (i : Nat) (v : Value) (w w' : World) (gr : Grew w w') (h : PA op at_ kd nn er bb off c m cq q Gd i v w) : PA op at_ kd nn er bb off c m cq q Gd i v w' := by
  unfold PA at *
  split at h
  case h_10 => obtain ⟨L, h1, h2⟩ := h; exact ⟨L, h1, hGg _ _ _ h2 gr⟩
  case h_11 => obtain ⟨L, h1, h2⟩ := h; exact ⟨L, h1, hGg _ _ _ h2 gr⟩
  all_goals exact h
theorem PA.ten {op at_ kd nn er : Int} {bb off c m cq : Nat} {q : Option Addr} {Gd : Value → World → Prop} {v : Value} {w : World} (h : PA op at_ kd nn er bb off c m cq q Gd 10 v w) : ∃ L, v = .agg #[.int .i64 kd, .int .i64 nn, .string ⟨#[]⟩, L] ∧ Gd L w := h
theorem PA.nine {op at_ kd nn er : Int} {bb off c m cq : Nat} {q : Option Addr} {Gd : Value → World → Prop} {v : Value} {w : World} (h : PA op at_ kd nn er bb off c m cq q Gd 9 v w) : ∃ L, v = .tuple #[.agg #[.int .i64 kd, .int .i64 nn, .string ⟨#[]⟩, L], .int .i64 er] ∧ Gd L w := h
def SA (kd nn er : Int) (rb : Nat) (Gd : Value → World → Prop) (w0 : World) (vs : Nat → Value) (w : World) : Prop := ∃ L, vs 11 = .int .i64 er ∧ Gd L w ∧ Blk w rb 24 [.int .i64 kd, .int .i64 nn, .string ⟨#[]⟩, L] ∧ Grew w0 w

theorem SA.ext {kd nn er : Int} {rb : Nat} {Gd : Value → World → Prop} {w0 : World} : ∀ vs vs' w, (∀ k, k < 12 → [13].contains k = false → vs k = vs' k) → SA kd nn er rb Gd w0 vs w → SA kd nn er rb Gd w0 vs' w := by
  rintro vs vs' w h ⟨L, h1, h2⟩
  exact ⟨L, (h 11 (by omega) rfl).symm.trans h1, h2⟩

set_option maxHeartbeats 4000000 in
theorem apply_pick20 (at_ kd nn er : Int) (p q : Option Addr) (c m cq : Nat) (Gd : Value → World → Prop) (w : World) (h : TwoLI w p q m cq at_)
    (hGg : ∀ L w w', Gd L w → Grew w w' → Gd L w') (hGl : ∀ L W, Gd L W → ∃ l n d, L = .slice l n d) (hGs : ∀ L W o x, Gd L W → Gd L (W.setCell ⟨w.heap.size, o, none⟩ x))
    (KP : ∀ W, Grew w W → w.heap.size < W.heap.size → Hid (Calls Tryd.prog 85 #[.int .i64 20, .slice q m cq, .int .i64 at_] W fun e w' => ∃ L, e = .returned (.tuple #[.agg #[.int .i64 kd, .int .i64 nn, .string ⟨#[]⟩, L], .int .i64 er]) ∧ Gd L w' ∧ Grew W w')) :
    Calls Tryd.prog 70 #[.int .i64 20, .slice p 2 c] w fun e w' => ∃ L, e = .returned (.tuple #[.agg #[.int .i64 kd, .int .i64 nn, .string ⟨#[]⟩, L], .int .i64 er]) ∧ Gd L w' ∧ Grew w w' := by
  obtain ⟨bb, off, rfl, hbl, ⟨-, -, -, x3⟩, -, y1, -, -⟩ := h
  go_enter Tryd.func70, Tryd.ntmps70
  go_wp2_with fail
  refine name_world fun w1 h1 => ?_
  have G1 : Grew w w1 := by
    rw [h1]
    repeat' (first | (with_reducible exact Grew.refl _) | (with_reducible refine Grew.setCell ?_ ?_ _) | (with_reducible refine Grew.drewN ?_ _) | (with_reducible refine Grew.reD ?_ _) | (with_reducible refine Grew.alloc ?_ _) | (with_reducible refine Grew.trans ?_ G1.out) | (dsimp only; omega))
  have B1_0 : Blk w1 (w.heap.size) 24 [.int .i64 0, .int .i64 0, .string ⟨#[]⟩, .slice none 0 0] := by (rw [h1]; repeat' (first | (with_reducible assumption) | ((with_reducible refine Blk.new ?_); (first | (with_reducible rfl) | (simp only [World.size_alloc, World.size_setCell, size_drewN]; done))) | (with_reducible refine Blk.alloc ?_ _) | (with_reducible refine Blk.drewN ?_ _) | (with_reducible refine Blk.drew ?_) | (refine Blk.other ?_ (by omega) _) | fail))
  have z1 := G1.size
  replace G1 := hide G1
  clear h1
  have t1_0 := B1_0.lt
  have d1_0_0 := B1_0.cell 0 rfl
  have e1_0_0 := B1_0.free 0
  have d1_0_1 := B1_0.cell 1 rfl
  have e1_0_1 := B1_0.free 1
  have d1_0_2 := B1_0.cell 2 rfl
  have e1_0_2 := B1_0.free 2
  have d1_0_3 := B1_0.cell 3 rfl
  have e1_0_3 := B1_0.free 3
  have hbl1 : bb < w1.heap.size := Nat.lt_of_lt_of_le hbl z1
  have u1 := (G1.out.cell bb _ hbl).trans x3
  have u2 := (G1.out.cell bb _ hbl).trans y1
  clear x3 y1
  refine wp_region_two 12 14 [13] [(96, 0), (97, 1), (98, 2), (99, 3), (100, 4), (101, 5), (102, 6), (103, 7), (104, 8), (105, 9), (106, 10), (107, 11), (5, 13)] (PA 20 at_ kd nn er bb off c m cq q Gd) (fun _ v => v = .int .i64 er) (SA kd nn er w.heap.size Gd w) (by kernel_rfl) (by kernel_rfl) (by simp) rfl (by omega) (fun k h => by simp at h; omega) SA.ext ?_
  refine lex_two 0 (by omega) (by omega) rfl rfl (PA.grew hGg) ?_ ?_
  · intro vs W hG hp
    simp [go_sem, evS, List.lookup, PA, Grew.refl]
  refine lex_two 1 (by omega) (by omega) rfl rfl (PA.grew hGg) ?_ ?_
  · intro vs W hG hp
    simp [go_sem, evS, List.lookup, PA, Grew.refl]
  refine lex_two 2 (by omega) (by omega) rfl rfl (PA.grew hGg) ?_ ?_
  · intro vs W hG hp
    have e1 := hp 1 (by omega) rfl (by kernel_rfl)
    simp only [PA] at e1
    simp [go_sem, evS, List.lookup, PA, Grew.refl, e1]
  refine lex_two 3 (by omega) (by omega) rfl rfl (PA.grew hGg) ?_ ?_
  · intro vs W hG hp
    have e2 := hp 2 (by omega) rfl (by kernel_rfl)
    simp only [PA] at e2
    simp [go_sem, evS, List.lookup, PA, Grew.refl, e2]
  refine lex_two 4 (by omega) (by omega) rfl rfl (PA.grew hGg) ?_ ?_
  · intro vs W hG hp
    have e3 := hp 3 (by omega) rfl (by kernel_rfl)
    simp only [PA] at e3
    have u := (hG.cell bb _ hbl1).trans u1
    simp [go_sem, evS, List.lookup, PA, Grew.refl, e3, u]
  refine lex_two 5 (by omega) (by omega) rfl rfl (PA.grew hGg) ?_ ?_
  · intro vs W hG hp
    simp [go_sem, evS, List.lookup, PA, Grew.refl]
  refine lex_two 6 (by omega) (by omega) rfl rfl (PA.grew hGg) ?_ ?_
  · intro vs W hG hp
    have e5 := hp 5 (by omega) rfl (by kernel_rfl)
    simp only [PA] at e5
    simp [go_sem, evS, List.lookup, PA, Grew.refl, e5]
  refine lex_two 7 (by omega) (by omega) rfl rfl (PA.grew hGg) ?_ ?_
  · intro vs W hG hp
    have e6 := hp 6 (by omega) rfl (by kernel_rfl)
    simp only [PA] at e6
    simp [go_sem, evS, List.lookup, PA, Grew.refl, e6]
  refine lex_two 8 (by omega) (by omega) rfl rfl (PA.grew hGg) ?_ ?_
  · intro vs W hG hp
    have e7 := hp 7 (by omega) rfl (by kernel_rfl)
    simp only [PA] at e7
    have u := (hG.cell bb _ hbl1).trans u2
    simp [go_sem, evS, List.lookup, PA, Grew.refl, e7, u]
  refine lex_two 9 (by omega) (by omega) rfl rfl (PA.grew hGg) ?_ ?_
  · intro vs W hG hp
    have e0 := hp 0 (by omega) rfl (by kernel_rfl)
    have e4 := hp 4 (by omega) rfl (by kernel_rfl)
    have e8 := hp 8 (by omega) rfl (by kernel_rfl)
    simp only [PA] at e0 e4 e8
    have K := KP W (G1.out.trans hG) (Nat.lt_of_lt_of_le B1_0.lt hG.size)
    simp [go_sem, evS, List.lookup, e0, e4, e8]
    refine K.out.mono ?_
    rintro e w' ⟨L, rfl, gd, gg⟩
    exact ⟨_, rfl, gg, L, rfl, gd⟩
  refine lex_two 10 (by omega) (by omega) rfl rfl (PA.grew hGg) ?_ ?_
  · intro vs W hG hp
    have H := (hp 9 (by omega) rfl (by kernel_rfl)).nine
    have ⟨L, hL, gd⟩ := H
    simp [go_sem, evS, List.lookup, hL]
    exact ⟨Grew.refl _, L, rfl, gd⟩
  refine lex_two 11 (by omega) (by omega) rfl rfl (PA.grew hGg) ?_ ?_
  · intro vs W hG hp
    have H := (hp 9 (by omega) rfl (by kernel_rfl)).nine
    have ⟨L, hL, gd⟩ := H
    simp [go_sem, evS, List.lookup, PA, Grew.refl, hL]
  refine lex_two_store (by omega) rfl (by kernel_rfl) rfl SA.ext ?_ ?_
  · intro vs W hG hp
    have H := (hp 10 (by decide) (by decide)).ten
    have e11 := hp 11 (by decide) (by decide)
    simp only [PA] at e11
    clear hp
    have ⟨L, hv, gd⟩ := H
    clear H
    have ⟨l, n, d, hL⟩ := hGl _ _ gd
    subst hL
    have Y := B1_0.grew hG
    have GW := G1.out.trans hG
    have hlt := B1_0.lt
    have yl := Y.lt
    have d0 := Y.cell 0 rfl
    have d1 := Y.cell 1 rfl
    have d2 := Y.cell 2 rfl
    have d3 := Y.cell 3 rfl
    have f0 := Y.free 0
    have f1 := Y.free 1
    have f2 := Y.free 2
    have f3 := Y.free 3
    simp [go_sem, evS, List.lookup, hv, d0, d1, d2, d3, f0, f1, f2, f3]
    exact ⟨_, e11, hGs _ _ _ _ (hGs _ _ _ _ (hGs _ _ _ _ (hGs _ _ _ _ gd))), (((Y.set' 0 _ rfl).set' 1 _ rfl).set' 2 _ rfl).set' 3 _ rfl, (((GW.setCell (by dsimp only; omega) _).setCell (by dsimp only; omega) _).setCell (by dsimp only; omega) _).setCell (by dsimp only; omega) _⟩
  refine lex_two_free 13 (by omega) rfl (by omega) rfl SA.ext ?_ ?_
  · intro vs W hh _
    have e11 : vs 11 = .int .i64 er := by
      rcases hh with hp | ⟨L, h1, -⟩
      · exact hp 11 (by omega) rfl (by kernel_rfl)
      · exact h1
    simp [go_sem, evS, List.lookup, e11]
  refine lex_nil ?_
  rintro vs w2 ⟨⟨h, -, -⟩ | ⟨-, -, L, h11, gd, Bx, GW⟩, hv⟩
  · cases h
  replace hv := hv 13 rfl rfl
  simp only [fillS, List.foldl_cons, List.foldl_nil, hv]
  generalize vs 0 = vv0
  generalize vs 1 = vv1
  generalize vs 2 = vv2
  generalize vs 3 = vv3
  generalize vs 4 = vv4
  generalize vs 5 = vv5
  generalize vs 6 = vv6
  generalize vs 7 = vv7
  generalize vs 8 = vv8
  generalize vs 9 = vv9
  generalize vs 10 = vv10
  have q0 := Bx.cell 0 rfl
  have q1 := Bx.cell 1 rfl
  have q2 := Bx.cell 2 rfl
  have q3 := Bx.cell 3 rfl
  go_simp
  go_wp2
  exact bodyPost_ret (v := .tuple #[.agg #[.int .i64 kd, .int .i64 nn, .string ⟨#[]⟩, L], .int .i64 er]) (by simp [results, Tryd.results70, go_sem, q0, q1, q2, q3]) rfl ⟨_, rfl, gd, GW⟩

set_option maxHeartbeats 4000000 in
theorem apply_pick21 (at_ kd nn er : Int) (p q : Option Addr) (c m cq : Nat) (Gd : Value → World → Prop) (w : World) (h : TwoLI w p q m cq at_)
    (hGg : ∀ L w w', Gd L w → Grew w w' → Gd L w') (hGl : ∀ L W, Gd L W → ∃ l n d, L = .slice l n d) (hGs : ∀ L W o x, Gd L W → Gd L (W.setCell ⟨w.heap.size, o, none⟩ x))
    (KP : ∀ W, Grew w W → w.heap.size < W.heap.size → Hid (Calls Tryd.prog 85 #[.int .i64 21, .slice q m cq, .int .i64 at_] W fun e w' => ∃ L, e = .returned (.tuple #[.agg #[.int .i64 kd, .int .i64 nn, .string ⟨#[]⟩, L], .int .i64 er]) ∧ Gd L w' ∧ Grew W w')) :
    Calls Tryd.prog 70 #[.int .i64 21, .slice p 2 c] w fun e w' => ∃ L, e = .returned (.tuple #[.agg #[.int .i64 kd, .int .i64 nn, .string ⟨#[]⟩, L], .int .i64 er]) ∧ Gd L w' ∧ Grew w w' := by
  obtain ⟨bb, off, rfl, hbl, ⟨-, -, -, x3⟩, -, y1, -, -⟩ := h
  go_enter Tryd.func70, Tryd.ntmps70
  go_wp2_with fail
  refine name_world fun w1 h1 => ?_
  have G1 : Grew w w1 := by
    rw [h1]
    repeat' (first | (with_reducible exact Grew.refl _) | (with_reducible refine Grew.setCell ?_ ?_ _) | (with_reducible refine Grew.drewN ?_ _) | (with_reducible refine Grew.reD ?_ _) | (with_reducible refine Grew.alloc ?_ _) | (with_reducible refine Grew.trans ?_ G1.out) | (dsimp only; omega))
  have B1_0 : Blk w1 (w.heap.size) 24 [.int .i64 0, .int .i64 0, .string ⟨#[]⟩, .slice none 0 0] := by (rw [h1]; repeat' (first | (with_reducible assumption) | ((with_reducible refine Blk.new ?_); (first | (with_reducible rfl) | (simp only [World.size_alloc, World.size_setCell, size_drewN]; done))) | (with_reducible refine Blk.alloc ?_ _) | (with_reducible refine Blk.drewN ?_ _) | (with_reducible refine Blk.drew ?_) | (refine Blk.other ?_ (by omega) _) | fail))
  have z1 := G1.size
  replace G1 := hide G1
  clear h1
  have t1_0 := B1_0.lt
  have d1_0_0 := B1_0.cell 0 rfl
  have e1_0_0 := B1_0.free 0
  have d1_0_1 := B1_0.cell 1 rfl
  have e1_0_1 := B1_0.free 1
  have d1_0_2 := B1_0.cell 2 rfl
  have e1_0_2 := B1_0.free 2
  have d1_0_3 := B1_0.cell 3 rfl
  have e1_0_3 := B1_0.free 3
  have hbl1 : bb < w1.heap.size := Nat.lt_of_lt_of_le hbl z1
  have u1 := (G1.out.cell bb _ hbl).trans x3
  have u2 := (G1.out.cell bb _ hbl).trans y1
  clear x3 y1
  refine wp_region_two 12 14 [13] [(96, 0), (97, 1), (98, 2), (99, 3), (100, 4), (101, 5), (102, 6), (103, 7), (104, 8), (105, 9), (106, 10), (107, 11), (5, 13)] (PA 21 at_ kd nn er bb off c m cq q Gd) (fun _ v => v = .int .i64 er) (SA kd nn er w.heap.size Gd w) (by kernel_rfl) (by kernel_rfl) (by simp) rfl (by omega) (fun k h => by simp at h; omega) SA.ext ?_
  refine lex_two 0 (by omega) (by omega) rfl rfl (PA.grew hGg) ?_ ?_
  · intro vs W hG hp
    simp [go_sem, evS, List.lookup, PA, Grew.refl]
  refine lex_two 1 (by omega) (by omega) rfl rfl (PA.grew hGg) ?_ ?_
  · intro vs W hG hp
    simp [go_sem, evS, List.lookup, PA, Grew.refl]
  refine lex_two 2 (by omega) (by omega) rfl rfl (PA.grew hGg) ?_ ?_
  · intro vs W hG hp
    have e1 := hp 1 (by omega) rfl (by kernel_rfl)
    simp only [PA] at e1
    simp [go_sem, evS, List.lookup, PA, Grew.refl, e1]
  refine lex_two 3 (by omega) (by omega) rfl rfl (PA.grew hGg) ?_ ?_
  · intro vs W hG hp
    have e2 := hp 2 (by omega) rfl (by kernel_rfl)
    simp only [PA] at e2
    simp [go_sem, evS, List.lookup, PA, Grew.refl, e2]
  refine lex_two 4 (by omega) (by omega) rfl rfl (PA.grew hGg) ?_ ?_
  · intro vs W hG hp
    have e3 := hp 3 (by omega) rfl (by kernel_rfl)
    simp only [PA] at e3
    have u := (hG.cell bb _ hbl1).trans u1
    simp [go_sem, evS, List.lookup, PA, Grew.refl, e3, u]
  refine lex_two 5 (by omega) (by omega) rfl rfl (PA.grew hGg) ?_ ?_
  · intro vs W hG hp
    simp [go_sem, evS, List.lookup, PA, Grew.refl]
  refine lex_two 6 (by omega) (by omega) rfl rfl (PA.grew hGg) ?_ ?_
  · intro vs W hG hp
    have e5 := hp 5 (by omega) rfl (by kernel_rfl)
    simp only [PA] at e5
    simp [go_sem, evS, List.lookup, PA, Grew.refl, e5]
  refine lex_two 7 (by omega) (by omega) rfl rfl (PA.grew hGg) ?_ ?_
  · intro vs W hG hp
    have e6 := hp 6 (by omega) rfl (by kernel_rfl)
    simp only [PA] at e6
    simp [go_sem, evS, List.lookup, PA, Grew.refl, e6]
  refine lex_two 8 (by omega) (by omega) rfl rfl (PA.grew hGg) ?_ ?_
  · intro vs W hG hp
    have e7 := hp 7 (by omega) rfl (by kernel_rfl)
    simp only [PA] at e7
    have u := (hG.cell bb _ hbl1).trans u2
    simp [go_sem, evS, List.lookup, PA, Grew.refl, e7, u]
  refine lex_two 9 (by omega) (by omega) rfl rfl (PA.grew hGg) ?_ ?_
  · intro vs W hG hp
    have e0 := hp 0 (by omega) rfl (by kernel_rfl)
    have e4 := hp 4 (by omega) rfl (by kernel_rfl)
    have e8 := hp 8 (by omega) rfl (by kernel_rfl)
    simp only [PA] at e0 e4 e8
    have K := KP W (G1.out.trans hG) (Nat.lt_of_lt_of_le B1_0.lt hG.size)
    simp [go_sem, evS, List.lookup, e0, e4, e8]
    refine K.out.mono ?_
    rintro e w' ⟨L, rfl, gd, gg⟩
    exact ⟨_, rfl, gg, L, rfl, gd⟩
  refine lex_two 10 (by omega) (by omega) rfl rfl (PA.grew hGg) ?_ ?_
  · intro vs W hG hp
    have H := (hp 9 (by omega) rfl (by kernel_rfl)).nine
    have ⟨L, hL, gd⟩ := H
    simp [go_sem, evS, List.lookup, hL]
    exact ⟨Grew.refl _, L, rfl, gd⟩
  refine lex_two 11 (by omega) (by omega) rfl rfl (PA.grew hGg) ?_ ?_
  · intro vs W hG hp
    have H := (hp 9 (by omega) rfl (by kernel_rfl)).nine
    have ⟨L, hL, gd⟩ := H
    simp [go_sem, evS, List.lookup, PA, Grew.refl, hL]
  refine lex_two_store (by omega) rfl (by kernel_rfl) rfl SA.ext ?_ ?_
  · intro vs W hG hp
    have H := (hp 10 (by decide) (by decide)).ten
    have e11 := hp 11 (by decide) (by decide)
    simp only [PA] at e11
    clear hp
    have ⟨L, hv, gd⟩ := H
    clear H
    have ⟨l, n, d, hL⟩ := hGl _ _ gd
    subst hL
    have Y := B1_0.grew hG
    have GW := G1.out.trans hG
    have hlt := B1_0.lt
    have yl := Y.lt
    have d0 := Y.cell 0 rfl
    have d1 := Y.cell 1 rfl
    have d2 := Y.cell 2 rfl
    have d3 := Y.cell 3 rfl
    have f0 := Y.free 0
    have f1 := Y.free 1
    have f2 := Y.free 2
    have f3 := Y.free 3
    simp [go_sem, evS, List.lookup, hv, d0, d1, d2, d3, f0, f1, f2, f3]
    exact ⟨_, e11, hGs _ _ _ _ (hGs _ _ _ _ (hGs _ _ _ _ (hGs _ _ _ _ gd))), (((Y.set' 0 _ rfl).set' 1 _ rfl).set' 2 _ rfl).set' 3 _ rfl, (((GW.setCell (by dsimp only; omega) _).setCell (by dsimp only; omega) _).setCell (by dsimp only; omega) _).setCell (by dsimp only; omega) _⟩
  refine lex_two_free 13 (by omega) rfl (by omega) rfl SA.ext ?_ ?_
  · intro vs W hh _
    have e11 : vs 11 = .int .i64 er := by
      rcases hh with hp | ⟨L, h1, -⟩
      · exact hp 11 (by omega) rfl (by kernel_rfl)
      · exact h1
    simp [go_sem, evS, List.lookup, e11]
  refine lex_nil ?_
  rintro vs w2 ⟨⟨h, -, -⟩ | ⟨-, -, L, h11, gd, Bx, GW⟩, hv⟩
  · cases h
  replace hv := hv 13 rfl rfl
  simp only [fillS, List.foldl_cons, List.foldl_nil, hv]
  generalize vs 0 = vv0
  generalize vs 1 = vv1
  generalize vs 2 = vv2
  generalize vs 3 = vv3
  generalize vs 4 = vv4
  generalize vs 5 = vv5
  generalize vs 6 = vv6
  generalize vs 7 = vv7
  generalize vs 8 = vv8
  generalize vs 9 = vv9
  generalize vs 10 = vv10
  have q0 := Bx.cell 0 rfl
  have q1 := Bx.cell 1 rfl
  have q2 := Bx.cell 2 rfl
  have q3 := Bx.cell 3 rfl
  go_simp
  go_wp2
  exact bodyPost_ret (v := .tuple #[.agg #[.int .i64 kd, .int .i64 nn, .string ⟨#[]⟩, L], .int .i64 er]) (by simp [results, Tryd.results70, go_sem, q0, q1, q2, q3]) rfl ⟨_, rfl, gd, GW⟩

end Go.Proofs.YtnhhmndnmkkhlaaDoor
