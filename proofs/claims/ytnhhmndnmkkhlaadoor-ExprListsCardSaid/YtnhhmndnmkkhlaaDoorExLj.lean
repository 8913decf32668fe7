/- apply: two lists, one behind the other. -/
import Derived.Test.YtnhhmndnmkkhlaaDoorExLi
namespace Go.Proofs.YtnhhmndnmkkhlaaDoor
open Go.RowKit Go.Sort
set_option linter.unusedVariables false
set_option linter.unusedSimpArgs false
set_option maxRecDepth 20000

/-- Two lists at p. -/
def TwoLL (w : World) (p : Option Addr) (q : Option Addr) (m cq : Nat) (q' : Option Addr) (m' cq' : Nat) : Prop := ∃ b off, p = some ⟨b, off, none⟩ ∧ b < w.heap.size ∧
  (w.cell? ⟨b, off, none⟩ = some (.int .i64 4) ∧ w.cell? ⟨b, off + 1, none⟩ = some (.int .i64 0) ∧ w.cell? ⟨b, off + 2, none⟩ = some (.string ⟨#[]⟩) ∧ w.cell? ⟨b, off + 3, none⟩ = some (.slice q m cq)) ∧
  (w.cell? ⟨b, off + 4, none⟩ = some (.int .i64 4) ∧ w.cell? ⟨b, off + 4 + 1, none⟩ = some (.int .i64 0) ∧ w.cell? ⟨b, off + 4 + 2, none⟩ = some (.string ⟨#[]⟩) ∧ w.cell? ⟨b, off + 4 + 3, none⟩ = some (.slice q' m' cq'))
theorem TwoLL.grew {w w' : World} {p q q' : Option Addr} {m cq m' cq' : Nat} (h : TwoLL w p q m cq q' m' cq') (g : Grew w w') : TwoLL w' p q m cq q' m' cq' := by
  obtain ⟨b, off, hp, hb, ⟨h0, h1, h2, h3⟩, h4, h5, h6, h7⟩ := h
  have c := fun o => g.cell b o hb
  exact ⟨b, off, hp, Nat.lt_of_lt_of_le hb g.size, ⟨(c _).trans h0, (c _).trans h1, (c _).trans h2, (c _).trans h3⟩, (c _).trans h4, (c _).trans h5, (c _).trans h6, (c _).trans h7⟩

def PC (q0 q1 : Option Addr) (bb off c m0 n0 m1 n1 B : Nat) (g0 g1 : Nat → Int) (i : Nat) (v : Value) (w : World) : Prop := match i with
  | 0 => v = .slice (some ⟨bb, off, none⟩) 2 c
  | 1 => v = .pointer (some ⟨bb, off, none⟩)
  | 2 => v = .pointer (some ⟨bb, off + 3, none⟩)
  | 3 => v = .slice q0 m0 n0
  | 4 => v = .slice (some ⟨bb, off, none⟩) 2 c
  | 5 => v = .pointer (some ⟨bb, off + 4, none⟩)
  | 6 => v = .pointer (some ⟨bb, off + 4 + 3, none⟩)
  | 7 => v = .slice q1 m1 n1
  | 8 => ∃ sb, v = .slice (some ⟨sb, 0, none⟩) 2 2 ∧ Blk w sb 22 [.slice q0 m0 n0, .slice q1 m1 n1]
  | 9 => ∃ base p2 c2, B ≤ base ∧ w.ownsRow base 24 4 (.slice p2 (m0 + m1) c2) (m0 + m1) (vcs (catG g0 g1 m0) (m0 + m1)) ∧ v = .slice p2 (m0 + m1) c2
  | 10 => ∃ base p2 c2, B ≤ base ∧ w.ownsRow base 24 4 (.slice p2 (m0 + m1) c2) (m0 + m1) (vcs (catG g0 g1 m0) (m0 + m1)) ∧ v = lsV p2 (m0 + m1) c2
  | _ => True
theorem PC.grew {q0 q1 : Option Addr} {bb off c m0 n0 m1 n1 B : Nat} {g0 g1 : Nat → Int} (i : Nat) (v : Value) (w w' : World) (gr : Grew w w') (h : PC q0 q1 bb off c m0 n0 m1 n1 B g0 g1 i v w) : PC q0 q1 bb off c m0 n0 m1 n1 B g0 g1 i v w' := by
  unfold PC at *
  split at h
  case h_9 => obtain ⟨sb, h1, h2⟩ := h; exact ⟨sb, h1, h2.grew gr⟩
  case h_10 => obtain ⟨base, p2, c2, h1, h2, h3⟩ := h; exact ⟨base, p2, c2, h1, own_grew h2 gr, h3⟩
  case h_11 => obtain ⟨base, p2, c2, h1, h2, h3⟩ := h; exact ⟨base, p2, c2, h1, own_grew h2 gr, h3⟩
  all_goals exact h
theorem PC.at8 {q0 q1 : Option Addr} {bb off c m0 n0 m1 n1 B : Nat} {g0 g1 : Nat → Int} {v : Value} {w : World} (h : PC q0 q1 bb off c m0 n0 m1 n1 B g0 g1 8 v w) : ∃ sb, v = .slice (some ⟨sb, 0, none⟩) 2 2 ∧ Blk w sb 22 [.slice q0 m0 n0, .slice q1 m1 n1] := h
theorem PC.at9 {q0 q1 : Option Addr} {bb off c m0 n0 m1 n1 B : Nat} {g0 g1 : Nat → Int} {v : Value} {w : World} (h : PC q0 q1 bb off c m0 n0 m1 n1 B g0 g1 9 v w) : ∃ base p2 c2, B ≤ base ∧ w.ownsRow base 24 4 (.slice p2 (m0 + m1) c2) (m0 + m1) (vcs (catG g0 g1 m0) (m0 + m1)) ∧ v = .slice p2 (m0 + m1) c2 := h
theorem PC.at10 {q0 q1 : Option Addr} {bb off c m0 n0 m1 n1 B : Nat} {g0 g1 : Nat → Int} {v : Value} {w : World} (h : PC q0 q1 bb off c m0 n0 m1 n1 B g0 g1 10 v w) : ∃ base p2 c2, B ≤ base ∧ w.ownsRow base 24 4 (.slice p2 (m0 + m1) c2) (m0 + m1) (vcs (catG g0 g1 m0) (m0 + m1)) ∧ v = lsV p2 (m0 + m1) c2 := h
def SC (m0 m1 B rb : Nat) (g0 g1 : Nat → Int) (w0 : World) (w : World) : Prop := ∃ base p2 c2, B ≤ base ∧ w.ownsRow base 24 4 (.slice p2 (m0 + m1) c2) (m0 + m1) (vcs (catG g0 g1 m0) (m0 + m1)) ∧ Blk w rb 24 [.int .i64 4, .int .i64 0, .string ⟨#[]⟩, .slice p2 (m0 + m1) c2] ∧ Grew w0 w

set_option maxHeartbeats 4000000 in
theorem apply_cat (p q0 q1 : Option Addr) (c m0 n0 m1 n1 : Nat) (g0 g1 : Nat → Int) (w : World) (h : TwoLL w p q0 m0 n0 q1 m1 n1) (hm0 : m0 ≤ 200) (hm1 : m1 ≤ 200) (hq0 : Plain q0) (hq1 : Plain q1)
    (hr0 : Row w w.heap.size q0 m0 (fun i => nd 1 (g0 i))) (hr1 : Row w w.heap.size q1 m1 (fun i => nd 1 (g1 i))) :
    Calls Tryd.prog 70 #[.int .i64 16, .slice p 2 c] w fun e w' => ∃ base p2 c2, w.heap.size ≤ base ∧ e = .returned (.tuple #[lsV p2 (m0 + m1) c2, .int .i64 0]) ∧ w'.ownsRow base 24 4 (.slice p2 (m0 + m1) c2) (m0 + m1) (vcs (catG g0 g1 m0) (m0 + m1)) ∧ Grew w w' := by
  have R0 := hide hr0
  have R1 := hide hr1
  clear hr0 hr1
  obtain ⟨bb, off, rfl, hbl, ⟨x0, -, -, x3⟩, -, -, -, y3⟩ := h
  go_enter Tryd.func70, Tryd.ntmps70
  go_wp2_with fail
  refine name_world fun w1 h1 => ?_
  have G1 : Grew w w1 := by
    rw [h1]
    repeat' (first | (with_reducible exact Grew.refl _) | (with_reducible refine Grew.setCell ?_ ?_ _) | (with_reducible refine Grew.drewN ?_ _) | (with_reducible refine Grew.reD ?_ _) | (with_reducible refine Grew.alloc ?_ _) | (with_reducible refine Grew.trans ?_ G1.out) | (dsimp only; omega))
  have B1_0 : Blk w1 (w.heap.size) 24 [.int .i64 0, .int .i64 0, .string ⟨#[]⟩, .slice none 0 0] := by (rw [h1]; repeat' (first | (with_reducible assumption) | ((with_reducible refine Blk.new ?_); (first | (with_reducible rfl) | (simp only [World.size_alloc, World.size_setCell, size_drewN]; done))) | (with_reducible refine Blk.alloc ?_ _) | (with_reducible refine Blk.drewN ?_ _) | (with_reducible refine Blk.drew ?_) | (refine Blk.other ?_ (by omega) _) | fail))
  have z1 := G1.size
  replace G1 := hide G1
  clear h1
  have t1_0 := B1_0.lt
  have d1_0_0 := B1_0.cell 0 rfl
  have e1_0_0 := B1_0.free 0
  have d1_0_1 := B1_0.cell 1 rfl
  have e1_0_1 := B1_0.free 1
  have d1_0_2 := B1_0.cell 2 rfl
  have e1_0_2 := B1_0.free 2
  have d1_0_3 := B1_0.cell 3 rfl
  have e1_0_3 := B1_0.free 3
  have hbl1 : bb < w1.heap.size := Nat.lt_of_lt_of_le hbl z1
  have u0 := (G1.out.cell bb _ hbl).trans x0
  have u1 := (G1.out.cell bb _ hbl).trans x3
  have u2 := (G1.out.cell bb _ hbl).trans y3
  clear x0 x3 y3
  refine wp_region_two 11 13 [12] [(82, 0), (83, 1), (84, 2), (85, 3), (86, 4), (87, 5), (88, 6), (89, 7), (90, 8), (91, 9), (92, 10), (5, 12)] (PC q0 q1 bb off c m0 n0 m1 n1 w1.heap.size g0 g1) (fun _ v => v = .int .i64 0) (fun _ W => SC m0 m1 w1.heap.size w.heap.size g0 g1 w W) (by kernel_rfl) (by kernel_rfl) (by simp) rfl (by omega) (fun k h => by simp at h; omega) (fun _ _ _ _ h => h) ?_
  refine lex_two 0 (by omega) (by omega) rfl rfl PC.grew ?_ ?_
  · intro vs W hG hp
    simp [go_sem, evS, List.lookup, PC, Grew.refl]
  refine lex_two 1 (by omega) (by omega) rfl rfl PC.grew ?_ ?_
  · intro vs W hG hp
    have e0 := hp 0 (by omega) rfl (by kernel_rfl)
    simp only [PC] at e0
    simp [go_sem, evS, List.lookup, PC, Grew.refl, e0]
  refine lex_two 2 (by omega) (by omega) rfl rfl PC.grew ?_ ?_
  · intro vs W hG hp
    have e1 := hp 1 (by omega) rfl (by kernel_rfl)
    simp only [PC] at e1
    simp [go_sem, evS, List.lookup, PC, Grew.refl, e1]
  refine lex_two 3 (by omega) (by omega) rfl rfl PC.grew ?_ ?_
  · intro vs W hG hp
    have e2 := hp 2 (by omega) rfl (by kernel_rfl)
    simp only [PC] at e2
    have u := (hG.cell bb _ hbl1).trans u1
    simp [go_sem, evS, List.lookup, PC, Grew.refl, e2, u]
  refine lex_two 4 (by omega) (by omega) rfl rfl PC.grew ?_ ?_
  · intro vs W hG hp
    simp [go_sem, evS, List.lookup, PC, Grew.refl]
  refine lex_two 5 (by omega) (by omega) rfl rfl PC.grew ?_ ?_
  · intro vs W hG hp
    have e4 := hp 4 (by omega) rfl (by kernel_rfl)
    simp only [PC] at e4
    simp [go_sem, evS, List.lookup, PC, Grew.refl, e4]
  refine lex_two 6 (by omega) (by omega) rfl rfl PC.grew ?_ ?_
  · intro vs W hG hp
    have e5 := hp 5 (by omega) rfl (by kernel_rfl)
    simp only [PC] at e5
    simp [go_sem, evS, List.lookup, PC, Grew.refl, e5]
  refine lex_two 7 (by omega) (by omega) rfl rfl PC.grew ?_ ?_
  · intro vs W hG hp
    have e6 := hp 6 (by omega) rfl (by kernel_rfl)
    simp only [PC] at e6
    have u := (hG.cell bb _ hbl1).trans u2
    simp [go_sem, evS, List.lookup, PC, Grew.refl, e6, u]
  refine lex_two 8 (by omega) (by omega) rfl rfl PC.grew ?_ ?_
  · intro vs W hG hp
    have e3 := hp 3 (by omega) rfl (by kernel_rfl)
    have e7 := hp 7 (by omega) rfl (by kernel_rfl)
    simp only [PC] at e3 e7
    simp [go_sem, evS, List.lookup, e3, e7]
    exact ⟨(Grew.refl _).alloc _, _, rfl, Blk.new rfl⟩
  refine lex_two 9 (by omega) (by omega) rfl rfl PC.grew ?_ ?_
  · intro vs W hG hp
    have H := (hp 8 (by omega) rfl (by kernel_rfl)).at8
    have ⟨sb, e1, hS⟩ := H
    have GW := G1.out.trans hG
    have r0 : Row W W.heap.size q0 m0 (fun i => nd 1 (g0 i)) := (R0.out.below GW.1).mono GW.size
    have r1 : Row W W.heap.size q1 m1 (fun i => nd 1 (g1 i)) := (R1.out.below GW.1).mono GW.size
    have KC := hide (Concat_two sb _ _ _ _ _ _ g0 g1 W hS hm0 hm1 hq0 hq1 r0 r1)
    simp [go_sem, evS, List.lookup, e1]
    refine KC.out.mono ?_
    rintro e w' ⟨v, rfl, own, gg⟩
    obtain ⟨p2, c2, rfl, -, -⟩ := own_row own
    exact ⟨_, rfl, gg, _, p2, c2, hG.size, own, rfl⟩
  refine lex_two 10 (by omega) (by omega) rfl rfl PC.grew ?_ ?_
  · intro vs W hG hp
    have H := (hp 9 (by omega) rfl (by kernel_rfl)).at9
    have ⟨base, p2, c2, hbase, own, hv⟩ := H
    have KL := hide (elist_any (vs 9) p2 _ c2 hv W)
    simp [go_sem, evS, List.lookup]
    refine KL.out.mono ?_
    rintro e w' ⟨rfl, gg⟩
    exact ⟨_, rfl, gg, base, p2, c2, hbase, own_grew own gg, rfl⟩
  refine lex_two_store (by omega) rfl (by kernel_rfl) rfl (fun _ _ _ _ h => h) ?_ ?_
  · intro vs W hG hp
    have H := (hp 10 (by decide) (by decide)).at10
    clear hp
    have ⟨base, p2, c2, hbase, own, hv⟩ := H
    clear H
    have Y := B1_0.grew hG
    have GW := G1.out.trans hG
    have hlt := B1_0.lt
    have yl := Y.lt
    have d0 := Y.cell 0 rfl
    have d1 := Y.cell 1 rfl
    have d2 := Y.cell 2 rfl
    have d3 := Y.cell 3 rfl
    have f0 := Y.free 0
    have f1 := Y.free 1
    have f2 := Y.free 2
    have f3 := Y.free 3
    simp [go_sem, evS, List.lookup, hv, d0, d1, d2, d3, f0, f1, f2, f3]
    exact ⟨base, p2, c2, hbase, own_set (own_set (own_set (own_set own (by omega) _ _) (by omega) _ _) (by omega) _ _) (by omega) _ _, (((Y.set' 0 _ rfl).set' 1 _ rfl).set' 2 _ rfl).set' 3 _ rfl, (((GW.setCell (by dsimp only; omega) _).setCell (by dsimp only; omega) _).setCell (by dsimp only; omega) _).setCell (by dsimp only; omega) _⟩
  refine lex_two_free 12 (by omega) rfl (by omega) rfl (fun _ _ _ _ h => h) ?_ ?_
  · intro vs W _ _
    simp [go_sem, evS, List.lookup]
  refine lex_nil ?_
  rintro vs w2 ⟨⟨h, -, -⟩ | ⟨-, -, base, p2, c2, hbase, own, Bx, GW⟩, hv⟩
  · cases h
  replace hv := hv 12 rfl rfl
  simp only [fillS, List.foldl_cons, List.foldl_nil, hv]
  generalize vs 0 = vv0
  generalize vs 1 = vv1
  generalize vs 2 = vv2
  generalize vs 3 = vv3
  generalize vs 4 = vv4
  generalize vs 5 = vv5
  generalize vs 6 = vv6
  generalize vs 7 = vv7
  generalize vs 8 = vv8
  generalize vs 9 = vv9
  generalize vs 10 = vv10
  have q0 := Bx.cell 0 rfl
  have q1 := Bx.cell 1 rfl
  have q2 := Bx.cell 2 rfl
  have q3 := Bx.cell 3 rfl
  go_simp
  go_wp2
  exact bodyPost_ret (v := .tuple #[lsV p2 (m0 + m1) c2, .int .i64 0]) (by simp [results, Tryd.results70, go_sem, q0, q1, q2, q3]) rfl ⟨base, Nat.le_trans z1 hbase, p2, c2, rfl, own, GW⟩
end Go.Proofs.YtnhhmndnmkkhlaaDoor
