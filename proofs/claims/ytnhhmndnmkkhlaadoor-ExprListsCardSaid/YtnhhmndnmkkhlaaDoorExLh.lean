/- pick: the list without an element. -/
import Derived.Test.YtnhhmndnmkkhlaaDoorExLg
namespace Go.Proofs.YtnhhmndnmkkhlaaDoor
open Go.RowKit Go.Sort
set_option linter.unusedVariables false
set_option linter.unusedSimpArgs false
set_option maxRecDepth 20000

def dropG (g : Nat → Int) (k : Nat) : Nat → Int := catG g (fun i => g (k + 1 + i)) k
def PD (b off m c k B : Nat) (g : Nat → Int) (i : Nat) (v : Value) (w : World) : Prop := match i with
  | 0 => v = .slice (some ⟨b, off, none⟩) m c
  | 1 => v = .int .i64 (k : Int)
  | 2 => v = .slice (some ⟨b, off, none⟩) k c
  | 3 => v = .slice (some ⟨b, off, none⟩) m c
  | 4 => v = .int .i64 (k : Int)
  | 5 => v = .int .i64 ((k : Int) + 1)
  | 6 => ∃ p2 c2, v = .slice p2 (m - (k + 1)) c2 ∧ (p2 = some ⟨b, off + (k + 1) * 4, none⟩ ∨ m - (k + 1) = 0) ∧ Plain p2
  | 7 => ∃ sb p2 c2, v = .slice (some ⟨sb, 0, none⟩) 2 2 ∧ Blk w sb 22 [.slice (some ⟨b, off, none⟩) k c, .slice p2 (m - (k + 1)) c2] ∧ (p2 = some ⟨b, off + (k + 1) * 4, none⟩ ∨ m - (k + 1) = 0) ∧ Plain p2
  | 8 => ∃ base, B ≤ base ∧ w.ownsRow base 24 4 v (k + (m - (k + 1))) (vcs (dropG g k) (k + (m - (k + 1))))
  | 9 => ∃ base p2 c2, B ≤ base ∧ w.ownsRow base 24 4 (.slice p2 (k + (m - (k + 1))) c2) (k + (m - (k + 1))) (vcs (dropG g k) (k + (m - (k + 1)))) ∧ v = lsV p2 (k + (m - (k + 1))) c2
  | _ => True
theorem PD.grew {b off m c k B : Nat} {g : Nat → Int} (i : Nat) (v : Value) (w w' : World) (gr : Grew w w') (h : PD b off m c k B g i v w) : PD b off m c k B g i v w' := by
  unfold PD at *
  split at h
  case h_8 => obtain ⟨sb, p2, c2, h1, h2, h3⟩ := h; exact ⟨sb, p2, c2, h1, h2.grew gr, h3⟩
  case h_9 => obtain ⟨base, h1, h2⟩ := h; exact ⟨base, h1, own_grew h2 gr⟩
  case h_10 => obtain ⟨base, p2, c2, h1, h2, h3⟩ := h; exact ⟨base, p2, c2, h1, own_grew h2 gr, h3⟩
  all_goals exact h
theorem PD9 {b off m c k B : Nat} {g : Nat → Int} {v : Value} {w : World} (h : PD b off m c k B g 9 v w) : ∃ base p2 c2, B ≤ base ∧ w.ownsRow base 24 4 (.slice p2 (k + (m - (k + 1))) c2) (k + (m - (k + 1))) (vcs (dropG g k) (k + (m - (k + 1)))) ∧ v = lsV p2 (k + (m - (k + 1))) c2 := h
def SD (m k B rb : Nat) (g : Nat → Int) (w0 : World) (w : World) : Prop := ∃ base p2 c2, B ≤ base ∧ w.ownsRow base 24 4 (.slice p2 (k + (m - (k + 1))) c2) (k + (m - (k + 1))) (vcs (dropG g k) (k + (m - (k + 1)))) ∧ Blk w rb 24 [.int .i64 4, .int .i64 0, .string ⟨#[]⟩, .slice p2 (k + (m - (k + 1))) c2] ∧ Grew w0 w
theorem Row.take {W : World} {B m k : Nat} {p : Option Addr} {f : Nat → Nd} (h : Row W B p m f) (hk : k ≤ m) : Row W B p k f := fun h0 => by
  obtain ⟨b, off, h1, h2, h3⟩ := h (by omega)
  exact ⟨b, off, h1, h2, fun i hi => h3 i (by omega)⟩
theorem Row.drop {W : World} {B m k b off : Nat} {g : Nat → Int} (h : Row W B (some ⟨b, off, none⟩) m (fun i => nd 1 (g i))) (hk : k < m) : Row W B (some ⟨b, off + (k + 1) * 4, none⟩) (m - (k + 1)) (fun i => nd 1 (g (k + 1 + i))) := fun h0 => by
  obtain ⟨b', off', h1, h2, h3⟩ := h (by omega)
  simp only [Option.some.injEq, Addr.mk.injEq, and_true] at h1
  obtain ⟨rfl, rfl⟩ := h1
  refine ⟨b, _, rfl, h2, fun i hi => ?_⟩
  have := h3 (k + 1 + i) (by omega)
  rw [show off + (k + 1) * 4 + i * 4 = off + (k + 1 + i) * 4 by omega]
  exact this

set_option maxHeartbeats 4000000 in
theorem pick_drop (p : Option Addr) (m c : Nat) (g : Nat → Int) (k : Nat) (w : World) (hm : m ≤ 200) (hk : k < m) (hmc : m ≤ c) (hc9 : c ≤ 9223372036854775807) (hr : Row w w.heap.size p m (fun i => nd 1 (g i))) :
    Calls Tryd.prog 85 #[.int .i64 21, .slice p m c, .int .i64 (k : Int)] w fun e w' => ∃ base p' c', w.heap.size ≤ base ∧ e = .returned (.tuple #[lsV p' (k + (m - (k + 1))) c', .int .i64 0]) ∧ w'.ownsRow base 24 4 (.slice p' (k + (m - (k + 1))) c') (k + (m - (k + 1))) (vcs (dropG g k) (k + (m - (k + 1)))) ∧ Grew w w' := by
  have HR := hide hr
  obtain ⟨b, off, rfl, hb, -⟩ := hr (by omega)
  clear hr
  have h1 : ¬ (k : Int) < 0 := by omega
  have h2 : ¬ (m : Int) ≤ (k : Int) := by omega
  have h3 : (k : Int) < (m : Int) := by omega
  have wk : IntKind.i64.wrap ((k : Int) + 1) = (k : Int) + 1 := wr (by omega) (by omega)
  go_enter Tryd.func85, Tryd.ntmps85
  go_wp2_with fail
  refine name_world fun w1 h1 => ?_
  have G1 : Grew w w1 := by
    rw [h1]
    repeat' (first | (with_reducible exact Grew.refl _) | (with_reducible refine Grew.setCell ?_ ?_ _) | (with_reducible refine Grew.drewN ?_ _) | (with_reducible refine Grew.reD ?_ _) | (with_reducible refine Grew.alloc ?_ _) | (with_reducible refine Grew.trans ?_ G1.out) | (dsimp only; omega))
  have B1_0 : Blk w1 (w.heap.size) 24 [.int .i64 0, .int .i64 0, .string ⟨#[]⟩, .slice none 0 0] := by (rw [h1]; repeat' (first | (with_reducible assumption) | ((with_reducible refine Blk.new ?_); (first | (with_reducible rfl) | (simp only [World.size_alloc, World.size_setCell, size_drewN]; done))) | (with_reducible refine Blk.alloc ?_ _) | (with_reducible refine Blk.drewN ?_ _) | (with_reducible refine Blk.drew ?_) | (refine Blk.other ?_ (by omega) _) | fail))
  have z1 := G1.size
  replace G1 := hide G1
  clear h1
  have t1_0 := B1_0.lt
  have d1_0_0 := B1_0.cell 0 rfl
  have e1_0_0 := B1_0.free 0
  have d1_0_1 := B1_0.cell 1 rfl
  have e1_0_1 := B1_0.free 1
  have d1_0_2 := B1_0.cell 2 rfl
  have e1_0_2 := B1_0.free 2
  have d1_0_3 := B1_0.cell 3 rfl
  have e1_0_3 := B1_0.free 3
  refine wp_region_two 10 12 [11] [(23, 0), (24, 1), (25, 2), (26, 3), (27, 4), (28, 5), (29, 6), (30, 7), (31, 8), (32, 9), (7, 11)] (PD b off m c k w1.heap.size g) (fun _ v => v = .int .i64 0) (fun _ W => SD m k w1.heap.size w.heap.size g w W) (by kernel_rfl) (by kernel_rfl) (by simp) rfl (by omega) (fun k h => by simp at h; omega) (fun _ _ _ _ h => h) ?_
  refine lex_two 0 (by omega) (by omega) rfl rfl PD.grew ?_ ?_
  · intro vs W hG hp
    simp [go_sem, evS, List.lookup, PD, Grew.refl]
  refine lex_two 1 (by omega) (by omega) rfl rfl PD.grew ?_ ?_
  · intro vs W hG hp
    simp [go_sem, evS, List.lookup, PD, Grew.refl]
  refine lex_two 2 (by omega) (by omega) rfl rfl PD.grew ?_ ?_
  · intro vs W hG hp
    have e0 := hp 0 (by omega) rfl (by kernel_rfl)
    have e1 := hp 1 (by omega) rfl (by kernel_rfl)
    simp only [PD] at e0 e1
    simp [go_sem, evS, List.lookup, PD, Grew.refl, e0, e1]
    rw [if_pos (by omega : k ≤ c)]
    exact ⟨Grew.refl _, rfl⟩
  refine lex_two 3 (by omega) (by omega) rfl rfl PD.grew ?_ ?_
  · intro vs W hG hp
    simp [go_sem, evS, List.lookup, PD, Grew.refl]
  refine lex_two 4 (by omega) (by omega) rfl rfl PD.grew ?_ ?_
  · intro vs W hG hp
    simp [go_sem, evS, List.lookup, PD, Grew.refl]
  refine lex_two 5 (by omega) (by omega) rfl rfl PD.grew ?_ ?_
  · intro vs W hG hp
    have e1 := hp 4 (by omega) rfl (by kernel_rfl)
    simp only [PD] at e1
    simp [go_sem, evS, List.lookup, PD, Grew.refl, e1, wk]
  refine lex_two 6 (by omega) (by omega) rfl rfl PD.grew ?_ ?_
  · intro vs W hG hp
    have e0 := hp 3 (by omega) rfl (by kernel_rfl)
    have e1 := hp 5 (by omega) rfl (by kernel_rfl)
    simp only [PD] at e0 e1
    simp [go_sem, evS, List.lookup, PD, Grew.refl, e0, e1]
    rw [if_pos ⟨by omega, by omega⟩]
    refine ⟨Grew.refl _, ?_⟩
    by_cases hck : c = k + 1
    · rw [if_pos hck]
      exact ⟨_, ⟨_, rfl⟩, .inr (by omega), fun q e => by cases e; rfl⟩
    · rw [if_neg hck]
      exact ⟨_, ⟨_, rfl⟩, .inl rfl, fun q e => by cases e; rfl⟩
  refine lex_two 7 (by omega) (by omega) rfl rfl PD.grew ?_ ?_
  · intro vs W hG hp
    have e0 := hp 2 (by omega) rfl (by kernel_rfl)
    obtain ⟨p2, c2, e1, h5, h6⟩ := hp 6 (by omega) rfl (by kernel_rfl)
    simp only [PD] at e0
    simp [go_sem, evS, List.lookup, e0, e1]
    exact ⟨(Grew.refl _).alloc _, _, p2, c2, rfl, Blk.new rfl, h5, h6⟩
  refine lex_two 8 (by omega) (by omega) rfl rfl PD.grew ?_ ?_
  · intro vs W hG hp
    obtain ⟨sb, p2, c2, e1, hS, h5, h6⟩ := hp 7 (by omega) rfl (by kernel_rfl)
    have HRW := (HR.out.below (G1.out.trans hG).1).mono (G1.out.trans hG).size
    have r1 : Row W W.heap.size p2 (m - (k + 1)) (fun i => nd 1 (g (k + 1 + i))) := by
      rcases h5 with rfl | h5
      · exact HRW.drop hk
      · exact fun h => absurd h (by omega)
    have KC := hide (Concat_two sb _ _ _ _ _ _ g _ W hS (by omega) (by omega) (fun q e => by cases e; rfl) h6 (HRW.take (by omega)) r1)
    simp [go_sem, evS, List.lookup, e1]
    refine KC.out.mono ?_
    rintro e w' ⟨v, rfl, own, gg⟩
    exact ⟨v, rfl, gg, _, hG.size, own⟩
  refine lex_two 9 (by omega) (by omega) rfl rfl PD.grew ?_ ?_
  · intro vs W hG hp
    obtain ⟨base, hbase, own⟩ := hp 8 (by omega) rfl (by kernel_rfl)
    obtain ⟨p2, c2, hv, -, -⟩ := own_row own
    have KL := hide (elist_any (vs 8) p2 _ c2 hv W)
    simp [go_sem, evS, List.lookup]
    refine KL.out.mono ?_
    rintro e w' ⟨rfl, gg⟩
    rw [hv] at own
    exact ⟨_, rfl, gg, base, p2, c2, hbase, own_grew own gg, rfl⟩
  refine lex_two_store (by omega) rfl (by kernel_rfl) rfl (fun _ _ _ _ h => h) ?_ ?_
  · intro vs W hG hp
    have H := PD9 (hp 9 (by decide) (by decide))
    clear hp
    have ⟨base, p2, c2, hbase, own, hv⟩ := H
    clear H
    have Y := B1_0.grew hG
    have GW := G1.out.trans hG
    have hlt := B1_0.lt
    have yl := Y.lt
    have d0 := Y.cell 0 rfl
    have d1 := Y.cell 1 rfl
    have d2 := Y.cell 2 rfl
    have d3 := Y.cell 3 rfl
    have f0 := Y.free 0
    have f1 := Y.free 1
    have f2 := Y.free 2
    have f3 := Y.free 3
    simp [go_sem, evS, List.lookup, hv, d0, d1, d2, d3, f0, f1, f2, f3]
    exact ⟨base, p2, c2, hbase, own_set (own_set (own_set (own_set own (by omega) _ _) (by omega) _ _) (by omega) _ _) (by omega) _ _, (((Y.set' 0 _ rfl).set' 1 _ rfl).set' 2 _ rfl).set' 3 _ rfl, (((GW.setCell (by dsimp only; omega) _).setCell (by dsimp only; omega) _).setCell (by dsimp only; omega) _).setCell (by dsimp only; omega) _⟩
  refine lex_two_free 11 (by omega) rfl (by omega) rfl (fun _ _ _ _ h => h) ?_ ?_
  · intro vs W _ _
    simp [go_sem, evS, List.lookup]
  refine lex_nil ?_
  rintro vs w2 ⟨⟨h, -, -⟩ | ⟨-, -, base, p2, c2, hbase, own, Bx, GW⟩, hv⟩
  · cases h
  replace hv := hv 11 rfl rfl
  simp only [fillS, List.foldl_cons, List.foldl_nil, hv]
  generalize vs 0 = vv0
  generalize vs 1 = vv1
  generalize vs 2 = vv2
  generalize vs 3 = vv3
  generalize vs 4 = vv4
  generalize vs 5 = vv5
  generalize vs 6 = vv6
  generalize vs 7 = vv7
  generalize vs 8 = vv8
  generalize vs 9 = vv9
  clear hv vs
  have q0 := Bx.cell 0 rfl
  have q1 := Bx.cell 1 rfl
  have q2 := Bx.cell 2 rfl
  have q3 := Bx.cell 3 rfl
  go_simp
  go_wp2
  exact bodyPost_ret (v := .tuple #[lsV p2 (k + (m - (k + 1))) c2, .int .i64 0]) (by simp [results, Tryd.results85, go_sem, q0, q1, q2, q3]) rfl ⟨base, _, _, Nat.le_trans z1 hbase, rfl, own, GW⟩
end Go.Proofs.YtnhhmndnmkkhlaaDoor
