/- fits: two lists. -/
import Derived.Test.YtnhhmndnmkkhlaaDoorExLk
namespace Go.Proofs.YtnhhmndnmkkhlaaDoor
open Go.RowKit Go.Sort
set_option linter.unusedVariables false
set_option linter.unusedSimpArgs false
set_option maxRecDepth 20000

set_option maxHeartbeats 4000000 in
theorem join_right (k : Int) (w : World) : Calls Tryd.prog 41 #[flV 1 k, flV 1 0] w fun e w' => e = .returned (jnV (1, k, true)) ∧ Grew w w' := by
  by_cases h : k = 0
  · subst h
    exact join_eq 1 0 w
  · have h' : ¬ (0 : Int) = k := fun e => h e.symm
    go_enter Tryd.func41, Tryd.ntmps41
    go_wp2
    refine bodyPost_ret (v := jnV (1, k, true)) (by simp [results, Tryd.results41, go_sem]) rfl ⟨rfl, ?_⟩
    repeat' (first | (with_reducible exact Grew.refl _) | (with_reducible refine Grew.setCell ?_ ?_ _) | (with_reducible refine Grew.drewN ?_ _) | (with_reducible refine Grew.reD ?_ _) | (with_reducible refine Grew.alloc ?_ _) | (dsimp only; omega))
def jk (k0 k1 : Int) : Int := if k0 = 0 then k1 else k0
theorem join_ls (k0 k1 : Int) (w : World) (h : k0 = 0 ∨ k1 = 0 ∨ k0 = k1) : Calls Tryd.prog 41 #[flV 1 k0, flV 1 k1] w fun e w' => e = .returned (jnV (1, jk k0 k1, true)) ∧ Grew w w' := by
  unfold jk
  by_cases h0 : k0 = 0
  · subst h0
    rw [if_pos rfl]
    exact join_left 1 1 k1 w (by omega)
  · rw [if_neg h0]
    rcases h with h | rfl | rfl
    · exact absurd h h0
    · exact join_right k0 w
    · exact join_eq 1 k0 w

def PJ (b c B : Nat) (k0 k1 : Int) (i : Nat) (v : Value) (w : World) : Prop := match i with
  | 0 => v = .slice (some ⟨b, 0, none⟩) 2 c
  | 1 => v = .pointer (some ⟨b, 0, none⟩)
  | 2 => v = flV 1 k0
  | 3 => v = .slice (some ⟨b, 0, none⟩) 2 c
  | 4 => v = .pointer (some ⟨b, 2, none⟩)
  | 5 => v = flV 1 k1
  | 6 => v = jnV (1, jk k0 k1, true)
  | 7 => v = jnV (1, jk k0 k1, true)
  | 8 => v = flV 1 (jk k0 k1)
  | 10 => ∃ a, v = .pointer (some ⟨a, 0, none⟩) ∧ Blk w a 65 [.int .i64 0, .int .i64 0] ∧ B ≤ a
  | _ => True
theorem PJ.grew {b c B : Nat} {k0 k1 : Int} (i : Nat) (v : Value) (w w' : World) (gr : Grew w w') (h : PJ b c B k0 k1 i v w) : PJ b c B k0 k1 i v w' := by
  unfold PJ at *
  split at h
  case h_10 => obtain ⟨a, h1, h2, h3⟩ := h; exact ⟨a, h1, h2.grew gr, h3⟩
  all_goals exact h
theorem PJ.ten {b c B : Nat} {k0 k1 : Int} {v : Value} {w : World} (h : PJ b c B k0 k1 10 v w) : ∃ a, v = .pointer (some ⟨a, 0, none⟩) ∧ Blk w a 65 [.int .i64 0, .int .i64 0] ∧ B ≤ a := h
def SJ (k0 k1 : Int) (w0 : World) (vs : Nat → Value) (w : World) : Prop := ∃ a, vs 10 = .pointer (some ⟨a, 0, none⟩) ∧ vs 7 = jnV (1, jk k0 k1, true) ∧ Blk w a 65 [.int .i64 1, .int .i64 (jk k0 k1)] ∧ Grew w0 w
theorem SJ.ext {k0 k1 : Int} {w0 : World} : ∀ vs vs' w, (∀ k, k < 11 → [9, 12].contains k = false → vs k = vs' k) → SJ k0 k1 w0 vs w → SJ k0 k1 w0 vs' w := by
  rintro vs vs' w h ⟨a, h1, h2, h3⟩
  exact ⟨a, (h 10 (by omega) rfl).symm.trans h1, (h 7 (by omega) rfl).symm.trans h2, h3⟩

set_option maxHeartbeats 4000000 in
theorem fits_ll (k0 k1 : Int) (b c : Nat) (w : World) (hk : k0 = 0 ∨ k1 = 0 ∨ k0 = k1) (h : Blk w b 65 [.int .i64 1, .int .i64 k0, .int .i64 1, .int .i64 k1]) :
    Calls Tryd.prog 65 #[.int .i64 16, .slice (some ⟨b, 0, none⟩) 2 c] w fun e w' => e = .returned (.bool true) ∧ Grew w w' := by
  have KJ := fun W => hide (join_ls k0 k1 W hk)
  have KA := fun W => hide (isList_one (jk k0 k1) W)
  have KB := fun W => hide (is_any 1 (jk k0 k1) 3 W)
  simp only [show ((1 : Int) == 0) = false from rfl, Bool.false_and] at KB
  clear hk
  go_enter Tryd.func65, Tryd.ntmps65
  go_wp2_with fail
  refine wp_region_two 11 13 [9, 12] [(88, 0), (89, 1), (90, 2), (91, 3), (92, 4), (93, 5), (94, 6), (87, 7), (95, 8), (96, 9), (7, 10), (8, 12)] (PJ b c w.heap.size k0 k1) (fun _ v => v = .bool true) (SJ k0 k1 w) (by kernel_rfl) (by kernel_rfl) (by simp) rfl (by omega) (fun k h => by simp at h; omega) SJ.ext ?_
  refine lex_two 0 (by omega) (by omega) rfl rfl PJ.grew ?_ ?_
  · intro vs W hG hp
    simp [go_sem, evS, List.lookup, PJ, Grew.refl]
  refine lex_two 1 (by omega) (by omega) rfl rfl PJ.grew ?_ ?_
  · intro vs W hG hp
    have e0 := hp 0 (by omega) rfl (by kernel_rfl)
    simp only [PJ] at e0
    simp [go_sem, evS, List.lookup, PJ, Grew.refl, e0]
  refine lex_two 2 (by omega) (by omega) rfl rfl PJ.grew ?_ ?_
  · intro vs W hG hp
    have e1 := hp 1 (by omega) rfl (by kernel_rfl)
    simp only [PJ] at e1
    have Y := h.grew hG
    have d0 := Y.cell 0 rfl
    have d1 := Y.cell 1 rfl
    have d2 := Y.cell 2 rfl
    have d3 := Y.cell 3 rfl
    simp [go_sem, evS, List.lookup, PJ, Grew.refl, e1, d0, d1, d2, d3]
  refine lex_two 3 (by omega) (by omega) rfl rfl PJ.grew ?_ ?_
  · intro vs W hG hp
    simp [go_sem, evS, List.lookup, PJ, Grew.refl]
  refine lex_two 4 (by omega) (by omega) rfl rfl PJ.grew ?_ ?_
  · intro vs W hG hp
    have e3 := hp 3 (by omega) rfl (by kernel_rfl)
    simp only [PJ] at e3
    simp [go_sem, evS, List.lookup, PJ, Grew.refl, e3]
  refine lex_two 5 (by omega) (by omega) rfl rfl PJ.grew ?_ ?_
  · intro vs W hG hp
    have e4 := hp 4 (by omega) rfl (by kernel_rfl)
    simp only [PJ] at e4
    have Y := h.grew hG
    have d0 := Y.cell 0 rfl
    have d1 := Y.cell 1 rfl
    have d2 := Y.cell 2 rfl
    have d3 := Y.cell 3 rfl
    simp [go_sem, evS, List.lookup, PJ, Grew.refl, e4, d0, d1, d2, d3]
  refine lex_two 6 (by omega) (by omega) rfl rfl PJ.grew ?_ ?_
  · intro vs W hG hp
    have e2 := hp 2 (by omega) rfl (by kernel_rfl)
    have e5 := hp 5 (by omega) rfl (by kernel_rfl)
    simp only [PJ] at e2 e5
    simp [go_sem, evS, List.lookup, e2, e5]
    refine (KJ _).out.mono ?_
    rintro e w' ⟨rfl, gg⟩
    exact ⟨_, rfl, gg, rfl⟩
  refine lex_two 7 (by omega) (by omega) rfl rfl PJ.grew ?_ ?_
  · intro vs W hG hp
    have e6 := hp 6 (by omega) rfl (by kernel_rfl)
    simp only [PJ] at e6
    simp [go_sem, evS, List.lookup, PJ, Grew.refl, e6]
  refine lex_two 8 (by omega) (by omega) rfl rfl PJ.grew ?_ ?_
  · intro vs W hG hp
    have e7 := hp 7 (by omega) rfl (by kernel_rfl)
    simp only [PJ] at e7
    simp [go_sem, evS, List.lookup, PJ, Grew.refl, e7]
  refine lex_two_free 9 (by omega) rfl (by omega) rfl SJ.ext ?_ ?_
  · intro vs W hh _
    have e7 : vs 7 = jnV (1, jk k0 k1, true) := by
      rcases hh with hp | ⟨a, -, h1, -⟩
      · exact hp 7 (by omega) rfl (by kernel_rfl)
      · exact h1
    simp [go_sem, evS, List.lookup, e7]
  refine lex_two 10 (by omega) (by omega) rfl rfl PJ.grew ?_ ?_
  · intro vs W hG hp
    simp [go_sem, evS, List.lookup]
    exact ⟨(Grew.refl _).alloc _, _, rfl, Blk.new rfl, hG.size⟩
  refine lex_two_store (by omega) rfl (by kernel_rfl) rfl SJ.ext ?_ ?_
  · intro vs W hG hp
    have H := (hp 10 (by decide) (by decide)).ten
    have e8 := hp 8 (by decide) (by decide)
    have e7 := hp 7 (by decide) (by decide)
    simp only [PJ] at e7 e8
    clear hp
    have ⟨a, hv, Y, hle⟩ := H
    clear H
    have yl := Y.lt
    have d0 := Y.cell 0 rfl
    have d1 := Y.cell 1 rfl
    have f0 := Y.free 0
    have f1 := Y.free 1
    simp [go_sem, evS, List.lookup, hv, e8, d0, d1, f0, f1]
    exact ⟨a, hv, e7, (Y.set' 0 _ rfl).set' 1 _ rfl, (hG.setCell (by dsimp only; omega) _).setCell (by dsimp only; omega) _⟩
  refine lex_two_free 12 (by omega) rfl (by omega) rfl SJ.ext ?_ ?_
  · intro vs W _ hA
    have e9 := hA 9 rfl (by kernel_rfl)
    simp [go_sem, evS, List.lookup, e9]
  refine lex_nil ?_
  rintro vs w2 ⟨⟨h, -, -⟩ | ⟨-, -, a, h10, -, Bx, GW⟩, hv⟩
  · cases h
  replace hv := hv 12 rfl rfl
  simp only [fillS, List.foldl_cons, List.foldl_nil, hv, h10]
  generalize vs 0 = vv0
  generalize vs 1 = vv1
  generalize vs 2 = vv2
  generalize vs 3 = vv3
  generalize vs 4 = vv4
  generalize vs 5 = vv5
  generalize vs 6 = vv6
  generalize vs 7 = vv7
  generalize vs 8 = vv8
  generalize vs 9 = vv9
  clear h
  have q0 := Bx.cell 0 rfl
  have q1 := Bx.cell 1 rfl
  have hl := Bx.lt
  go_simp
  go_wp2_with fail
  refine ((KB _).out).mono ?_
  rintro e w3 ⟨rfl, G3⟩
  have g0 := (G3.cell a 0 hl).trans q0
  have g1 := (G3.cell a 1 hl).trans q1
  go_wp2_with fail
  refine ((KA _).out).mono ?_
  rintro e w4 ⟨rfl, G4⟩
  go_wp2
  go_ret
  exact ⟨ret_bool (by simp), (GW.trans G3).trans G4⟩
end Go.Proofs.YtnhhmndnmkkhlaaDoor
