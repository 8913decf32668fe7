/- fits: a list and an int. -/
import Derived.Test.YtnhhmndnmkkhlaaDoorExLj
namespace Go.Proofs.YtnhhmndnmkkhlaaDoor
open Go.RowKit Go.Sort
set_option linter.unusedVariables false
set_option linter.unusedSimpArgs false

set_option maxHeartbeats 4000000 in
theorem isList_one (k : Int) (w : World) : Calls Tryd.prog 77 #[flV 1 k] w fun e w' => e = .returned (.bool true) ∧ Grew w w' := by
  go_enter Tryd.func77, Tryd.ntmps77
  go_wp2
  go_ret
  exact ⟨ret_bool (by simp), (Grew.refl _).alloc _⟩

set_option maxHeartbeats 4000000 in
theorem fits_li (op k0 : Int) (b c : Nat) (w : World) (hop : op = 20 ∨ op = 21) (h : Blk w b 65 [.int .i64 1, .int .i64 k0, .int .i64 0, .int .i64 1]) :
    Calls Tryd.prog 65 #[.int .i64 op, .slice (some ⟨b, 0, none⟩) 2 c] w fun e w' => e = .returned (.bool true) ∧ Grew w w' := by
  have KA := fun W => hide (isList_one k0 W)
  have KB := fun W => hide (is_any 0 1 1 W)
  simp only [beq_self_eq_true, Bool.true_and] at KB
  have h0 := h.cell 0 rfl
  have h1 := h.cell 1 rfl
  have h2 := h.cell 2 rfl
  have h3 := h.cell 3 rfl
  have hl := h.lt
  rcases hop with rfl | rfl
  all_goals
    go_enter Tryd.func65, Tryd.ntmps65
    go_wp2_with fail
    refine ((KA _).out).mono ?_
    rintro e w1 ⟨rfl, G1⟩
    have g2 := (G1.cell b 2 hl).trans h2
    have g3 := (G1.cell b 3 hl).trans h3
    go_wp2_with fail
    refine ((KB _).out).mono ?_
    rintro e w2 ⟨rfl, G2⟩
    go_wp2
    go_ret
    exact ⟨ret_bool (by simp), G1.trans G2⟩
end Go.Proofs.YtnhhmndnmkkhlaaDoor
