/- operands, formed and validateContent at well formed nodes of the operators that the laws use. -/
import Derived.Test.YtnhhmndnmkkhlaaDoorExE
namespace Go.Proofs.YtnhhmndnmkkhlaaDoor
open Go.RowKit Go.Sort
set_option linter.unusedVariables false
set_option linter.unusedSimpArgs false

def Op2 (k : Int) : Prop := k = 5 ∨ k = 6 ∨ k = 7 ∨ k = 8 ∨ k = 9 ∨ k = 10 ∨ k = 13 ∨ k = 14 ∨ k = 16 ∨ k = 20 ∨ k = 21
def Ar (k : Int) (m : Nat) : Prop := ((k = 1 ∨ k = 2 ∨ k = 4) ∧ m = 0) ∨ (Op2 k ∧ m = 2) ∨ (k = 15 ∧ m = 3)
set_option maxHeartbeats 4000000 in
theorem operands_ar (k : Int) (m : Nat) (w : World) (h : Ar k m) : Calls Tryd.prog 79 #[.int .i64 k] w fun e w' => e = .returned (.tuple #[.int .i64 (m : Int), .int .i64 (m : Int)]) ∧ w = w' := by
  rcases h with ⟨h, rfl⟩ | ⟨h, rfl⟩ | ⟨rfl, rfl⟩
  · rcases h with rfl | rfl | rfl
    all_goals
      go_enter Tryd.func79, Tryd.ntmps79
      go_wp2
      exact bodyPost_ret (v := .tuple #[.int .i64 0, .int .i64 0]) (by simp [results, Tryd.results79, go_sem]) rfl ⟨rfl, rfl⟩
  · rcases h with rfl | rfl | rfl | rfl | rfl | rfl | rfl | rfl | rfl | rfl | rfl
    all_goals
      go_enter Tryd.func79, Tryd.ntmps79
      go_wp2
      exact bodyPost_ret (v := .tuple #[.int .i64 2, .int .i64 2]) (by simp [results, Tryd.results79, go_sem]) rfl ⟨rfl, rfl⟩
  · go_enter Tryd.func79, Tryd.ntmps79
    go_wp2
    exact bodyPost_ret (v := .tuple #[.int .i64 3, .int .i64 3]) (by simp [results, Tryd.results79, go_sem]) rfl ⟨rfl, rfl⟩
/-- A node is well formed, and its own content valid. -/
def Gd (d : Nd) : Prop := (d.k = 1 ∧ nuB d.n = true ∧ d.s = ⟨#[]⟩ ∧ d.m = 0) ∨ (d.k = 2 ∧ trB d.n = true ∧ d.s = ⟨#[]⟩ ∧ d.m = 0) ∨ (d.k = 4 ∧ d.n = 0 ∧ (nmB d.s = true ∧ d.s.size ≤ 100) ∧ d.m = 0) ∨
  (4 < d.k ∧ d.n = 0 ∧ d.s = ⟨#[]⟩ ∧ Ar d.k d.m)
theorem Gd.ar {d : Nd} (h : Gd d) : Ar d.k d.m := by
  rcases h with ⟨h1, _, _, h2⟩ | ⟨h1, _, _, h2⟩ | ⟨h1, _, _, h2⟩ | ⟨_, _, _, h⟩
  · exact .inl ⟨.inl h1, h2⟩
  · exact .inl ⟨.inr (.inl h1), h2⟩
  · exact .inl ⟨.inr (.inr h1), h2⟩
  · exact h

set_option maxHeartbeats 4000000 in
theorem formed_gd (d : Nd) (w : World) (h : Gd d) : Calls Tryd.prog 67 #[d.v] w fun e w' => e = .returned (.bool true) ∧ Grew w w' := by
  have KA := fun W => hide (operands_ar d.k d.m W h.ar)
  obtain ⟨k, n, s, m, p, c⟩ := d
  dsimp only [Gd] at *
  have hm : ¬ (m : Int) < (m : Int) := by omega
  rcases h with ⟨rfl, -, rfl, rfl⟩ | ⟨rfl, -, rfl, rfl⟩ | ⟨rfl, rfl, -, rfl⟩ | ⟨hk, rfl, rfl, -⟩
  · go_enter Tryd.func67, Tryd.ntmps67
    go_wp2_with fail
    refine ((KA _).out).mono ?_
    rintro e _ ⟨rfl, rfl⟩
    go_wp2
    go_ret
    refine ⟨rfl, ?_⟩
    repeat' (first | (with_reducible exact Grew.refl _) | (with_reducible refine Grew.setCell ?_ ?_ _) | (with_reducible refine Grew.drewN ?_ _) | (with_reducible refine Grew.reD ?_ _) | (with_reducible refine Grew.alloc ?_ _) | (dsimp only; omega))
  · go_enter Tryd.func67, Tryd.ntmps67
    go_wp2_with fail
    refine ((KA _).out).mono ?_
    rintro e _ ⟨rfl, rfl⟩
    go_wp2
    go_ret
    refine ⟨rfl, ?_⟩
    repeat' (first | (with_reducible exact Grew.refl _) | (with_reducible refine Grew.setCell ?_ ?_ _) | (with_reducible refine Grew.drewN ?_ _) | (with_reducible refine Grew.reD ?_ _) | (with_reducible refine Grew.alloc ?_ _) | (dsimp only; omega))
  · go_enter Tryd.func67, Tryd.ntmps67
    go_wp2_with fail
    refine ((KA _).out).mono ?_
    rintro e _ ⟨rfl, rfl⟩
    go_wp2
    go_ret
    refine ⟨rfl, ?_⟩
    repeat' (first | (with_reducible exact Grew.refl _) | (with_reducible refine Grew.setCell ?_ ?_ _) | (with_reducible refine Grew.drewN ?_ _) | (with_reducible refine Grew.reD ?_ _) | (with_reducible refine Grew.alloc ?_ _) | (dsimp only; omega))
  · have e1 : (k == 1) = false := by simp; omega
    have e2 : (k == 2) = false := by simp; omega
    have e3 : (k == 3) = false := by simp; omega
    have e4 : (k == 4) = false := by simp; omega
    go_enter Tryd.func67, Tryd.ntmps67
    go_wp2_with fail
    refine ((KA _).out).mono ?_
    rintro e _ ⟨rfl, rfl⟩
    go_wp2
    go_ret
    refine ⟨rfl, ?_⟩
    repeat' (first | (with_reducible exact Grew.refl _) | (with_reducible refine Grew.setCell ?_ ?_ _) | (with_reducible refine Grew.drewN ?_ _) | (with_reducible refine Grew.reD ?_ _) | (with_reducible refine Grew.alloc ?_ _) | (dsimp only; omega))

set_option maxHeartbeats 4000000 in
theorem content_gd (d : Nd) (w : World) (h : Gd d) : Calls Tryd.prog 68 #[d.v] w fun e w' => e = .returned (.int .i64 0) ∧ Grew w w' := by
  obtain ⟨k, n, s, m, p, c⟩ := d
  dsimp only [Gd] at *
  rcases h with ⟨rfl, hn, rfl, rfl⟩ | ⟨rfl, hn, rfl, rfl⟩ | ⟨rfl, rfl, ⟨hn, hs⟩, rfl⟩ | ⟨hk, rfl, rfl, -⟩
  · have KA := fun W => hide (isNumber_any n W)
    simp only [hn] at KA
    go_enter Tryd.func68, Tryd.ntmps68
    go_wp2_with fail
    refine ((KA _).out).mono ?_
    rintro e _ ⟨rfl, rfl⟩
    go_wp2
    go_ret
    refine ⟨rfl, ?_⟩
    repeat' (first | (with_reducible exact Grew.refl _) | (with_reducible refine Grew.setCell ?_ ?_ _) | (with_reducible refine Grew.drewN ?_ _) | (with_reducible refine Grew.reD ?_ _) | (with_reducible refine Grew.alloc ?_ _) | (dsimp only; omega))
  · have KA := fun W => hide (isTruth_any n W)
    simp only [hn] at KA
    go_enter Tryd.func68, Tryd.ntmps68
    go_wp2_with fail
    refine ((KA _).out).mono ?_
    rintro e _ ⟨rfl, rfl⟩
    go_wp2
    go_ret
    refine ⟨rfl, ?_⟩
    repeat' (first | (with_reducible exact Grew.refl _) | (with_reducible refine Grew.setCell ?_ ?_ _) | (with_reducible refine Grew.drewN ?_ _) | (with_reducible refine Grew.reD ?_ _) | (with_reducible refine Grew.alloc ?_ _) | (dsimp only; omega))
  · have KA := fun W => hide (Name_any s W (by omega))
    simp only [hn] at KA
    go_enter Tryd.func68, Tryd.ntmps68
    go_wp2_with fail
    refine ((KA _).out).mono ?_
    rintro e _ ⟨rfl, rfl⟩
    go_wp2
    go_ret
    refine ⟨rfl, ?_⟩
    repeat' (first | (with_reducible exact Grew.refl _) | (with_reducible refine Grew.setCell ?_ ?_ _) | (with_reducible refine Grew.drewN ?_ _) | (with_reducible refine Grew.reD ?_ _) | (with_reducible refine Grew.alloc ?_ _) | (dsimp only; omega))
  · have e1 : (k == 1) = false := by simp; omega
    have e2 : (k == 2) = false := by simp; omega
    have e3 : (k == 3) = false := by simp; omega
    have e4 : (k == 4) = false := by simp; omega
    go_enter Tryd.func68, Tryd.ntmps68
    go_wp2
    go_ret
    refine ⟨rfl, ?_⟩
    repeat' (first | (with_reducible exact Grew.refl _) | (with_reducible refine Grew.setCell ?_ ?_ _) | (with_reducible refine Grew.drewN ?_ _) | (with_reducible refine Grew.reD ?_ _) | (with_reducible refine Grew.alloc ?_ _) | (dsimp only; omega))
end Go.Proofs.YtnhhmndnmkkhlaaDoor
