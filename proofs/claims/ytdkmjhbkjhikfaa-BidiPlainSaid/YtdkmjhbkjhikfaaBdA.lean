/- What the small functions on classes return; conditions: the class is one of the simple ones (L, R, EN, CS, WS) or ON, the level is not negative. -/
import Derived.Test.YtdkmjhbkjhikfaaBdBase
namespace Go.Proofs.Ytdkmjhbkjhikfaa
open Go.RowKit Go.Sort
set_option linter.unusedVariables false
set_option linter.unusedSimpArgs false

/-- A simple class: L, R, EN, CS, WS. -/
def Sm (x : Int) : Prop := x = 0 ∨ x = 1 ∨ x = 3 ∨ x = 7 ∨ x = 12
/-- What is left of them behind the weak rules: L, R, EN, WS, ON. -/
def Sn (x : Int) : Prop := x = 0 ∨ x = 1 ∨ x = 3 ∨ x = 12 ∨ x = 13
def dirI (l : Int) : Int := if l.tmod 2 = 1 then 1 else 0
theorem direction_any (l : Int) (w : World) : Calls Try.prog 40 #[.int .i64 l] w fun e w' => e = .returned (.int .i64 (dirI l)) ∧ w = w' := by
  by_cases h : l.tmod 2 = 1
  · have e : Hid (dirI l = 1) := if_pos h
    go_enter Try.func40, Try.ntmps40
    go_wp2
    go_ret
    exact ⟨ret_int e.out.symm, rfl⟩
  · have e : Hid (dirI l = 0) := if_neg h
    go_enter Try.func40, Try.ntmps40
    go_wp2
    go_ret
    exact ⟨ret_int e.out.symm, rfl⟩
theorem dirI_cases (l : Int) : dirI l = 0 ∨ dirI l = 1 := by unfold dirI; split <;> simp

theorem initiates_no (x : Int) (w : World) (h : Sm x ∨ x = 13) : Calls Try.prog 47 #[.int .i64 x] w fun e w' => e = .returned (.bool false) ∧ w = w' := by
  rcases h with (rfl | rfl | rfl | rfl | rfl) | rfl
  all_goals
    go_enter Try.func47, Try.ntmps47
    go_wp2
    go_ret
    exact ⟨rfl, rfl⟩
theorem removed_no (x : Int) (w : World) (h : Sm x) : Calls Try.prog 52 #[.int .i64 x] w fun e w' => e = .returned (.bool false) ∧ w = w' := by
  rcases h with rfl | rfl | rfl | rfl | rfl
  all_goals
    go_enter Try.func52, Try.ntmps52
    go_wp2
    go_ret
    exact ⟨rfl, rfl⟩
theorem separates_no (x : Int) (w : World) (h : Sm x) : Calls Try.prog 53 #[.int .i64 x] w fun e w' => e = .returned (.bool false) ∧ w = w' := by
  rcases h with rfl | rfl | rfl | rfl | rfl
  all_goals
    go_enter Try.func53, Try.ntmps53
    go_wp2
    go_ret
    exact ⟨rfl, rfl⟩
theorem hangs_any (x : Int) (w : World) (h : Sm x) : Calls Try.prog 54 #[.int .i64 x] w fun e w' => e = .returned (.bool (decide (x = 12))) ∧ w = w' := by
  rcases h with rfl | rfl | rfl | rfl | rfl
  case inr.inr.inr.inr =>
    go_enter Try.func54, Try.ntmps54
    go_wp2
    go_ret
    exact ⟨rfl, rfl⟩
  all_goals
    go_enter Try.func54, Try.ntmps54
    go_wp2_with fail
    refine (initiates_no _ _ (Or.inl (by unfold Sm; omega))).mono ?_
    rintro e w' ⟨rfl, rfl⟩
    go_wp2_with fail
    refine (removed_no _ _ (by unfold Sm; omega)).mono ?_
    rintro e w' ⟨rfl, rfl⟩
    go_wp2
    go_ret
    exact ⟨rfl, rfl⟩
theorem neutral_yes (x : Int) (w : World) (h : x = 12 ∨ x = 13) : Calls Try.prog 77 #[.int .i64 x] w fun e w' => e = .returned (.bool true) ∧ w = w' := by
  rcases h with rfl | rfl
  all_goals
    go_enter Try.func77, Try.ntmps77
    go_wp2
    go_ret
    exact ⟨rfl, rfl⟩
theorem neutral_no (x : Int) (w : World) (h : x = 0 ∨ x = 1 ∨ x = 3) : Calls Try.prog 77 #[.int .i64 x] w fun e w' => e = .returned (.bool false) ∧ w = w' := by
  rcases h with rfl | rfl | rfl
  all_goals
    go_enter Try.func77, Try.ntmps77
    go_wp2_with fail
    refine (initiates_no _ _ (Or.inl (by unfold Sm; omega))).mono ?_
    rintro e w' ⟨rfl, rfl⟩
    go_wp2
    go_ret
    exact ⟨rfl, rfl⟩
/-- What strength returns. -/
def strI (x : Int) : Int := if x = 1 ∨ x = 3 then 1 else 0
def strB (x : Int) : Bool := decide (x = 0 ∨ x = 1 ∨ x = 3)
theorem strength_any (x : Int) (w : World) (h : Sn x) : Calls Try.prog 85 #[.int .i64 x] w fun e w' => e = .returned (.tuple #[.int .i64 (strI x), .bool (strB x)]) ∧ w = w' := by
  rcases h with rfl | rfl | rfl | rfl | rfl
  all_goals
    go_enter Try.func85, Try.ntmps85
    go_wp2
    go_ret2
    exact ⟨rfl, rfl⟩
theorem isET_no (x : Int) (w : World) (h : x ≠ 5) : Calls Try.prog 81 #[.int .i64 x] w fun e w' => e = .returned (.bool false) ∧ w = w' := by
  go_enter Try.func81, Try.ntmps81
  go_wp2
  go_ret
  exact ⟨by simp [h], rfl⟩
theorem Base_dir (t : Value) (b : Int) (w : World) (h : b = 0 ∨ b = 1) : Calls Try.prog 32 #[t, .int .i64 b] w fun e w' => e = .returned (.int .i64 b) ∧ w = w' := by
  rcases h with rfl | rfl
  all_goals
    go_enter Try.func32, Try.ntmps32
    go_wp2
    go_ret
    exact ⟨rfl, rfl⟩
end Go.Proofs.Ytdkmjhbkjhikfaa
