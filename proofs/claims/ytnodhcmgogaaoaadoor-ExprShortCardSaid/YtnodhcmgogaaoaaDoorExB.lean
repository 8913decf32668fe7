/- The small functions of package expr: what each returns; no condition but the sizes of numbers. -/
import Derived.Test.YtnodhcmgogaaoaaDoorExA
namespace Go.Proofs.YtnodhcmgogaaoaaDoor
open Go.RowKit Go.Sort
set_option linter.unusedVariables false
set_option linter.unusedSimpArgs false

def ltB (b : Int) : Bool := decide (97 ≤ b ∧ b ≤ 122 ∨ 65 ≤ b ∧ b ≤ 90)
def dgB (b : Int) : Bool := decide (48 ≤ b ∧ b ≤ 57)
def nuB (n : Int) : Bool := decide (-1099511627776 ≤ n ∧ n ≤ 1099511627776)
def trB (n : Int) : Bool := decide (n = 0 ∨ n = 1)

set_option maxHeartbeats 4000000 in
theorem letter_any (b : Int) (w : World) : Calls Tryd.prog 45 #[.int .u8 b] w fun e w' => e = .returned (.bool (ltB b)) ∧ w = w' := by
  by_cases h1 : 97 ≤ b <;> by_cases h2 : b ≤ 122 <;> by_cases h3 : 65 ≤ b <;> by_cases h4 : b ≤ 90
  all_goals
    go_enter Tryd.func45, Tryd.ntmps45
    go_wp2
    go_ret
    exact ⟨ret_bool (by simp [ltB, h1, h2, h3, h4]), rfl⟩
set_option maxHeartbeats 4000000 in
theorem digit_any (b : Int) (w : World) : Calls Tryd.prog 46 #[.int .u8 b] w fun e w' => e = .returned (.bool (dgB b)) ∧ w = w' := by
  by_cases h1 : 48 ≤ b <;> by_cases h2 : b ≤ 57
  all_goals
    go_enter Tryd.func46, Tryd.ntmps46
    go_wp2
    go_ret
    exact ⟨ret_bool (by simp [dgB, h1, h2]), rfl⟩
set_option maxHeartbeats 4000000 in
theorem isNumber_any (n : Int) (w : World) : Calls Tryd.prog 86 #[.int .i64 n] w fun e w' => e = .returned (.bool (nuB n)) ∧ w = w' := by
  by_cases h1 : -1099511627776 ≤ n <;> by_cases h2 : n ≤ 1099511627776
  all_goals
    go_enter Tryd.func86, Tryd.ntmps86
    go_wp2
    go_ret
    exact ⟨ret_bool (by simp [nuB, h1, h2]), rfl⟩
set_option maxHeartbeats 4000000 in
theorem isTruth_any (n : Int) (w : World) : Calls Tryd.prog 87 #[.int .i64 n] w fun e w' => e = .returned (.bool (trB n)) ∧ w = w' := by
  by_cases h1 : n = 0
  · subst h1
    go_enter Tryd.func87, Tryd.ntmps87
    go_wp2
    go_ret
    exact ⟨ret_bool (by simp [trB]), rfl⟩
  · have e1 : (n == 0) = false := by simpa using h1
    by_cases h2 : n = 1
    · subst h2
      go_enter Tryd.func87, Tryd.ntmps87
      go_wp2
      go_ret
      exact ⟨ret_bool (by simp [trB]), rfl⟩
    · have e2 : (n == 1) = false := by simpa using h2
      go_enter Tryd.func87, Tryd.ntmps87
      go_wp2
      go_ret
      exact ⟨ret_bool (by simp [trB, h1, h2]), rfl⟩
def zS : ByteArray := ⟨#[]⟩
/-- A value of a kind with a number alone. -/
abbrev nv (k n : Int) : Value := .agg #[.int .i64 k, .int .i64 n, .string ⟨#[]⟩, .slice none 0 0]
set_option maxHeartbeats 4000000 in
theorem integer_any (n : Int) (w : World) : Calls Tryd.prog 68 #[.int .i64 n] w fun e w' => e = .returned (nv 1 n) ∧ Grew w w' := by
  go_enter Tryd.func68, Tryd.ntmps68
  go_wp2
  refine bodyPost_ret (v := nv 1 n) (by simp [results, Tryd.results68, go_sem]) rfl ⟨rfl, ?_⟩
  repeat' (first | (with_reducible exact Grew.refl _) | (with_reducible refine Grew.setCell ?_ ?_ _) | (with_reducible refine Grew.drewN ?_ _) | (with_reducible refine Grew.reD ?_ _) | (with_reducible refine Grew.alloc ?_ _) | (dsimp only; omega))
set_option maxHeartbeats 4000000 in
theorem truth_any (b : Bool) (w : World) : Calls Tryd.prog 69 #[.bool b] w fun e w' => e = .returned (nv 2 (if b then 1 else 0)) ∧ Grew w w' := by
  cases b
  · go_enter Tryd.func69, Tryd.ntmps69
    go_wp2
    refine bodyPost_ret (v := nv 2 0) (by simp [results, Tryd.results69, go_sem]) rfl ⟨rfl, ?_⟩
    repeat' (first | (with_reducible exact Grew.refl _) | (with_reducible refine Grew.setCell ?_ ?_ _) | (with_reducible refine Grew.drewN ?_ _) | (with_reducible refine Grew.reD ?_ _) | (with_reducible refine Grew.alloc ?_ _) | (dsimp only; omega))
  · go_enter Tryd.func69, Tryd.ntmps69
    go_wp2
    refine bodyPost_ret (v := nv 2 1) (by simp [results, Tryd.results69, go_sem]) rfl ⟨rfl, ?_⟩
    repeat' (first | (with_reducible exact Grew.refl _) | (with_reducible refine Grew.setCell ?_ ?_ _) | (with_reducible refine Grew.drewN ?_ _) | (with_reducible refine Grew.reD ?_ _) | (with_reducible refine Grew.alloc ?_ _) | (dsimp only; omega))
end Go.Proofs.YtnodhcmgogaaoaaDoor
