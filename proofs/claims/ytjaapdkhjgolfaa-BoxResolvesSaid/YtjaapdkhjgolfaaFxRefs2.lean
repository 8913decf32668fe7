/- What Scale and Clamp of package fixed and their references return outside the range and within it; no condition but that the numbers are integers of 64 bits. -/
import Derived.Test.YtjaapdkhjgolfaaFxRefs
namespace Go.Proofs.Ytjaapdkhjgolfaa
open Go.RowKit

/-- The number of [low, high] that is nearest to x, low if there is none. -/
def clampS (x low high : Int) : Int := if x < low ∨ high < low then low else if high < x then high else x
theorem Clamp_any (x low high : Int) (w : World) :
    Calls Try.prog 48 #[.int .i64 x, .int .i64 low, .int .i64 high] w fun e w' => e = .returned (.int .i64 (clampS x low high)) ∧ w = w' := by
  go_enter Try.func48, Try.ntmps48
  go_wp2
  all_goals go_ret
  all_goals refine ⟨ret_int ?_, rfl⟩
  all_goals (unfold clampS; (repeat' split) <;> omega)
theorem rClamp_any (x low high : Int) (w : World) :
    Calls Try.prog 18 #[.int .i64 x, .int .i64 low, .int .i64 high] w fun e w' => e = .returned (.int .i64 (clampS x low high)) ∧ w = w' := by
  go_enter Try.func18, Try.ntmps18
  go_wp2
  all_goals go_ret
  all_goals refine ⟨ret_int ?_, rfl⟩
  all_goals (unfold clampS; (repeat' split) <;> omega)
end Go.Proofs.Ytjaapdkhjgolfaa
