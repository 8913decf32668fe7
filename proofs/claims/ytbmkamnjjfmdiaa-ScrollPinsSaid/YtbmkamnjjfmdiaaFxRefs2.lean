/- What Floor, Round, Scale and Clamp of package fixed return, and what their references return; no condition but that the numbers are integers of 64 bits. -/
import Derived.Test.YtbmkamnjjfmdiaaFxDiv
import Derived.Test.YtbmkamnjjfmdiaaGeBase
import Derived.Test.YtbmkamnjjfmdiaaChecked
import Derived.Deep.QuietTactic
import Derived.BigQuiet
namespace Go.Proofs.Ytbmkamnjjfmdiaa
open Go.RowKit

/-- The world differs by draws alone. -/
def Drawn (w w' : World) : Prop := ∃ n, w' = w.drewN n
theorem Drawn.refl (w : World) : Drawn w w := ⟨0, rfl⟩
theorem Drawn.trans {a b c : World} (h : Drawn a b) (k : Drawn b c) : Drawn a c := by
  obtain ⟨n, rfl⟩ := h; obtain ⟨m, rfl⟩ := k; exact ⟨n + m, by rw [World.drewN_drewN]⟩

/-- Both numbers are within the range of Floor and Round. -/
def inR (a b : Int) : Prop := b ≠ 0 ∧ (-1152921504606846976 ≤ a ∧ a ≤ 1152921504606846976) ∧ (-1152921504606846976 ≤ b ∧ b ≤ 1152921504606846976)

theorem wrap_in {x : Int} (h : x.natAbs ≤ 9223372036854775807) : IntKind.i64.wrap x = x := by rw [IntKind.wrap_i64]; omega

end Go.Proofs.Ytbmkamnjjfmdiaa
/- What the references of Floor, Round, Scale and Clamp return, and Scale and Clamp themselves; no condition but that the numbers are integers of 64 bits. -/
namespace Go.Proofs.Ytbmkamnjjfmdiaa
open Go.RowKit


/-- x, num and den are within the range of Scale. -/
def inS (x num den : Int) : Prop := (-1099511627776 ≤ x ∧ x ≤ 1099511627776) ∧ (0 ≤ num ∧ num ≤ 65536) ∧ 1 ≤ den ∧ den ≤ 65536

theorem mul_bd {x n : Int} (h1 : -1099511627776 ≤ x) (h2 : x ≤ 1099511627776) (h3 : 0 ≤ n) (h4 : n ≤ 65536) : -72057594037927936 ≤ x * n ∧ x * n ≤ 72057594037927936 := by
  have a1 : x * n ≤ 1099511627776 * n := Int.mul_le_mul_of_nonneg_right h2 h3
  have a2 : -1099511627776 * n ≤ x * n := Int.mul_le_mul_of_nonneg_right h1 h3
  omega

end Go.Proofs.Ytbmkamnjjfmdiaa
/- What Scale and Clamp of package fixed and their references return outside the range and within it; no condition but that the numbers are integers of 64 bits. -/
namespace Go.Proofs.Ytbmkamnjjfmdiaa
open Go.RowKit

/-- The number of [low, high] that is nearest to x, low if there is none. -/
def clampS (x low high : Int) : Int := if x < low ∨ high < low then low else if high < x then high else x
theorem Clamp_any (x low high : Int) (w : World) :
    Calls Try.prog 29 #[.int .i64 x, .int .i64 low, .int .i64 high] w fun e w' => e = .returned (.int .i64 (clampS x low high)) ∧ w = w' := by
  go_enter Try.func29, Try.ntmps29
  go_wp2
  all_goals go_ret
  all_goals refine ⟨ret_int ?_, rfl⟩
  all_goals (unfold clampS; (repeat' split) <;> omega)
theorem rClamp_any (x low high : Int) (w : World) :
    Calls Try.prog 30 #[.int .i64 x, .int .i64 low, .int .i64 high] w fun e w' => e = .returned (.int .i64 (clampS x low high)) ∧ w = w' := by
  go_enter Try.func30, Try.ntmps30
  go_wp2
  all_goals go_ret
  all_goals refine ⟨ret_int ?_, rfl⟩
  all_goals (unfold clampS; (repeat' split) <;> omega)
end Go.Proofs.Ytbmkamnjjfmdiaa
