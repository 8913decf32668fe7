/- What Scale and Clamp of package fixed and their references return outside the range and within it; no condition but that the numbers are integers of 64 bits. -/
import Derived.Test.YtpdjgmfccolgjaaFxRefs
namespace Go.Proofs.Ytpdjgmfccolgjaa
open Go.RowKit

theorem Scale_out (x num den : Int) (w : World) (h : ¬ inS x num den) :
    Calls Try.prog 30 #[.int .i64 x, .int .i64 num, .int .i64 den] w fun e w' => e = .returned (.tuple #[.int .i64 0, .int .i64 1]) ∧ w = w' := by
  by_cases hx : -1099511627776 ≤ x ∧ x ≤ 1099511627776
  · by_cases hn : 0 ≤ num ∧ num ≤ 65536
    · have W1 := within_yes x (-1099511627776) 1099511627776 w hx.1 hx.2
      have W2 := within_yes num 0 65536 w hn.1 hn.2
      have W3 := within_no den 1 65536 w (fun hd => h ⟨hx, hn, hd.1, hd.2⟩)
      clear h hx hn
      go_enter Try.func30, Try.ntmps30
      go_wp2_with fail
      refine W1.mono ?_
      rintro e w' ⟨rfl, rfl⟩
      go_wp2_with fail
      refine W2.mono ?_
      rintro e w' ⟨rfl, rfl⟩
      go_wp2_with fail
      refine W3.mono ?_
      rintro e w' ⟨rfl, rfl⟩
      go_wp2
      go_ret2
      exact ⟨rfl, rfl⟩
    · have W1 := within_yes x (-1099511627776) 1099511627776 w hx.1 hx.2
      have W2 := within_no num 0 65536 w hn
      clear h hx hn
      go_enter Try.func30, Try.ntmps30
      go_wp2_with fail
      refine W1.mono ?_
      rintro e w' ⟨rfl, rfl⟩
      go_wp2_with fail
      refine W2.mono ?_
      rintro e w' ⟨rfl, rfl⟩
      go_wp2
      go_ret2
      exact ⟨rfl, rfl⟩
  · have W1 := within_no x (-1099511627776) 1099511627776 w hx
    clear h hx
    go_enter Try.func30, Try.ntmps30
    go_wp2_with fail
    refine W1.mono ?_
    rintro e w' ⟨rfl, rfl⟩
    go_wp2
    go_ret2
    exact ⟨rfl, rfl⟩

theorem rScale_in (x num den : Int) (w : World) (h : inS x num den) :
    Calls Try.prog 33 #[.int .i64 x, .int .i64 num, .int .i64 den] w fun e w' => e = .returned (.tuple #[.int .i64 (rnd (x * num) den), .int .i64 0]) ∧ w = w' := by
  obtain ⟨⟨h1, h2⟩, ⟨h3, h4⟩, h5, h6⟩ := h
  obtain ⟨m1, m2⟩ := mul_bd h1 h2 h3 h4
  have R := rRound_in (x * num) den w ⟨by omega, ⟨by omega, by omega⟩, by omega, by omega⟩
  have ew : IntKind.i64.wrap (x * num) = x * num := wrap_in (by omega)
  go_enter Try.func33, Try.ntmps33
  go_wp2_with fail
  refine R.mono ?_
  rintro e w' ⟨rfl, rfl⟩
  go_wp2
  go_ret2
  exact ⟨rfl, rfl⟩
theorem rScale_out (x num den : Int) (w : World) (h : ¬ inS x num den) :
    Calls Try.prog 33 #[.int .i64 x, .int .i64 num, .int .i64 den] w fun e w' => e = .returned (.tuple #[.int .i64 0, .int .i64 1]) ∧ w = w' := by
  unfold inS at h
  go_enter Try.func33, Try.ntmps33
  go_wp2
  all_goals go_ret2
  all_goals exact ⟨rfl, rfl⟩

/-- The number of [low, high] that is nearest to x, low if there is none. -/
def clampS (x low high : Int) : Int := if x < low ∨ high < low then low else if high < x then high else x
theorem Clamp_any (x low high : Int) (w : World) :
    Calls Try.prog 31 #[.int .i64 x, .int .i64 low, .int .i64 high] w fun e w' => e = .returned (.int .i64 (clampS x low high)) ∧ w = w' := by
  go_enter Try.func31, Try.ntmps31
  go_wp2
  all_goals go_ret
  all_goals refine ⟨ret_int ?_, rfl⟩
  all_goals (unfold clampS; (repeat' split) <;> omega)
theorem rClamp_any (x low high : Int) (w : World) :
    Calls Try.prog 32 #[.int .i64 x, .int .i64 low, .int .i64 high] w fun e w' => e = .returned (.int .i64 (clampS x low high)) ∧ w = w' := by
  go_enter Try.func32, Try.ntmps32
  go_wp2
  all_goals go_ret
  all_goals refine ⟨ret_int ?_, rfl⟩
  all_goals (unfold clampS; (repeat' split) <;> omega)
end Go.Proofs.Ytpdjgmfccolgjaa
