/- What Size of package theme returns, and its reference; no condition. -/
import Derived.Test.YtpdjgmfccolgjaaThC
namespace Go.Proofs.Ytpdjgmfccolgjaa
open Go.RowKit Go.Sort
set_option linter.unusedVariables false
set_option linter.unusedSimpArgs false

def sizS (sc x : Int) : Int := if 50 ≤ sc ∧ sc ≤ 400 ∧ 1 ≤ x ∧ x ≤ 1000 then clampS (rnd (x * sc) 100) 1 1000 else clampS x 1 1000
set_option maxHeartbeats 4000000 in
theorem rSize_any (d h : Bool) (sc x : Int) (w : World) :
    Calls Try.prog 16 #[(.agg #[.bool d, .bool h, .int .i64 sc]), .int .i64 x] w fun e w' => e = .returned (.int .i64 (sizS sc x)) ∧ Grew w w' := by
  have C := fun W => hide (rClamp_any x 1 1000 W)
  have D := fun W => hide (rClamp_any (rnd (x * sc) 100) 1 1000 W)
  unfold sizS
  by_cases h1 : sc < 50
  · rw [if_neg (by omega)]
    go_enter Try.func16, Try.ntmps16
    go_wp2_with fail
    refine (C _).out.mono ?_
    rintro e w' ⟨rfl, rfl⟩
    go_wp2
    go_ret
    exact ⟨rfl, by repeat' (first | (with_reducible exact Grew.refl _) | (with_reducible refine Grew.drewN ?_ _) | (with_reducible refine Grew.setCell ?_ ?_ _) | (with_reducible refine Grew.alloc ?_ _) | (dsimp only; omega))⟩
  by_cases h2 : 400 < sc
  · rw [if_neg (by omega)]
    go_enter Try.func16, Try.ntmps16
    go_wp2_with fail
    refine (C _).out.mono ?_
    rintro e w' ⟨rfl, rfl⟩
    go_wp2
    go_ret
    exact ⟨rfl, by repeat' (first | (with_reducible exact Grew.refl _) | (with_reducible refine Grew.drewN ?_ _) | (with_reducible refine Grew.setCell ?_ ?_ _) | (with_reducible refine Grew.alloc ?_ _) | (dsimp only; omega))⟩
  by_cases h3 : x < 1
  · rw [if_neg (by omega)]
    go_enter Try.func16, Try.ntmps16
    go_wp2_with fail
    refine (C _).out.mono ?_
    rintro e w' ⟨rfl, rfl⟩
    go_wp2
    go_ret
    exact ⟨rfl, by repeat' (first | (with_reducible exact Grew.refl _) | (with_reducible refine Grew.drewN ?_ _) | (with_reducible refine Grew.setCell ?_ ?_ _) | (with_reducible refine Grew.alloc ?_ _) | (dsimp only; omega))⟩
  by_cases h4 : 1000 < x
  · rw [if_neg (by omega)]
    go_enter Try.func16, Try.ntmps16
    go_wp2_with fail
    refine (C _).out.mono ?_
    rintro e w' ⟨rfl, rfl⟩
    go_wp2
    go_ret
    exact ⟨rfl, by repeat' (first | (with_reducible exact Grew.refl _) | (with_reducible refine Grew.drewN ?_ _) | (with_reducible refine Grew.setCell ?_ ?_ _) | (with_reducible refine Grew.alloc ?_ _) | (dsimp only; omega))⟩
  rw [if_pos (by omega)]
  have R := fun W => hide (rScale_in x sc 100 W ⟨by omega, by omega, by omega, by omega⟩)
  go_enter Try.func16, Try.ntmps16
  go_wp2_with fail
  refine (R _).out.mono ?_
  rintro e w' ⟨rfl, rfl⟩
  go_wp2_with fail
  refine (D _).out.mono ?_
  rintro e w' ⟨rfl, rfl⟩
  go_wp2
  go_ret
  exact ⟨rfl, by repeat' (first | (with_reducible exact Grew.refl _) | (with_reducible refine Grew.drewN ?_ _) | (with_reducible refine Grew.setCell ?_ ?_ _) | (with_reducible refine Grew.alloc ?_ _) | (dsimp only; omega))⟩
set_option maxHeartbeats 4000000 in
theorem Size_any (d h : Bool) (sc x : Int) (w : World) :
    Calls Try.prog 15 #[(.agg #[.bool d, .bool h, .int .i64 sc]), .int .i64 x] w fun e w' => e = .returned (.int .i64 (sizS sc x)) ∧ Grew w w' := by
  have C := fun W => hide (Clamp_any x 1 1000 W)
  have D := fun W => hide (Clamp_any (rnd (x * sc) 100) 1 1000 W)
  have W1 := fun W => hide (within_th sc 50 400 W)
  have W2 := fun W => hide (within_th x 1 1000 W)
  unfold sizS
  by_cases h1 : 50 ≤ sc ∧ sc ≤ 400
  · rw [decide_eq_true h1] at W1
    by_cases h2 : 1 ≤ x ∧ x ≤ 1000
    · rw [decide_eq_true h2] at W2
      rw [if_pos (by omega)]
      have R := fun W => hide (Scale_in x sc 100 W ⟨by omega, by omega, by omega, by omega⟩)
      go_enter Try.func15, Try.ntmps15
      go_wp2_with fail
      refine (W1 _).out.mono ?_
      rintro e w' ⟨rfl, rfl⟩
      go_wp2_with fail
      refine (W2 _).out.mono ?_
      rintro e w' ⟨rfl, rfl⟩
      go_wp2_with fail
      refine (R _).out.mono ?_
      rintro e w' ⟨rfl, n18, rfl⟩
      go_wp2_with fail
      refine (D _).out.mono ?_
      rintro e w' ⟨rfl, rfl⟩
      go_wp2
      go_ret
      exact ⟨rfl, by repeat' (first | (with_reducible exact Grew.refl _) | (with_reducible refine Grew.drewN ?_ _) | (with_reducible refine Grew.setCell ?_ ?_ _) | (with_reducible refine Grew.alloc ?_ _) | (dsimp only; omega))⟩
    · rw [decide_eq_false h2] at W2
      rw [if_neg (by omega)]
      go_enter Try.func15, Try.ntmps15
      go_wp2_with fail
      refine (W1 _).out.mono ?_
      rintro e w' ⟨rfl, rfl⟩
      go_wp2_with fail
      refine (W2 _).out.mono ?_
      rintro e w' ⟨rfl, rfl⟩
      go_wp2_with fail
      refine (C _).out.mono ?_
      rintro e w' ⟨rfl, rfl⟩
      go_wp2
      go_ret
      exact ⟨rfl, by repeat' (first | (with_reducible exact Grew.refl _) | (with_reducible refine Grew.drewN ?_ _) | (with_reducible refine Grew.setCell ?_ ?_ _) | (with_reducible refine Grew.alloc ?_ _) | (dsimp only; omega))⟩
  · rw [decide_eq_false h1] at W1
    rw [if_neg (by omega)]
    go_enter Try.func15, Try.ntmps15
    go_wp2_with fail
    refine (W1 _).out.mono ?_
    rintro e w' ⟨rfl, rfl⟩
    go_wp2_with fail
    refine (C _).out.mono ?_
    rintro e w' ⟨rfl, rfl⟩
    go_wp2
    go_ret
    exact ⟨rfl, by repeat' (first | (with_reducible exact Grew.refl _) | (with_reducible refine Grew.drewN ?_ _) | (with_reducible refine Grew.setCell ?_ ?_ _) | (with_reducible refine Grew.alloc ?_ _) | (dsimp only; omega))⟩
end Go.Proofs.Ytpdjgmfccolgjaa
