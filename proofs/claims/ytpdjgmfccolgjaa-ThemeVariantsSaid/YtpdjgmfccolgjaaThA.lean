/- What the functions on colors of package theme and of its reference return; no condition. -/
import Derived.Test.YtpdjgmfccolgjaaFxRefs2
import Derived.Test.YtpdjgmfccolgjaaBitM
import Derived.Test.YtpdjgmfccolgjaaGeBase
namespace Go.Proofs.Ytpdjgmfccolgjaa
open Go.RowKit Go.Sort
set_option linter.unusedVariables false
set_option linter.unusedSimpArgs false

def colB (x : Int) : Bool := decide (0 ≤ x ∧ x ≤ 16777215)
def lumX (r g b : Int) : Int := flr (2126 * r * r + 7152 * g * g + 722 * b * b) 650250
def lumS (x : Int) : Int := if colB x then lumX (x / 65536) (x / 256 % 256) (x % 256) else 0
theorem colB_yes {x : Int} (h : colB x = true) : 0 ≤ x ∧ x ≤ 16777215 := by simpa [colB] using h
theorem lumX_bd {r g b : Int} (hr : 0 ≤ r ∧ r ≤ 255) (hg : 0 ≤ g ∧ g ≤ 255) (hb : 0 ≤ b ∧ b ≤ 255) : 0 ≤ lumX r g b ∧ lumX r g b ≤ 1000 := by
  have b1 := sq_bd (c := 2126) (by omega) hr.1 hr.2
  have b2 := sq_bd (c := 7152) (by omega) hg.1 hg.2
  have b3 := sq_bd (c := 722) (by omega) hb.1 hb.2
  unfold lumX flr
  rw [Int.fdiv_eq_ediv_of_nonneg _ (by omega)]
  omega
theorem lumS_bd (x : Int) : 0 ≤ lumS x ∧ lumS x ≤ 1000 := by
  unfold lumS
  split
  · rename_i h
    have := colB_yes h
    exact lumX_bd (by omega) (by omega) (by omega)
  · omega
def conS (a b : Int) : Int := if colB a && colB b then flr ((max (lumS a) (lumS b) + 50) * 100) (min (lumS a) (lumS b) + 50) else 0
def reaS (c k least : Int) : Int := if !colB c || !colB k || decide (least ≤ conS c k) then c else if conS 16777215 k ≤ conS 0 k then 0 else 16777215
theorem rvalid_any (x : Int) (w : World) :
    Calls Try.prog 36 #[.int .i64 x] w fun e w' => e = .returned (.bool (colB x)) ∧ w = w' := by
  unfold colB
  by_cases h1 : 0 ≤ x
  · by_cases h2 : x ≤ 16777215
    · have e : decide (0 ≤ x ∧ x ≤ 16777215) = true := by simp [h1, h2]
      rw [e]
      go_enter Try.func36, Try.ntmps36
      go_wp2
      go_ret
      exact ⟨rfl, rfl⟩
    · have e : decide (0 ≤ x ∧ x ≤ 16777215) = false := by simp [h1, h2]
      rw [e]
      go_enter Try.func36, Try.ntmps36
      go_wp2
      go_ret
      exact ⟨rfl, rfl⟩
  · have e : decide (0 ≤ x ∧ x ≤ 16777215) = false := by simp [h1]
    rw [e]
    go_enter Try.func36, Try.ntmps36
    go_wp2
    go_ret
    exact ⟨rfl, rfl⟩
theorem rLum_any (x : Int) (w : World) :
    Calls Try.prog 18 #[.int .i64 x] w fun e w' => e = .returned (.int .i64 (lumS x)) ∧ w = w' := by
  have V := hide (rvalid_any x w)
  by_cases h : colB x = true
  · rw [h] at V
    have e : lumS x = lumX (x / 65536) (x / 256 % 256) (x % 256) := by simp [lumS, h]
    obtain ⟨h1, h2⟩ := colB_yes h
    have b1 := sq_bd (c := 2126) (r := x / 65536) (m := 255) (by omega) (by omega) (by omega)
    have b2 := sq_bd (c := 7152) (r := x / 256 % 256) (m := 255) (by omega) (by omega) (by omega)
    have b3 := sq_bd (c := 722) (r := x % 256) (m := 255) (by omega) (by omega) (by omega)
    have F := fun W => hide (rFloor_in (2126 * (x / 65536) * (x / 65536) + 7152 * (x / 256 % 256) * (x / 256 % 256) + 722 * (x % 256) * (x % 256)) 650250 W ⟨by omega, by omega, by omega⟩)
    rw [e]
    replace e := hide e
    go_enter Try.func18, Try.ntmps18
    go_wp2_with fail
    refine V.out.mono ?_
    rintro e w' ⟨rfl, rfl⟩
    go_wp2_with fail
    refine (F _).out.mono ?_
    rintro e w' ⟨rfl, rfl⟩
    go_wp2
    go_ret
    exact ⟨rfl, rfl⟩
  · have h' : colB x = false := by simpa using h
    rw [h'] at V
    have e : lumS x = 0 := by simp [lumS, h']
    rw [e]
    replace e := hide e
    go_enter Try.func18, Try.ntmps18
    go_wp2_with fail
    refine V.out.mono ?_
    rintro e w' ⟨rfl, rfl⟩
    go_wp2
    go_ret
    exact ⟨rfl, rfl⟩
end Go.Proofs.Ytpdjgmfccolgjaa
