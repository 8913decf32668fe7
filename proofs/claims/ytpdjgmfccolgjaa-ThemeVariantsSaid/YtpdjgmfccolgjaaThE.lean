/- The sanity check of the laws on themes, and the arithmetic of contrasts and sizes; no condition. -/
import Derived.Test.YtpdjgmfccolgjaaThD
import Derived.Test.YtpdjgmfccolgjaaMix
namespace Go.Proofs.Ytpdjgmfccolgjaa
open Go.RowKit Go.Sort
set_option linter.unusedVariables false
set_option linter.unusedSimpArgs false

theorem flr_bd {a b lo hi : Int} (hb : 0 < b) (h1 : lo * b ≤ a) (h2 : a < hi * b + b) : lo ≤ flr a b ∧ flr a b ≤ hi := by
  unfold flr
  rw [Int.fdiv_eq_ediv_of_nonneg _ (Int.le_of_lt hb)]
  exact ⟨Int.le_ediv_of_mul_le hb h1, Int.le_of_lt_add_one (Int.ediv_lt_of_lt_mul hb (by rw [Int.add_mul, Int.one_mul]; exact h2))⟩
theorem con_yes {a b : Int} (ha : colB a = true) (hb : colB b = true) : conS a b = flr ((max (lumS a) (lumS b) + 50) * 100) (min (lumS a) (lumS b) + 50) := by simp [conS, ha, hb]
theorem con_comm (a b : Int) : conS a b = conS b a := by
  unfold conS
  rw [Bool.and_comm, show max (lumS a) (lumS b) = max (lumS b) (lumS a) by omega, show min (lumS a) (lumS b) = min (lumS b) (lumS a) by omega]
theorem con_bd {a b : Int} (ha : colB a = true) (hb : colB b = true) : 100 ≤ conS a b ∧ conS a b ≤ 2100 := by
  rw [con_yes ha hb]
  have p1 := lumS_bd a
  have p2 := lumS_bd b
  exact flr_bd (by omega) (by omega) (by omega)
theorem con_self {a : Int} (ha : colB a = true) : conS a a = 100 := by
  rw [con_yes ha ha]
  have p1 := lumS_bd a
  rw [show max (lumS a) (lumS a) = lumS a by omega, show min (lumS a) (lumS a) = lumS a by omega]
  exact flr_pos (by omega) (by omega) (by omega)
theorem lum_black : lumS 0 = 0 := by decide +kernel
theorem lum_white : lumS 16777215 = 1000 := by decide +kernel
theorem con_black {b : Int} (hb : colB b = true) : conS 0 b = 2 * (lumS b + 50) := by
  rw [con_yes (by decide) hb, lum_black]
  have p := lumS_bd b
  rw [show max 0 (lumS b) = lumS b by omega, show min 0 (lumS b) = 0 by omega]
  exact flr_pos (by omega) (by omega) (by omega)
theorem con_white {b : Int} (hb : colB b = true) : conS 16777215 b = flr 105000 (lumS b + 50) := by
  rw [con_yes (by decide) hb, lum_white]
  have p := lumS_bd b
  rw [show max 1000 (lumS b) = 1000 by omega, show min 1000 (lumS b) = lumS b by omega]
  rfl
theorem rea_least {c k least : Int} (hc : colB c = true) (hk : colB k = true) (hl : least ≤ 450) : least ≤ conS (reaS c k least) k := by
  unfold reaS
  by_cases h : least ≤ conS c k
  · simp [hc, hk, h]
  · simp only [hc, hk, h, Bool.not_true, Bool.false_or, decide_false, Bool.false_eq_true, if_false]
    have p := lumS_bd k
    split
    · rename_i h2
      rw [con_white hk, con_black hk] at h2
      rw [con_black hk]
      by_cases hz : lumS k + 50 ≤ 224
      · have := (flr_bd (a := 105000) (b := lumS k + 50) (lo := 468) (hi := 105000) (by omega) (by omega) (by omega)).1
        omega
      · omega
    · rename_i h2
      rw [con_white hk, con_black hk] at h2
      rw [con_white hk]
      by_cases hz : lumS k + 50 ≤ 233
      · have := (flr_bd (a := 105000) (b := lumS k + 50) (lo := 450) (hi := 105000) (by omega) (by omega) (by omega)).1
        omega
      · have := (flr_bd (a := 105000) (b := lumS k + 50) (lo := 0) (hi := 450) (by omega) (by omega) (by omega)).2
        omega
theorem rnd_mono {a b d : Int} (hd : 0 < d) (h : a ≤ b) : rnd a d ≤ rnd b d := by
  unfold rnd
  rw [Int.fdiv_eq_ediv_of_nonneg _ (by omega), Int.fdiv_eq_ediv_of_nonneg _ (by omega)]
  exact Int.ediv_le_ediv (by omega) (by omega)
theorem clamp_mono {a b : Int} (h : a ≤ b) : clampS a 1 1000 ≤ clampS b 1 1000 := by
  unfold clampS
  (repeat' split) <;> omega
theorem clamp_bd (a : Int) : 1 ≤ clampS a 1 1000 ∧ clampS a 1 1000 ≤ 1000 := by
  unfold clampS
  (repeat' split) <;> omega
theorem clamp_low {a : Int} (h : a < 1) : clampS a 1 1000 = 1 := by
  unfold clampS
  (repeat' split) <;> omega
theorem clamp_high {a : Int} (h : 1000 < a) : clampS a 1 1000 = 1000 := by
  unfold clampS
  (repeat' split) <;> omega
theorem siz_bd (sc x : Int) : 1 ≤ sizS sc x ∧ sizS sc x ≤ 1000 := by
  unfold sizS
  split <;> exact clamp_bd _
theorem siz_mono (sc : Int) {x y : Int} (h : x ≤ y) : sizS sc x ≤ sizS sc y := by
  have c1 := clamp_mono h
  by_cases hs : 50 ≤ sc ∧ sc ≤ 400
  · by_cases h1 : x < 1
    · have : sizS sc x = 1 := by unfold sizS; rw [if_neg (by omega)]; exact clamp_low h1
      have := siz_bd sc y
      omega
    · by_cases h2 : 1000 < y
      · have : sizS sc y = 1000 := by unfold sizS; rw [if_neg (by omega)]; exact clamp_high h2
        have := siz_bd sc x
        omega
      · unfold sizS
        rw [if_pos (by omega), if_pos (by omega)]
        exact clamp_mono (rnd_mono (by omega) (Int.mul_le_mul_of_nonneg_right h (by omega)))
  · unfold sizS
    rw [if_neg (by omega), if_neg (by omega)]
    exact c1

set_option maxHeartbeats 4000000 in
theorem awake_any (w : World) : Calls Try.prog 12 #[] w fun e w' => e = .returned (.bool true) ∧ Grew w w' := by
  have K1 := fun W => hide (Con_any 0 16777215 W)
  have K2 := fun W => hide (Lum_any 16777215 W)
  have K3 := fun W => hide (Rea_any 8421504 8421504 450 W)
  have K4 := fun W => hide (Size_any false false 150 16 W)
  rw [show conS 0 16777215 = 2100 by decide +kernel] at K1
  rw [show lumS 16777215 = 1000 by decide +kernel] at K2
  rw [show reaS 8421504 8421504 450 = 0 by decide +kernel] at K3
  rw [show sizS 150 16 = 24 by decide +kernel] at K4
  go_enter Try.func12, Try.ntmps12
  go_wp2_with fail
  refine (K1 _).out.mono ?_
  rintro e w' ⟨rfl, n1, rfl⟩
  go_wp2_with fail
  refine (K2 _).out.mono ?_
  rintro e w' ⟨rfl, n2, rfl⟩
  go_wp2_with fail
  refine (K3 _).out.mono ?_
  rintro e w' ⟨rfl, n3, rfl⟩
  go_wp2_with fail
  refine (K4 _).out.mono ?_
  rintro e w' ⟨rfl, hG⟩
  replace hG := hide hG
  go_wp2
  go_ret
  refine ⟨rfl, Grew.trans ?_ hG.out⟩
  repeat' (first | (with_reducible exact Grew.refl _) | (with_reducible refine Grew.drewN ?_ _))
end Go.Proofs.Ytpdjgmfccolgjaa
