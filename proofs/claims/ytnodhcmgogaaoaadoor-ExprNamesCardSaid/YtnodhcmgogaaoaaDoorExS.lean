/- The reference of Name at every text: it returns the same. -/
import Derived.Test.YtnodhcmgogaaoaaDoorExE
namespace Go.Proofs.YtnodhcmgogaaoaaDoor
open Go.RowKit Go.Sort
set_option linter.unusedVariables false
set_option linter.unusedSimpArgs false

set_option maxHeartbeats 4000000 in
theorem rletter_any (b : Int) (w : World) : Calls Tryd.prog 47 #[.int .u8 b] w fun e w' => e = .returned (.bool (ltB b)) ∧ w = w' := by
  by_cases h1 : 97 ≤ b <;> by_cases h2 : b ≤ 122 <;> by_cases h3 : 65 ≤ b <;> by_cases h4 : b ≤ 90
  all_goals
    go_enter Tryd.func47, Tryd.ntmps47
    go_wp2
    go_ret
    exact ⟨ret_bool (by simp [ltB, h1, h2, h3, h4]), rfl⟩
theorem ok_of_lt {b : Int} (h : ltB b = true) : okB b = true := by simp [okB, h]
set_option maxHeartbeats 4000000 in
theorem rName_any (s : ByteArray) (w : World) (hs : s.size ≤ 4611686018427387904) :
    Calls Tryd.prog 13 #[.string s] w fun e w' => e = .returned (.bool (nmB s)) ∧ w = w' := by
  by_cases h0 : s.size = 0
  · obtain rfl := nil_of_size h0
    go_enter Tryd.func13, Tryd.ntmps13
    go_wp2
    go_ret
    exact ⟨ret_bool (show false = nmB ⟨#[]⟩ from rfl), rfl⟩
  have he : s.toList.isEmpty = false := by
    rw [ByteArray.toList_eq]
    cases hl : s.data.toList with
    | nil => exact absurd (by show s.data.size = 0; rw [← Array.length_toList, hl]; rfl) h0
    | cons _ _ => rfl
  by_cases h1 : 24 < s.size
  · have h1' : (24 : Int) < (s.size : Int) := by omega
    go_enter Tryd.func13, Tryd.ntmps13
    go_wp2
    go_ret
    exact ⟨ret_bool (by unfold nmB; rw [decide_eq_false (by omega)]; rfl), rfl⟩
  have h1' : ¬ (24 : Int) < (s.size : Int) := by omega
  have hp : 0 < s.size := by omega
  have K0 := fun W => hide (rletter_any (s[0].toNat : Int) W)
  have hb0 : by0 s 0 = (s[0].toNat : Int) := by0_lt hp
  by_cases h2 : ltB (s[0].toNat : Int) = true
  · simp only [h2] at K0
    have S0 : Hid (alF (by0 s) (s.size - 1) 1 = nmB s) := by
      have : nmB s = alF (by0 s) s.size 0 := by unfold nmB; rw [hb0, h2, decide_eq_true (by omega)]; rfl
      refine hide ?_
      rw [this, show alF (by0 s) s.size 0 = alF (by0 s) (s.size - 1 + 1) 0 by rw [Nat.sub_add_cancel (by omega)], alF, hb0, ok_of_lt h2]
      simp
    go_enter Tryd.func13, Tryd.ntmps13
    go_wp2_with fail
    refine ((K0 _).out).mono ?_
    rintro e _ ⟨rfl, rfl⟩
    go_wp2
    clear K0 h2 hb0
    go_loop [3] (fun i => ∃ k : Nat, i = .int .i64 (k : Int) ∧ k ≤ s.size ∧ Hid (alF (by0 s) (s.size - k) k = nmB s)) (fun i => s.size - (intOf i).toNat)
    case atStart => exact ⟨1, rfl, by omega, S0⟩
    case round =>
      clear S0
      obtain ⟨k, rfl, hk, S⟩ := hrel
      by_cases hlt : k < s.size
      · have hltz : (k : Int) < (s.size : Int) := by omega
        have K1 := fun W => hide (rletter_any (s[k].toNat : Int) W)
        have hb := by0_lt hlt
        have S' : Hid ((okB (s[k].toNat : Int) && alF (by0 s) (s.size - (k + 1)) (k + 1)) = nmB s) := by
          have := S.out
          rw [show s.size - k = s.size - (k + 1) + 1 by omega, alF, hb] at this
          exact this
        clear S hb
        by_cases g1 : ltB (s[k].toNat : Int) = true
        · simp only [g1] at K1
          have S2 := hide S'.out
          simp only [okB, g1, Bool.true_or, Bool.true_and] at S2
          clear S' g1
          go_wp2_with fail
          refine ((K1 _).out).mono ?_
          rintro e _ ⟨rfl, rfl⟩
          go_wp2
          go_round
          case rel => exact ⟨k + 1, by go_num, by omega, S2⟩
          case measure => simp [intOf]; omega
        · simp only [Bool.not_eq_true] at g1
          simp only [g1] at K1
          have gd : dgB (s[k].toNat : Int) = decide (48 ≤ (s[k].toNat : Int) ∧ (s[k].toNat : Int) ≤ 57) := rfl
          have S2 := hide S'.out
          simp only [okB, g1, gd, Bool.false_or] at S2
          clear S' g1 gd
          have key : ∀ x : Int, x = (s[k].toNat : Int) → (48 ≤ x ∧ x ≤ 57) ∨ (x < 48 ∧ x ≠ 45) ∨ (57 < x ∧ x ≠ 95) ∨ x = 45 ∨ x = 95 := fun x _ => by omega
          rcases key _ rfl with ⟨g2, g3⟩ | ⟨g2, g3⟩ | ⟨g2, g3⟩ | g2 | g2
          · have S3 := hide S2.out
            rw [decide_eq_true ⟨g2, g3⟩, Bool.true_or, Bool.true_or, Bool.true_and] at S3
            clear S2
            go_wp2_with fail
            refine ((K1 _).out).mono ?_
            rintro e _ ⟨rfl, rfl⟩
            go_wp2
            go_round
            case rel => exact ⟨k + 1, by go_num, by omega, S3⟩
            case measure => simp [intOf]; omega
          · have S3 := hide S2.out
            rw [decide_eq_false (by omega), Bool.false_or, show ((s[k].toNat : Int) == 45) = false by simpa using g3, show ((s[k].toNat : Int) == 95) = false by simp; omega, Bool.false_or, Bool.false_and] at S3
            have g4 : ((s[k].toNat : Int) != 45) = true := by simpa using g3
            have g5 : ((s[k].toNat : Int) != 95) = true := by simp; omega
            clear S2 g3
            go_wp2_with fail
            refine ((K1 _).out).mono ?_
            rintro e _ ⟨rfl, rfl⟩
            go_wp2
            go_ret
            exact ⟨ret_bool S3.out, rfl⟩
          · have S3 := hide S2.out
            rw [decide_eq_false (by omega), Bool.false_or, show ((s[k].toNat : Int) == 45) = false by simp; omega, show ((s[k].toNat : Int) == 95) = false by simpa using g3, Bool.false_or, Bool.false_and] at S3
            have g4 : ((s[k].toNat : Int) != 45) = true := by simp; omega
            have g5 : ((s[k].toNat : Int) != 95) = true := by simpa using g3
            have g6 : ¬ (s[k].toNat : Int) < 48 := by omega
            clear S2 g3
            go_wp2_with fail
            refine ((K1 _).out).mono ?_
            rintro e _ ⟨rfl, rfl⟩
            go_wp2
            go_ret
            exact ⟨ret_bool S3.out, rfl⟩
          · have S3 := hide S2.out
            rw [show ((s[k].toNat : Int) == 45) = true by simpa using g2, Bool.or_true, Bool.true_or, Bool.true_and] at S3
            have g4 : ((s[k].toNat : Int) != 45) = false := by simpa using g2
            have g6 : (s[k].toNat : Int) < 48 := by omega
            clear S2 g2
            go_wp2_with fail
            refine ((K1 _).out).mono ?_
            rintro e _ ⟨rfl, rfl⟩
            go_wp2
            go_round
            case rel => exact ⟨k + 1, by go_num, by omega, S3⟩
            case measure => simp [intOf]; omega
          · have S3 := hide S2.out
            rw [show ((s[k].toNat : Int) == 95) = true by simpa using g2, Bool.or_true, Bool.true_and] at S3
            have g4 : ((s[k].toNat : Int) != 45) = true := by simp; omega
            have g5 : ((s[k].toNat : Int) != 95) = false := by simpa using g2
            have g6 : ¬ (s[k].toNat : Int) < 48 := by omega
            have g7 : 57 < (s[k].toNat : Int) := by omega
            clear S2 g2
            go_wp2_with fail
            refine ((K1 _).out).mono ?_
            rintro e _ ⟨rfl, rfl⟩
            go_wp2
            go_round
            case rel => exact ⟨k + 1, by go_num, by omega, S3⟩
            case measure => simp [intOf]; omega
      · have hltz : ¬ (k : Int) < (s.size : Int) := by omega
        have S2 : Hid (true = nmB s) := by
          have := S.out
          rwa [show s.size - k = 0 by omega, alF] at this
        clear S
        go_wp2
        go_ret
        exact ⟨ret_bool S2.out, rfl⟩
  · simp only [Bool.not_eq_true] at h2
    simp only [h2] at K0
    go_enter Tryd.func13, Tryd.ntmps13
    go_wp2_with fail
    refine ((K0 _).out).mono ?_
    rintro e _ ⟨rfl, rfl⟩
    go_wp2
    go_ret
    exact ⟨ret_bool (by simp [nmB, hb0, h2]), rfl⟩
end Go.Proofs.YtnodhcmgogaaoaaDoor
