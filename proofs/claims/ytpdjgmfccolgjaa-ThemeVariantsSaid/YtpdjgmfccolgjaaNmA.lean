/- Name of package expr and of its reference, at every text; the text's length fits. -/
import Derived.Test.YtpdjgmfccolgjaaGeBase
import Derived.Deep.LoopGhost
namespace Go.Proofs.Ytpdjgmfccolgjaa
open Go.RowKit Go.Sort
set_option linter.unusedVariables false
set_option linter.unusedSimpArgs false

def ltB (b : Int) : Bool := decide (97 ≤ b ∧ b ≤ 122 ∨ 65 ≤ b ∧ b ≤ 90)
def dgB (b : Int) : Bool := decide (48 ≤ b ∧ b ≤ 57)
set_option maxHeartbeats 4000000 in
theorem letter_any (b : Int) (w : World) : Calls Try.prog 38 #[.int .u8 b] w fun e w' => e = .returned (.bool (ltB b)) ∧ w = w' := by
  by_cases h1 : 97 ≤ b <;> by_cases h2 : b ≤ 122 <;> by_cases h3 : 65 ≤ b <;> by_cases h4 : b ≤ 90
  all_goals
    go_enter Try.func38, Try.ntmps38
    go_wp2
    go_ret
    exact ⟨ret_bool (by simp [ltB, h1, h2, h3, h4]), rfl⟩
set_option maxHeartbeats 4000000 in
theorem digit_any (b : Int) (w : World) : Calls Try.prog 39 #[.int .u8 b] w fun e w' => e = .returned (.bool (dgB b)) ∧ w = w' := by
  by_cases h1 : 48 ≤ b <;> by_cases h2 : b ≤ 57
  all_goals
    go_enter Try.func39, Try.ntmps39
    go_wp2
    go_ret
    exact ⟨ret_bool (by simp [dgB, h1, h2]), rfl⟩
def by0 (s : ByteArray) (k : Nat) : Int := if h : k < s.size then (s[k].toNat : Int) else 0
def okB (b : Int) : Bool := ltB b || dgB b || b == 45 || b == 95
def alF (f : Nat → Int) : Nat → Nat → Bool
  | 0, _ => true
  | m + 1, k => okB (f k) && alF f m (k + 1)
/-- Whether a text is a name. -/
def nmB (s : ByteArray) : Bool := decide (1 ≤ s.size ∧ s.size ≤ 24) && ltB (by0 s 0) && alF (by0 s) s.size 0
theorem by0_lt {s : ByteArray} {k : Nat} (h : k < s.size) : by0 s k = (s[k].toNat : Int) := by simp [by0, h]
theorem nil_of_size {s : ByteArray} (h : s.size = 0) : s = ⟨#[]⟩ := by
  cases s with
  | mk d => simp only [ByteArray.size] at h; rw [Array.eq_empty_of_size_eq_zero h]

set_option maxHeartbeats 4000000 in
theorem Name_any (s : ByteArray) (w : World) (hs : s.size ≤ 9223372036854775807) :
    Calls Try.prog 24 #[.string s] w fun e w' => e = .returned (.bool (nmB s)) ∧ w = w' := by
  by_cases h0 : s.size = 0
  · obtain rfl := nil_of_size h0
    go_enter Try.func24, Try.ntmps24
    go_wp2
    go_ret
    exact ⟨ret_bool (show false = nmB ⟨#[]⟩ from rfl), rfl⟩
  have he : s.toList.isEmpty = false := by
    rw [ByteArray.toList_eq]
    cases hl : s.data.toList with
    | nil => exact absurd (by show s.data.size = 0; rw [← Array.length_toList, hl]; rfl) h0
    | cons _ _ => rfl
  by_cases h1 : 24 < s.size
  · have h1' : (24 : Int) < (s.size : Int) := by omega
    go_enter Try.func24, Try.ntmps24
    go_wp2
    go_ret
    exact ⟨ret_bool (by unfold nmB; rw [decide_eq_false (by omega)]; rfl), rfl⟩
  have h1' : ¬ (24 : Int) < (s.size : Int) := by omega
  have hp : 0 < s.size := by omega
  have K0 := fun W => hide (letter_any (s[0].toNat : Int) W)
  have hb0 : by0 s 0 = (s[0].toNat : Int) := by0_lt hp
  by_cases h2 : ltB (s[0].toNat : Int) = true
  · simp only [h2] at K0
    have S0 : Hid (alF (by0 s) (s.size - 0) 0 = nmB s) := by
      have : nmB s = alF (by0 s) s.size 0 := by unfold nmB; rw [hb0, h2, decide_eq_true (by omega)]; rfl
      exact this.symm
    go_enter Try.func24, Try.ntmps24
    go_wp2_with fail
    refine ((K0 _).out).mono ?_
    rintro e _ ⟨rfl, rfl⟩
    go_wp2
    clear K0 h2 hb0
    go_loop [19] (fun i => ∃ k : Nat, i = .int .i64 (k : Int) ∧ k ≤ s.size ∧ Hid (alF (by0 s) (s.size - k) k = nmB s)) (fun i => s.size - (intOf i).toNat)
    case atStart => exact ⟨0, rfl, by omega, S0⟩
    case round =>
      clear S0
      obtain ⟨k, rfl, hk, S⟩ := hrel
      by_cases hlt : k < s.size
      · have hltz : (k : Int) < (s.size : Int) := by omega
        have K1 := fun W => hide (letter_any (s[k].toNat : Int) W)
        have K2 := fun W => hide (digit_any (s[k].toNat : Int) W)
        have hb := by0_lt hlt
        have S' : Hid ((okB (s[k].toNat : Int) && alF (by0 s) (s.size - (k + 1)) (k + 1)) = nmB s) := by
          have := S.out
          rw [show s.size - k = s.size - (k + 1) + 1 by omega, alF, hb] at this
          exact this
        clear S hb
        by_cases g1 : ltB (s[k].toNat : Int) = true
        · simp only [g1] at K1
          have S2 := hide S'.out
          simp only [okB, g1, Bool.true_or, Bool.true_and] at S2
          clear S' g1 K2
          go_wp2_with fail
          refine ((K1 _).out).mono ?_
          rintro e _ ⟨rfl, rfl⟩
          go_wp2
          go_round
          case rel => exact ⟨k + 1, by go_num, by omega, S2⟩
          case measure => simp [intOf]; omega
        · simp only [Bool.not_eq_true] at g1
          simp only [g1] at K1
          by_cases g2 : dgB (s[k].toNat : Int) = true
          · simp only [g2] at K2
            have S2 := hide S'.out
            simp only [okB, g1, g2, Bool.true_or, Bool.or_true, Bool.true_and] at S2
            clear S' g1 g2
            go_wp2_with fail
            refine ((K1 _).out).mono ?_
            rintro e _ ⟨rfl, rfl⟩
            go_wp2_with fail
            refine ((K2 _).out).mono ?_
            rintro e _ ⟨rfl, rfl⟩
            go_wp2
            go_round
            case rel => exact ⟨k + 1, by go_num, by omega, S2⟩
            case measure => simp [intOf]; omega
          · simp only [Bool.not_eq_true] at g2
            simp only [g2] at K2
            have S2 := hide S'.out
            simp only [okB, g1, g2, Bool.false_or] at S2
            clear S' g1 g2
            by_cases g3 : (s[k].toNat : Int) = 45
            · have g3' : ((s[k].toNat : Int) != 45) = false := by simp [g3]
              have S3 := hide S2.out
              simp only [g3, beq_self_eq_true, Bool.true_or, Bool.true_and] at S3
              clear S2 g3
              go_wp2_with fail
              refine ((K1 _).out).mono ?_
              rintro e _ ⟨rfl, rfl⟩
              go_wp2_with fail
              refine ((K2 _).out).mono ?_
              rintro e _ ⟨rfl, rfl⟩
              go_wp2
              go_round
              case rel => exact ⟨k + 1, by go_num, by omega, S3⟩
              case measure => simp [intOf]; omega
            · have g3' : ((s[k].toNat : Int) != 45) = true := by simp [g3]
              by_cases g4 : (s[k].toNat : Int) = 95
              · have g4' : ((s[k].toNat : Int) != 95) = false := by simp [g4]
                have S3 := hide S2.out
                simp only [g4, beq_self_eq_true, Bool.or_true, Bool.true_and] at S3
                clear S2 g3 g4
                go_wp2_with fail
                refine ((K1 _).out).mono ?_
                rintro e _ ⟨rfl, rfl⟩
                go_wp2_with fail
                refine ((K2 _).out).mono ?_
                rintro e _ ⟨rfl, rfl⟩
                go_wp2
                go_round
                case rel => exact ⟨k + 1, by go_num, by omega, S3⟩
                case measure => simp [intOf]; omega
              · have g4' : ((s[k].toNat : Int) != 95) = true := by simp [g4]
                have S3 := hide S2.out
                simp only [show ((s[k].toNat : Int) == 45) = false by simpa using g3, show ((s[k].toNat : Int) == 95) = false by simpa using g4, Bool.or_false, Bool.false_and] at S3
                clear S2 g3 g4
                go_wp2_with fail
                refine ((K1 _).out).mono ?_
                rintro e _ ⟨rfl, rfl⟩
                go_wp2_with fail
                refine ((K2 _).out).mono ?_
                rintro e _ ⟨rfl, rfl⟩
                go_wp2
                go_ret
                exact ⟨ret_bool S3.out, rfl⟩
      · have hltz : ¬ (k : Int) < (s.size : Int) := by omega
        have S2 : Hid (true = nmB s) := by
          have := S.out
          rwa [show s.size - k = 0 by omega, alF] at this
        clear S
        go_wp2
        go_ret
        exact ⟨ret_bool S2.out, rfl⟩
  · simp only [Bool.not_eq_true] at h2
    simp only [h2] at K0
    go_enter Try.func24, Try.ntmps24
    go_wp2_with fail
    refine ((K0 _).out).mono ?_
    rintro e _ ⟨rfl, rfl⟩
    go_wp2
    go_ret
    exact ⟨ret_bool (by simp [nmB, hb0, h2]), rfl⟩
set_option maxHeartbeats 4000000 in
theorem rletter_any (b : Int) (w : World) : Calls Try.prog 40 #[.int .u8 b] w fun e w' => e = .returned (.bool (ltB b)) ∧ w = w' := by
  by_cases h1 : 97 ≤ b <;> by_cases h2 : b ≤ 122 <;> by_cases h3 : 65 ≤ b <;> by_cases h4 : b ≤ 90
  all_goals
    go_enter Try.func40, Try.ntmps40
    go_wp2
    go_ret
    exact ⟨ret_bool (by simp [ltB, h1, h2, h3, h4]), rfl⟩
theorem ok_of_lt {b : Int} (h : ltB b = true) : okB b = true := by simp [okB, h]
set_option maxHeartbeats 4000000 in
theorem rName_any (s : ByteArray) (w : World) (hs : s.size ≤ 9223372036854775807) :
    Calls Try.prog 26 #[.string s] w fun e w' => e = .returned (.bool (nmB s)) ∧ w = w' := by
  by_cases h0 : s.size = 0
  · obtain rfl := nil_of_size h0
    go_enter Try.func26, Try.ntmps26
    go_wp2
    go_ret
    exact ⟨ret_bool (show false = nmB ⟨#[]⟩ from rfl), rfl⟩
  have he : s.toList.isEmpty = false := by
    rw [ByteArray.toList_eq]
    cases hl : s.data.toList with
    | nil => exact absurd (by show s.data.size = 0; rw [← Array.length_toList, hl]; rfl) h0
    | cons _ _ => rfl
  by_cases h1 : 24 < s.size
  · have h1' : (24 : Int) < (s.size : Int) := by omega
    go_enter Try.func26, Try.ntmps26
    go_wp2
    go_ret
    exact ⟨ret_bool (by unfold nmB; rw [decide_eq_false (by omega)]; rfl), rfl⟩
  have h1' : ¬ (24 : Int) < (s.size : Int) := by omega
  have hp : 0 < s.size := by omega
  have K0 := fun W => hide (rletter_any (s[0].toNat : Int) W)
  have hb0 : by0 s 0 = (s[0].toNat : Int) := by0_lt hp
  by_cases h2 : ltB (s[0].toNat : Int) = true
  · simp only [h2] at K0
    have S0 : Hid (alF (by0 s) (s.size - 1) 1 = nmB s) := by
      have : nmB s = alF (by0 s) s.size 0 := by unfold nmB; rw [hb0, h2, decide_eq_true (by omega)]; rfl
      refine hide ?_
      rw [this, show alF (by0 s) s.size 0 = alF (by0 s) (s.size - 1 + 1) 0 by rw [Nat.sub_add_cancel (by omega)], alF, hb0, ok_of_lt h2]
      simp
    go_enter Try.func26, Try.ntmps26
    go_wp2_with fail
    refine ((K0 _).out).mono ?_
    rintro e _ ⟨rfl, rfl⟩
    go_wp2
    clear K0 h2 hb0
    go_loop [3] (fun i => ∃ k : Nat, i = .int .i64 (k : Int) ∧ k ≤ s.size ∧ Hid (alF (by0 s) (s.size - k) k = nmB s)) (fun i => s.size - (intOf i).toNat)
    case atStart => exact ⟨1, rfl, by omega, S0⟩
    case round =>
      clear S0
      obtain ⟨k, rfl, hk, S⟩ := hrel
      by_cases hlt : k < s.size
      · have hltz : (k : Int) < (s.size : Int) := by omega
        have K1 := fun W => hide (rletter_any (s[k].toNat : Int) W)
        have hb := by0_lt hlt
        have S' : Hid ((okB (s[k].toNat : Int) && alF (by0 s) (s.size - (k + 1)) (k + 1)) = nmB s) := by
          have := S.out
          rw [show s.size - k = s.size - (k + 1) + 1 by omega, alF, hb] at this
          exact this
        clear S hb
        by_cases g1 : ltB (s[k].toNat : Int) = true
        · simp only [g1] at K1
          have S2 := hide S'.out
          simp only [okB, g1, Bool.true_or, Bool.true_and] at S2
          clear S' g1
          go_wp2_with fail
          refine ((K1 _).out).mono ?_
          rintro e _ ⟨rfl, rfl⟩
          go_wp2
          go_round
          case rel => exact ⟨k + 1, by go_num, by omega, S2⟩
          case measure => simp [intOf]; omega
        · simp only [Bool.not_eq_true] at g1
          simp only [g1] at K1
          have gd : dgB (s[k].toNat : Int) = decide (48 ≤ (s[k].toNat : Int) ∧ (s[k].toNat : Int) ≤ 57) := rfl
          have S2 := hide S'.out
          simp only [okB, g1, gd, Bool.false_or] at S2
          clear S' g1 gd
          have key : ∀ x : Int, x = (s[k].toNat : Int) → (48 ≤ x ∧ x ≤ 57) ∨ (x < 48 ∧ x ≠ 45) ∨ (57 < x ∧ x ≠ 95) ∨ x = 45 ∨ x = 95 := fun x _ => by omega
          rcases key _ rfl with ⟨g2, g3⟩ | ⟨g2, g3⟩ | ⟨g2, g3⟩ | g2 | g2
          · have S3 := hide S2.out
            rw [decide_eq_true ⟨g2, g3⟩, Bool.true_or, Bool.true_or, Bool.true_and] at S3
            clear S2
            go_wp2_with fail
            refine ((K1 _).out).mono ?_
            rintro e _ ⟨rfl, rfl⟩
            go_wp2
            go_round
            case rel => exact ⟨k + 1, by go_num, by omega, S3⟩
            case measure => simp [intOf]; omega
          · have S3 := hide S2.out
            rw [decide_eq_false (by omega), Bool.false_or, show ((s[k].toNat : Int) == 45) = false by simpa using g3, show ((s[k].toNat : Int) == 95) = false by simp; omega, Bool.false_or, Bool.false_and] at S3
            have g4 : ((s[k].toNat : Int) != 45) = true := by simpa using g3
            have g5 : ((s[k].toNat : Int) != 95) = true := by simp; omega
            clear S2 g3
            go_wp2_with fail
            refine ((K1 _).out).mono ?_
            rintro e _ ⟨rfl, rfl⟩
            go_wp2
            go_ret
            exact ⟨ret_bool S3.out, rfl⟩
          · have S3 := hide S2.out
            rw [decide_eq_false (by omega), Bool.false_or, show ((s[k].toNat : Int) == 45) = false by simp; omega, show ((s[k].toNat : Int) == 95) = false by simpa using g3, Bool.false_or, Bool.false_and] at S3
            have g4 : ((s[k].toNat : Int) != 45) = true := by simp; omega
            have g5 : ((s[k].toNat : Int) != 95) = true := by simpa using g3
            have g6 : ¬ (s[k].toNat : Int) < 48 := by omega
            clear S2 g3
            go_wp2_with fail
            refine ((K1 _).out).mono ?_
            rintro e _ ⟨rfl, rfl⟩
            go_wp2
            go_ret
            exact ⟨ret_bool S3.out, rfl⟩
          · have S3 := hide S2.out
            rw [show ((s[k].toNat : Int) == 45) = true by simpa using g2, Bool.or_true, Bool.true_or, Bool.true_and] at S3
            have g4 : ((s[k].toNat : Int) != 45) = false := by simpa using g2
            have g6 : (s[k].toNat : Int) < 48 := by omega
            clear S2 g2
            go_wp2_with fail
            refine ((K1 _).out).mono ?_
            rintro e _ ⟨rfl, rfl⟩
            go_wp2
            go_round
            case rel => exact ⟨k + 1, by go_num, by omega, S3⟩
            case measure => simp [intOf]; omega
          · have S3 := hide S2.out
            rw [show ((s[k].toNat : Int) == 95) = true by simpa using g2, Bool.or_true, Bool.true_and] at S3
            have g4 : ((s[k].toNat : Int) != 45) = true := by simp; omega
            have g5 : ((s[k].toNat : Int) != 95) = false := by simpa using g2
            have g6 : ¬ (s[k].toNat : Int) < 48 := by omega
            have g7 : 57 < (s[k].toNat : Int) := by omega
            clear S2 g2
            go_wp2_with fail
            refine ((K1 _).out).mono ?_
            rintro e _ ⟨rfl, rfl⟩
            go_wp2
            go_round
            case rel => exact ⟨k + 1, by go_num, by omega, S3⟩
            case measure => simp [intOf]; omega
      · have hltz : ¬ (k : Int) < (s.size : Int) := by omega
        have S2 : Hid (true = nmB s) := by
          have := S.out
          rwa [show s.size - k = 0 by omega, alF] at this
        clear S
        go_wp2
        go_ret
        exact ⟨ret_bool S2.out, rfl⟩
  · simp only [Bool.not_eq_true] at h2
    simp only [h2] at K0
    go_enter Try.func26, Try.ntmps26
    go_wp2_with fail
    refine ((K0 _).out).mono ?_
    rintro e _ ⟨rfl, rfl⟩
    go_wp2
    go_ret
    exact ⟨ret_bool (by simp [nmB, hb0, h2]), rfl⟩
end Go.Proofs.Ytpdjgmfccolgjaa
