/- What the references of Floor, Round, Scale and Clamp return, and Scale and Clamp themselves; no condition but that the numbers are integers of 64 bits. -/
import Derived.Test.YtpdjgmfccolgjaaFxInts
namespace Go.Proofs.Ytpdjgmfccolgjaa
open Go.RowKit


theorem rFloor_in (a b : Int) (w : World) (h : inR a b) :
    Calls Try.prog 37 #[.int .i64 a, .int .i64 b] w fun e w' => e = .returned (.int .i64 (flr a b)) ∧ w = w' := by
  obtain ⟨hb, ⟨h1, h2⟩, h3, h4⟩ := h
  have q1 := td_bound a b
  have q2 := td_abs a b hb
  have e1 : IntKind.i64.wrap (a.tdiv b) = a.tdiv b := wrap_in (by omega)
  have e2 : IntKind.i64.wrap (a.tmod b) = a.tmod b := wrap_in (by omega)
  have e3 : IntKind.i64.wrap (a.tdiv b - 1) = a.tdiv b - 1 := wrap_in (by omega)
  have hs := hide (flr_same a b hb)
  have sp := td_sign_pos a b
  have sn := td_sign_neg a b
  have SP := hide sp
  have SN := hide sn
  clear sp sn
  have hb0 : ¬ b = 0 := hb
  have hb1 : (b == 0) = false := by simpa using hb
  go_enter Try.func37, Try.ntmps37
  go_wp2
  all_goals go_ret
  · rename_i h
    exact ⟨ret_int (hs (Or.inl h)).symm, rfl⟩
  · rename_i h h'
    have h2 : (a.tmod b < 0) ↔ ¬ (b < 0) := by
      have h3 := h'.2
      have := SP
      have := SN
      unfold Hid at *
      by_cases p : a < 0 <;> by_cases q : b < 0 <;> simp [p, q] at h3 ⊢ <;> omega
    exact ⟨ret_int (flr_down a b hb h h2).symm, rfl⟩
  · rename_i h h'
    have h2 : (a.tmod b < 0) ↔ (b < 0) := by
      rcases h' with h' | h'
      · simp at h'; exact absurd h' h
      · have := SP
        have := SN
        unfold Hid at *
        by_cases p : a < 0 <;> by_cases q : b < 0 <;> simp [p, q] at h' ⊢ <;> omega
    exact ⟨ret_int (hs (Or.inr h2)).symm, rfl⟩
theorem rFloor_out (a b : Int) (w : World) (h : ¬ inR a b) :
    Calls Try.prog 37 #[.int .i64 a, .int .i64 b] w fun e w' => e = .returned (.int .i64 0) ∧ w = w' := by
  unfold inR at h
  by_cases hb : b = 0
  · subst hb
    clear h
    go_enter Try.func37, Try.ntmps37
    go_wp2
    all_goals go_ret
    all_goals exact ⟨rfl, rfl⟩
  · have hb1 : (b == 0) = false := by simpa using hb
    have H : ¬ (((-1152921504606846976 ≤ a ∧ a ≤ 1152921504606846976) ∧ -1152921504606846976 ≤ b) ∧ b ≤ 1152921504606846976) := by omega
    have H := hide H
    clear h
    go_enter Try.func37, Try.ntmps37
    go_wp2
    all_goals go_ret
    all_goals exact ⟨rfl, rfl⟩

theorem rRound_in (a b : Int) (w : World) (h : inR a b) :
    Calls Try.prog 43 #[.int .i64 a, .int .i64 b] w fun e w' => e = .returned (.int .i64 (rnd a b)) ∧ w = w' := by
  obtain ⟨hb, ⟨h1, h2⟩, h3, h4⟩ := h
  have hb1 : (b == 0) = false := by simpa using hb
  rcases Int.lt_or_gt_of_ne hb with hn | hp
  · have q0 := td_bound a b
    have r0 := td_abs a b hb
    have q1 : -1152921504606846976 ≤ a.tdiv b := by omega
    have q2 : a.tdiv b ≤ 1152921504606846976 := by omega
    have r1 : a.tmod b < -b := by omega
    have r2 : b < a.tmod b := by omega
    have e1 : IntKind.i64.wrap (a.tdiv b) = a.tdiv b := wrap_in (by omega)
    have e2 : IntKind.i64.wrap (-a.tmod b) = -a.tmod b := wrap_in (by omega)
    have hb0 : ¬ -b = 0 := by omega
    have ra := hide (rn_a a b (by omega))
    have rb := hide (rn_b a b (by omega))
    have rc := hide (rn_c a b (by omega))
    clear q0 r0
    go_enter Try.func43, Try.ntmps43
    go_wp2
    all_goals go_ret
    all_goals refine ⟨ret_int ?_, rfl⟩
    · exact (rb (by omega) (by omega)).symm
    · exact (rc (by omega)).symm
    · exact (ra (by omega)).symm
    · exact (rb (by omega) (by omega)).symm
  · have q0 := td_bound a b
    have r0 := td_abs a b hb
    have q1 : -1152921504606846976 ≤ a.tdiv b := by omega
    have q2 : a.tdiv b ≤ 1152921504606846976 := by omega
    have r1 : a.tmod b < b := by omega
    have r2 : -b < a.tmod b := by omega
    have e1 : IntKind.i64.wrap (a.tdiv b) = a.tdiv b := wrap_in (by omega)
    have e2 : IntKind.i64.wrap (a.tmod b) = a.tmod b := wrap_in (by omega)
    have hb0 : ¬ b = 0 := by omega
    have ra := hide (rnd_a a b (by omega))
    have rb := hide (rnd_b a b (by omega))
    have rc := hide (rnd_c a b (by omega))
    clear q0 r0
    go_enter Try.func43, Try.ntmps43
    go_wp2
    all_goals go_ret
    all_goals refine ⟨ret_int ?_, rfl⟩
    · exact (rb (by omega) (by omega)).symm
    · exact (rc (by omega)).symm
    · exact (ra (by omega)).symm
    · exact (rb (by omega) (by omega)).symm
theorem rRound_out (a b : Int) (w : World) (h : ¬ inR a b) :
    Calls Try.prog 43 #[.int .i64 a, .int .i64 b] w fun e w' => e = .returned (.int .i64 0) ∧ w = w' := by
  unfold inR at h
  by_cases hb : b = 0
  · subst hb
    clear h
    go_enter Try.func43, Try.ntmps43
    go_wp2
    all_goals go_ret
    all_goals exact ⟨rfl, rfl⟩
  · have hb1 : (b == 0) = false := by simpa using hb
    have H : ¬ (((-1152921504606846976 ≤ a ∧ a ≤ 1152921504606846976) ∧ -1152921504606846976 ≤ b) ∧ b ≤ 1152921504606846976) := by omega
    clear h
    go_enter Try.func43, Try.ntmps43
    go_wp2
    all_goals go_ret
    all_goals exact ⟨rfl, rfl⟩

/-- x, num and den are within the range of Scale. -/
def inS (x num den : Int) : Prop := (-1099511627776 ≤ x ∧ x ≤ 1099511627776) ∧ (0 ≤ num ∧ num ≤ 65536) ∧ 1 ≤ den ∧ den ≤ 65536

theorem mul_bd {x n : Int} (h1 : -1099511627776 ≤ x) (h2 : x ≤ 1099511627776) (h3 : 0 ≤ n) (h4 : n ≤ 65536) : -72057594037927936 ≤ x * n ∧ x * n ≤ 72057594037927936 := by
  have a1 : x * n ≤ 1099511627776 * n := Int.mul_le_mul_of_nonneg_right h2 h3
  have a2 : -1099511627776 * n ≤ x * n := Int.mul_le_mul_of_nonneg_right h1 h3
  omega

theorem Scale_in (x num den : Int) (w : World) (h : inS x num den) :
    Calls Try.prog 30 #[.int .i64 x, .int .i64 num, .int .i64 den] w fun e w' => e = .returned (.tuple #[.int .i64 (rnd (x * num) den), .int .i64 0]) ∧ Drawn w w' := by
  obtain ⟨⟨h1, h2⟩, ⟨h3, h4⟩, h5, h6⟩ := h
  obtain ⟨m1, m2⟩ := mul_bd h1 h2 h3 h4
  have W1 := within_yes x (-1099511627776) 1099511627776 w h1 h2
  have W2 := within_yes num 0 65536 w h3 h4
  have W3 := within_yes den 1 65536 w h5 h6
  have R := Round_in (x * num) den w ⟨by omega, ⟨by omega, by omega⟩, by omega, by omega⟩
  have ew : IntKind.i64.wrap (x * num) = x * num := wrap_in (by omega)
  go_enter Try.func30, Try.ntmps30
  go_wp2_with fail
  refine W1.mono ?_
  rintro e w' ⟨rfl, rfl⟩
  go_wp2_with fail
  refine W2.mono ?_
  rintro e w' ⟨rfl, rfl⟩
  go_wp2_with fail
  refine W3.mono ?_
  rintro e w' ⟨rfl, rfl⟩
  go_wp2_with fail
  refine R.mono ?_
  rintro e w' ⟨rfl, n, rfl⟩
  go_wp2
  go_ret2
  exact ⟨rfl, n, rfl⟩
end Go.Proofs.Ytpdjgmfccolgjaa
