/- What the references of Floor, Round, Scale and Clamp return, and Scale and Clamp themselves; no condition but that the numbers are integers of 64 bits. -/
import Derived.Test.YtjaapdkhjgolfaaFxInts
namespace Go.Proofs.Ytjaapdkhjgolfaa
open Go.RowKit


theorem rFloor_in (a b : Int) (w : World) (h : inR a b) :
    Calls Try.prog 39 #[.int .i64 a, .int .i64 b] w fun e w' => e = .returned (.int .i64 (flr a b)) ∧ w = w' := by
  obtain ⟨hb, ⟨h1, h2⟩, h3, h4⟩ := h
  have q1 := td_bound a b
  have q2 := td_abs a b hb
  have e1 : IntKind.i64.wrap (a.tdiv b) = a.tdiv b := wrap_in (by omega)
  have e2 : IntKind.i64.wrap (a.tmod b) = a.tmod b := wrap_in (by omega)
  have e3 : IntKind.i64.wrap (a.tdiv b - 1) = a.tdiv b - 1 := wrap_in (by omega)
  have hs := hide (flr_same a b hb)
  have sp := td_sign_pos a b
  have sn := td_sign_neg a b
  have SP := hide sp
  have SN := hide sn
  clear sp sn
  have hb0 : ¬ b = 0 := hb
  have hb1 : (b == 0) = false := by simpa using hb
  go_enter Try.func39, Try.ntmps39
  go_wp2
  all_goals go_ret
  · rename_i h
    exact ⟨ret_int (hs (Or.inl h)).symm, rfl⟩
  · rename_i h h'
    have h2 : (a.tmod b < 0) ↔ ¬ (b < 0) := by
      have h3 := h'.2
      have := SP
      have := SN
      unfold Hid at *
      by_cases p : a < 0 <;> by_cases q : b < 0 <;> simp [p, q] at h3 ⊢ <;> omega
    exact ⟨ret_int (flr_down a b hb h h2).symm, rfl⟩
  · rename_i h h'
    have h2 : (a.tmod b < 0) ↔ (b < 0) := by
      rcases h' with h' | h'
      · simp at h'; exact absurd h' h
      · have := SP
        have := SN
        unfold Hid at *
        by_cases p : a < 0 <;> by_cases q : b < 0 <;> simp [p, q] at h' ⊢ <;> omega
    exact ⟨ret_int (hs (Or.inr h2)).symm, rfl⟩
theorem rFloor_out (a b : Int) (w : World) (h : ¬ inR a b) :
    Calls Try.prog 39 #[.int .i64 a, .int .i64 b] w fun e w' => e = .returned (.int .i64 0) ∧ w = w' := by
  unfold inR at h
  by_cases hb : b = 0
  · subst hb
    clear h
    go_enter Try.func39, Try.ntmps39
    go_wp2
    all_goals go_ret
    all_goals exact ⟨rfl, rfl⟩
  · have hb1 : (b == 0) = false := by simpa using hb
    have H : ¬ (((-1152921504606846976 ≤ a ∧ a ≤ 1152921504606846976) ∧ -1152921504606846976 ≤ b) ∧ b ≤ 1152921504606846976) := by omega
    have H := hide H
    clear h
    go_enter Try.func39, Try.ntmps39
    go_wp2
    all_goals go_ret
    all_goals exact ⟨rfl, rfl⟩

/-- x, num and den are within the range of Scale. -/
def inS (x num den : Int) : Prop := (-1099511627776 ≤ x ∧ x ≤ 1099511627776) ∧ (0 ≤ num ∧ num ≤ 65536) ∧ 1 ≤ den ∧ den ≤ 65536

theorem mul_bd {x n : Int} (h1 : -1099511627776 ≤ x) (h2 : x ≤ 1099511627776) (h3 : 0 ≤ n) (h4 : n ≤ 65536) : -72057594037927936 ≤ x * n ∧ x * n ≤ 72057594037927936 := by
  have a1 : x * n ≤ 1099511627776 * n := Int.mul_le_mul_of_nonneg_right h2 h3
  have a2 : -1099511627776 * n ≤ x * n := Int.mul_le_mul_of_nonneg_right h1 h3
  omega

end Go.Proofs.Ytjaapdkhjgolfaa
