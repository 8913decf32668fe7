/- What Floor, Round, Scale and Clamp of package fixed return, and what their references return; no condition but that the numbers are integers of 64 bits. -/
import Derived.Test.YtjaapdkhjgolfaaFxDiv
import Derived.Test.YtjaapdkhjgolfaaGeBase
import Derived.Test.YtjaapdkhjgolfaaChecked
import Derived.Deep.QuietTactic
import Derived.BigQuiet
namespace Go.Proofs.Ytjaapdkhjgolfaa
open Go.RowKit

/-- The world differs by draws alone. -/
def Drawn (w w' : World) : Prop := ∃ n, w' = w.drewN n
theorem Drawn.refl (w : World) : Drawn w w := ⟨0, rfl⟩
theorem Drawn.trans {a b c : World} (h : Drawn a b) (k : Drawn b c) : Drawn a c := by
  obtain ⟨n, rfl⟩ := h; obtain ⟨m, rfl⟩ := k; exact ⟨n + m, by rw [World.drewN_drewN]⟩

/-- Both numbers are within the range of Floor and Round. -/
def inR (a b : Int) : Prop := b ≠ 0 ∧ (-1152921504606846976 ≤ a ∧ a ≤ 1152921504606846976) ∧ (-1152921504606846976 ≤ b ∧ b ≤ 1152921504606846976)

theorem within_yes (x lo hi : Int) (w : World) (h1 : lo ≤ x) (h2 : x ≤ hi) :
    Calls Try.prog 55 #[.int .i64 x, .int .i64 lo, .int .i64 hi] w fun e w' => e = .returned (.bool true) ∧ w = w' := by
  go_enter Try.func55, Try.ntmps55
  go_wp2
  go_ret
  exact ⟨rfl, rfl⟩
theorem within_no (x lo hi : Int) (w : World) (h : ¬ (lo ≤ x ∧ x ≤ hi)) :
    Calls Try.prog 55 #[.int .i64 x, .int .i64 lo, .int .i64 hi] w fun e w' => e = .returned (.bool false) ∧ w = w' := by
  by_cases h1 : lo ≤ x
  · have h2 : ¬ x ≤ hi := fun h2 => h ⟨h1, h2⟩
    clear h
    go_enter Try.func55, Try.ntmps55
    go_wp2
    go_ret
    exact ⟨rfl, rfl⟩
  · clear h
    go_enter Try.func55, Try.ntmps55
    go_wp2
    go_ret
    exact ⟨rfl, rfl⟩

theorem divisible_yes (a b : Int) (w : World) (h : inR a b) :
    Calls Try.prog 49 #[.int .i64 a, .int .i64 b] w fun e w' => e = .returned (.bool true) ∧ w = w' := by
  obtain ⟨hb, ⟨h1, h2⟩, h3, h4⟩ := h
  have hb1 : (b != 0) = true := by simpa using hb
  go_enter Try.func49, Try.ntmps49
  go_wp2_with (go_at_call 55; refine (within_yes _ _ _ _ (by omega) (by omega)).mono ?_; rintro e w' ⟨rfl, rfl⟩)
  go_ret
  exact ⟨rfl, rfl⟩


theorem divisible_no (a b : Int) (w : World) (h : ¬ inR a b) :
    Calls Try.prog 49 #[.int .i64 a, .int .i64 b] w fun e w' => e = .returned (.bool false) ∧ w = w' := by
  by_cases hb : b = 0
  · subst hb
    go_enter Try.func49, Try.ntmps49
    go_wp2
    go_ret
    exact ⟨rfl, rfl⟩
  · have hb1 : (b != 0) = true := by simpa using hb
    by_cases ha : -1152921504606846976 ≤ a ∧ a ≤ 1152921504606846976
    · have h3 : ¬ (-1152921504606846976 ≤ b ∧ b ≤ 1152921504606846976) := fun h3 => h ⟨hb, ha, h3⟩
      have H3 : Hid _ := h3
      obtain ⟨ha1, ha2⟩ := ha
      clear h h3
      go_enter Try.func49, Try.ntmps49
      go_wp2_with fail
      refine (within_yes _ _ _ _ (by omega) (by omega)).mono ?_
      rintro e w' ⟨rfl, rfl⟩
      go_wp2_with fail
      refine (within_no _ _ _ _ H3).mono ?_
      rintro e w' ⟨rfl, rfl⟩
      go_wp2
      go_ret
      exact ⟨rfl, rfl⟩
    · have H3 : Hid _ := ha
      clear h ha
      go_enter Try.func49, Try.ntmps49
      go_wp2_with fail
      refine (within_no _ _ _ _ H3).mono ?_
      rintro e w' ⟨rfl, rfl⟩
      go_wp2
      go_ret
      exact ⟨rfl, rfl⟩

theorem wrap_in {x : Int} (h : x.natAbs ≤ 9223372036854775807) : IntKind.i64.wrap x = x := by rw [IntKind.wrap_i64]; omega

theorem quotient_any (a b : Int) (w : World) (hb : b ≠ 0) (ha : a.natAbs ≤ 4611686018427387904) (hb' : b.natAbs ≤ 4611686018427387904) :
    Calls Try.prog 50 #[.int .i64 a, .int .i64 b] w fun e w' => e = .returned (.int .i64 (flr a b)) ∧ Drawn w w' := by
  have q1 := td_bound a b
  have q2 := td_abs a b hb
  have e1 : IntKind.i64.wrap (a.tdiv b) = a.tdiv b := wrap_in (by omega)
  have e2 : IntKind.i64.wrap (a.tmod b) = a.tmod b := wrap_in (by omega)
  have e3 : IntKind.i64.wrap (a.tdiv b - 1) = a.tdiv b - 1 := wrap_in (by omega)
  have hd := flr_down a b hb
  have hs := flr_same a b hb
  have hb0 : ¬ b = 0 := hb
  go_enter Try.func50, Try.ntmps50
  go_wp2
  go_quiet (fail)
  go_wp2
  all_goals go_ret
  · rename_i h
    exact ⟨ret_int (hs (Or.inl h)).symm, _, rfl⟩
  · rename_i h h'
    have h2 : (a.tmod b < 0) ↔ ¬ (b < 0) := by
      have := h'.2
      by_cases p : a.tmod b < 0 <;> by_cases q : b < 0 <;> simp [p, q] at this ⊢
    exact ⟨ret_int (flr_down a b hb h h2).symm, _, rfl⟩
  · rename_i h h'
    have h2 : (a.tmod b < 0) ↔ (b < 0) := by
      rcases h' with h' | h'
      · simp at h'; exact absurd h' h
      · by_cases p : a.tmod b < 0 <;> by_cases q : b < 0 <;> simp [p, q] at h' ⊢
    exact ⟨ret_int (hs (Or.inr h2)).symm, _, rfl⟩

/-- Floor: the quotient rounded down, 0 outside the range. -/
theorem Floor_in (a b : Int) (w : World) (h : inR a b) :
    Calls Try.prog 45 #[.int .i64 a, .int .i64 b] w fun e w' => e = .returned (.int .i64 (flr a b)) ∧ Drawn w w' := by
  have H := divisible_yes a b w h
  obtain ⟨hb, ⟨h1, h2⟩, h3, h4⟩ := h
  have Q := quotient_any a b w hb (by omega) (by omega)
  clear hb h1 h2 h3 h4
  go_enter Try.func45, Try.ntmps45
  go_wp2_with fail
  refine H.mono ?_
  rintro e w' ⟨rfl, rfl⟩
  go_wp2_with fail
  refine Q.mono ?_
  rintro e w' ⟨rfl, n, rfl⟩
  go_wp2
  go_ret
  exact ⟨rfl, n, rfl⟩
theorem Floor_out (a b : Int) (w : World) (h : ¬ inR a b) :
    Calls Try.prog 45 #[.int .i64 a, .int .i64 b] w fun e w' => e = .returned (.int .i64 0) ∧ w = w' := by
  have H := divisible_no a b w h
  clear h
  go_enter Try.func45, Try.ntmps45
  go_wp2_with fail
  refine H.mono ?_
  rintro e w' ⟨rfl, rfl⟩
  go_wp2
  go_ret
  exact ⟨rfl, rfl⟩
end Go.Proofs.Ytjaapdkhjgolfaa
