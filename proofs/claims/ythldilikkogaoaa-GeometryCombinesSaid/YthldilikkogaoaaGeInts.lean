/- What the functions on integers of package geometry return, and Validate; no condition. -/
import Derived.Test.YthldilikkogaoaaGeBase
namespace Go.Proofs.Ythldilikkogaoaa
open Go.RowKit Go.Sort

def inB (x lo hi : Int) : Bool := decide (lo ≤ x ∧ x ≤ hi)
def nearB (x : Int) : Bool := inB x (-1048576) 1048576
def lenB (x : Int) : Bool := inB x 0 1048576
def reachB (x : Int) : Bool := inB x (-2097152) 2097152
def rectB (x y w h : Int) : Bool := nearB x && nearB y && lenB w && lenB h

theorem within_any (x lo hi : Int) (w : World) :
    Calls Try.prog 42 #[.int .i64 x, .int .i64 lo, .int .i64 hi] w fun e w' => e = .returned (.bool (inB x lo hi)) ∧ w = w' := by
  by_cases h1 : lo ≤ x
  · by_cases h2 : x ≤ hi
    · have H : Hid (inB x lo hi = true) := by simp [Hid, inB, h1, h2]
      go_enter Try.func42, Try.ntmps42
      go_wp2
      go_ret
      exact ⟨ret_bool H.out.symm, rfl⟩
    · have H : Hid (inB x lo hi = false) := by simp [Hid, inB]; omega
      go_enter Try.func42, Try.ntmps42
      go_wp2
      go_ret
      exact ⟨ret_bool H.out.symm, rfl⟩
  · have H : Hid (inB x lo hi = false) := by simp [Hid, inB]; omega
    go_enter Try.func42, Try.ntmps42
    go_wp2
    go_ret
    exact ⟨ret_bool H.out.symm, rfl⟩
theorem nearby_any (x : Int) (w : World) :
    Calls Try.prog 34 #[.int .i64 x] w fun e w' => e = .returned (.bool (nearB x)) ∧ w = w' := by
  go_enter Try.func34, Try.ntmps34
  go_wp2_with (go_at_call 42; refine (within_any _ _ _ _).mono ?_; rintro e w' ⟨rfl, rfl⟩)
  go_ret
  exact ⟨rfl, rfl⟩
theorem length_any (x : Int) (w : World) :
    Calls Try.prog 35 #[.int .i64 x] w fun e w' => e = .returned (.bool (lenB x)) ∧ w = w' := by
  go_enter Try.func35, Try.ntmps35
  go_wp2_with (go_at_call 42; refine (within_any _ _ _ _).mono ?_; rintro e w' ⟨rfl, rfl⟩)
  go_ret
  exact ⟨rfl, rfl⟩
theorem reachable_any (x : Int) (w : World) :
    Calls Try.prog 39 #[.int .i64 x] w fun e w' => e = .returned (.bool (reachB x)) ∧ w = w' := by
  go_enter Try.func39, Try.ntmps39
  go_wp2_with (go_at_call 42; refine (within_any _ _ _ _).mono ?_; rintro e w' ⟨rfl, rfl⟩)
  go_ret
  exact ⟨rfl, rfl⟩

theorem Validate_ok (x y z h : Int) (w : World) (hv : rectB x y z h = true) :
    Calls Try.prog 10 #[.agg #[.int .i64 x, .int .i64 y, .int .i64 z, .int .i64 h]] w fun e w' => e = .returned (.int .i64 0) ∧ Grew w w' := by
  simp only [rectB, Bool.and_eq_true] at hv
  obtain ⟨⟨⟨h1, h2⟩, h3⟩, h4⟩ := hv
  go_enter Try.func10, Try.ntmps10
  go_wp2_with (first
    | (go_at_call 34; refine (nearby_any _ _).mono ?_; rintro e w' ⟨rfl, rfl⟩)
    | (go_at_call 35; refine (length_any _ _).mono ?_; rintro e w' ⟨rfl, rfl⟩))
  go_ret
  exact ⟨rfl, (Grew.refl _).alloc _⟩
theorem Validate_bad (x y z h : Int) (w : World) (hv : rectB x y z h = false) :
    Calls Try.prog 10 #[.agg #[.int .i64 x, .int .i64 y, .int .i64 z, .int .i64 h]] w fun e w' => e = .returned (.int .i64 1) ∧ Grew w w' := by
  have hc : nearB x = false ∨ (nearB x = true ∧ nearB y = false) ∨ (nearB x = true ∧ nearB y = true ∧ lenB z = false) ∨ (nearB x = true ∧ nearB y = true ∧ lenB z = true ∧ lenB h = false) := by
    unfold rectB at hv
    cases e1 : nearB x <;> cases e2 : nearB y <;> cases e3 : lenB z <;> cases e4 : lenB h <;> simp [e1, e2, e3, e4] at hv ⊢
  clear hv
  rcases hc with h1 | ⟨h1, h2⟩ | ⟨h1, h2, h3⟩ | ⟨h1, h2, h3, h4⟩
  all_goals
    go_enter Try.func10, Try.ntmps10
    go_wp2_with (first
      | (go_at_call 34; refine (nearby_any _ _).mono ?_; rintro e w' ⟨rfl, rfl⟩)
      | (go_at_call 35; refine (length_any _ _).mono ?_; rintro e w' ⟨rfl, rfl⟩))
    go_ret
    exact ⟨rfl, (Grew.refl _).alloc _⟩
end Go.Proofs.Ythldilikkogaoaa
