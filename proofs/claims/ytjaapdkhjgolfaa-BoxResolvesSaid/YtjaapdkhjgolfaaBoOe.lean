/- What Offsets of the reference of package box returns where a number is out of range: an empty list; the list is of at most 100000 numbers. -/
import Derived.Test.YtjaapdkhjgolfaaBoOf
namespace Go.Proofs.Ytjaapdkhjgolfaa
open Go.RowKit Go.Sort
set_option linter.unusedVariables false
set_option linter.unusedSimpArgs false

/-- All of the numbers k to k + m - 1 are lengths. -/
def lenA (f : Nat → Int) : Nat → Nat → Bool
  | _, 0 => true
  | k, m + 1 => lenB (f k) && lenA f (k + 1) m
def ofB (av gap ju : Int) (n : Nat) (f : Nat → Int) : Bool := decide (n ≤ 100) && lenB av && lenB gap && decide (0 ≤ ju ∧ ju ≤ 3) && lenA f 0 n
theorem lenA_iff (f : Nat → Int) : ∀ m k, lenA f k m = true ↔ ∀ i, k ≤ i → i < k + m → 0 ≤ f i ∧ f i ≤ 1048576
  | 0, k => by simp [lenA]; omega
  | m + 1, k => by
    rw [lenA, Bool.and_eq_true, lenA_iff f m (k + 1)]
    unfold lenB
    rw [decide_eq_true_eq]
    constructor
    · rintro ⟨h1, h2⟩ i hi hi2
      by_cases h : i = k
      · subst h; exact h1
      · exact h2 i (by omega) (by omega)
    · intro h
      exact ⟨h k (Nat.le_refl _) (by omega), fun i hi hi2 => h i (by omega) (by omega)⟩
theorem ofB_iff (av gap ju : Int) (n : Nat) (f : Nat → Int) : ofB av gap ju n f = true ↔ n ≤ 100 ∧ ofOk av gap ju n f := by
  unfold ofB ofOk lenB
  simp only [Bool.and_eq_true, decide_eq_true_eq, lenA_iff]
  constructor
  · rintro ⟨⟨⟨⟨h1, h2⟩, h3⟩, h4⟩, h5⟩; exact ⟨h1, h2, h3, h4, fun i hi => h5 i (by omega) (by omega)⟩
  · rintro ⟨h1, h2, h3, h4, h5⟩; exact ⟨⟨⟨⟨h1, h2⟩, h3⟩, h4⟩, fun i _ hi => h5 i (by omega)⟩
set_option maxHeartbeats 40000000 in
set_option maxRecDepth 100000 in
theorem rOffsets_err (av gap ju : Int) (p : Option Addr) (n c : Nat) (f : Nat → Int) (r : Bool) (w : World) (hf : Reads w p n f) (hn : n ≤ 100000) (ho : ofB av gap ju n f = false) :
    Calls Try.prog 21 #[.int .i64 av, .int .i64 gap, .int .i64 ju, .slice p n c, .bool r] w fun e w' => e = .returned (.slice none 0 0) ∧ w = w' := by
  have HF := hide hf
  have L1 := fun W => hide (rlength_any av W)
  have L2 := fun W => hide (rlength_any gap W)
  unfold ofB at ho
  clear hf
  by_cases h1 : 100 < n
  · have h1z : (100 : Int) < (n : Int) := by omega
    go_enter Try.func21, Try.ntmps21
    go_wp2
    go_ret
    exact ⟨rfl, rfl⟩
  have h1z : ¬ (100 : Int) < (n : Int) := by omega
  rw [decide_eq_true (show n ≤ 100 by omega), Bool.true_and] at ho
  have HO := hide ho
  clear ho
  generalize lenB av = v1 at *
  generalize lenB gap = v2 at *
  cases v1
  · go_enter Try.func21, Try.ntmps21
    go_wp2_with fail
    refine (L1 _).out.mono ?_
    rintro e w' ⟨rfl, rfl⟩
    go_wp2
    go_ret
    exact ⟨rfl, rfl⟩
  cases v2
  · go_enter Try.func21, Try.ntmps21
    go_wp2_with fail
    refine (L1 _).out.mono ?_
    rintro e w' ⟨rfl, rfl⟩
    go_wp2_with fail
    refine (L2 _).out.mono ?_
    rintro e w' ⟨rfl, rfl⟩
    go_wp2
    go_ret
    exact ⟨rfl, rfl⟩
  by_cases j1 : ju < 0
  · go_enter Try.func21, Try.ntmps21
    go_wp2_with fail
    refine (L1 _).out.mono ?_
    rintro e w' ⟨rfl, rfl⟩
    go_wp2_with fail
    refine (L2 _).out.mono ?_
    rintro e w' ⟨rfl, rfl⟩
    go_wp2
    go_ret
    exact ⟨rfl, rfl⟩
  by_cases j2 : 3 < ju
  · go_enter Try.func21, Try.ntmps21
    go_wp2_with fail
    refine (L1 _).out.mono ?_
    rintro e w' ⟨rfl, rfl⟩
    go_wp2_with fail
    refine (L2 _).out.mono ?_
    rintro e w' ⟨rfl, rfl⟩
    go_wp2
    go_ret
    exact ⟨rfl, rfl⟩
  have S0 : Hid (lenA f 0 (n - 0) = false) := by
    have := HO.out
    rw [decide_eq_true (show 0 ≤ ju ∧ ju ≤ 3 by omega)] at this
    exact hide (by simpa using this)
  clear HO
  go_enter Try.func21, Try.ntmps21
  go_wp2_with fail
  refine (L1 _).out.mono ?_
  rintro e w' ⟨rfl, rfl⟩
  go_wp2_with fail
  refine (L2 _).out.mono ?_
  rintro e w' ⟨rfl, rfl⟩
  go_wp2_with fail
  clear L1 L2
  go_loopg [11, 12] (n + 1) (fun g1 vf vk wr => ∃ (k : Nat) (fr : Int), vf = .int .i64 fr ∧ vk = .int .i64 (k : Int) ∧ w = wr ∧ k ≤ n ∧ n - k < g1 ∧ Hid (lenA f k (n - k) = false))
  case atStart => exact ⟨0, av, rfl, by go_num, rfl, by omega, by omega, S0⟩
  case round =>
    clear S0
    obtain ⟨k, fr, rfl, rfl, rfl, hk, hg, S⟩ := hrel
    by_cases hlt : k < n
    · have hltz : (k : Int) < (n : Int) := by omega
      obtain ⟨b, off, rfl, hc⟩ := HF.out (by omega)
      have cf := hc k hlt
      have L3 := fun W => hide (rlength_any (f k) W)
      have S' : Hid ((lenB (f k) && lenA f (k + 1) (n - (k + 1))) = false) := by
        have := S.out
        rwa [show n - k = n - (k + 1) + 1 by omega, lenA] at this
      clear hc S
      generalize lenB (f k) = v at *
      generalize f k = F at *
      cases v
      · go_wp2_with fail
        refine (L3 _).out.mono ?_
        rintro e w' ⟨rfl, rfl⟩
        go_wp2
        go_ret
        exact ⟨rfl, rfl⟩
      · have S2 : Hid (lenA f (k + 1) (n - (k + 1)) = false) := S'.out
        clear S'
        by_cases h0 : (0 : Int) < (k : Int)
        all_goals
          go_wp2_with fail
          refine (L3 _).out.mono ?_
          rintro e w' ⟨rfl, rfl⟩
          go_wp2_with fail
          go_roundg (n - k)
          case measure => omega
          case rel => exact ⟨k + 1, _, rfl, by go_num, rfl, by omega, by omega, S2⟩
    · exfalso
      have := S.out
      rw [show n - k = 0 by omega, lenA] at this
      exact Bool.noConfusion this
end Go.Proofs.Ytjaapdkhjgolfaa
