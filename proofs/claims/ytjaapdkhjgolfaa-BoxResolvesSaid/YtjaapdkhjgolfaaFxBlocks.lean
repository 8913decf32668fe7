/- Plain facts on a merge sort from blocks upward: what sorted blocks become when neighbours are merged; no premise on the program. -/
import Derived.Test.YtjaapdkhjgolfaaFxMerge
namespace Go.Proofs.Ytjaapdkhjgolfaa
open Go.Sort
variable {α : Type} [Inhabited α] {lt ls : α → α → Bool}

/-- Blocks of s elements each (the last one shorter) are sorted. -/
def Blocks (ls : α → α → Bool) (n s : Nat) (d : Array α) : Prop := ∀ k, SortedIn ls (k * s) (min n (k * s + s)) d
/-- The first i pairs of blocks are merged already. -/
structure Half (ls : α → α → Bool) (n s i A : Nat) (d : Array α) : Prop where
  at' : A = i * (2 * s)
  front : ∀ k, k < i → SortedIn ls (k * (2 * s)) (k * (2 * s) + 2 * s) d
  rest : ∀ k, 2 * i ≤ k → SortedIn ls (k * s) (min n (k * s + s)) d

theorem SortedIn.empty {a b : Nat} {d : Array α} (h : b ≤ a + 1) : SortedIn ls a b d := fun p q h1 h2 h3 => by omega
theorem SortedIn.sub {a b a' b' : Nat} {d : Array α} (h : SortedIn ls a b d) (ha : a ≤ a') (hb : b' ≤ b) : SortedIn ls a' b' d := fun p q h1 h2 h3 => h p q (by omega) h2 (by omega)

theorem Half.start {n s : Nat} {d : Array α} (h : Blocks ls n s d) : Half ls n s 0 0 d := ⟨by omega, fun k hk => by omega, fun k _ => h k⟩
theorem two_mul_mul (i s : Nat) : 2 * i * s = i * (2 * s) := by rw [Nat.mul_comm 2 i, Nat.mul_assoc]
theorem Half.left {n s i A : Nat} {d : Array α} (h : Half ls n s i A d) (hn : A + s ≤ n) : SortedIn ls A (A + s) d := by
  have := h.rest (2 * i) (Nat.le_refl _)
  rw [two_mul_mul, ← h.at', Nat.min_eq_right hn] at this
  exact this
theorem Half.right {n s i A : Nat} {d : Array α} (h : Half ls n s i A d) : SortedIn ls (A + s) (min n (A + 2 * s)) d := by
  have := h.rest (2 * i + 1) (by omega)
  rw [Nat.add_mul, two_mul_mul, ← h.at', Nat.one_mul] at this
  rw [show A + 2 * s = A + s + s by omega]
  exact this
theorem le_mul {i k s : Nat} (h : i ≤ k) : i * s ≤ k * s := Nat.mul_le_mul_right _ h
theorem Half.step {n s i A : Nat} {d e : Array α} (h : Half ls n s i A d) (hP : PermI A (A + 2 * s) d e) (hS : SortedIn ls A (A + 2 * s) e) : Half ls n s (i + 1) (A + 2 * s) e := by
  refine ⟨by rw [Nat.add_mul, Nat.one_mul, ← h.at'], fun k hk => ?_, fun k hk => ?_⟩
  · by_cases hki : k = i
    · subst hki; rw [← h.at']; exact hS
    · have := le_mul (s := 2 * s) (show k + 1 ≤ i by omega)
      rw [Nat.add_mul, Nat.one_mul, ← h.at'] at this
      exact sorted_out hP (h.front k (by omega)) (Or.inl this)
  · have := le_mul (s := s) hk
    rw [two_mul_mul, Nat.add_mul, Nat.one_mul, ← h.at'] at this
    exact sorted_out hP (h.rest k (by omega)) (Or.inr this)
theorem Half.done {n s i A : Nat} {d e : Array α} (h : Half ls n s i A d) (hn : n < A + 2 * s) (hP : PermI A n d e) (hS : SortedIn ls A n e) : Blocks ls n (2 * s) e := by
  intro k
  rcases Nat.lt_trichotomy k i with hk | hk | hk
  · have := le_mul (s := 2 * s) (show k + 1 ≤ i by omega)
    rw [Nat.add_mul, Nat.one_mul, ← h.at'] at this
    exact SortedIn.sub (sorted_out hP (h.front k hk) (Or.inl this)) (Nat.le_refl _) (by omega)
  · subst hk
    rw [← h.at']
    exact SortedIn.sub hS (Nat.le_refl _) (Nat.min_le_left _ _)
  · have := le_mul (s := 2 * s) (show i + 1 ≤ k by omega)
    rw [Nat.add_mul, Nat.one_mul, ← h.at'] at this
    exact SortedIn.empty (by omega)
theorem Half.idle {n s i A : Nat} {d : Array α} (h : Half ls n s i A d) (hn : n ≤ A + s) : SortedIn ls A n d := by
  have := h.rest (2 * i) (Nat.le_refl _)
  rw [two_mul_mul, ← h.at', Nat.min_eq_left hn] at this
  exact this
theorem Blocks.whole {n s : Nat} {d : Array α} (h : Blocks ls n s d) (hn : n ≤ s) : SortedIn ls 0 n d := by
  have := h 0
  rw [Nat.zero_mul, Nat.zero_add, Nat.min_eq_left hn] at this
  exact this

/-- The first i blocks of 20 are sorted already. -/
def First (ls : α → α → Bool) (i A : Nat) (d : Array α) : Prop := A = i * 20 ∧ ∀ k, k < i → SortedIn ls (k * 20) (k * 20 + 20) d
theorem First.start (d : Array α) : First ls 0 0 d := ⟨by omega, fun k hk => by omega⟩
theorem First.step {i A : Nat} {d e : Array α} (h : First ls i A d) (hP : PermI A (A + 20) d e) (hS : SortedIn ls A (A + 20) e) : First ls (i + 1) (A + 20) e := by
  obtain ⟨h1, h2⟩ := h
  refine ⟨by omega, fun k hk => ?_⟩
  by_cases hki : k = i
  · subst hki; rw [← h1]; exact hS
  · exact sorted_out hP (h2 k (by omega)) (Or.inl (by omega))
theorem First.done {n i A : Nat} {d e : Array α} (h : First ls i A d) (hn : n < A + 20) (hP : PermI A n d e) (hS : SortedIn ls A n e) : Blocks ls n 20 e := by
  obtain ⟨h1, h2⟩ := h
  intro k
  rcases Nat.lt_trichotomy k i with hk | hk | hk
  · exact SortedIn.sub (sorted_out hP (h2 k hk) (Or.inl (by omega))) (Nat.le_refl _) (by omega)
  · subst hk
    rw [← h1]
    exact SortedIn.sub hS (Nat.le_refl _) (Nat.min_le_left _ _)
  · exact SortedIn.empty (by omega)

/-- What the sort keeps of the row from the first step to the last. -/
structure Keeps (lt ls : α → α → Bool) (n : Nat) (d0 d : Array α) : Prop where
  perm : PermI 0 n d0 d
  inv : Inv lt ls 0 n d
theorem Keeps.step {n a b : Nat} {d0 d e : Array α} (h : Keeps lt ls n d0 d) (hn : n ≤ d0.size) (hb : b ≤ n) (hP : PermI a b d e) (hS : SortedIn ls a b e) : Keeps lt ls n d0 e :=
  ⟨h.perm.trans hn (hP.mono (Nat.zero_le _) hb), h.inv.perm hP hS hb (by rw [h.perm.size]; exact hn)⟩
end Go.Proofs.Ytjaapdkhjgolfaa
