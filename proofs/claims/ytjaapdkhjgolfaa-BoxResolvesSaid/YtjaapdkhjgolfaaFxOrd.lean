/- Plain facts on a stable merge sort: a second, finer order that the first one decides wherever it is asked; no premise on the program. -/
import Derived.Test.YtjaapdkhjgolfaaFxPick
namespace Go.Proofs.Ytjaapdkhjgolfaa
open Go.Sort
variable {α : Type} [Inhabited α] {lt ls : α → α → Bool}

/-- lt is what the code asks; ls is the finer order in which equal elements keep their places. -/
structure Finer (lt ls : α → α → Bool) : Prop where
  swo : SWO ls
  sub : ∀ x y, lt x y = true → ls x y = true

/-- Wherever a later element of [a, b) is less than an earlier one in the finer order, it is so in the coarse one. -/
def Inv (lt ls : α → α → Bool) (a b : Nat) (d : Array α) : Prop := ∀ p q, a ≤ p → p < q → q < b → ls d[q]! d[p]! = true → lt d[q]! d[p]! = true
def Cross (lt ls : α → α → Bool) (a m b : Nat) (d : Array α) : Prop := ∀ p q, a ≤ p → p < m → m ≤ q → q < b → ls d[q]! d[p]! = true → lt d[q]! d[p]! = true
theorem Inv.cross {a m b n : Nat} {d : Array α} (h : Inv lt ls 0 n d) (hb : b ≤ n) : Cross lt ls a m b d := fun p q _ h2 h3 h4 h5 => h p q (Nat.zero_le _) (by omega) (by omega) h5

omit [Inhabited α] in
theorem asymm (F : Finer lt ls) {x y : α} (h : ls x y = true) : ls y x = false := F.swo.asymmA h
omit [Inhabited α] in
theorem not_lt {x y : α} (F : Finer lt ls) (h : ls x y = false) : lt x y = false := by
  cases e : lt x y with
  | false => rfl
  | true => rw [F.sub _ _ e] at h; cases h

/-! ### Insertion sort -/
theorem Inv.swp (F : Finer lt ls) {a b j : Nat} {d : Array α} (h : Inv lt ls a b d) (ha : a ≤ j) (hj : j + 1 < b) (hb : b ≤ d.size) (hl : ls d[j + 1]! d[j]! = true) : Inv lt ls a b (swp d (j + 1) j) := by
  have g := swp_get d (show j + 1 < d.size by omega) (show j < d.size by omega)
  intro p q hp hpq hq
  rw [g, g]
  by_cases e1 : p = j
  · by_cases e2 : q = j + 1
    · subst e1; subst e2
      simp only [if_true, show p + 1 ≠ p by omega, if_false]
      intro hc
      rw [asymm F hl] at hc; cases hc
    · subst e1
      simp only [if_true, show q ≠ p by omega, if_false, e2]
      exact h (p + 1) q (by omega) (by omega) hq
  · by_cases e2 : q = j
    · subst e2
      simp only [if_true, e1, show p ≠ q + 1 by omega, if_false]
      exact h _ _ hp (by omega) hj
    · by_cases e3 : p = j + 1
      · subst e3
        simp only [if_true, e1, e2, show q ≠ j + 1 by omega, if_false]
        exact h j q (by omega) (by omega) hq
      · by_cases e4 : q = j + 1
        · subst e4
          simp only [if_true, e1, e2, e3, if_false]
          exact h p j hp (by omega) (by omega)
        · simp only [e1, e2, e3, e4, if_false]
          exact h p q hp hpq hq

theorem insInner_same (F : Finer lt ls) (a b : Nat) : ∀ (j : Nat) (d : Array α), j < b → b ≤ d.size → a < b → Inv lt ls a b d →
    insInner lt a j d = insInner ls a j d ∧ Inv lt ls a b (insInner lt a j d) ∧ PermI a b d (insInner lt a j d) ∧ (insInner lt a j d).size = d.size
  | 0, d, _, _, _, h => by
    unfold insInner
    exact ⟨rfl, h, PermI.refl _ _ _, rfl⟩
  | j + 1, d, hj, hb, hab, h => by
    unfold insInner
    by_cases ha : j + 1 > a
    · cases hl : lt d[j + 1]! d[j]! with
      | true =>
        have hl' := F.sub _ _ hl
        have hs := h.swp F (by omega) hj hb hl'
        obtain ⟨i1, i2, i3, i4⟩ := insInner_same F a b j (swp d (j + 1) j) (by omega) (by rw [swp_size]; exact hb) hab hs
        simp only [ha, hl', decide_true, Bool.and_self, if_true]
        exact ⟨i1, i2, (PermI.swp (by omega) hj (by omega) (by omega) hb).trans hb i3, by rw [i4, swp_size]⟩
      | false =>
        have hl' : ls d[j + 1]! d[j]! = false := by
          cases e : ls d[j + 1]! d[j]! with
          | false => rfl
          | true => rw [h j (j + 1) (by omega) (by omega) hj e] at hl; cases hl
        simp only [hl', Bool.and_false, Bool.false_eq_true, if_false]
        exact ⟨by trivial, h, PermI.refl _ _ _, by trivial⟩
    · simp only [ha, decide_false, Bool.false_and, Bool.false_eq_true, if_false]
      exact ⟨by trivial, h, PermI.refl _ _ _, by trivial⟩

theorem insOuter_same (F : Finer lt ls) (a b : Nat) : ∀ (n i : Nat) (d : Array α), b - i = n → b ≤ d.size → a < b → Inv lt ls a b d →
    insOuter lt a b i d = insOuter ls a b i d ∧ PermI a b d (insOuter lt a b i d)
  | 0, i, d, hn, _, _, _ => by
    have e1 : insOuter lt a b i d = d := by rw [insOuter, if_neg (by omega)]
    have e2 : insOuter ls a b i d = d := by rw [insOuter, if_neg (by omega)]
    rw [e1, e2]
    exact ⟨rfl, PermI.refl _ _ _⟩
  | n + 1, i, d, hn, hb, hab, h => by
    have e1 : insOuter lt a b i d = insOuter lt a b (i + 1) (insInner lt a i d) := by rw [insOuter, if_pos (by omega)]
    have e2 : insOuter ls a b i d = insOuter ls a b (i + 1) (insInner ls a i d) := by rw [insOuter, if_pos (by omega)]
    obtain ⟨i1, i2, i3, i4⟩ := insInner_same F a b i d (by omega) hb hab h
    rw [e1, e2, ← i1]
    obtain ⟨o1, o2⟩ := insOuter_same F a b n (i + 1) (insInner lt a i d) (by omega) (by omega) hab i2
    exact ⟨o1, i3.trans hb o2⟩

/-- What the library's insertion sort makes of [a, b). -/
theorem ins_sorts (F : Finer lt ls) {a b : Nat} {d : Array α} (hab : a ≤ b) (hb : b ≤ d.size) (h : Inv lt ls a b d) :
    PermI a b d (insertionSort lt d a b) ∧ SortedIn ls a b (insertionSort lt d a b) := by
  rcases Nat.eq_or_lt_of_le hab with rfl | hlt
  · unfold insertionSort
    rw [insOuter, if_neg (by omega)]
    exact ⟨PermI.refl _ _ _, fun i j h1 h2 h3 => by omega⟩
  · obtain ⟨o1, o2⟩ := insOuter_same F a b _ (a + 1) d rfl hb hlt h
    refine ⟨o2, ?_⟩
    have e : insertionSort lt d a b = insertionSort ls d a b := o1
    rw [e]
    exact (insertionSort_holds F.swo d a b hab hb).2

/-! ### What a sorted part leaves of the invariant -/
theorem Inv.perm {a b n : Nat} {d e : Array α} (h : Inv lt ls 0 n d) (hP : PermI a b d e) (hS : SortedIn ls a b e) (hn : b ≤ n) (hs : n ≤ d.size) : Inv lt ls 0 n e := by
  intro p q _ hpq hq hl
  by_cases hp : a ≤ p ∧ p < b
  · by_cases hq' : q < b
    · rw [hS p q hp.1 hpq hq'] at hl; cases hl
    · obtain ⟨j, h1, h2, h3⟩ := hP.src (by omega) hp.1 hp.2
      have h4 := hP.out (k := q) (by omega)
      rw [h3, h4] at hl ⊢
      exact h j q (Nat.zero_le _) (by omega) hq hl
  · have h4 := hP.out (k := p) (by omega)
    by_cases hq' : a ≤ q ∧ q < b
    · obtain ⟨j, h1, h2, h3⟩ := hP.src (by omega) hq'.1 hq'.2
      rw [h3, h4] at hl ⊢
      exact h p j (Nat.zero_le _) (by omega) (by omega) hl
    · have h5 := hP.out (k := q) (by omega)
      rw [h4, h5] at hl ⊢
      exact h p q (Nat.zero_le _) hpq hq hl
theorem sorted_out {a b x y : Nat} {d e : Array α} (hP : PermI a b d e) (h : SortedIn ls x y d) (ho : y ≤ a ∨ b ≤ x) : SortedIn ls x y e := by
  intro p q h1 h2 h3
  rw [hP.out (k := p) (by omega), hP.out (k := q) (by omega)]
  exact h p q h1 h2 h3
end Go.Proofs.Ytjaapdkhjgolfaa
