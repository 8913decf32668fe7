/- Plain facts on merging two sorted parts in place by rotations; no premise on the program. -/
import Derived.Test.YtjaapdkhjgolfaaFxOrd
namespace Go.Proofs.Ytjaapdkhjgolfaa
open Go.Sort
variable {α : Type} [Inhabited α] {lt ls : α → α → Bool}

/-- Elements of [x, y) are ascending: the later place is not less, equal places let in. -/
theorem le_of_sorted (F : Finer lt ls) {x y p q : Nat} {d : Array α} (h : SortedIn ls x y d) (hp : x ≤ p) (hpq : p ≤ q) (hq : q < y) : ls d[q]! d[p]! = false := by
  rcases Nat.eq_or_lt_of_le hpq with rfl | hlt
  · exact F.swo.irrefl _
  · exact h p q hp hlt hq
theorem of_cross {a m b p q : Nat} {d : Array α} (h : Cross lt ls a m b d) (h1 : a ≤ p) (h2 : p < m) (h3 : m ≤ q) (h4 : q < b) (hl : lt d[q]! d[p]! = false) : ls d[q]! d[p]! = false := by
  cases e : ls d[q]! d[p]! with
  | false => rfl
  | true => rw [h p q h1 h2 h3 h4 e] at hl; cases hl

theorem mergeL (F : Finer lt ls) {a i b : Nat} {d : Array α} (hb : b ≤ d.size) (hai : a + 1 ≤ i) (hib : i ≤ b) (hs : SortedIn ls (a + 1) b d) (hC : Cross lt ls a (a + 1) b d)
    (h1 : i = a + 1 ∨ lt d[i - 1]! d[a]! = true) (h2 : i = b ∨ lt d[i]! d[a]! = false) : PermI a b d (rot d a (a + 1) i) ∧ SortedIn ls a b (rot d a (a + 1) i) := by
  refine ⟨(PermI.rot (by omega) (by omega)).mono (Nat.le_refl _) hib, ?_⟩
  intro p q hp hpq hq
  have r1 : ∀ k, a ≤ k → k < i - 1 → (rot d a (a + 1) i)[k]! = d[k + 1]! := fun k h h' => by
    rw [rot_get _ _ _ _ (by omega)]; congr 1; unfold rotI; (repeat' split) <;> omega
  have r2 : (rot d a (a + 1) i)[i - 1]! = d[a]! := by
    rw [rot_get _ _ _ _ (by omega)]; congr 1; unfold rotI; (repeat' split) <;> omega
  have r3 : ∀ k, i ≤ k → k < b → (rot d a (a + 1) i)[k]! = d[k]! := fun k h h' => by
    rw [rot_get _ _ _ _ (by omega)]; congr 1; unfold rotI; (repeat' split) <;> omega
  have u1 : ∀ k, a ≤ k → k < i - 1 → ls d[a]! d[k + 1]! = false := fun k h h' => by
    have := asymm F (F.sub _ _ (h1.resolve_left (by omega)))
    exact F.swo.ntrans _ _ _ this (le_of_sorted F hs (by omega) (by omega) (by omega))
  have u2 : ∀ k, i ≤ k → k < b → ls d[k]! d[a]! = false := fun k h h' => by
    have := of_cross hC (Nat.le_refl _) (by omega) hai (by omega) (h2.resolve_left (by omega))
    exact F.swo.ntrans _ _ _ (le_of_sorted F hs (by omega) h h') this
  rcases Nat.lt_trichotomy q (i - 1) with hqi | hqi | hqi
  · rw [r1 p hp (by omega), r1 q (by omega) hqi]
    exact hs _ _ (by omega) (by omega) (by omega)
  · subst hqi
    rw [r1 p hp hpq, r2]
    exact u1 p hp hpq
  · rw [r3 q (by omega) hq]
    rcases Nat.lt_trichotomy p (i - 1) with hpi | hpi | hpi
    · rw [r1 p hp hpi]
      exact hs _ _ (by omega) (by omega) hq
    · subst hpi
      rw [r2]
      exact u2 q (by omega) hq
    · rw [r3 p (by omega) (by omega)]
      exact hs _ _ (by omega) hpq hq

theorem mergeR (F : Finer lt ls) {a m i : Nat} {d : Array α} (hm : m < d.size) (hai : a ≤ i) (him : i ≤ m) (hs : SortedIn ls a m d) (hC : Cross lt ls a m (m + 1) d)
    (h1 : i = a ∨ lt d[m]! d[i - 1]! = false) (h2 : i = m ∨ lt d[m]! d[i]! = true) : PermI a (m + 1) d (rot d i m (m + 1)) ∧ SortedIn ls a (m + 1) (rot d i m (m + 1)) := by
  refine ⟨(PermI.rot him (by omega)).mono hai (Nat.le_refl _), ?_⟩
  intro p q hp hpq hq
  have r1 : ∀ k, k < i → (rot d i m (m + 1))[k]! = d[k]! := fun k h => by
    rw [rot_get _ _ _ _ (by omega)]; congr 1; unfold rotI; (repeat' split) <;> omega
  have r2 : (rot d i m (m + 1))[i]! = d[m]! := by
    rw [rot_get _ _ _ _ (by omega)]; congr 1; unfold rotI; (repeat' split) <;> omega
  have r3 : ∀ k, i < k → k < m + 1 → (rot d i m (m + 1))[k]! = d[k - 1]! := fun k h h' => by
    rw [rot_get _ _ _ _ (by omega)]; congr 1; unfold rotI; (repeat' split) <;> omega
  have u1 : ∀ k, a ≤ k → k < i → ls d[m]! d[k]! = false := fun k h h' => by
    have := of_cross (p := i - 1) (q := m) hC (by omega) (by omega) (Nat.le_refl _) (by omega) (h1.resolve_left (by omega))
    exact F.swo.ntrans _ _ _ this (le_of_sorted F hs h (by omega) (by omega))
  have u2 : ∀ k, i ≤ k → k < m → ls d[k]! d[m]! = false := fun k h h' => by
    have := asymm F (F.sub _ _ (h2.resolve_left (by omega)))
    exact F.swo.ntrans _ _ _ (le_of_sorted F hs hai h h') this
  rcases Nat.lt_trichotomy q i with hqi | hqi | hqi
  · rw [r1 p (by omega), r1 q hqi]
    exact hs _ _ hp hpq (by omega)
  · subst hqi
    rw [r1 p hpq, r2]
    exact u1 p hp hpq
  · rw [r3 q hqi hq]
    rcases Nat.lt_trichotomy p i with hpi | hpi | hpi
    · rw [r1 p hpi]
      exact le_of_sorted F hs hp (by omega) (by omega)
    · subst hpi
      rw [r2]
      exact u2 (q - 1) (by omega) (by omega)
    · rw [r3 p hpi (by omega)]
      exact hs _ _ (by omega) (by omega) (by omega)

def Sep (ls : α → α → Bool) (a m b : Nat) (d : Array α) : Prop := ∀ p q, a ≤ p → p < m → m ≤ q → q < b → ls d[q]! d[p]! = false

/-- What the rotation of the middle leaves to the two halves. -/
structure Halves (lt ls : α → α → Bool) (a start mid en b : Nat) (d : Array α) : Prop where
  s1 : SortedIn ls a start d
  s2 : SortedIn ls start mid d
  s3 : SortedIn ls mid en d
  s4 : SortedIn ls en b d
  c1 : Cross lt ls a start mid d
  c2 : Cross lt ls mid en b d
  sep : Sep ls a mid b d

theorem halves (F : Finer lt ls) {a m b start mid en : Nat} {d : Array α} (hb : b ≤ d.size) (h1 : a ≤ start) (h2 : start ≤ m) (h3 : m ≤ en) (h4 : en ≤ b) (h5 : start ≤ mid) (h6 : en + start = mid + m)
    (s1 : SortedIn ls a m d) (s2 : SortedIn ls m b d) (hC : Cross lt ls a m b d)
    (k1 : (start = a ∨ en = b) ∨ lt d[en]! d[start - 1]! = false) (k2 : (start = m ∨ en = m) ∨ lt d[en - 1]! d[start]! = true) : Halves lt ls a start mid en b (rot d start m en) := by
  have r1 : ∀ k, k < start → (rot d start m en)[k]! = d[k]! := fun k h => by
    rw [rot_get _ _ _ _ (by omega)]; congr 1; unfold rotI; (repeat' split) <;> omega
  have r2 : ∀ k, start ≤ k → k < mid → (rot d start m en)[k]! = d[k + (m - start)]! := fun k h h' => by
    rw [rot_get _ _ _ _ (by omega)]; congr 1; unfold rotI; (repeat' split) <;> omega
  have r3 : ∀ k, mid ≤ k → k < en → (rot d start m en)[k]! = d[k - (en - m)]! := fun k h h' => by
    rw [rot_get _ _ _ _ (by omega)]; congr 1; unfold rotI; (repeat' split) <;> omega
  have r4 : ∀ k, en ≤ k → k < b → (rot d start m en)[k]! = d[k]! := fun k h h' => by
    rw [rot_get _ _ _ _ (by omega)]; congr 1; unfold rotI; (repeat' split) <;> omega
  refine ⟨?_, ?_, ?_, ?_, ?_, ?_, ?_⟩
  · intro p q hp hpq hq
    rw [r1 p (by omega), r1 q hq]; exact s1 _ _ hp hpq (by omega)
  · intro p q hp hpq hq
    rw [r2 p hp (by omega), r2 q (by omega) hq]; exact s2 _ _ (by omega) (by omega) (by omega)
  · intro p q hp hpq hq
    rw [r3 p hp (by omega), r3 q (by omega) hq]; exact s1 _ _ (by omega) (by omega) (by omega)
  · intro p q hp hpq hq
    rw [r4 p hp (by omega), r4 q (by omega) hq]; exact s2 _ _ (by omega) hpq hq
  · intro p q hp hp' hq hq'
    rw [r1 p hp', r2 q hq hq']; exact hC _ _ hp (by omega) (by omega) (by omega)
  · intro p q hp hp' hq hq'
    rw [r3 p hp hp', r4 q hq hq']; exact hC _ _ (by omega) (by omega) (by omega) hq'
  · intro p q hp hp' hq hq'
    by_cases hps : p < start
    · rw [r1 p hps]
      by_cases hqe : q < en
      · rw [r3 q hq hqe]
        exact le_of_sorted F s1 hp (by omega) (by omega)
      · rw [r4 q (by omega) hq']
        have := of_cross (p := start - 1) (q := en) hC (by omega) (by omega) h3 (by omega) (k1.resolve_left (by omega))
        exact F.swo.ntrans _ _ _ (le_of_sorted F s2 h3 (by omega) hq') (F.swo.ntrans _ _ _ this (le_of_sorted F s1 hp (by omega) (by omega)))
    · rw [r2 p (by omega) hp']
      by_cases hqe : q < en
      · rw [r3 q hq hqe]
        have := asymm F (F.sub _ _ (k2.resolve_left (by omega)))
        exact F.swo.ntrans _ _ _ (le_of_sorted F s1 h1 (by omega) (by omega)) (F.swo.ntrans _ _ _ this (le_of_sorted F s2 (by omega) (by omega) (by omega)))
      · rw [r4 q (by omega) hq']
        exact le_of_sorted F s2 (by omega) (by omega) hq'

theorem Sep.permL {a m b : Nat} {d e : Array α} (hm : m ≤ d.size) (h : Sep ls a m b d) (hP : PermI a m d e) : Sep ls a m b e := by
  intro p q hp hp' hq hq'
  obtain ⟨j, j1, j2, j3⟩ := hP.src hm hp hp'
  rw [j3, hP.out (Or.inr hq)]
  exact h _ _ j1 j2 hq hq'
theorem Sep.permR {a m b : Nat} {d e : Array α} (hb : b ≤ d.size) (h : Sep ls a m b d) (hP : PermI m b d e) : Sep ls a m b e := by
  intro p q hp hp' hq hq'
  obtain ⟨j, j1, j2, j3⟩ := hP.src hb hq hq'
  rw [j3, hP.out (Or.inl hp')]
  exact h _ _ hp hp' j1 j2
theorem joined {a m b : Nat} {d : Array α} (h1 : SortedIn ls a m d) (h2 : SortedIn ls m b d) (h : Sep ls a m b d) : SortedIn ls a b d := by
  intro p q hp hpq hq
  by_cases h3 : q < m
  · exact h1 _ _ hp hpq h3
  · by_cases h4 : p < m
    · exact h _ _ hp h4 (by omega) hq
    · exact h2 _ _ (by omega) hpq hq

/-- Both halves are merged: the whole is. -/
theorem combine {a mid b : Nat} {d1 d2 d3 : Array α} (hb : b ≤ d1.size) (h1 : a ≤ mid) (h2 : mid ≤ b) (hS : Sep ls a mid b d1) (p1 : PermI a mid d1 d2) (s1 : SortedIn ls a mid d2) (p2 : PermI mid b d2 d3) (s2 : SortedIn ls mid b d3) :
    PermI a b d1 d3 ∧ SortedIn ls a b d3 := by
  have z := p1.size
  refine ⟨(p1.mono (Nat.le_refl _) h2).trans hb (p2.mono h1 (Nat.le_refl _)), ?_⟩
  exact joined (sorted_out p2 s1 (Or.inl (Nat.le_refl _))) s2 ((hS.permL (by omega) p1).permR (by omega) p2)
/-- A half of which one part is empty is merged as it is. -/
theorem whole_left {a start mid : Nat} {d : Array α} (h : start = a ∨ start = mid) (s1 : SortedIn ls a start d) (s2 : SortedIn ls start mid d) : SortedIn ls a mid d := by
  rcases h with rfl | rfl
  · exact s2
  · exact s1
end Go.Proofs.Ytjaapdkhjgolfaa
