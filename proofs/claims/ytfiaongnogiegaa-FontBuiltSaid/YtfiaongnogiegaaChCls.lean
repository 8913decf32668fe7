/- The classes that the program gives a rune, and those of the reference, are the same; what each of the ten functions returns. No condition but that the argument is a rune's number. -/
import Derived.Test.YtfiaongnogiegaaChOf2
namespace Go.Proofs.Ytfiaongnogiegaa
open Go.RowKit Go.Sort Go.Great
set_option linter.unusedSimpArgs false
set_option linter.unusedVariables false

/-! ### Functions of an integer that are constant between bounds -/
theorem rep (M r : Int) (hM : r ≤ M) : ∀ S : List Int, ∃ s ∈ M :: S, r ≤ s ∧ ∀ t ∈ S, (r ≤ t ↔ s ≤ t)
  | [] => ⟨M, by simp, hM, by simp⟩
  | x :: S => by
    obtain ⟨s, hs, h1, h2⟩ := rep M r hM S
    by_cases hx : r ≤ x ∧ x < s
    · refine ⟨x, by simp, hx.1, fun t ht => ?_⟩
      rcases List.mem_cons.1 ht with rfl | ht
      · exact ⟨fun _ => Int.le_refl _, fun _ => hx.1⟩
      · have := h2 t ht; omega
    · refine ⟨s, ?_, h1, fun t ht => ?_⟩
      · rcases List.mem_cons.1 hs with rfl | hs
        · simp
        · simp [hs]
      · rcases List.mem_cons.1 ht with rfl | ht
        · omega
        · exact h2 t ht
def Steps (S : List Int) {α : Type} (g : Int → α) : Prop := ∀ r s, (∀ t ∈ S, (r ≤ t ↔ s ≤ t)) → g r = g s
theorem steps_eq {α : Type} [DecidableEq α] {g h : Int → α} {S : List Int} {M : Int} (hg : Steps S g) (hh : Steps S h) (hd : (M :: S).all (fun s => decide (g s = h s)) = true) (r : Int) (hr : r ≤ M) : g r = h r := by
  obtain ⟨s, hs, _, h2⟩ := rep M r hr S
  rw [hg r s h2, hh r s h2]
  exact of_decide_eq_true (List.all_eq_true.1 hd s hs)
def bndC (l : List CaseD) : List Int := l.map fun x => if x.lt then x.k - 1 else x.k
def bndR (l : List Rw) : List Int := l.flatMap fun x => [x.z, x.f - 1]
def bndP (l : List PartD) : List Int := l.flatMap fun x => (x.k - 1) :: bndR x.rows
theorem steps_C : ∀ l : List CaseD, ∀ r s, (∀ t ∈ bndC l, (r ≤ t ↔ s ≤ t)) → lkC l r = lkC l s
  | [], _, _, _ => rfl
  | x :: l, r, s, h => by
    have ih := steps_C l r s fun t ht => h t (by simp only [bndC, List.map_cons, List.mem_cons]; exact Or.inr ht)
    have h0 := h (if x.lt then x.k - 1 else x.k) (by simp [bndC])
    have hh : x.hit r = x.hit s := by
      unfold CaseD.hit
      cases hx : x.lt
      · simp only [hx] at h0; simp at h0; simp [h0]
      · simp only [hx] at h0; simp at h0 ⊢; omega
    simp only [lkC, hh, ih]
theorem steps_R : ∀ l : List Rw, ∀ r s, (∀ t ∈ bndR l, (r ≤ t ↔ s ≤ t)) → findR l r = findR l s
  | [], _, _, _ => rfl
  | x :: l, r, s, h => by
    have ih := steps_R l r s fun t ht => h t (by simp only [bndR, List.flatMap_cons, List.mem_append]; exact Or.inr ht)
    have h0 := h x.z (by simp [bndR])
    have h1 := h (x.f - 1) (by simp [bndR])
    simp only [findR, ih]
    by_cases a : r ≤ x.z
    · rw [if_pos a, if_pos (h0.1 a)]
      by_cases b : x.f ≤ r
      · rw [if_pos b, if_pos (by omega)]
      · rw [if_neg b, if_neg (by omega)]
    · rw [if_neg a, if_neg (fun q => a (h0.2 q))]
theorem steps_P : ∀ l : List PartD, ∀ r s, (∀ t ∈ bndP l, (r ≤ t ↔ s ≤ t)) → lkP l r = lkP l s
  | [], _, _, _ => rfl
  | x :: l, r, s, h => by
    have ih := steps_P l r s fun t ht => h t (by simp only [bndP, List.flatMap_cons, List.mem_append]; exact Or.inr ht)
    have h0 := h (x.k - 1) (by simp [bndP])
    have h1 := steps_R x.rows r s fun t ht => h t (by simp only [bndP, List.flatMap_cons, List.mem_append, List.mem_cons]; exact Or.inl (Or.inr ht))
    simp only [lkP, ih, h1]
    by_cases a : r < x.k
    · rw [if_pos a, if_pos (by omega)]
    · rw [if_neg a, if_neg (by omega)]

def clOf (x : Rw) : Cl := ⟨x.b, x.w, x.l, x.d, x.j⟩
def allBounds : List Int := bndC refCases ++ bndP ofParts ++ bndR supplementaryRows
def refF (r : Int) : Cl := (lkC refCases r).getD Cl.zero
def prgF (r : Int) : Cl := clOf ((lkP ofParts r).getD (findR supplementaryRows r))
theorem steps_ref : Steps allBounds refF := fun r s h => by
  unfold refF; rw [steps_C refCases r s fun t ht => h t (by simp only [allBounds, List.mem_append]; exact Or.inl (Or.inl ht))]
theorem steps_prg : Steps allBounds prgF := fun r s h => by
  unfold prgF
  rw [steps_P ofParts r s fun t ht => h t (by simp only [allBounds, List.mem_append]; exact Or.inl (Or.inr ht)), steps_R supplementaryRows r s fun t ht => h t (by simp only [allBounds, List.mem_append]; exact Or.inr ht)]
theorem agree : ((2147483647 : Int) :: allBounds).all (fun s => decide (refF s = prgF s)) = true := by kernel_rfl
theorem clOf_row (r : Int) (hr : -2147483648 ≤ r ∧ r ≤ 2147483647) : clOf (rowOf r) = cls r := by
  unfold rowOf cls
  cases hs : isSyl r
  · exact (steps_eq steps_ref steps_prg agree r hr.2).symm
  · simp only [if_true, sylR, clOf]
    split <;> rfl
end Go.Proofs.Ytfiaongnogiegaa
