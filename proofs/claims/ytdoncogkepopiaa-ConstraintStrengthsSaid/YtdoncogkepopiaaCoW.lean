/- The constraints up to a strength, alone: which of them are accepted does not depend on the others; no premise on the program. -/
import Derived.Test.YtdoncogkepopiaaCoN
namespace Go.Proofs.Ytdoncogkepopiaa
open Go.RowKit Go.Sort
set_option linter.unusedVariables false
set_option linter.unusedSimpArgs false

/-- How many of the first i have at most the strength k. -/
def cnF (l : Nat → Cn) (k : Int) : Nat → Nat
  | 0 => 0
  | i + 1 => if (l i).st ≤ k then cnF l k i + 1 else cnF l k i
section
variable {n m m' : Nat} {l l' : Nat → Cn} {k : Int}
theorem cn_yes {i : Nat} (h : (l i).st ≤ k) : cnF l k (i + 1) = cnF l k i + 1 := by simp only [cnF]; rw [if_pos h]
theorem cn_no {i : Nat} (h : ¬ (l i).st ≤ k) : cnF l k (i + 1) = cnF l k i := by simp only [cnF]; rw [if_neg h]
theorem cn_step (i : Nat) : cnF l k i ≤ cnF l k (i + 1) := by
  by_cases h : (l i).st ≤ k
  · rw [cn_yes h]; omega
  · rw [cn_no h]; exact Nat.le_refl _
theorem cn_mono {i : Nat} : ∀ d, cnF l k i ≤ cnF l k (i + d)
  | 0 => Nat.le_refl _
  | d + 1 => Nat.le_trans (cn_mono d) (cn_step (i + d))
theorem cn_le {i j : Nat} (h : i ≤ j) : cnF l k i ≤ cnF l k j := by
  have := cn_mono (l := l) (k := k) (i := i) (j - i)
  rwa [show i + (j - i) = j by omega] at this
theorem cn_lt {i j : Nat} (h : i < j) (hi : (l i).st ≤ k) : cnF l k i < cnF l k j := by
  have := cn_le (l := l) (k := k) (show i + 1 ≤ j by omega)
  rw [cn_yes hi] at this
  omega
theorem cn_bound (i : Nat) : cnF l k i ≤ i := by
  induction i with
  | zero => exact Nat.le_refl _
  | succ i ih =>
    by_cases h : (l i).st ≤ k
    · rw [cn_yes h]; omega
    · rw [cn_no h]; omega
theorem cn_inj {i j : Nat} (hi : (l i).st ≤ k) (hj : (l j).st ≤ k) (h : cnF l k i = cnF l k j) : i = j := by
  rcases Nat.lt_trichotomy i j with q | q | q
  · have := cn_lt q hi; omega
  · exact q
  · have := cn_lt q hj; omega
theorem cn_surj {q : Nat} : ∀ {i : Nat}, q < cnF l k i → ∃ j, j < i ∧ (l j).st ≤ k ∧ cnF l k j = q
  | 0, h => absurd h (Nat.not_lt_zero _)
  | i + 1, h => by
    by_cases hi : (l i).st ≤ k
    · rw [cn_yes hi] at h
      by_cases e : q = cnF l k i
      · exact ⟨i, by omega, hi, e.symm⟩
      · obtain ⟨j, h1, h2, h3⟩ := cn_surj (i := i) (q := q) (by omega)
        exact ⟨j, by omega, h2, h3⟩
    · rw [cn_no hi] at h
      obtain ⟨j, h1, h2, h3⟩ := cn_surj (i := i) (q := q) h
      exact ⟨j, by omega, h2, h3⟩
/-- l' lists the constraints of l up to the strength k. -/
def SubL (m : Nat) (l l' : Nat → Cn) (k : Int) : Prop := ∀ j, j < m → (l j).st ≤ k → l' (cnF l k j) = l j
def SubA (m : Nat) (l : Nat → Cn) (k : Int) (acc acc' : Nat → Bool) : Prop := ∀ j, j < m → (l j).st ≤ k → acc' (cnF l k j) = acc j
theorem sub_sol {acc acc' : Nat → Bool} (h : SubL m l l' k) (ha : SubA m l k acc acc') (hl : ∀ j, j < m → acc j = true → (l j).st ≤ k) {x : Nat → Int} : Sol n (cnF l k m) l' acc' x ↔ Sol n m l acc x := by
  constructor
  · rintro ⟨h1, h2⟩
    refine ⟨h1, fun j hj hq => ?_⟩
    have hs := hl j hj hq
    have := h2 (cnF l k j) (cn_lt hj hs) (by rw [ha j hj hs]; exact hq)
    rw [h j hj hs] at this
    exact this
  · rintro ⟨h1, h2⟩
    refine ⟨h1, fun q hq hq2 => ?_⟩
    obtain ⟨j, hj, hs, rfl⟩ := cn_surj hq
    rw [ha j hj hs] at hq2
    rw [h j hj hs]
    exact h2 j hj hq2
theorem sub_feas {acc acc' : Nat → Bool} (h : SubL m l l' k) (ha : SubA m l k acc acc') (hl : ∀ j, j < m → acc j = true → (l j).st ≤ k) : Feas n (cnF l k m) l' acc' ↔ Feas n m l acc :=
  ⟨fun ⟨x, hx⟩ => ⟨x, (sub_sol h ha hl).1 hx⟩, fun ⟨x, hx⟩ => ⟨x, (sub_sol h ha hl).2 hx⟩⟩
theorem sub_pass {s : Int} {base base' : Nat → Bool} (h : SubL m l l' k) (hb : SubA m l k base base') (hb2 : ∀ j, j < m → base j = true → (l j).st ≤ k) (hs : s ≤ k) : ∀ i, i ≤ m → SubA m l k (acS n m l s base i) (acS n (cnF l k m) l' s base' (cnF l k i))
  | 0, _ => hb
  | i + 1, hi => by
    have ih := sub_pass h hb hb2 hs i (by omega)
    have low : ∀ j, j < m → acS n m l s base i j = true → (l j).st ≤ k := fun j hj hq => by
      rcases acS_st hq with q | q
      · exact hb2 j hj q
      · omega
    by_cases hik : (l i).st ≤ k
    · rw [cn_yes hik]
      have hli := h i (by omega) hik
      have hu : SubA m l k (updB (acS n m l s base i) i true) (updB (acS n (cnF l k m) l' s base' (cnF l k i)) (cnF l k i) true) := fun j hj hjk => by
        unfold updB
        by_cases e : j = i
        · subst e; rw [if_pos rfl, if_pos rfl]
        · rw [if_neg e, if_neg (fun q => e (cn_inj hjk hik q))]
          exact ih j hj hjk
      have hF := sub_feas (n := n) h hu (fun j hj hq => by
        unfold updB at hq
        by_cases e : j = i
        · subst e; exact hik
        · rw [if_neg e] at hq; exact low j hj hq)
      by_cases hst : (l i).st = s
      · have hst' : (l' (cnF l k i)).st = s := by rw [hli]; exact hst
        by_cases hf : Feas n m l (updB (acS n m l s base i) i true)
        · rw [acS_yes hst hf, acS_yes hst' (hF.2 hf)]
          exact hu
        · rw [acS_no hst hf, acS_no hst' (fun q => hf (hF.1 q))]
          exact ih
      · rw [acS_off hst, acS_off (by rw [hli]; exact hst)]
        exact ih
    · rw [cn_no hik, acS_off (by omega)]
      exact ih
theorem sub_acB (h : SubL m l l' k) : ∀ t : Nat, (t : Int) ≤ k → SubA m l k (acB n m l t) (acB n (cnF l k m) l' t)
  | 0, _ => fun j hj hs => by
    show decide ((l' (cnF l k j)).st = 0) = decide ((l j).st = 0)
    rw [h j hj hs]
  | t + 1, ht => sub_pass h (sub_acB h t (by omega)) (fun j hj hq => by have := acB_st hq; omega) (by omega) m (Nat.le_refl _)
theorem acS_low {s : Int} {base : Nat → Bool} {i j : Nat} (h : ¬ (l j).st = s) : acS n m l s base i j = base j := by
  cases q : base j with
  | true => exact acS_keep q i
  | false =>
    cases q2 : acS n m l s base i j with
    | false => rfl
    | true =>
      rcases acS_st q2 with q3 | q3
      · rw [q] at q3; exact q3.symm
      · exact absurd q3.1 h
theorem acB_low {t j : Nat} (h : (l j).st ≤ (t : Int)) : ∀ d, acB n m l (t + d) j = acB n m l t j
  | 0 => rfl
  | d + 1 => (acS_low (s := ((t + d : Nat) : Int) + 1) (base := acB n m l (t + d)) (i := m) (by omega)).trans (acB_low h d)
theorem sub_all {t : Nat} (ht : t ≤ 3) (h : SubL m l l' (t : Int)) {j : Nat} (hj : j < m) (hs : (l j).st ≤ (t : Int)) : acB n (cnF l t m) l' 3 (cnF l t j) = acB n m l 3 j := by
  have e1 := acB_low (n := n) (m := m) hs (3 - t)
  have e2 := acB_low (n := n) (m := cnF l t m) (l := l') (j := cnF l t j) (t := t) (by rw [h j hj hs]; exact hs) (3 - t)
  rw [show t + (3 - t) = 3 by omega] at e1 e2
  rw [e1, e2]
  exact sub_acB h t (Int.le_refl _) j hj hs
theorem sub_ac0 (hk : 0 ≤ k) (h : SubL m l l' k) : Feas n (cnF l k m) l' (ac0 l') ↔ Feas n m l (ac0 l) :=
  sub_feas h (fun j hj hs => by show decide _ = decide _; rw [h j hj hs]) (fun j hj hq => by have := of_decide_eq_true (show decide ((l j).st = 0) = true from hq); omega)
theorem sub_ok {nv : Int} (h : SubL m l l' k) (hl : ∀ j, j < m → okC nv (l j)) : ∀ q, q < cnF l k m → okC nv (l' q) := fun q hq => by
  obtain ⟨j, hj, hs, rfl⟩ := cn_surj hq
  rw [h j hj hs]
  exact hl j hj
end
end Go.Proofs.Ytdoncogkepopiaa
