/- Elements that grow and have no upper limit fill the space exactly; no premise on the program. -/
import Derived.Test.YtdoenkngmgclmaaBoA
namespace Go.Proofs.Ytdoenkngmgclmaa
open Go.RowKit Go.Sort
set_option linter.unusedVariables false
set_option linter.unusedSimpArgs false

theorem sum_le_zero {f : Nat → Int} : ∀ {n : Nat}, (∀ i, i < n → 0 ≤ f i) → sumF f n = 0 → ∀ i, i < n → f i = 0
  | n + 1, h, hs, i, hi => by
    have h1 := sum_nonneg (f := f) n fun k hk => h k (by omega)
    have h2 := h n (by omega)
    simp only [sumF] at hs
    rcases Nat.lt_or_ge i n with hl | hl
    · exact sum_le_zero (fun k hk => h k (by omega)) (by omega) i hl
    · rw [show i = n by omega]; omega
theorem sum_if (z : Nat → Bool) (s a b : Nat → Int) : ∀ n, sumF (fun i => if z i then s i else a i + b i) n = sumF (fun i => if z i then s i else a i) n + sumF (fun i => if z i then 0 else b i) n
  | 0 => rfl
  | n + 1 => by
    simp only [sumF, sum_if z s a b n]
    cases z n <;> simp <;> omega
theorem nat_max {x : Fx} (hx : okF x) (hm : x.mx = 1048576) : clF x x.ba = max x.ba x.mn := by
  obtain ⟨h1, h2, h3, _⟩ := hx
  unfold clF clampS
  rw [hm]
  (repeat' split) <;> omega
theorem cl_up {x : Fx} (hx : okF x) (hm : x.mx = 1048576) {t : Int} (ht : t ≤ 1048576) : clF x t = max t x.mn := by
  obtain ⟨h1, h2, h3, _⟩ := hx
  unfold clF clampS
  rw [hm]
  (repeat' split) <;> omega

section
variable {sp : Int} {x : Nat → Fx} {n : Nat}
/-- The sizes of the frozen ones and the natural sizes of the others fit; and where all are frozen the space is full. -/
def Fit (sp : Int) (x : Nat → Fx) (n : Nat) (s : Nat → Int) (z : Nat → Bool) : Prop :=
  sumF (fun i => if z i then s i else natF x i) n ≤ sp ∧ (0 < rk z n ∨ sumF s n = sp)
theorem fit_step (hx : ∀ i, i < n → okF (x i)) (hm : ∀ i, i < n → (x i).mx = 1048576) (hsp : sp ≤ 1048576) {s : Nat → Int} {z : Nat → Bool}
    (hs : ∀ i, i < n → 0 ≤ s i) (hw : ∀ i, i < n → z i = false → 1 ≤ wtF true x i) (h : Fit sp x n s z) :
    Fit sp x n (fun i => (stepF true sp x n s z i).1) (fun i => (stepF true sp x n s z i).2) := by
  obtain ⟨h1, h2⟩ := h
  rcases Nat.eq_zero_or_pos (rk z n) with hr | hr
  · have hz := fun i (hi : i < n) => rk_zero hr hi
    have hsum : sumF s n = sp := by
      rcases h2 with h2 | h2
      · omega
      · exact h2
    have e1 : ∀ i, i < n → stepF true sp x n s z i = (s i, true) := fun i hi => by simp [stepF, hz i hi]
    refine ⟨?_, Or.inr ?_⟩
    · rw [sum_congr n (g := s) fun i hi => by simp [e1 i hi], hsum]; exact Int.le_refl _
    · rw [sum_congr n (g := s) fun i hi => by simp [e1 i hi], hsum]
  · -- the parts
    have hgood : Good (pack z (wtF true x) n) (rk z n) := pack_good hx
    have hnat : ∀ i, i < n → (x i).ba ≤ natF x i := fun i hi => by
      unfold natF; rw [nat_max (hx i hi) (hm i hi)]; omega
    have hba : sumF (fun i => if z i then s i else (x i).ba) n ≤ sp := by
      refine Int.le_trans (sum_le n fun i hi => ?_) h1
      show (if z i then s i else (x i).ba) ≤ (if z i then s i else natF x i)
      split
      · exact Int.le_refl _
      · exact hnat i hi
    have hT : totF true sp x n s z = sp - sumF (fun i => if z i then s i else (x i).ba) n := by
      unfold totF sgF freF
      simp only [if_true]
      omega
    have hT0 : 0 ≤ totF true sp x n s z := by rw [hT]; omega
    have hpos : 0 < sumF (pack z (wtF true x) n) (rk z n) := by
      have a := le_sum (f := pack z (wtF true x) n) (rk z n) (fun k hk => (hgood k hk).1) 0 hr
      have b := pack_all (z := z) (a := wtF true x) (p := fun v => 1 ≤ v) (n := n) (k := 0) hw hr
      have b' : 1 ≤ pack z (wtF true x) n 0 := b
      omega
    have hP := shr_parts (T := totF true sp x n s z) hgood
    have hsum : sumF (shr (totF true sp x n s z) (pack z (wtF true x) n) (rk z n)) (rk z n) = totF true sp x n s z := by
      rcases hP.sum hgood with ⟨a, _⟩ | ⟨_, a⟩
      · omega
      · exact a
    have hPb : ∀ i, i < n → z i = false → 0 ≤ shr (totF true sp x n s z) (pack z (wtF true x) n) (rk z n) (rk z i) := fun i hi hz =>
      (shr_bd hgood hT0 (rk_lt hi hz)).1
    -- the targets
    have ht : ∀ i, tgF true sp x n s z i = (x i).ba + shr (totF true sp x n s z) (pack z (wtF true x) n) (rk z n) (rk z i) := fun i => by
      unfold tgF sgF; simp
    have hsumt : sumF (fun i => if z i then s i else tgF true sp x n s z i) n = sp := by
      rw [sum_congr n (g := fun i => if z i then s i else (x i).ba + shr (totF true sp x n s z) (pack z (wtF true x) n) (rk z n) (rk z i)) fun i hi => by rw [ht i], sum_if z s (fun i => (x i).ba) (fun i => shr (totF true sp x n s z) (pack z (wtF true x) n) (rk z n) (rk z i)) n, sum_ranks n, hsum, hT]
      omega
    have ht0 : ∀ i, i < n → z i = false → 0 ≤ tgF true sp x n s z i := fun i hi hz => by
      rw [ht i]; have := hPb i hi hz; have := (hx i hi).1; omega
    have htb : ∀ i, i < n → z i = false → tgF true sp x n s z i ≤ 1048576 := fun i hi hz => by
      have a := le_sum (f := fun i => if z i then s i else tgF true sp x n s z i) n (fun k hk => by
        show 0 ≤ (if z k then s k else tgF true sp x n s z k)
        cases hk2 : z k with
        | true => simp; exact hs k hk
        | false => simp; exact ht0 k hk hk2) i hi
      rw [hsumt] at a
      simp only [hz] at a
      simp at a
      omega
    have hc : ∀ i, i < n → z i = false → clF (x i) (tgF true sp x n s z i) = max (tgF true sp x n s z i) (x i).mn := fun i hi hz => cl_up (hx i hi) (hm i hi) (htb i hi hz)
    generalize hv : vioF true sp x n s z = v
    have hv' : sumF (fun i => if z i then 0 else clF (x i) (tgF true sp x n s z i) - tgF true sp x n s z i) n = v := hv
    have hnn : ∀ i, i < n → 0 ≤ (if z i then (0 : Int) else clF (x i) (tgF true sp x n s z i) - tgF true sp x n s z i) := fun i hi => by
      cases hz : z i with
      | true => simp
      | false => simp only [Bool.false_eq_true, if_false]; rw [hc i hi hz]; omega
    have hv0 : 0 ≤ v := by rw [← hv']; exact sum_nonneg n hnn
    have hcs : sumF (fun i => if z i then s i else clF (x i) (tgF true sp x n s z i)) n = sp + v := by
      have a := sum_if z s (fun i => tgF true sp x n s z i) (fun i => clF (x i) (tgF true sp x n s z i) - tgF true sp x n s z i) n
      rw [hsumt, hv'] at a
      rw [← a]
      refine sum_congr n fun i hi => ?_
      cases z i <;> simp
      omega
    rcases Int.lt_or_eq_of_le hv0 with hp | hp
    · -- some are frozen at their lower limits
      have hit : ∀ i, hitB v (clF (x i) (tgF true sp x n s z i)) (tgF true sp x n s z i) = decide (tgF true sp x n s z i < clF (x i) (tgF true sp x n s z i)) := fun i => by
        have a : ¬ v = 0 := by omega
        have b : ¬ v < 0 := by omega
        simp [hitB, a, b, hp]
      have hnatc : ∀ i, i < n → z i = false → tgF true sp x n s z i < clF (x i) (tgF true sp x n s z i) → clF (x i) (tgF true sp x n s z i) = natF x i := fun i hi hz hl => by
        have a := hc i hi hz
        have b : natF x i = max (x i).ba (x i).mn := nat_max (hx i hi) (hm i hi)
        have c := hPb i hi hz
        have d := ht i
        omega
      have es : ∀ i, i < n → (if (stepF true sp x n s z i).2 then (stepF true sp x n s z i).1 else natF x i) = (if z i then s i else natF x i) := fun i hi => by
        unfold stepF
        rw [hv, hit i]
        cases hz : z i with
        | true => simp
        | false =>
          simp only [Bool.false_eq_true, if_false]
          by_cases hl : tgF true sp x n s z i < clF (x i) (tgF true sp x n s z i)
          · rw [decide_eq_true hl]; simp; exact hnatc i hi hz hl
          · rw [decide_eq_false hl]; simp
      refine ⟨by rw [sum_congr n es]; exact h1, Or.inl ?_⟩
      apply Nat.pos_of_ne_zero
      intro h0
      have hall := fun i (hi : i < n) => rk_zero h0 hi
      have : sumF (fun i => if z i then s i else clF (x i) (tgF true sp x n s z i)) n = sumF (fun i => if z i then s i else natF x i) n := by
        refine sum_congr n fun i hi => ?_
        have a := hall i hi
        simp only [stepF, hv, hit i] at a
        cases hz : z i with
        | true => simp
        | false =>
          rw [hz] at a
          simp only [Bool.false_eq_true, if_false]
          by_cases hl : tgF true sp x n s z i < clF (x i) (tgF true sp x n s z i)
          · exact hnatc i hi hz hl
          · simp [hl] at a
      omega
    · -- all are frozen
      have hzz : v = 0 := hp.symm
      have hct : ∀ i, i < n → z i = false → clF (x i) (tgF true sp x n s z i) = tgF true sp x n s z i := fun i hi hz => by
        have a := sum_le_zero hnn (by rw [hv', hzz]) i hi
        rw [hz] at a
        simp at a
        omega
      have e1 : ∀ i, i < n → stepF true sp x n s z i = (if z i then s i else tgF true sp x n s z i, true) := fun i hi => by
        unfold stepF
        rw [hv, hzz]
        cases hz : z i with
        | true => simp
        | false => simp [hitB, hct i hi hz]
      have e2 : sumF (fun i => (stepF true sp x n s z i).1) n = sp := by
        rw [sum_congr n (g := fun i => if z i then s i else tgF true sp x n s z i) fun i hi => by simp [e1 i hi], hsumt]
      refine ⟨?_, Or.inr e2⟩
      rw [sum_congr n (g := fun i => (stepF true sp x n s z i).1) fun i hi => by simp [e1 i hi], e2]
      exact Int.le_refl _
theorem fills (hx : ∀ i, i < n → okF (x i)) (hm : ∀ i, i < n → (x i).mx = 1048576) (hsp : sp ≤ 1048576) (hn : sumF (natF x) n ≤ sp) (hg : ∃ i, i < n ∧ 1 ≤ (x i).gr) :
    sumF (itS true sp x n n).1 n = sp := by
  have hfr : ∀ i, i < n → fr0 true x i = false → 1 ≤ wtF true x i := fun i hi h => by
    have := (hx i hi).2.2.2.1
    unfold fr0 at h
    simp at h
    have a := h.1
    unfold wtF at a ⊢
    simp only [if_true] at a ⊢
    omega
  have h0 : Fit sp x n (itS true sp x n 0).1 (itS true sp x n 0).2 := by
    refine ⟨?_, Or.inl ?_⟩
    · rw [sum_congr n (g := natF x) fun i hi => ?_]
      · exact hn
      · show (if fr0 true x i then natF x i else natF x i) = natF x i
        split <;> rfl
    · obtain ⟨i, hi, h1⟩ := hg
      have hz : fr0 true x i = false := by
        have b : natF x i = max (x i).ba (x i).mn := nat_max (hx i hi) (hm i hi)
        unfold fr0 wtF
        simp
        omega
      exact Nat.lt_of_le_of_lt (Nat.zero_le _) (rk_lt hi hz)
  have hall : ∀ k, Fit sp x n (itS true sp x n k).1 (itS true sp x n k).2 := by
    intro k
    induction k with
    | zero => exact h0
    | succ k ih =>
      refine fit_step hx hm hsp (fun i hi => (it_ok hx k hi).1) (fun i hi hz => ?_) ih
      refine hfr i hi ?_
      cases hf : fr0 true x i with
      | false => rfl
      | true => rw [(it_first (sp := sp) (n := n) hf k).2] at hz; exact absurd hz (by simp)
  rcases (hall n).2 with h | h
  · rw [it_done] at h; omega
  · exact h
end
end Go.Proofs.Ytdoenkngmgclmaa
