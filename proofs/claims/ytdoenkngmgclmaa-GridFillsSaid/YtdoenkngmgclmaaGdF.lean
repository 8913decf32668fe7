/- The sizes of a grid's tracks are never less than what is demanded, and fractions fill the space; no premise on the program. -/
import Derived.Test.YtdoenkngmgclmaaGdPc
import Derived.Test.YtdoenkngmgclmaaGdR5
namespace Go.Proofs.Ytdoenkngmgclmaa
open Go.RowKit Go.Sort
set_option linter.unusedVariables false
set_option linter.unusedSimpArgs false

theorem sel_rk {z : Nat → Bool} {n i : Nat} (hi : i < n) (hz : z i = false) : selN z n (rk z i) = i := by
  obtain ⟨h1, h2, h3⟩ := selN_at (z := z) (n := n) (rk_lt hi hz)
  rcases Nat.lt_trichotomy (selN z n (rk z i)) i with l | l | l
  · have := rk_lt l h2; omega
  · exact l
  · have := rk_lt l hz; omega
section
variable {t : Nat → Tk} {gap av : Int} {I : Nat → It} {n m : Nat}
theorem spr_fixed {want : Int} {x : It} {s : Nat → Int} {i : Nat} (h : (t i).kd = 0) : sprG t gap want x n s i = s i := by
  unfold sprG
  refine if_neg fun q => ?_
  obtain ⟨_, q2, q3⟩ := q
  have c := kdG_cases t (aG x) (pG x)
  unfold zG at q3
  simp at q3
  omega
theorem add_fixed {f s0 : Nat → Int} {i : Nat} (h : (t i).kd = 0) : ∀ k, addG t gap I n f s0 k i = s0 i
  | 0 => rfl
  | k + 1 => by
    simp only [addG]
    split
    · rw [spr_fixed h, add_fixed h k]
    · exact add_fixed h k
theorem tr_fixed {i : Nat} (h : (t i).kd = 0) : trF av t gap I n m i = (t i).nn := by
  have hl : lqF t gap I n m i = (t i).nn := by
    unfold lqF
    rw [add_fixed h]
    unfold ls0
    rw [if_pos h]
  have hz : zF t i = true := by unfold zF; rw [h]; rfl
  have ha : zA t i = true := by unfold zA; rw [h]; rfl
  unfold trF
  rw [if_pos hz]
  unfold s1G
  rw [if_neg (fun q => by rw [ha] at q; exact Bool.noConfusion q.2)]
  exact hl
theorem s1_ge (hg : 0 ≤ gap ∧ gap ≤ 1048576) (ht : ∀ i, i < n → okT (t i)) (hI : ∀ k, k < m → okI n (I k)) {i : Nat} (hi : i < n) : lqF t gap I n m i ≤ s1G av t gap I n m i := by
  have w := gr_bd (m := m) hg.1 ht hI hi
  by_cases h : frG av t gap I n m < sumF (grG t gap I n m) n
  · rw [← s1_less hg.1 ht hI h hi]
    have hfr : 0 ≤ frG av t gap I n m := by unfold frG; omega
    have := shr_bd (T := frG av t gap I n m) (gr_good (m := m) hg.1 ht hI) hfr hi
    omega
  · rw [← s1_all hg.1 ht hI h hi]
    omega
noncomputable def fxR (t : Nat → Tk) (gap : Int) (I : Nat → It) (n m k : Nat) : Fx := fxG t gap I n m (selN (zF t) n k)
theorem fxR_at (hg : 0 ≤ gap ∧ gap ≤ 1048576) (ht : ∀ i, i < n → okT (t i)) (hI : ∀ k, k < m → okI n (I k)) {i : Nat} (hi : i < n) (hz : zF t i = false) : fxR t gap I n m (rk (zF t) i) = ⟨0, lqF t gap I n m i, 1048576, (t i).nn, 0⟩ := by
  have := lq_tight (m := m) hg.1 ht hI hi
  unfold fxR
  rw [sel_rk hi hz]
  unfold fxG
  rw [show min (lqF t gap I n m i) 1048576 = lqF t gap I n m i by omega]
theorem tr_ge (hg : 0 ≤ gap ∧ gap ≤ 1048576) (ht : ∀ i, i < n → okT (t i)) (hI : ∀ k, k < m → okI n (I k)) {i : Nat} (hi : i < n) : lqF t gap I n m i ≤ trF av t gap I n m i := by
  cases hz : zF t i with
  | true => unfold trF; rw [if_pos hz]; exact s1_ge hg ht hI hi
  | false =>
    unfold trF
    rw [if_neg (by rw [hz]; exact Bool.false_ne_true)]
    show _ ≤ resF (max 0 (reG av t gap I n m)) 0 (fxR t gap I n m) (rk (zF t) n) (rk (zF t) i)
    unfold resF
    obtain ⟨u, hu⟩ := it_cl (g := growB (spcF (max 0 (reG av t gap I n m)) 0 (rk (zF t) n)) (fxR t gap I n m) (rk (zF t) n)) (sp := spcF (max 0 (reG av t gap I n m)) 0 (rk (zF t) n)) (x := fxR t gap I n m) (n := rk (zF t) n) (rk (zF t) n) (rk (zF t) i)
    rw [hu]
    have := (cl_bd (fxR t gap I n m (rk (zF t) i)) u).1
    rw [fxR_at hg ht hI hi hz] at this ⊢
    exact this
theorem tr_item (hg : 0 ≤ gap ∧ gap ≤ 1048576) (ht : ∀ i, i < n → okT (t i)) (hI : ∀ k, k < m → okI n (I k)) {k : Nat} (hk : k < m) (h1 : (I k).sp = 1) (h0 : ¬ (t (aG (I k))).kd = 0) : (I k).mn ≤ trF av t gap I n m (aG (I k)) := by
  have ha := aG_eq (hI k hk)
  have hi : aG (I k) < n := by omega
  have a := one_ls (t := t) hk (hI k hk) h1 h0
  have b := (lq_tight (m := m) hg.1 ht hI hi).2.2
  have c := tr_ge (av := av) (m := m) hg ht hI hi
  omega
def gpT (gap : Int) (n : Nat) : Int := gap * ((n : Int) - 1)
theorem tot_gp {s : Nat → Int} (hn : 1 ≤ n) : totG gap s n = sumF s n + gpT gap n := by
  unfold totG gpT
  by_cases h : 1 < n
  · rw [if_pos h]
  · rw [if_neg h, show (n : Int) - 1 = 0 by omega, Int.mul_zero]
theorem tr_total (hn : 1 ≤ n) (hg : 0 ≤ gap ∧ gap ≤ 1048576) (ht : ∀ i, i < n → okT (t i)) (hI : ∀ k, k < m → okI n (I k)) : totG gap (lqF t gap I n m) n ≤ sumF (trF av t gap I n m) n + gpT gap n := by
  rw [tot_gp hn]
  have := sum_le (f := lqF t gap I n m) (h := trF av t gap I n m) n fun i hi => tr_ge hg ht hI hi
  omega
theorem s1_sum (ha : 0 ≤ av ∧ av ≤ 1048576) (hg : 0 ≤ gap ∧ gap ≤ 1048576) (ht : ∀ i, i < n → okT (t i)) (hI : ∀ k, k < m → okI n (I k)) :
    sumF (fun i => s1G av t gap I n m i - lqF t gap I n m i) n ≤ frG av t gap I n m := by
  have hfr : 0 ≤ frG av t gap I n m := by unfold frG; omega
  have hgg := gr_good (m := m) hg.1 ht hI
  by_cases h : frG av t gap I n m < sumF (grG t gap I n m) n
  · rw [sum_congr n (g := shr (frG av t gap I n m) (grG t gap I n m) n) fun i hi => by rw [← s1_less hg.1 ht hI h hi]; omega]
    rcases (shr_parts (T := frG av t gap I n m) hgg).sum hgg with ⟨e, _⟩ | ⟨_, e⟩
    · omega
    · omega
  · rw [sum_congr n (g := grG t gap I n m) fun i hi => by rw [← s1_all hg.1 ht hI h hi]; omega]
    omega
theorem sum_part (z : Nat → Bool) (f : Nat → Int) (n : Nat) : sumF f n = sumF (fun i => if z i then f i else 0) n + sumF (fun i => if z i then 0 else f i) n := by
  rw [← sum_add]
  refine sum_congr n fun i _ => ?_
  cases z i <;> simp
theorem tr_fills (hn : 1 ≤ n) (hn2 : n ≤ 24) (ha : 0 ≤ av ∧ av ≤ 1048576) (hg : 0 ≤ gap ∧ gap ≤ 1048576) (ht : ∀ i, i < n → okT (t i)) (hI : ∀ k, k < m → okI n (I k)) (hf : ∃ i, i < n ∧ (t i).kd = 2) (hl : totG gap (lqF t gap I n m) n ≤ av) :
    sumF (trF av t gap I n m) n + gpT gap n = av := by
  have hS := s1_sum (m := m) ha hg ht hI
  have hfr : frG av t gap I n m = spcF av gap n - sumF (lqF t gap I n m) n := by
    unfold frG
    have := fr_tot (t := t) (gap := gap) (I := I) (n := n) (m := m) av
    omega
  have hsp : spcF av gap n = av - gpT gap n := by
    unfold spcF gpT
    rw [if_neg (by omega)]
  have hgp : 0 ≤ gpT gap n := Int.mul_nonneg hg.1 (by omega)
  obtain ⟨A, hA⟩ : ∃ A, A = sumF (fun i => if zF t i then s1G av t gap I n m i else 0) n := ⟨_, rfl⟩
  have hre : reG av t gap I n m = spcF av gap n - A := by rw [hA]; rfl
  have hA0 : 0 ≤ A := by
    rw [hA]
    refine sum_nonneg n fun i hi => ?_
    show 0 ≤ (if zF t i then s1G av t gap I n m i else 0)
    have := s1_bd (m := m) ha hg ht hI hi
    split <;> omega
  have hA1 : A ≤ sumF (fun i => if zF t i then lqF t gap I n m i else 0) n + frG av t gap I n m := by
    have e1 : A = sumF (fun i => (if zF t i then lqF t gap I n m i else 0) + (if zF t i then s1G av t gap I n m i - lqF t gap I n m i else 0)) n := by
      rw [hA]
      refine sum_congr n fun i _ => ?_
      cases zF t i <;> simp <;> omega
    rw [sum_add] at e1
    have e2 := sum_le (f := fun i => if zF t i then s1G av t gap I n m i - lqF t gap I n m i else 0) (h := fun i => s1G av t gap I n m i - lqF t gap I n m i) n fun i hi => by
      have := s1_ge (av := av) (m := m) hg ht hI hi
      show (if zF t i then s1G av t gap I n m i - lqF t gap I n m i else 0) ≤ s1G av t gap I n m i - lqF t gap I n m i
      split <;> omega
    omega
  have hp := sum_part (zF t) (lqF t gap I n m) n
  have hnat : sumF (natF (fxR t gap I n m)) (rk (zF t) n) = sumF (fun i => if zF t i then 0 else lqF t gap I n m i) n := by
    rw [← sum_ranks (z := zF t) (q := natF (fxR t gap I n m)) n]
    refine sum_congr n fun i hi => ?_
    cases hz : zF t i with
    | true => rfl
    | false =>
      have b := lq_tight (m := m) hg.1 ht hI hi
      unfold natF
      rw [fxR_at hg ht hI hi hz]
      show clampS 0 (lqF t gap I n m i) 1048576 = lqF t gap I n m i
      unfold clampS
      split
      · rfl
      · split <;> omega
  have hnn : 0 ≤ sumF (fun i => if zF t i then 0 else lqF t gap I n m i) n := by
    refine sum_nonneg n fun i hi => ?_
    show 0 ≤ (if zF t i then 0 else lqF t gap I n m i)
    have b := lq_tight (m := m) hg.1 ht hI hi
    split <;> omega
  have hR0 : 0 ≤ reG av t gap I n m := by omega
  have hmx : max 0 (reG av t gap I n m) = reG av t gap I n m := by omega
  obtain ⟨cn, hcn⟩ : ∃ cn, cn = rk (zF t) n := ⟨_, rfl⟩
  have hspR : spcF (reG av t gap I n m) 0 cn = reG av t gap I n m := by
    unfold spcF
    split
    · rfl
    · rw [Int.zero_mul]; omega
  have hgr : growB (reG av t gap I n m) (fxR t gap I n m) cn = true := decide_eq_true (by rw [hcn, hnat]; omega)
  have hok : ∀ k, k < cn → okF (fxR t gap I n m k) ∧ (fxR t gap I n m k).mx = 1048576 := fun k hk => by
    obtain ⟨h1, h2, h3⟩ := selN_at (z := zF t) (n := n) (k := k) (by omega)
    have e := fxR_at (m := m) hg ht hI h1 h2
    rw [h3] at e
    have b := lq_tight (m := m) hg.1 ht hI h1
    have hk2 : (t (selN (zF t) n k)).kd = 2 := by
      have h2' : (!decide ((t (selN (zF t) n k)).kd = 2)) = false := h2
      simpa using h2'
    have c := (ht _ h1).2.2.2 hk2
    rw [e]
    refine ⟨⟨by dsimp only; omega, by dsimp only; omega, by dsimp only; omega, by dsimp only; omega, by dsimp only; omega⟩, rfl⟩
  have hfill : sumF (resF (max 0 (reG av t gap I n m)) 0 (fxR t gap I n m) cn) cn = reG av t gap I n m := by
    have := fills (sp := reG av t gap I n m) (x := fxR t gap I n m) (n := cn) (fun k hk => (hok k hk).1) (fun k hk => (hok k hk).2) (by omega) (by rw [hcn, hnat]; omega) (by
      obtain ⟨i, hi, hk⟩ := hf
      have hz : zF t i = false := by unfold zF; rw [decide_eq_true hk]; rfl
      refine ⟨rk (zF t) i, by rw [hcn]; exact rk_lt hi hz, ?_⟩
      rw [fxR_at hg ht hI hi hz]
      exact ((ht i hi).2.2.2 hk).1)
    refine Eq.trans (sum_congr cn fun k _ => ?_) this
    unfold resF
    rw [hmx, hspR, hgr]
  have htr : sumF (trF av t gap I n m) n = A + sumF (resF (max 0 (reG av t gap I n m)) 0 (fxR t gap I n m) cn) cn := by
    rw [sum_part (zF t) (trF av t gap I n m) n, hA, hcn, ← sum_ranks (z := zF t) (q := resF (max 0 (reG av t gap I n m)) 0 (fxR t gap I n m) (rk (zF t) n)) n]
    congr 1
    · refine sum_congr n fun i _ => ?_
      cases hz : zF t i with
      | true => rw [if_pos rfl, if_pos rfl]; unfold trF; rw [if_pos hz]
      | false => rfl
    · refine sum_congr n fun i _ => ?_
      cases hz : zF t i with
      | true => rfl
      | false => rw [if_neg Bool.false_ne_true, if_neg Bool.false_ne_true]; unfold trF; rw [if_neg (by rw [hz]; exact Bool.false_ne_true)]; rfl
  omega
theorem tr_bd (ha : 0 ≤ av ∧ av ≤ 1048576) (hn2 : n ≤ 24) (hm : m ≤ 100) (hg : 0 ≤ gap ∧ gap ≤ 1048576) (ht : ∀ i, i < n → okT (t i)) (hI : ∀ k, k < m → okI n (I k)) {i : Nat} (hi : i < n) : 0 ≤ trF av t gap I n m i ∧ trF av t gap I n m i ≤ 4194304 := by
  have h0 := tr_ge (av := av) (m := m) hg ht hI hi
  have h1 := lq_tight (m := m) hg.1 ht hI hi
  refine ⟨by omega, ?_⟩
  cases hz : zF t i with
  | true => unfold trF; rw [if_pos hz]; exact (s1_bd ha hg ht hI hi).2
  | false =>
    unfold trF
    rw [if_neg (by rw [hz]; exact Bool.false_ne_true)]
    show resF (max 0 (reG av t gap I n m)) 0 (fxR t gap I n m) (rk (zF t) n) (rk (zF t) i) ≤ 4194304
    unfold resF
    have := it_ok (g := growB (spcF (max 0 (reG av t gap I n m)) 0 (rk (zF t) n)) (fxR t gap I n m) (rk (zF t) n)) (sp := spcF (max 0 (reG av t gap I n m)) 0 (rk (zF t) n)) (x := fxR t gap I n m) (n := rk (zF t) n) (fun k hk => fx_ok hm ⟨by omega, hg, ht, hI⟩ hk) (rk (zF t) n) (rk_lt hi hz)
    omega
end
end Go.Proofs.Ytdoenkngmgclmaa
