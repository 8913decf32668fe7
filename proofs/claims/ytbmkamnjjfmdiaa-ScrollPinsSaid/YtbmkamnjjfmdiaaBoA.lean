/- How the sizes of elements in a row are found, in plain terms: the packed weights, the parts, a round of the freezing, and what the rounds keep; no premise on the program. -/
import Derived.Test.YtbmkamnjjfmdiaaFxUniq
import Derived.Test.YtbmkamnjjfmdiaaFxRefs2
namespace Go.Proofs.Ytbmkamnjjfmdiaa
open Go.RowKit Go.Sort
set_option linter.unusedVariables false
set_option linter.unusedSimpArgs false

structure Fx where
  (ba mn mx gr sh : Int)
/-- The numbers of an element are in range. -/
def okF (x : Fx) : Prop := (0 ≤ x.ba ∧ x.ba ≤ 1048576) ∧ (0 ≤ x.mn ∧ x.mn ≤ 1048576) ∧ (0 ≤ x.mx ∧ x.mx ≤ 1048576) ∧ (0 ≤ x.gr ∧ x.gr ≤ 1000) ∧ (0 ≤ x.sh ∧ x.sh ≤ 1000)
def clF (x : Fx) (v : Int) : Int := clampS v x.mn x.mx
def natF (x : Nat → Fx) (i : Nat) : Int := clF (x i) (x i).ba
def spcF (av gap : Int) (n : Nat) : Int := if n = 0 then av else av - gap * ((n : Int) - 1)
def wtF (g : Bool) (x : Nat → Fx) (i : Nat) : Int := if g then (x i).gr else (x i).sh * (x i).ba
def fr0 (g : Bool) (x : Nat → Fx) (i : Nat) : Bool := decide (wtF g x i = 0) || (g && decide (natF x i < (x i).ba)) || (!g && decide ((x i).ba < natF x i))
/-- How many of the first are left. -/
def rk (z : Nat → Bool) : Nat → Nat
  | 0 => 0
  | n + 1 => rk z n + if z n then 0 else 1
/-- The numbers of those that are left, one behind the other. -/
def pack (z : Nat → Bool) (a : Nat → Int) : Nat → Nat → Int
  | 0, _ => 0
  | n + 1, k => if z n then pack z a n k else if k = rk z n then a n else pack z a n k
theorem rk_le (z : Nat → Bool) : ∀ n, rk z n ≤ n
  | 0 => Nat.le_refl _
  | n + 1 => by have := rk_le z n; simp only [rk]; split <;> omega
theorem rk_mono (z : Nat → Bool) {i : Nat} : ∀ {n : Nat}, i ≤ n → rk z i ≤ rk z n
  | 0, h => by rw [Nat.le_zero.mp h]; exact Nat.le_refl _
  | n + 1, h => by
    rcases Nat.lt_or_ge i (n + 1) with h1 | h1
    · have := rk_mono z (n := n) (Nat.le_of_lt_succ h1); simp only [rk]; omega
    · rw [show i = n + 1 by omega]; exact Nat.le_refl _
theorem rk_lt {z : Nat → Bool} {i n : Nat} (hi : i < n) (hz : z i = false) : rk z i < rk z n := by
  have := rk_mono z (i := i + 1) (n := n) hi
  simp only [rk, hz] at this
  simp at this
  omega
theorem rk_zero {z : Nat → Bool} {n : Nat} (h : rk z n = 0) {i : Nat} (hi : i < n) : z i = true := by
  cases hz : z i with
  | true => rfl
  | false => have := rk_lt hi hz; omega
theorem rk_all {z : Nat → Bool} : ∀ {n : Nat}, (∀ i, i < n → z i = true) → rk z n = 0
  | 0, _ => rfl
  | n + 1, h => by simp only [rk, h n (by omega), if_true, rk_all (n := n) fun i hi => h i (by omega)]
theorem rk_le_of {y z : Nat → Bool} : ∀ {n : Nat}, (∀ i, i < n → z i = true → y i = true) → rk y n ≤ rk z n
  | 0, _ => Nat.le_refl _
  | n + 1, h => by
    have h1 := rk_le_of (n := n) fun i hi => h i (by omega)
    have h2 := h n (by omega)
    simp only [rk]
    cases hz : z n with
    | false => split <;> simp <;> omega
    | true => rw [h2 hz]; simp; exact h1
theorem rk_lt_of {y z : Nat → Bool} : ∀ {n : Nat}, (∀ i, i < n → z i = true → y i = true) → (∃ i, i < n ∧ z i = false ∧ y i = true) → rk y n < rk z n
  | 0, _, h => by obtain ⟨i, hi, _⟩ := h; omega
  | n + 1, h, ⟨i, hi, hz, hy⟩ => by
    have h1 := rk_le_of (n := n) fun i hi => h i (by omega)
    have h2 := h n (by omega)
    simp only [rk]
    rcases Nat.lt_or_ge i n with hl | hl
    · have h3 := rk_lt_of (n := n) (fun i hi => h i (by omega)) ⟨i, hl, hz, hy⟩
      cases hzn : z n with
      | false => split <;> simp <;> omega
      | true => rw [h2 hzn]; simp; exact h3
    · have : i = n := by omega
      subst this
      rw [hz, hy]; simp; omega
theorem pack_at {z : Nat → Bool} {a : Nat → Int} : ∀ {n i : Nat}, i < n → z i = false → pack z a n (rk z i) = a i
  | n + 1, i, hi, hz => by
    simp only [pack]
    rcases Nat.lt_or_ge i n with h | h
    · have h1 := pack_at (a := a) h hz
      have h2 := rk_lt h hz
      split
      · exact h1
      · rw [if_neg (by omega)]; exact h1
    · have : i = n := by omega
      subst this
      rw [hz]; simp
/-- A fact on the numbers of all that are left. -/
theorem pack_all {z : Nat → Bool} {a : Nat → Int} {p : Int → Prop} : ∀ {n k : Nat}, (∀ i, i < n → z i = false → p (a i)) → k < rk z n → p (pack z a n k)
  | n + 1, k, h, hk => by
    simp only [pack]
    simp only [rk] at hk
    cases hz : z n with
    | true => rw [hz] at hk; simp at hk ⊢; exact pack_all (fun i hi => h i (by omega)) hk
    | false =>
      rw [hz] at hk; simp at hk ⊢
      split
      · exact h n (by omega) hz
      · exact pack_all (fun i hi => h i (by omega)) (by omega)
theorem sum_pack {z : Nat → Bool} {a : Nat → Int} : ∀ n, sumF (pack z a n) (rk z n) = sumF (fun i => if z i then 0 else a i) n
  | 0 => rfl
  | n + 1 => by
    have ih := sum_pack (z := z) (a := a) n
    simp only [rk, sumF]
    cases hz : z n with
    | true =>
      simp only [if_true, Nat.add_zero, Int.add_zero]
      rw [← ih]
      exact sum_congr _ fun k _ => by simp [pack, hz]
    | false =>
      simp only [Bool.false_eq_true, if_false, sumF]
      rw [← ih]
      have e : pack z a (n + 1) (rk z n) = a n := by simp [pack, hz]
      rw [e]
      congr 1
      refine sum_congr _ fun k hk => ?_
      simp only [pack, hz, Bool.false_eq_true, if_false]
      rw [if_neg (by omega)]
/-- A sum over those that are left, by their ranks. -/
theorem sum_ranks {z : Nat → Bool} {q : Nat → Int} : ∀ n, sumF (fun i => if z i then 0 else q (rk z i)) n = sumF q (rk z n)
  | 0 => rfl
  | n + 1 => by
    have ih := sum_ranks (z := z) (q := q) n
    simp only [rk, sumF, ih]
    cases hz : z n with
    | true => simp
    | false => simp [sumF]

/-- The parts of Share. -/
noncomputable def shr (T : Int) (f : Nat → Int) (n : Nat) : Nat → Int :=
  open Classical in if h : ∃ P, Parts T f n P then Classical.choose h else fun _ => 0
theorem shr_of {T : Int} {f P : Nat → Int} {n : Nat} (h : Parts T f n P) {i : Nat} (hi : i < n) : P i = shr T f n i := by
  have hx : ∃ P, Parts T f n P := ⟨P, h⟩
  unfold shr
  rw [dif_pos hx]
  exact h.unique (Classical.choose_spec hx) hi
theorem parts_exist (T : Int) (f : Nat → Int) (n : Nat) (hf : Good f n) : ∃ P, Parts T f n P := by
  have s0 := sum_nonneg n fun k hk => (hf k hk).1
  by_cases hz : sumF f n = 0
  · exact ⟨fun _ => 0, Or.inl ⟨hz, fun _ _ => rfl⟩⟩
  · cases n with
    | zero => exact absurd rfl hz
    | succ m =>
      obtain ⟨h, g, O⟩ := order_exists (remF T (sumF f (m + 1)) f) m
      exact ⟨_, Or.inr ⟨by omega, h, g, O, fun _ _ => rfl⟩⟩
theorem shr_parts {T : Int} {f : Nat → Int} {n : Nat} (hf : Good f n) : Parts T f n (shr T f n) := by
  have hx := parts_exist T f n hf
  unfold shr
  rw [dif_pos hx]
  exact Classical.choose_spec hx
theorem shr_bd {T : Int} {f : Nat → Int} {n : Nat} (hf : Good f n) (h0 : 0 ≤ T) {i : Nat} (hi : i < n) : 0 ≤ shr T f n i ∧ shr T f n i ≤ T := by
  have := (shr_parts (T := T) hf).bounds h0 hf hi
  exact ⟨this.1, this.2.1⟩

/-! ### A round -/
def sgF (g : Bool) : Int := if g then 1 else -1
def freF (sp : Int) (x : Nat → Fx) (n : Nat) (s : Nat → Int) (z : Nat → Bool) : Int := sp - sumF (fun i => if z i then s i else (x i).ba) n
noncomputable def totF (g : Bool) (sp : Int) (x : Nat → Fx) (n : Nat) (s : Nat → Int) (z : Nat → Bool) : Int := max 0 (sgF g * freF sp x n s z)
noncomputable def tgF (g : Bool) (sp : Int) (x : Nat → Fx) (n : Nat) (s : Nat → Int) (z : Nat → Bool) (i : Nat) : Int :=
  (x i).ba + sgF g * shr (totF g sp x n s z) (pack z (wtF g x) n) (rk z n) (rk z i)
noncomputable def vioF (g : Bool) (sp : Int) (x : Nat → Fx) (n : Nat) (s : Nat → Int) (z : Nat → Bool) : Int :=
  sumF (fun i => if z i then 0 else clF (x i) (tgF g sp x n s z i) - tgF g sp x n s z i) n
def hitB (v c t : Int) : Bool := decide (v = 0) || (decide (0 < v) && decide (t < c)) || (decide (v < 0) && decide (c < t))
noncomputable def stepF (g : Bool) (sp : Int) (x : Nat → Fx) (n : Nat) (s : Nat → Int) (z : Nat → Bool) (i : Nat) : Int × Bool :=
  if z i then (s i, true)
  else if hitB (vioF g sp x n s z) (clF (x i) (tgF g sp x n s z i)) (tgF g sp x n s z i) then (clF (x i) (tgF g sp x n s z i), true) else (s i, false)
noncomputable def itS (g : Bool) (sp : Int) (x : Nat → Fx) (n : Nat) : Nat → (Nat → Int) × (Nat → Bool)
  | 0 => (natF x, fr0 g x)
  | k + 1 => (fun i => (stepF g sp x n (itS g sp x n k).1 (itS g sp x n k).2 i).1, fun i => (stepF g sp x n (itS g sp x n k).1 (itS g sp x n k).2 i).2)
noncomputable def growB (sp : Int) (x : Nat → Fx) (n : Nat) : Bool := decide (sumF (natF x) n ≤ sp)
noncomputable def resF (av gap : Int) (x : Nat → Fx) (n : Nat) (i : Nat) : Int := (itS (growB (spcF av gap n) x n) (spcF av gap n) x n n).1 i

theorem hit_some {z : Nat → Bool} {c t : Nat → Int} : ∀ {n : Nat}, 0 < rk z n → ∃ i, i < n ∧ z i = false ∧ hitB (sumF (fun i => if z i then 0 else c i - t i) n) (c i) (t i) = true := by
  intro n h0
  have hex : ∀ {n : Nat}, 0 < rk z n → ∃ i, i < n ∧ z i = false := by
    intro n
    induction n with
    | zero => intro h; exact absurd h (by simp [rk])
    | succ n ih =>
      intro h
      cases hz : z n with
      | false => exact ⟨n, by omega, hz⟩
      | true => obtain ⟨i, h1, h2⟩ := ih (by simpa [rk, hz] using h); exact ⟨i, by omega, h2⟩
  have hpos : ∀ {n : Nat}, 0 < sumF (fun i => if z i then 0 else c i - t i) n → ∃ i, i < n ∧ z i = false ∧ t i < c i := by
    intro n
    induction n with
    | zero => intro h; exact absurd h (by simp [sumF])
    | succ n ih =>
      intro h
      by_cases hn : z n = false ∧ t n < c n
      · exact ⟨n, by omega, hn.1, hn.2⟩
      · obtain ⟨i, h1, h2⟩ := ih (by
          simp only [sumF] at h
          cases hz : z n with
          | true => rw [hz] at h; simp at h; exact h
          | false =>
            rw [hz] at h; simp at h
            have : ¬ t n < c n := fun hh => hn ⟨hz, hh⟩
            omega)
        exact ⟨i, by omega, h2⟩
  have hneg : ∀ {n : Nat}, sumF (fun i => if z i then 0 else c i - t i) n < 0 → ∃ i, i < n ∧ z i = false ∧ c i < t i := by
    intro n
    induction n with
    | zero => intro h; exact absurd h (by simp [sumF])
    | succ n ih =>
      intro h
      by_cases hn : z n = false ∧ c n < t n
      · exact ⟨n, by omega, hn.1, hn.2⟩
      · obtain ⟨i, h1, h2⟩ := ih (by
          simp only [sumF] at h
          cases hz : z n with
          | true => rw [hz] at h; simp at h; exact h
          | false =>
            rw [hz] at h; simp at h
            have : ¬ c n < t n := fun hh => hn ⟨hz, hh⟩
            omega)
        exact ⟨i, by omega, h2⟩
  rcases Int.lt_trichotomy (sumF (fun i => if z i then 0 else c i - t i) n) 0 with hv | hv | hv
  · obtain ⟨i, h1, h2, h3⟩ := hneg hv
    exact ⟨i, h1, h2, by simp [hitB, hv, h3]⟩
  · obtain ⟨i, h1, h2⟩ := hex h0
    exact ⟨i, h1, h2, by simp [hitB, hv]⟩
  · obtain ⟨i, h1, h2, h3⟩ := hpos hv
    exact ⟨i, h1, h2, by simp [hitB, hv, h3]⟩
section
variable {g : Bool} {sp : Int} {x : Nat → Fx} {n : Nat}
/-- Each round freezes one more at least. -/
theorem step_less {s : Nat → Int} {z : Nat → Bool} (h0 : 0 < rk z n) : rk (fun i => (stepF g sp x n s z i).2) n < rk z n := by
  obtain ⟨i, h1, h2, h3⟩ := hit_some (z := z) (c := fun i => clF (x i) (tgF g sp x n s z i)) (t := fun i => tgF g sp x n s z i) h0
  refine rk_lt_of (fun i _ hz => by simp [stepF, hz]) ⟨i, h1, h2, ?_⟩
  have h3' : hitB (vioF g sp x n s z) (clF (x i) (tgF g sp x n s z i)) (tgF g sp x n s z i) = true := h3
  simp [stepF, h2, h3']
theorem it_left : ∀ k, rk (itS g sp x n k).2 n + k ≤ n ∨ rk (itS g sp x n k).2 n = 0
  | 0 => by have := rk_le (itS g sp x n 0).2 n; omega
  | k + 1 => by
    rcases Nat.eq_zero_or_pos (rk (itS g sp x n k).2 n) with h | h
    · right
      exact rk_all fun i hi => by
        have := rk_zero h hi
        show (stepF g sp x n (itS g sp x n k).1 (itS g sp x n k).2 i).2 = true
        simp [stepF, this]
    · have h1 := it_left k
      have h2 := step_less (g := g) (sp := sp) (x := x) (n := n) (s := (itS g sp x n k).1) h
      have h3 : rk (itS g sp x n (k + 1)).2 n < rk (itS g sp x n k).2 n := h2
      omega
theorem it_done : rk (itS g sp x n n).2 n = 0 := by
  have := it_left (g := g) (sp := sp) (x := x) (n := n) n
  omega
/-- Where all are frozen, nothing changes any more. -/
theorem it_still {k : Nat} (h : rk (itS g sp x n k).2 n = 0) : ∀ m, ∀ i, i < n → (itS g sp x n (k + m)).1 i = (itS g sp x n k).1 i ∧ (itS g sp x n (k + m)).2 i = true
  | 0, i, hi => ⟨rfl, rk_zero h hi⟩
  | m + 1, i, hi => by
    have ih := it_still h m i hi
    show (stepF g sp x n (itS g sp x n (k + m)).1 (itS g sp x n (k + m)).2 i).1 = _ ∧ (stepF g sp x n (itS g sp x n (k + m)).1 (itS g sp x n (k + m)).2 i).2 = true
    simp [stepF, ih.2, ih.1]
theorem it_end {k : Nat} (h : rk (itS g sp x n k).2 n = 0) (hk : k ≤ n) {i : Nat} (hi : i < n) : (itS g sp x n k).1 i = (itS g sp x n n).1 i := by
  have := (it_still h (n - k) i hi).1
  rw [show k + (n - k) = n by omega] at this
  exact this.symm
theorem cl_bd (y : Fx) (v : Int) : (y.mn ≤ clF y v) ∧ (y.mn ≤ y.mx → clF y v ≤ y.mx) ∧ (y.mx < y.mn → clF y v = y.mn) := by
  unfold clF clampS
  refine ⟨?_, ?_, ?_⟩ <;> (repeat' split) <;> omega
/-- All sizes are clamped numbers. -/
theorem it_cl : ∀ (k i : Nat), ∃ u, (itS g sp x n k).1 i = clF (x i) u
  | 0, i => ⟨_, rfl⟩
  | k + 1, i => by
    obtain ⟨u, hu⟩ := it_cl k i
    show ∃ u, (stepF g sp x n (itS g sp x n k).1 (itS g sp x n k).2 i).1 = clF (x i) u
    unfold stepF
    split
    · exact ⟨u, hu⟩
    · split
      · exact ⟨_, rfl⟩
      · exact ⟨u, hu⟩
theorem it_ok (hx : ∀ i, i < n → okF (x i)) (k : Nat) {i : Nat} (hi : i < n) : 0 ≤ (itS g sp x n k).1 i ∧ (itS g sp x n k).1 i ≤ 1048576 := by
  obtain ⟨u, hu⟩ := it_cl (g := g) (sp := sp) (x := x) (n := n) k i
  obtain ⟨_, h2, h3, _⟩ := hx i hi
  have := cl_bd (x i) u
  rw [hu]
  by_cases h : (x i).mx < (x i).mn
  · have := this.2.2 h; omega
  · have := this.2.1 (by omega); omega
/-- An element that is frozen at first keeps its natural size. -/
theorem it_first {i : Nat} (h : fr0 g x i = true) : ∀ k, (itS g sp x n k).1 i = natF x i ∧ (itS g sp x n k).2 i = true
  | 0 => ⟨rfl, h⟩
  | k + 1 => by
    have ih := it_first h k
    show (stepF g sp x n (itS g sp x n k).1 (itS g sp x n k).2 i).1 = _ ∧ (stepF g sp x n (itS g sp x n k).1 (itS g sp x n k).2 i).2 = true
    simp [stepF, ih.2, ih.1]
theorem wt_bd {y : Nat → Fx} {i : Nat} (h : okF (y i)) : 0 ≤ wtF g y i ∧ wtF g y i ≤ 2147483648 := by
  obtain ⟨h1, _, _, h4, h5⟩ := h
  unfold wtF
  split
  · omega
  · have a := Int.mul_le_mul h5.2 h1.2 h1.1 (by omega)
    have b := Int.mul_nonneg h5.1 h1.1
    omega
theorem pack_good {z : Nat → Bool} (hx : ∀ i, i < n → okF (x i)) : Good (pack z (wtF g x) n) (rk z n) := fun k hk =>
  pack_all (p := fun v => 0 ≤ v ∧ v ≤ 2147483648) (fun i hi _ => wt_bd (hx i hi)) hk
theorem sum_sub (f h : Nat → Int) : ∀ n, sumF (fun i => f i - h i) n = sumF f n - sumF h n
  | 0 => rfl
  | n + 1 => by simp only [sumF, sum_sub f h n]; omega
theorem sum_le {f h : Nat → Int} : ∀ n, (∀ i, i < n → f i ≤ h i) → sumF f n ≤ sumF h n
  | 0, _ => Int.le_refl _
  | n + 1, hh => by have := sum_le n fun i hi => hh i (by omega); have := hh n (by omega); simp only [sumF]; omega
theorem fre_bd {s : Nat → Int} {z : Nat → Bool} (hx : ∀ i, i < n → okF (x i)) (hs : ∀ i, i < n → 0 ≤ s i ∧ s i ≤ 1048576) :
    sp - n * 1048576 ≤ freF sp x n s z ∧ freF sp x n s z ≤ sp := by
  have := sumF_bound (f := fun i => if z i then s i else (x i).ba) (B := 1048576) n fun i hi => by
    show 0 ≤ (if z i then s i else (x i).ba) ∧ (if z i then s i else (x i).ba) ≤ 1048576
    split
    · exact hs i hi
    · exact (hx i hi).1
  unfold freF
  omega
end
end Go.Proofs.Ytbmkamnjjfmdiaa
