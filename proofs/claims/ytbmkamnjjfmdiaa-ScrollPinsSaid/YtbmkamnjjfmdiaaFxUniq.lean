/- Plain facts on parts by the largest remainders: their sum, their distance from the exact proportion, their order; no premise on the program. -/
import Derived.Test.YtbmkamnjjfmdiaaFxShare
namespace Go.Proofs.Ytbmkamnjjfmdiaa

theorem sum_congr {f g : Nat → Int} : ∀ (n : Nat), (∀ k, k < n → f k = g k) → sumF f n = sumF g n
  | 0, _ => rfl
  | n + 1, h => by
    have := sum_congr n (fun k hk => h k (by omega))
    simp only [sumF, this, h n (by omega)]
theorem sum_add (f g : Nat → Int) : ∀ n, sumF (fun k => f k + g k) n = sumF f n + sumF g n
  | 0 => rfl
  | n + 1 => by simp only [sumF, sum_add f g n]; omega
theorem sum_zero : ∀ n, sumF (fun _ => (0 : Int)) n = 0
  | 0 => rfl
  | n + 1 => by simp only [sumF, sum_zero n]; omega
theorem sum_swap (a : Nat → Nat → Int) (n : Nat) : ∀ m, sumF (fun k => sumF (fun x => a k x) n) m = sumF (fun x => sumF (fun k => a k x) m) n
  | 0 => by simp only [sumF]; exact (sum_zero n).symm
  | m + 1 => by
    have := sum_swap a n m
    simp only [sumF, this]
    rw [← sum_add]
theorem sum_at (c : Nat) (v : Int) : ∀ n, sumF (fun k => if k = c then v else 0) n = if c < n then v else 0
  | 0 => by simp [sumF]
  | n + 1 => by
    simp only [sumF, sum_at c v n]
    by_cases e : n = c
    · subst e; simp
    · by_cases h : c < n
      · rw [if_pos h, if_neg e, if_pos (by omega)]; omega
      · rw [if_neg h, if_neg e, if_neg (by omega)]; rfl
/-- A sum does not change when its terms are taken in another order. -/
theorem sum_perm {h g : Nat → Nat} {n : Nat} (h1 : ∀ k, g (h k) = k) (h2 : ∀ k, h (g k) = k) (hh : ∀ k, k < n → h k < n) (hg : ∀ k, k < n → g k < n) (f : Nat → Int) : sumF (fun k => f (h k)) n = sumF f n := by
  have e1 : sumF (fun k => f (h k)) n = sumF (fun k => sumF (fun x => if x = h k then f x else 0) n) n := sum_congr n fun k hk => by
    rw [sum_congr n (g := fun x => if x = h k then f (h k) else 0) (fun x _ => by by_cases e : x = h k <;> simp [e])]
    rw [sum_at, if_pos (hh k hk)]
  rw [e1, sum_swap]
  refine sum_congr n fun x hx => ?_
  rw [sum_congr n (g := fun k => if k = g x then f x else 0) (fun k _ => by
    by_cases e : k = g x
    · subst e; simp [h2]
    · have : ¬ x = h k := fun e' => e (by rw [e', h1])
      simp [e, this])]
  rw [sum_at, if_pos (hg x hx)]
theorem sum_below (L : Nat) : ∀ n, sumF (fun k => if k < L then (1 : Int) else 0) n = if L ≤ n then (L : Int) else n
  | 0 => by
    by_cases h : L ≤ 0
    · rw [if_pos h]; simp [sumF]; omega
    · rw [if_neg h]; rfl
  | n + 1 => by
    simp only [sumF, sum_below L n]
    by_cases h : L ≤ n
    · rw [if_pos h, if_neg (by omega), if_pos (by omega)]; omega
    · rw [if_neg h, if_pos (by omega)]
      by_cases h' : L ≤ n + 1
      · rw [if_pos h']; omega
      · rw [if_neg h']; omega

/-- The order in which the remainders stand, and its inverse. -/
structure Order (r : Nat → Int) (n : Nat) (h g : Nat → Nat) : Prop where
  gh : ∀ k, g (h k) = k
  hg : ∀ k, h (g k) = k
  out : ∀ k, n ≤ k → h k = k
  ord : ∀ i j, i < j → j < n → before r (h i) (h j)
section
variable {r : Nat → Int} {n : Nat} {h g : Nat → Nat}
theorem Order.h_lt (O : Order r n h g) {k : Nat} (hk : k < n) : h k < n := (into (a := 0) O.gh (fun k hk => O.out k (by omega)) (Nat.zero_le _) hk).2
theorem Order.g_lt (O : Order r n h g) {k : Nat} (hk : k < n) : g k < n := by
  rcases Nat.lt_or_ge (g k) n with hl | hl
  · exact hl
  · have := O.out (g k) hl
    rw [O.hg] at this
    omega
theorem Order.rank (O : Order r n h g) {x y : Nat} (hx : x < n) (hb : before r x y) : g x < g y := by
  rcases Nat.lt_trichotomy (g x) (g y) with hl | hl | hl
  · exact hl
  · have : x = y := by have := congrArg h hl; rwa [O.hg, O.hg] at this
    subst this
    unfold before at hb; omega
  · have := O.ord (g y) (g x) hl (O.g_lt hx)
    rw [O.hg, O.hg] at this
    unfold before at hb this; omega
end

section
variable {total : Int} {f : Nat → Int} {n : Nat} {h g : Nat → Nat}
/-- What is handed out besides the quotients, times the sum of the weights, is the sum of the remainders. -/
theorem left_mul (total S : Int) (f : Nat → Int) (n : Nat) (hS : S = sumF f n) : S * (total - sumF (quoF total S f) n) = sumF (remF total S f) n := by
  have e := sum_quo_rem total S f n
  rw [← hS] at e
  rw [Int.mul_sub, Int.mul_comm S total]
  omega
theorem sum_le_mul {f : Nat → Int} {B : Int} : ∀ (n : Nat), (∀ k, k < n → f k ≤ B) → sumF f n ≤ n * B
  | 0, _ => by simp [sumF]
  | n + 1, h => by
    have ih := sum_le_mul n (fun k hk => h k (by omega))
    have := h n (by omega)
    have e : ((n + 1 : Nat) : Int) * B = n * B + B := by rw [Int.natCast_succ, Int.add_mul, Int.one_mul]
    simp only [sumF]
    omega
theorem sum_tail {f : Nat → Int} (m : Nat) : ∀ (n : Nat), m ≤ n → (∀ k, m ≤ k → k < n → f k = 0) → sumF f n = sumF f m
  | 0, hm, _ => by rw [Nat.le_zero.mp hm]
  | n + 1, hm, h => by
    by_cases e : m = n + 1
    · rw [e]
    · simp only [sumF, sum_tail m n (by omega) (fun k h1 h2 => h k h1 (by omega)), h n (by omega) (by omega)]; omega
/-- Whoever gets one more has a remainder. -/
theorem rem_pos {S : Int} (hS : S = sumF f n) (hp : 0 < S) (O : Order (remF total S f) n h g) {i : Nat} (hi : i < n) (hl : (g i : Int) < total - sumF (quoF total S f) n) : 0 < remF total S f i := by
  have rb := fun k => rem_bound total S f k hp
  rcases Int.lt_or_le 0 (remF total S f i) with h0 | h0
  · exact h0
  · exfalso
    have hz : remF total S f i = 0 := by have := (rb i).1; omega
    have e := left_mul total S f n hS
    have p := sum_perm O.gh O.hg (fun k hk => O.h_lt hk) (fun k hk => O.g_lt hk) (remF total S f)
    have t := sum_tail (f := fun k => remF total S f (h k)) (g i) n (Nat.le_of_lt (O.g_lt hi)) (fun k h1 h2 => by
      have b := (rb (h k)).1
      rcases Nat.eq_or_lt_of_le h1 with rfl | h1
      · rw [O.hg]; exact hz
      · have := O.ord (g i) k h1 h2
        rw [O.hg] at this
        unfold before at this
        omega)
    have u := sum_le_mul (f := fun k => remF total S f (h k)) (B := S) (g i) (fun k _ => Int.le_of_lt (rb (h k)).2)
    rw [p] at t
    rw [t] at e
    have v : S * ((g i : Int) + 1) ≤ S * (total - sumF (quoF total S f) n) := Int.mul_le_mul_of_nonneg_left (by omega) (by omega)
    rw [Int.mul_add, Int.mul_one, Int.mul_comm S (g i : Int)] at v
    omega

theorem part_bounds {S : Int} (h0 : 0 ≤ total) (hf : Good f n) (hS : S = sumF f n) (hp : 0 < S) (O : Order (remF total S f) n h g) {i : Nat} (hi : i < n) :
    0 ≤ partF total S (total - sumF (quoF total S f) n) f g i ∧ partF total S (total - sumF (quoF total S f) n) f g i ≤ total ∧ (f i = 0 → partF total S (total - sumF (quoF total S f) n) f g i = 0) ∧
    partF total S (total - sumF (quoF total S f) n) f g i * S - total * f i < S ∧ -S < partF total S (total - sumF (quoF total S f) n) f g i * S - total * f i := by
  have rb := rem_bound total S f i hp
  have hfi : f i ≤ S := by rw [hS]; exact le_sum n (fun k hk => (hf k hk).1) i hi
  have qb := quo_bound (total := total) (S := S) (f := f) h0 (hf i hi).1 hfi hp
  have qr := quo_rem total S f i
  have tS : total * f i ≤ total * S := Int.mul_le_mul_of_nonneg_left hfi h0
  have rp := rem_pos (total := total) hS hp O hi
  unfold partF
  by_cases hl : (g i : Int) < total - sumF (quoF total S f) n
  · have rp := rp hl
    rw [if_pos hl]
    generalize quoF total S f i = q at *
    generalize remF total S f i = r at *
    have e : (q + 1) * S = S * q + S := by rw [Int.add_mul, Int.one_mul, Int.mul_comm]
    refine ⟨by omega, ?_, fun hz => ?_, by omega, by omega⟩
    · rcases Int.lt_or_le q total with hq | hq
      · omega
      · have : q = total := by omega
        subst this
        rw [Int.mul_comm q S] at tS
        omega
    · rw [hz, Int.mul_zero] at qr
      have : 0 ≤ S * q := Int.mul_nonneg (by omega) qb.1
      omega
  · rw [if_neg hl, Int.add_zero]
    generalize quoF total S f i = q at *
    generalize remF total S f i = r at *
    have e : q * S = S * q := Int.mul_comm _ _
    refine ⟨qb.1, qb.2, fun hz => ?_, by omega, by omega⟩
    rw [hz, Int.mul_zero] at qr
    have h1 : 0 ≤ S * q := Int.mul_nonneg (by omega) qb.1
    rcases Int.lt_or_le 0 q with hq | hq
    · have : S * 1 ≤ S * q := Int.mul_le_mul_of_nonneg_left (by omega) (by omega)
      omega
    · omega
theorem part_sum {S : Int} (hf : Good f n) (hS : S = sumF f n) (hp : 0 < S) (O : Order (remF total S f) n h g) : sumF (partF total S (total - sumF (quoF total S f) n) f g) n = total := by
  have lb := left_bound (total := total) hf (by rw [← hS]; exact hp)
  rw [← hS] at lb
  obtain ⟨L, hL⟩ : ∃ L : Nat, (L : Int) = total - sumF (quoF total S f) n := ⟨(total - sumF (quoF total S f) n).toNat, by omega⟩
  have e : sumF (partF total S (total - sumF (quoF total S f) n) f g) n = sumF (quoF total S f) n + sumF (fun i => (fun k => if k < L then (1 : Int) else 0) (g i)) n := by
    rw [← sum_add]
    refine sum_congr n fun i _ => ?_
    unfold partF
    congr 1
    show _ = if g i < L then (1 : Int) else 0
    by_cases l : g i < L
    · rw [if_pos (by omega), if_pos l]
    · rw [if_neg (by omega), if_neg l]
  rw [e, sum_perm O.hg O.gh (fun k hk => O.g_lt hk) (fun k hk => O.h_lt hk) (fun k => if k < L then (1 : Int) else 0), sum_below, if_pos (by omega)]
  omega
/-- A greater weight gets no smaller part; of equal weights the earlier one gets none. -/
theorem part_order {S : Int} (h0 : 0 ≤ total) (hp : 0 < S) (O : Order (remF total S f) n h g) {i k : Nat} (hi : i < n) (hk : k < i) (hz : total = 0 → total - sumF (quoF total S f) n = 0) :
    (f i ≤ f k → partF total S (total - sumF (quoF total S f) n) f g i ≤ partF total S (total - sumF (quoF total S f) n) f g k) ∧
    (f k < f i → partF total S (total - sumF (quoF total S f) n) f g k ≤ partF total S (total - sumF (quoF total S f) n) f g i) := by
  have ri := rem_bound total S f i hp
  have rk := rem_bound total S f k hp
  have qi := quo_rem total S f i
  have qk := quo_rem total S f k
  have b1 : before (remF total S f) k i → g k < g i := O.rank (by omega)
  have b2 : before (remF total S f) i k → g i < g k := O.rank hi
  unfold before at b1 b2
  unfold partF
  generalize total - sumF (quoF total S f) n = L at *
  generalize remF total S f i = r1 at *
  generalize remF total S f k = r2 at *
  generalize quoF total S f i = q1 at *
  generalize quoF total S f k = q2 at *
  -- quotients that differ are a whole sum apart
  have far : ∀ x y : Int, x < y → S * x + S ≤ S * y := fun x y hxy => by
    have : S * (x + 1) ≤ S * y := Int.mul_le_mul_of_nonneg_left (by omega) (by omega)
    rwa [Int.mul_add, Int.mul_one] at this
  constructor
  · intro hle
    have tm : total * f i ≤ total * f k := Int.mul_le_mul_of_nonneg_left hle h0
    rcases Int.lt_trichotomy q1 q2 with hq | hq | hq
    · split <;> split <;> omega
    · subst hq
      have : g k < g i := b1 (by omega)
      split <;> split <;> omega
    · have := far _ _ hq; omega
  · intro hlt
    have tm : total * f k ≤ total * f i := Int.mul_le_mul_of_nonneg_left (Int.le_of_lt hlt) h0
    rcases Int.lt_trichotomy q2 q1 with hq | hq | hq
    · split <;> split <;> omega
    · subst hq
      by_cases hr : r1 = r2
      · have e : total * f i = total * f k := by omega
        have : total = 0 := by
          rcases Int.lt_or_le 0 total with ht | ht
          · have := Int.mul_lt_mul_of_pos_left hlt ht; omega
          · omega
        have := hz this
        subst this
        split <;> split <;> omega
      · have : g i < g k := b2 (by omega)
        split <;> split <;> omega
    · have := far _ _ hq; omega
end
end Go.Proofs.Ytbmkamnjjfmdiaa
/- Share of package fixed by one contract for its errors and one for its parts, and what the parts are; the weights are a slice of readable integers. -/
namespace Go.Proofs.Ytbmkamnjjfmdiaa
open Go.RowKit

/-- The parts of a total by the weights. -/
def Parts (total : Int) (f : Nat → Int) (n : Nat) (P : Nat → Int) : Prop :=
  sumF f n = 0 ∧ (∀ i, i < n → P i = 0) ∨ 0 < sumF f n ∧ ∃ h g : Nat → Nat, Order (remF total (sumF f n) f) n h g ∧ ∀ i, i < n → P i = partF total (sumF f n) (total - sumF (quoF total (sumF f n) f) n) f g i
theorem shared_parts {total : Int} {f : Nat → Int} {n : Nat} {w : World} {e : Ending} {w' : World} (h : Shared total f n w e w') :
    e = .returned (.tuple #[.slice (some ⟨w.heap.size, 0, none⟩) n n, .int .i64 0]) ∧ Below w.heap.size w w' ∧ ∃ P, Parts total f n P ∧ IRow w' w.heap.size n P := by
  obtain ⟨P, h1, h2, h3, h4⟩ := h
  refine ⟨h1, h2, P, ?_, h3⟩
  rcases h4 with h4 | ⟨h4, h, g, g1, g2, g3, g4, g5⟩
  · exact Or.inl h4
  · exact Or.inr ⟨h4, h, g, ⟨g1, g2, g3, g4⟩, g5⟩
theorem quo_zero (S : Int) (f : Nat → Int) (n : Nat) : (0 : Int) - sumF (quoF 0 S f) n = 0 := by
  rw [sum_congr n (g := fun _ => 0) (fun k _ => by unfold quoF; simp), sum_zero]; rfl
section
variable {total : Int} {f P : Nat → Int} {n : Nat}
theorem Parts.order (h : Parts total f n P) (h0 : 0 ≤ total) {i k : Nat} (hi : i < n) (hk : k < i) : (f i ≤ f k → P i ≤ P k) ∧ (f k < f i → P k ≤ P i) := by
  rcases h with ⟨_, h⟩ | ⟨hp, a, b, O, h⟩
  · rw [h i hi, h k (by omega)]; exact ⟨fun _ => Int.le_refl _, fun _ => Int.le_refl _⟩
  · rw [h i hi, h k (by omega)]
    exact part_order h0 hp O hi hk (fun hz => by subst hz; exact quo_zero _ _ _)
theorem Parts.bounds (h : Parts total f n P) (h0 : 0 ≤ total) (hf : Good f n) {i : Nat} (hi : i < n) :
    0 ≤ P i ∧ P i ≤ total ∧ (f i = 0 → P i = 0) ∧ (0 < sumF f n → P i * sumF f n - total * f i < sumF f n ∧ -sumF f n < P i * sumF f n - total * f i) := by
  rcases h with ⟨hz, h⟩ | ⟨hp, a, b, O, h⟩
  · rw [h i hi]; exact ⟨Int.le_refl _, h0, fun _ => rfl, fun hp => by omega⟩
  · rw [h i hi]
    obtain ⟨b1, b2, b3, b4, b5⟩ := part_bounds h0 hf rfl hp O hi
    exact ⟨b1, b2, b3, fun _ => ⟨b4, b5⟩⟩
theorem Parts.sum (h : Parts total f n P) (hf : Good f n) : (sumF f n = 0 ∧ sumF P n = 0) ∨ (0 < sumF f n ∧ sumF P n = total) := by
  rcases h with ⟨hz, h⟩ | ⟨hp, a, b, O, h⟩
  · exact Or.inl ⟨hz, by rw [sum_congr n (g := fun _ => 0) h, sum_zero]⟩
  · exact Or.inr ⟨hp, by rw [sum_congr n h]; exact part_sum hf rfl hp O⟩
end

/-- All arguments are in range. -/
def InShare (total : Int) (f : Nat → Int) (n : Nat) : Prop := n ≤ 100 ∧ 0 ≤ total ∧ total ≤ 1073741824 ∧ Good f n
end Go.Proofs.Ytbmkamnjjfmdiaa
/- Plain facts: the order of remainders exists and is unique, so the parts of a total are determined; the first greatest remainder that is left is the next in that order. No premise on the program. -/
namespace Go.Proofs.Ytbmkamnjjfmdiaa
open Go.Sort
section
variable {r : Nat → Int} {n : Nat} {h g h' g' : Nat → Nat}
theorem Order.iff (O : Order r n h g) {x y : Nat} (hx : x < n) (hy : y < n) : before r x y ↔ g x < g y := by
  constructor
  · exact O.rank hx
  · intro hl
    have := O.ord (g x) (g y) hl (O.g_lt hy)
    rwa [O.hg, O.hg] at this
instance (r : Nat → Int) (x y : Nat) : Decidable (before r x y) := by unfold before; exact inferInstance
theorem Order.count (O : Order r n h g) {x : Nat} (hx : x < n) : (g x : Int) = sumF (fun y => if before r y x then (1 : Int) else 0) n := by
  have e : sumF (fun y => if before r y x then (1 : Int) else 0) n = sumF (fun y => (fun k => if k < g x then (1 : Int) else 0) (g y)) n := by
    refine sum_congr n fun y hy => ?_
    show _ = if g y < g x then (1 : Int) else 0
    by_cases hb : before r y x
    · rw [if_pos hb, if_pos ((O.iff hy hx).mp hb)]
    · rw [if_neg hb, if_neg (fun hl => hb ((O.iff hy hx).mpr hl))]
  rw [e, sum_perm O.hg O.gh (fun k hk => O.g_lt hk) (fun k hk => O.h_lt hk) (fun k => if k < g x then (1 : Int) else 0), sum_below, if_pos (Nat.le_of_lt (O.g_lt hx))]
theorem Order.unique (O : Order r n h g) (O' : Order r n h' g') {x : Nat} (hx : x < n) : g x = g' x := by
  have a := O.count hx
  have b := O'.count hx
  omega
end
theorem order_exists (r : Nat → Int) (m : Nat) : ∃ h g, Order r (m + 1) h g := by
  have hs := ins_sorts (finerF m r) (Nat.zero_le (m + 1)) (by rw [size_idF]; exact Nat.le_refl _) (invF m r)
  obtain ⟨h, ⟨g, g1, g2, g3, g4⟩, _⟩ := ranked_of m r hs.1 hs.2
  exact ⟨h, g, g1, g2, g3, g4⟩
theorem Parts.unique {total : Int} {f P Q : Nat → Int} {n : Nat} (hp : Parts total f n P) (hq : Parts total f n Q) {i : Nat} (hi : i < n) : P i = Q i := by
  rcases hp with ⟨z, hp⟩ | ⟨z, h, g, O, hp⟩
  · rcases hq with ⟨_, hq⟩ | ⟨z', _⟩
    · rw [hp i hi, hq i hi]
    · omega
  · rcases hq with ⟨z', _⟩ | ⟨_, h', g', O', hq⟩
    · omega
    · rw [hp i hi, hq i hi]
      unfold partF
      rw [O.unique O' hi]

/-- best is the first of the greatest among the first i. -/
def Best (x : Nat → Int) (best i : Nat) : Prop := best < i ∧ (∀ j, j < i → x j ≤ x best) ∧ ∀ j, j < best → x j < x best
theorem Best.start (x : Nat → Int) : Best x 0 1 := by
  refine ⟨by omega, fun j hj => ?_, fun j hj => by omega⟩
  obtain rfl : j = 0 := by omega
  exact Int.le_refl _
theorem Best.take {x : Nat → Int} {best i : Nat} (h : Best x best i) (hx : x best < x i) : Best x i (i + 1) :=
  ⟨by omega, fun j hj => by
    by_cases e : j = i
    · subst e; exact Int.le_refl _
    · have := h.2.1 j (by omega); omega, fun j hj => by have := h.2.1 j hj; omega⟩
theorem Best.keep {x : Nat → Int} {best i : Nat} (h : Best x best i) (hx : ¬ x best < x i) : Best x best (i + 1) :=
  ⟨by have := h.1; omega, fun j hj => by
    by_cases e : j = i
    · subst e; omega
    · exact h.2.1 j (by omega), h.2.2⟩
/-- What is left of the remainders behind t rounds. -/
def leftF (r : Nat → Int) (g : Nat → Nat) (t j : Nat) : Int := if g j < t then -1 else r j
theorem Best.next {r : Nat → Int} {n : Nat} {h g : Nat → Nat} (O : Order r n h g) (hr : ∀ j, j < n → 0 ≤ r j) {t best : Nat} (ht : t < n) (hB : Best (leftF r g t) best n) : best = h t := by
  obtain ⟨b1, b2, b3⟩ := hB
  have hn := O.h_lt ht
  have e : leftF r g t (h t) = r (h t) := by unfold leftF; rw [O.gh, if_neg (Nat.lt_irrefl _)]
  have l := b2 (h t) hn
  have r0 := hr (h t) hn
  rw [e] at l
  by_cases hg : g best < t
  · have : leftF r g t best = -1 := by unfold leftF; rw [if_pos hg]
    omega
  · have eb : leftF r g t best = r best := by unfold leftF; rw [if_neg hg]
    rw [eb] at l
    rcases Nat.eq_or_lt_of_le (Nat.le_of_not_lt hg) with hg' | hg'
    · rw [hg', O.hg]
    · have hb := (O.iff hn b1).mpr (by rw [O.gh]; exact hg')
      unfold before at hb
      have : h t < best := by omega
      have := b3 (h t) this
      rw [e, eb] at this
      omega
end Go.Proofs.Ytbmkamnjjfmdiaa
