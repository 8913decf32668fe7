/- What greatestFirst of package fixed returns: the indices, by descending element, equal elements by ascending index; the list is a row of at most 1048576 integers that the caller made. -/
import Derived.Test.YtbmkamnjjfmdiaaFxStable
import Derived.Test.YtbmkamnjjfmdiaaFxRefs2
namespace Go.Proofs.Ytbmkamnjjfmdiaa
open Go.Shelf Go.RowKit Go.Lib Go.Sort Go.Proofs

/-- What cmp.Compare returns. -/
def cmpI (x y : Int) : Int := if x < y then -1 else if y < x then 1 else 0
/-- i stands before j: its element is greater, or the two are equal and i is the smaller one. -/
def before (r : Nat → Int) (i j : Nat) : Prop := r j < r i ∨ (r i = r j ∧ i < j)
/-- f lists the numbers below n in the order of 'before'. -/
def Ranked (r : Nat → Int) (n : Nat) (f : Nat → Nat) : Prop :=
  ∃ g : Nat → Nat, (∀ k, g (f k) = k) ∧ (∀ k, f (g k) = k) ∧ (∀ k, n ≤ k → f k = k) ∧ ∀ p q, p < q → q < n → before r (f p) (f q)
theorem Ranked.lt {r : Nat → Int} {n : Nat} {f : Nat → Nat} (h : Ranked r n f) {k : Nat} (hk : k < n) : f k < n := by
  obtain ⟨g, h1, _, h3, _⟩ := h
  exact (into (a := 0) h1 (fun k hk => h3 k (by omega)) (Nat.zero_le _) hk).2

section
variable (m : Nat) (r : Nat → Int)
def encF : Fin (m + 1) → Value := fun x => .int .i64 (x.val : Int)
def cfF : Fin (m + 1) → Fin (m + 1) → Int := fun x y => cmpI (r y.val) (r x.val)
def lsF : Fin (m + 1) → Fin (m + 1) → Bool := fun x y => decide (r y.val < r x.val ∨ (r x.val = r y.val ∧ x.val < y.val))
def idF : Array (Fin (m + 1)) := Array.ofFn (n := m + 1) fun i => i
theorem ltF (x y : Fin (m + 1)) : ltOf (cfF m r) x y = decide (r y.val < r x.val) := by
  unfold ltOf cfF cmpI
  by_cases h : r y.val < r x.val
  · simp [h]
  · by_cases h' : r x.val < r y.val <;> simp [h, h']
theorem finerF : Finer (ltOf (cfF m r)) (lsF m r) where
  swo := by
    constructor
    · intro x; unfold lsF; simp
    · intro x y z h1 h2; unfold lsF at *; simp only [decide_eq_true_eq] at *; omega
    · intro x y z h1 h2; unfold lsF at *; simp only [decide_eq_false_iff_not] at *; omega
  sub x y h := by
    rw [ltF] at h; unfold lsF; simp only [decide_eq_true_eq] at *; omega
theorem idF_get {k : Nat} (h : k < m + 1) : (idF m)[k]! = ⟨k, h⟩ := by
  rw [getElem!_pos (idF m) k (by simpa [idF] using h)]; simp [idF]
theorem size_idF : (idF m).size = m + 1 := by simp [idF]
theorem invF : Inv (ltOf (cfF m r)) (lsF m r) 0 (m + 1) (idF m) := by
  intro p q _ hpq hq hl
  rw [idF_get m (show p < m + 1 by omega), idF_get m hq] at hl ⊢
  rw [ltF]; unfold lsF at hl; simp only [decide_eq_true_eq] at *; omega
theorem ranked_of {e : Array (Fin (m + 1))} (hP : PermI 0 (m + 1) (idF m) e) (hS : SortedIn (lsF m r) 0 (m + 1) e) :
    ∃ f, Ranked r (m + 1) f ∧ ∀ k, k < m + 1 → encF m e[k]! = .int .i64 (f k : Nat) := by
  obtain ⟨f, g, h1, h2, h3, rfl⟩ := hP
  have hf : ∀ k, k < m + 1 → f k < m + 1 := fun k hk => (into h1 h3 (Nat.zero_le _) hk).2
  have he : ∀ k, (hk : k < m + 1) → (pick (idF m) f)[k]! = ⟨f k, hf k hk⟩ := fun k hk => by
    rw [pick_get _ _ (by rw [size_idF]; exact hk), idF_get m (hf k hk)]
  refine ⟨f, ⟨g, h1, h2, fun k hk => h3 k (Or.inr hk), fun p q hpq hq => ?_⟩, fun k hk => by rw [he k hk]; rfl⟩
  have hs := hS p q (Nat.zero_le _) hpq hq
  rw [he p (by omega), he q hq] at hs
  unfold lsF at hs
  simp only [decide_eq_false_iff_not] at hs
  have hne : f p ≠ f q := fun e => by
    have := congrArg g e
    rw [h1, h1] at this
    omega
  unfold before
  omega
end

/-- What greatestFirst leaves: the order in a new row; what was there before is as it was. -/
def Great (r : Nat → Int) (n : Nat) (w : World) (e : Ending) (w' : World) : Prop :=
  ∃ (ob : Nat) (f : Nat → Nat), e = .returned (.slice (some ⟨ob, 0, none⟩) n n) ∧ w.heap.size ≤ ob ∧ ob < w'.heap.size ∧ Below w.heap.size w w' ∧ Ranked r n f ∧ ∀ k, k < n → w'.cell? ⟨ob, k, none⟩ = some (.int .i64 (f k : Nat))

def Filled (lb n : Nat) (w : World) (k : Nat) (wr : World) : Prop :=
  Below w.heap.size w wr ∧ wr.cell? ⟨w.heap.size, 0, none⟩ = some (.slice (some ⟨lb, 0, none⟩) n n) ∧ IRow wr (w.heap.size + 1) n (fun j => if j < k then (j : Int) else 0)
theorem Filled.step {lb n k : Nat} {w wr : World} (h : Filled lb n w k wr) : Filled lb n w (k + 1) (wr.setCell ⟨w.heap.size + 1, k, none⟩ (.int .i64 (k : Int))) := by
  obtain ⟨h1, h2, h3⟩ := h
  refine ⟨h1.setCell (by simp) _, (World.cell?_setCell_other _ _ _ _ (by intro e; simp at e)).trans h2, (h3.set_ k k).congr fun i _ => ?_⟩
  by_cases e : i = k
  · subst e; simp
  · simp only [if_neg e]
    by_cases e' : i < k
    · rw [if_pos e', if_pos (by omega)]
    · rw [if_neg e', if_neg (by omega)]

end Go.Proofs.Ytbmkamnjjfmdiaa
/- What sumOf and checkShare of package fixed return; the list is at most 1048576 integers, each from 0 to 2^31 where the sum is asked. -/
namespace Go.Proofs.Ytbmkamnjjfmdiaa
open Go.RowKit

/-- The slice at p reads as n integers. -/
def Reads (w : World) (p : Option Addr) (n : Nat) (f : Nat → Int) : Prop := 0 < n → ∃ b off, p = some ⟨b, off, none⟩ ∧ ∀ k, k < n → w.cell? ⟨b, off + k, none⟩ = some (.int .i64 (f k))
theorem IRow.reads {w : World} {b n : Nat} {f : Nat → Int} (h : IRow w b n f) : Reads w (some ⟨b, 0, none⟩) n f := fun _ => ⟨b, 0, rfl, fun k hk => by rw [Nat.zero_add]; exact h.cell hk⟩
theorem lt_of_cell {w : World} {b o : Nat} {v : Value} (h : w.cell? ⟨b, o, none⟩ = some v) : b < w.heap.size := by
  rcases Nat.lt_or_ge b w.heap.size with hl | hl
  · exact hl
  · simp [World.cell?, Array.getElem?_eq_none hl] at h
theorem Reads.below {w w' : World} {p : Option Addr} {n : Nat} {f : Nat → Int} (h : Reads w p n f) (hB : Below w.heap.size w w') : Reads w' p n f := fun hn => by
  obtain ⟨b, off, hp, hc⟩ := h hn
  exact ⟨b, off, hp, fun k hk => (hB.cell (p := ⟨b, off + k, none⟩) (lt_of_cell (hc k hk))).trans (hc k hk)⟩

/-- The sum of the first numbers. -/
def sumF (f : Nat → Int) : Nat → Int
  | 0 => 0
  | k + 1 => sumF f k + f k
theorem sumF_bound {f : Nat → Int} {B : Int} : ∀ (n : Nat), (∀ k, k < n → 0 ≤ f k ∧ f k ≤ B) → 0 ≤ sumF f n ∧ sumF f n ≤ n * B
  | 0, _ => by simp [sumF]
  | n + 1, h => by
    have ih := sumF_bound n (fun k hk => h k (by omega))
    have := h n (by omega)
    have e : ((n + 1 : Nat) : Int) * B = n * B + B := by rw [Int.natCast_succ, Int.add_mul, Int.one_mul]
    simp only [sumF]
    omega

/-- All of the first n weights are in range. -/
def Good (f : Nat → Int) (n : Nat) : Prop := ∀ k, k < n → 0 ≤ f k ∧ f k ≤ 2147483648

end Go.Proofs.Ytbmkamnjjfmdiaa
/- What Share of package fixed returns: an error, zeros, or the quotients with one more for those that stand first by their remainders; the weights are a slice of at most 100 readable integers, or more than 100. -/
namespace Go.Proofs.Ytbmkamnjjfmdiaa
open Go.RowKit

/-- Quotient and remainder of one weight; S is the sum of the weights. -/
def quoF (total S : Int) (f : Nat → Int) (i : Nat) : Int := total * f i / S
def remF (total S : Int) (f : Nat → Int) (i : Nat) : Int := total * f i % S

theorem quo_bound {total S : Int} {f : Nat → Int} {i : Nat} (h1 : 0 ≤ total) (h3 : 0 ≤ f i) (h4 : f i ≤ S) (hS : 0 < S) : 0 ≤ quoF total S f i ∧ quoF total S f i ≤ total := by
  unfold quoF
  have hm : 0 ≤ total * f i := Int.mul_nonneg h1 h3
  refine ⟨Int.ediv_nonneg hm (by omega), ?_⟩
  have : total * f i ≤ total * S := Int.mul_le_mul_of_nonneg_left h4 h1
  exact Int.le_trans (Int.ediv_le_ediv hS this) (by rw [Int.mul_ediv_cancel _ (by omega)]; exact Int.le_refl _)
theorem rem_bound (total S : Int) (f : Nat → Int) (i : Nat) (hS : 0 < S) : 0 ≤ remF total S f i ∧ remF total S f i < S :=
  ⟨Int.emod_nonneg _ (by omega), Int.emod_lt_of_pos _ hS⟩
theorem quo_rem (total S : Int) (f : Nat → Int) (i : Nat) : S * quoF total S f i + remF total S f i = total * f i := by
  unfold quoF remF; exact Int.mul_ediv_add_emod _ _
theorem sum_quo_rem (total S : Int) (f : Nat → Int) : ∀ n, S * sumF (quoF total S f) n + sumF (remF total S f) n = total * sumF f n
  | 0 => by simp [sumF]
  | n + 1 => by
    have ih := sum_quo_rem total S f n
    have := quo_rem total S f n
    simp only [sumF, Int.mul_add]
    omega
theorem sum_lt {f : Nat → Int} {S : Int} : ∀ (n : Nat), (∀ k, k < n → f k < S) → sumF f n + n ≤ n * S
  | 0, _ => by simp [sumF]
  | n + 1, h => by
    have ih := sum_lt n (fun k hk => h k (by omega))
    have := h n (by omega)
    have e : ((n + 1 : Nat) : Int) * S = n * S + S := by rw [Int.natCast_succ, Int.add_mul, Int.one_mul]
    simp only [sumF]
    omega
theorem sum_nonneg {f : Nat → Int} : ∀ (n : Nat), (∀ k, k < n → 0 ≤ f k) → 0 ≤ sumF f n
  | 0, _ => by simp [sumF]
  | n + 1, h => by
    have ih := sum_nonneg n (fun k hk => h k (by omega))
    have := h n (by omega)
    simp only [sumF]
    omega
theorem le_sum {f : Nat → Int} : ∀ (n : Nat), (∀ k, k < n → 0 ≤ f k) → ∀ i, i < n → f i ≤ sumF f n
  | 0, _, i, hi => by omega
  | n + 1, h, i, hi => by
    have := h n (by omega)
    have hs := sum_nonneg n (fun k hk => h k (by omega))
    simp only [sumF]
    by_cases e : i = n
    · subst e; omega
    · have := le_sum n (fun k hk => h k (by omega)) i (by omega)
      omega

/-- How many parts get one more: from 0 to fewer than there are weights. -/
theorem left_bound {total : Int} {f : Nat → Int} {n : Nat} (hf : Good f n) (hS : 0 < sumF f n) :
    0 ≤ total - sumF (quoF total (sumF f n) f) n ∧ total - sumF (quoF total (sumF f n) f) n < n := by
  have e := sum_quo_rem total (sumF f n) f n
  have r0 := sum_nonneg (f := remF total (sumF f n) f) n (fun k _ => (rem_bound total _ f k hS).1)
  have r1 := sum_lt (f := remF total (sumF f n) f) n (fun k _ => (rem_bound total _ f k hS).2)
  have hn : 0 < n := by
    rcases Nat.eq_zero_or_pos n with rfl | h
    · simp [sumF] at hS
    · exact h
  generalize sumF (quoF total (sumF f n) f) n = Q at *
  generalize sumF (remF total (sumF f n) f) n = R at *
  generalize sumF f n = S at *
  have e2 : S * (total - Q) = R := by rw [Int.mul_sub, Int.mul_comm S total]; omega
  constructor
  · rcases Int.lt_or_le (total - Q) 0 with h | h
    · have : S * (total - Q) < 0 := Int.mul_neg_of_pos_of_neg hS h
      omega
    · exact h
  · rcases Int.lt_or_le (total - Q) n with h | h
    · exact h
    · have : S * (n : Int) ≤ S * (total - Q) := Int.mul_le_mul_of_nonneg_left h (by omega)
      rw [Int.mul_comm S (n : Int)] at this
      omega

/-- The parts: the quotient, and one more for those that stand among the first. -/
def partF (total S left : Int) (f : Nat → Int) (g : Nat → Nat) (i : Nat) : Int := quoF total S f i + if (g i : Int) < left then 1 else 0
/-- What Share returns where all arguments are in range: a new row. -/
def Shared (total : Int) (f : Nat → Int) (n : Nat) (w : World) (e : Ending) (w' : World) : Prop :=
  ∃ P : Nat → Int, e = .returned (.tuple #[.slice (some ⟨w.heap.size, 0, none⟩) n n, .int .i64 0]) ∧ Below w.heap.size w w' ∧ IRow w' w.heap.size n P ∧
    (sumF f n = 0 ∧ (∀ i, i < n → P i = 0) ∨ 0 < sumF f n ∧ ∃ h g : Nat → Nat, (∀ k, g (h k) = k) ∧ (∀ k, h (g k) = k) ∧ (∀ k, n ≤ k → h k = k) ∧ (∀ i j, i < j → j < n → before (remF total (sumF f n) f) (h i) (h j)) ∧
      ∀ i, i < n → P i = partF total (sumF f n) (total - sumF (quoF total (sumF f n) f) n) f g i)

/-- The two rows that the first loop fills. -/
def Halfway (total S : Int) (f : Nat → Int) (n : Nat) (w : World) (k : Nat) (wr : World) : Prop :=
  Below w.heap.size w wr ∧ IRow wr w.heap.size n (fun j => if j < k then quoF total S f j else 0) ∧ IRow wr (w.heap.size + 1) n (fun j => if j < k then remF total S f j else 0)
theorem upto_step (q : Nat → Int) (k : Nat) : (fun j => if j = k then q k else if j < k then q j else 0) = fun j => if j < k + 1 then q j else 0 := by
  funext j
  by_cases e : j = k
  · subst e; rw [if_pos rfl, if_pos (by omega)]
  · rw [if_neg e]
    by_cases h : j < k
    · rw [if_pos h, if_pos (by omega)]
    · rw [if_neg h, if_neg (by omega)]
theorem Halfway.step {total S : Int} {f : Nat → Int} {n : Nat} {w wr : World} {k : Nat} (h : Halfway total S f n w k wr) :
    Halfway total S f n w (k + 1) ((wr.setCell ⟨w.heap.size, k, none⟩ (.int .i64 (quoF total S f k))).setCell ⟨w.heap.size + 1, k, none⟩ (.int .i64 (remF total S f k))) := by
  obtain ⟨h1, h2, h3⟩ := h
  have a1 := h2.set_ k (quoF total S f k)
  rw [upto_step] at a1
  have a2 := (h3.far (p := ⟨w.heap.size, k, none⟩) (by simp) (.int .i64 (quoF total S f k))).set_ k (remF total S f k)
  rw [upto_step] at a2
  exact ⟨(h1.setCell (Nat.le_refl _) _).setCell (by simp) _, a1.far (by simp) _, a2⟩
theorem mul_bounds {total x : Int} (h1 : 0 ≤ total) (h2 : total ≤ 1073741824) (h3 : 0 ≤ x) (h4 : x ≤ 2147483648) : 0 ≤ total * x ∧ total * x ≤ 2305843009213693952 := by
  refine ⟨Int.mul_nonneg h1 h3, ?_⟩
  have a : total * x ≤ 1073741824 * x := Int.mul_le_mul_of_nonneg_right h2 h3
  omega

/-- What the second loop has done behind k rounds. -/
def Second (total S : Int) (f : Nat → Int) (n ob : Nat) (h g : Nat → Nat) (w : World) (k : Nat) (wr : World) : Prop :=
  Below w.heap.size w wr ∧ IRow wr w.heap.size n (fun j => quoF total S f j + if g j < k then 1 else 0) ∧ ∀ i, i < n → wr.cell? ⟨ob, i, none⟩ = some (.int .i64 (h i : Nat))
theorem Second.step {total S : Int} {f : Nat → Int} {n ob : Nat} {h g : Nat → Nat} {w wr : World} {k : Nat} (hs : Second total S f n ob h g w k wr) (hob : w.heap.size < ob) (h1 : ∀ i, g (h i) = i) (h2 : ∀ i, h (g i) = i) :
    Second total S f n ob h g w (k + 1) (wr.setCell ⟨w.heap.size, h k, none⟩ (.int .i64 (quoF total S f (h k) + 1))) := by
  obtain ⟨s1, s2, s3⟩ := hs
  refine ⟨s1.setCell (Nat.le_refl _) _, (s2.set_ (h k) (quoF total S f (h k) + 1)).congr fun i _ => ?_, fun i hi => (World.cell?_setCell_other _ _ _ _ (by intro e; simp only [Addr.mk.injEq] at e; omega)).trans (s3 i hi)⟩
  by_cases e : i = h k
  · subst e; rw [if_pos rfl, h1, if_pos (by omega)]
  · have : g i ≠ k := fun e' => e (by rw [← e', h2])
    rw [if_neg e]
    by_cases l : g i < k
    · rw [if_pos l, if_pos (by omega)]
    · rw [if_neg l, if_neg (by omega)]

end Go.Proofs.Ytbmkamnjjfmdiaa
