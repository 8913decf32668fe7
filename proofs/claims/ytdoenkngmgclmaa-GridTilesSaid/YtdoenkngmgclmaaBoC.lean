/- What Offsets of the reference of package box returns where a number is out of range: an empty list; the list is of at most 100000 numbers. -/
import Derived.Test.YtdoenkngmgclmaaBoBa
import Derived.Test.YtdoenkngmgclmaaBoRe
namespace Go.Proofs.Ytdoenkngmgclmaa
open Go.RowKit Go.Sort
set_option linter.unusedVariables false
set_option linter.unusedSimpArgs false

/-- All of the numbers k to k + m - 1 are lengths. -/
def lenA (f : Nat → Int) : Nat → Nat → Bool
  | _, 0 => true
  | k, m + 1 => lenB (f k) && lenA f (k + 1) m
def ofB (av gap ju : Int) (n : Nat) (f : Nat → Int) : Bool := decide (n ≤ 100) && lenB av && lenB gap && decide (0 ≤ ju ∧ ju ≤ 3) && lenA f 0 n
theorem lenA_iff (f : Nat → Int) : ∀ m k, lenA f k m = true ↔ ∀ i, k ≤ i → i < k + m → 0 ≤ f i ∧ f i ≤ 1048576
  | 0, k => by simp [lenA]; omega
  | m + 1, k => by
    rw [lenA, Bool.and_eq_true, lenA_iff f m (k + 1)]
    unfold lenB
    rw [decide_eq_true_eq]
    constructor
    · rintro ⟨h1, h2⟩ i hi hi2
      by_cases h : i = k
      · subst h; exact h1
      · exact h2 i (by omega) (by omega)
    · intro h
      exact ⟨h k (Nat.le_refl _) (by omega), fun i hi hi2 => h i (by omega) (by omega)⟩
theorem ofB_iff (av gap ju : Int) (n : Nat) (f : Nat → Int) : ofB av gap ju n f = true ↔ n ≤ 100 ∧ ofOk av gap ju n f := by
  unfold ofB ofOk lenB
  simp only [Bool.and_eq_true, decide_eq_true_eq, lenA_iff]
  constructor
  · rintro ⟨⟨⟨⟨h1, h2⟩, h3⟩, h4⟩, h5⟩; exact ⟨h1, h2, h3, h4, fun i hi => h5 i (by omega) (by omega)⟩
  · rintro ⟨h1, h2, h3, h4, h5⟩; exact ⟨⟨⟨⟨h1, h2⟩, h3⟩, h4⟩, fun i _ hi => h5 i (by omega)⟩
end Go.Proofs.Ytdoenkngmgclmaa
/- The positions of elements: mirrored ones, gaps, those that are justified between the ends; no premise on the program. -/
namespace Go.Proofs.Ytdoenkngmgclmaa
open Go.RowKit Go.Sort
set_option linter.unusedVariables false
set_option linter.unusedSimpArgs false

theorem of_mirror (av gap ju : Int) (n : Nat) (f : Nat → Int) (i : Nat) : ofF av gap ju n f true i = av - ofF av gap ju n f false i - f i := by
  unfold ofF
  simp only [if_true, Bool.false_eq_true, if_false]
  omega
theorem of_step {av gap ju : Int} {n : Nat} {f : Nat → Int} (hn : n ≤ 100) (h : ofOk av gap ju n f) {i : Nat} (hi : i + 1 < n) :
    ofF av gap ju n f false i + f i + gap ≤ ofF av gap ju n f false (i + 1) ∧ ofF av gap ju n f true (i + 1) + f (i + 1) + gap ≤ ofF av gap ju n f true i := by
  have e := ext_bd hn h hi
  rw [of_mirror, of_mirror]
  have e1 : ofF av gap ju n f false (i + 1) = ofF av gap ju n f false i + f i + (gap + extO av gap ju n f (i + 1)) := by
    unfold ofF
    simp only [Bool.false_eq_true, if_false]
    rfl
  rw [e1]
  omega
theorem al_mirror (al av sz : Int) : alA al av sz true = av - alX al av sz - alA al av sz false := by
  unfold alA
  simp only [if_true, Bool.false_eq_true, if_false]
/-- Between the ends: the position of element i, where the sum of the sizes is less than the space. -/
theorem pos_between {av : Int} {n : Nat} {f : Nat → Int} (hf : 0 < freO av 0 n f) (hn : 1 < n) : ∀ i, i < n → posO av 0 3 n f i = sumF f i + sumF (shr (freO av 0 n f) ones (n - 1)) i
  | 0, _ => by show at0 3 _ = _; simp [at0, sumF]
  | i + 1, hi => by
    have ih := pos_between hf hn i (by omega)
    show posO av 0 3 n f i + f i + (0 + extO av 0 3 n f (i + 1)) = _
    have e : extO av 0 3 n f (i + 1) = shr (freO av 0 n f) ones (n - 1) i := by
      unfold extO
      rw [if_pos ⟨rfl, hf, hn, by omega⟩, Nat.add_sub_cancel]
    rw [e, ih]
    simp only [sumF]
    omega
theorem sum_ones : ∀ n : Nat, sumF ones n = n
  | 0 => rfl
  | n + 1 => by simp only [sumF, sum_ones n, ones]; omega
theorem between_ends {av : Int} {n : Nat} {f : Nat → Int} (hf : 0 < freO av 0 n f) (hn : 1 < n) :
    ofF av 0 3 n f false 0 = 0 ∧ ofF av 0 3 n f false (n - 1) + f (n - 1) = av := by
  obtain ⟨m, rfl⟩ : ∃ m, n = m + 2 := ⟨n - 2, by omega⟩
  have hs := (shr_parts (T := freO av 0 (m + 2) f) (ones_good (m + 1))).sum (ones_good (m + 1))
  rw [sum_ones] at hs
  have hs' : sumF (shr (freO av 0 (m + 2) f) ones (m + 1)) (m + 1) = freO av 0 (m + 2) f := by
    rcases hs with h | h
    · omega
    · exact h.2
  have p0 := pos_between hf hn 0 (by omega)
  have p1 := pos_between hf hn (m + 1) (by omega)
  have e1 : m + 2 - 1 = m + 1 := by omega
  unfold ofF
  simp only [Bool.false_eq_true, if_false]
  rw [e1] at p0 p1 ⊢
  rw [p0, p1, hs']
  constructor
  · rfl
  · have e2 : freO av 0 (m + 2) f = av - (sumF f (m + 1) + f (m + 1)) := by
      unfold freO spcF
      rw [if_neg (by omega)]
      simp only [sumF]
      omega
    omega
/-- The gaps differ by one at most. -/
theorem between_gaps {av : Int} {n : Nat} {f : Nat → Int} (hf : 0 < freO av 0 n f) (hn : 1 < n) : ∃ g : Int, 0 ≤ g ∧ ∀ i, i + 1 < n → g ≤ ofF av 0 3 n f false (i + 1) - ofF av 0 3 n f false i - f i ∧ ofF av 0 3 n f false (i + 1) - ofF av 0 3 n f false i - f i ≤ g + 1 := by
  obtain ⟨m, rfl⟩ : ∃ m, n = m + 2 := ⟨n - 2, by omega⟩
  refine ⟨freO av 0 (m + 2) f / ((m + 1 : Nat) : Int), Int.ediv_nonneg (by omega) (by omega), fun i hi => ?_⟩
  have p0 := pos_between hf hn i (by omega)
  have p1 := pos_between hf hn (i + 1) (by omega)
  have b := (shr_parts (T := freO av 0 (m + 2) f) (ones_good (m + 1))).bounds (by omega) (ones_good (m + 1)) (i := i) (by omega)
  have e1 : m + 2 - 1 = m + 1 := by omega
  unfold ofF
  simp only [Bool.false_eq_true, if_false]
  rw [e1] at p0 p1
  rw [p0, p1]
  simp only [sumF]
  rw [sum_ones] at b
  have b4 := b.2.2.2 (by omega)
  have o1 : ones i = 1 := rfl
  rw [o1, Int.mul_one] at b4
  generalize shr (freO av 0 (m + 2) f) ones (m + 1) i = P at *
  generalize freO av 0 (m + 2) f = T at *
  have hN : (0 : Int) < ((m + 1 : Nat) : Int) := by omega
  generalize ((m + 1 : Nat) : Int) = N at *
  have q1 := Int.ediv_mul_le T (Int.ne_of_gt hN)
  have q2 := Int.lt_ediv_add_one_mul_self T hN
  have key : T / N ≤ P ∧ P ≤ T / N + 1 := by
    constructor
    · rcases (show P < T / N ∨ T / N ≤ P by omega) with h | h
      · have := Int.mul_le_mul_of_nonneg_right (show P ≤ T / N - 1 by omega) (Int.le_of_lt hN)
        rw [Int.sub_mul] at this
        omega
      · exact h
    · rcases (show T / N + 1 < P ∨ P ≤ T / N + 1 by omega) with h | h
      · have := Int.mul_le_mul_of_nonneg_right (show T / N + 1 + 1 ≤ P by omega) (Int.le_of_lt hN)
        rw [Int.add_mul (T / N + 1)] at this
        omega
      · exact h
  omega
end Go.Proofs.Ytdoenkngmgclmaa
/- What the laws of package box ask of Resolve, Offsets, Align and Baseline, as definitions over a function's number: the reference's own functions answer so; no condition. -/
namespace Go.Proofs.Ytdoenkngmgclmaa
open Go.RowKit Go.Sort
set_option linter.unusedVariables false
set_option linter.unusedSimpArgs false

def erR (av gap : Int) (x : Nat → Fx) (n : Nat) : Int := if 100 < n then 2 else if (lenB av && lenB gap && okA x 0 n) = true then 0 else 1
def KRes (k : Nat) : Prop := ∀ (av gap : Int) (p : Option Addr) (n c : Nat) (x : Nat → Fx) (w : World), SRow w p n 5 (fxC x) → n ≤ 100000 →
  Calls Try.prog k #[.int .i64 av, .int .i64 gap, .slice p n c] w fun e w' => ∃ q d, e = .returned (.tuple #[.slice q (if erR av gap x n = 0 then n else 0) d, .int .i64 (erR av gap x n)]) ∧ Reads w' q (if erR av gap x n = 0 then n else 0) (resF av gap x n) ∧ Below w.heap.size w w'
def KOff (k : Nat) : Prop := ∀ (av gap ju : Int) (p : Option Addr) (n c : Nat) (f : Nat → Int) (r : Bool) (w : World), Reads w p n f → n ≤ 100000 →
  Calls Try.prog k #[.int .i64 av, .int .i64 gap, .int .i64 ju, .slice p n c, .bool r] w fun e w' => ∃ q d, e = .returned (.slice q (if ofB av gap ju n f = true then n else 0) d) ∧ Reads w' q (if ofB av gap ju n f = true then n else 0) (ofF av gap ju n f r) ∧ Below w.heap.size w w'
noncomputable def alV (al av sz : Int) (r : Bool) : Value := open Classical in if alOk al av sz then .tuple #[.int .i64 (alA al av sz r), .int .i64 (alX al av sz)] else .tuple #[.int .i64 0, .int .i64 0]
def KAlg (k : Nat) : Prop := ∀ (al av sz : Int) (r : Bool) (w : World), Calls Try.prog k #[.int .i64 al, .int .i64 av, .int .i64 sz, .bool r] w fun e w' => e = .returned (alV al av sz r) ∧ Below w.heap.size w w'
noncomputable def bsN (n m : Nat) (f g : Nat → Int) : Nat := open Classical in if basOk n m f g then n else 0
noncomputable def bsH (n m : Nat) (f g : Nat → Int) : Int := open Classical in if basOk n m f g then maxF (fun i => maxF g n - g i + f i) n else 0
def KBas (k : Nat) : Prop := ∀ (p q : Option Addr) (n m c d : Nat) (f g : Nat → Int) (w : World), Reads w p n f → Reads w q m g → n ≤ 100000 → m ≤ 100000 →
  Calls Try.prog k #[.slice p n c, .slice q m d] w fun e w' => ∃ u v, e = .returned (.tuple #[.slice u (bsN n m f g) v, .int .i64 (bsH n m f g)]) ∧ Reads w' u (bsN n m f g) (fun i => maxF g n - g i) ∧ Below w.heap.size w w'

theorem reads_none (w : World) (f : Nat → Int) : Reads w none 0 f := fun h => absurd h (Nat.lt_irrefl _)
theorem okA_iff (x : Nat → Fx) : ∀ m k, okA x k m = true ↔ ∀ i, k ≤ i → i < k + m → okF (x i)
  | 0, k => ⟨fun _ i h1 h2 => by omega, fun _ => rfl⟩
  | m + 1, k => by
    rw [okA, Bool.and_eq_true, okA_iff x m (k + 1), okB_iff]
    constructor
    · rintro ⟨h0, h⟩ i h1 h2
      rcases Nat.eq_or_lt_of_le h1 with e | e
      · rw [← e]; exact h0
      · exact h i (by omega) (by omega)
    · intro h
      exact ⟨h k (Nat.le_refl _) (by omega), fun i h1 h2 => h i (by omega) (by omega)⟩
theorem lenB_iff (x : Int) : lenB x = true ↔ 0 ≤ x ∧ x ≤ 1048576 := by simp [lenB]
theorem er_ok {av gap : Int} {x : Nat → Fx} {n : Nat} (hn : n ≤ 100) (ha : 0 ≤ av ∧ av ≤ 1048576) (hg : 0 ≤ gap ∧ gap ≤ 1048576) (hx : ∀ i, i < n → okF (x i)) : erR av gap x n = 0 := by
  unfold erR
  rw [if_neg (by omega), if_pos (by rw [(lenB_iff av).2 ha, (lenB_iff gap).2 hg, (okA_iff x n 0).2 fun i _ h => hx i (by omega)]; rfl)]
end Go.Proofs.Ytdoenkngmgclmaa
