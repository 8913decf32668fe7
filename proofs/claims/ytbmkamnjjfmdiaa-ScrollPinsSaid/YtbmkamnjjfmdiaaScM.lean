/- Offsets, visible rows, anchors and pinned headers in plain terms; no premise on the program. -/
import Derived.Test.YtbmkamnjjfmdiaaBoA
import Derived.Test.YtbmkamnjjfmdiaaSRow
import Derived.Test.YtbmkamnjjfmdiaaFxRefs2
namespace Go.Proofs.Ytbmkamnjjfmdiaa
open Go.RowKit Go.Sort
set_option linter.unusedVariables false
set_option linter.unusedSimpArgs false

structure Stp where
  (k : ByteArray) (h : Int)
structure Sct where
  (tp ht hd : Int)
def stC (l : Nat → Stp) (i j : Nat) : Value := match j with
  | 0 => .string (l i).k
  | _ => .int .i64 (l i).h
def scC (l : Nat → Sct) (i j : Nat) : Value := match j with
  | 0 => .int .i64 (l i).tp
  | 1 => .int .i64 (l i).ht
  | _ => .int .i64 (l i).hd
def inRB (x : Int) : Bool := decide (-1099511627776 ≤ x) && decide (x ≤ 1099511627776)
def szRB (x : Int) : Bool := decide (0 ≤ x) && decide (x ≤ 1099511627776)
theorem inR_iff {x : Int} : inRB x = true ↔ -1099511627776 ≤ x ∧ x ≤ 1099511627776 := by
  unfold inRB; rw [Bool.and_eq_true, decide_eq_true_eq, decide_eq_true_eq]
theorem szR_iff {x : Int} : szRB x = true ↔ 0 ≤ x ∧ x ≤ 1099511627776 := by
  unfold szRB; rw [Bool.and_eq_true, decide_eq_true_eq, decide_eq_true_eq]
/-- Whether the first n hold. -/
def alF (P : Nat → Bool) : Nat → Bool
  | 0 => true
  | n + 1 => alF P n && P n
theorem alF_iff {P : Nat → Bool} : ∀ {n : Nat}, alF P n = true ↔ ∀ i, i < n → P i = true
  | 0 => ⟨fun _ i hi => absurd hi (Nat.not_lt_zero _), fun _ => rfl⟩
  | n + 1 => by
    simp only [alF, Bool.and_eq_true, alF_iff (n := n)]
    constructor
    · rintro ⟨h1, h2⟩ i hi
      by_cases e : i = n
      · subst e; exact h2
      · exact h1 i (by omega)
    · intro h
      exact ⟨fun i hi => h i (by omega), h n (by omega)⟩
theorem alF_bad {P : Nat → Bool} {n i : Nat} (hi : i < n) (h : P i = false) : alF P n = false := by
  cases q : alF P n with
  | false => rfl
  | true => rw [alF_iff.1 q i hi] at h; exact Bool.noConfusion h
def rowsB (n : Nat) (l : Nat → Stp) : Bool := decide (n ≤ 10000) && alF (fun i => szRB (l i).h) n
theorem rows_iff {n : Nat} {l : Nat → Stp} : rowsB n l = true ↔ n ≤ 10000 ∧ ∀ i, i < n → 0 ≤ (l i).h ∧ (l i).h ≤ 1099511627776 := by
  unfold rowsB
  rw [Bool.and_eq_true, decide_eq_true_eq, alF_iff]
  exact and_congr_right fun _ => forall_congr' fun i => forall_congr' fun _ => szR_iff
/-- The top of a row. -/
def topF (l : Nat → Stp) (i : Nat) : Int := sumF (fun j => (l j).h) i
theorem top_succ (l : Nat → Stp) (i : Nat) : topF l (i + 1) = topF l i + (l i).h := rfl
theorem top_bd {n : Nat} {l : Nat → Stp} (h : rowsB n l = true) : ∀ {i : Nat}, i ≤ n → 0 ≤ topF l i ∧ topF l i ≤ (i : Int) * 1099511627776
  | 0, _ => ⟨Int.le_refl _, by show (0 : Int) ≤ _; omega⟩
  | i + 1, hi => by
    have a := top_bd h (i := i) (by omega)
    have b := (rows_iff.1 h).2 i (by omega)
    rw [top_succ]
    omega
theorem top_big {n : Nat} {l : Nat → Stp} (h : rowsB n l = true) {i : Nat} (hi : i ≤ n) : 0 ≤ topF l i ∧ topF l i ≤ 10995116277760000 := by
  have a := top_bd h hi
  have b := (rows_iff.1 h).1
  omega
/-- The first of d places from a on that holds, or their end. -/
def fsF (P : Nat → Bool) : Nat → Nat → Nat
  | 0, a => a
  | d + 1, a => if P a then a else fsF P d (a + 1)
theorem fsF_eq {P : Nat → Bool} : ∀ {d a k : Nat}, a ≤ k → k ≤ a + d → (∀ j, a ≤ j → j < k → P j = false) → (k = a + d ∨ P k = true) → fsF P d a = k
  | 0, a, k, h1, h2, _, _ => by show a = k; omega
  | d + 1, a, k, h1, h2, h3, h4 => by
    simp only [fsF]
    by_cases e : a = k
    · subst e
      rcases h4 with h4 | h4
      · omega
      · rw [if_pos h4]
    · rw [h3 a (Nat.le_refl _) (by omega), if_neg (by decide)]
      exact fsF_eq (by omega) (by omega) (fun j hj hk => h3 j (by omega) hk) (by rcases h4 with h4 | h4; exact Or.inl (by omega); exact Or.inr h4)
theorem fsF_spec {P : Nat → Bool} : ∀ {d a : Nat}, a ≤ fsF P d a ∧ fsF P d a ≤ a + d ∧ (∀ j, a ≤ j → j < fsF P d a → P j = false) ∧ (fsF P d a = a + d ∨ P (fsF P d a) = true)
  | 0, a => ⟨Nat.le_refl _, Nat.le_refl _, fun j h1 h2 => absurd h2 (Nat.not_lt.2 h1), Or.inl rfl⟩
  | d + 1, a => by
    simp only [fsF]
    cases h : P a with
    | true =>
      rw [if_pos rfl]
      exact ⟨Nat.le_refl _, by omega, fun j h1 h2 => absurd h2 (by omega), Or.inr h⟩
    | false =>
      rw [if_neg (by decide)]
      obtain ⟨h1, h2, h3, h4⟩ := fsF_spec (P := P) (d := d) (a := a + 1)
      refine ⟨by omega, by omega, fun j hj hk => ?_, by rcases h4 with h4 | h4; exact Or.inl (by omega); exact Or.inr h4⟩
      by_cases e : j = a
      · subst e; exact h
      · exact h3 j (by omega) hk
/-- The last of n places that holds, or -1. -/
def laF (Q : Nat → Bool) : Nat → Int
  | 0 => -1
  | n + 1 => if Q n then (n : Int) else laF Q n
theorem laF_bd {Q : Nat → Bool} : ∀ n : Nat, -1 ≤ laF Q n ∧ laF Q n < n
  | 0 => ⟨by show (-1 : Int) ≤ -1; omega, by show (-1 : Int) < 0; omega⟩
  | n + 1 => by
    have h := laF_bd (Q := Q) n
    simp only [laF]
    split <;> omega
theorem laF_at {Q : Nat → Bool} : ∀ {n : Nat}, 0 ≤ laF Q n → Q (laF Q n).toNat = true
  | 0, h => absurd h (by show ¬ (0 : Int) ≤ -1; omega)
  | n + 1, h => by
    simp only [laF] at h ⊢
    cases q : Q n with
    | true => rw [if_pos rfl, Int.toNat_natCast]; exact q
    | false =>
      rw [q, if_neg (by decide)] at h
      rw [if_neg (by decide)]
      exact laF_at h
/-! ### What the functions return -/
def ocF (o c h : Int) : Int := if (inRB o && inRB c) && szRB h then (if c ≤ h then 0 else clampS o 0 (c - h)) else 0
def reF (o h a x : Int) : Int := if ((inRB o && szRB h) && inRB a) && inRB x then (if a < o ∨ h < x then a else if o + h < a + x then a + x - h else o) else 0
def viB (n : Nat) (l : Nat → Stp) (o h : Int) : Bool := (inRB o && szRB h) && rowsB n l
def fiF (n : Nat) (l : Nat → Stp) (o : Int) : Nat := fsF (fun i => decide (o < topF l (i + 1))) n 0
def enF (n : Nat) (l : Nat → Stp) (o h : Int) : Nat := fsF (fun i => decide (o + h ≤ topF l i)) (n - fiF n l o) (fiF n l o)
def vi1 (n : Nat) (l : Nat → Stp) (o h : Int) : Int := if viB n l o h then (fiF n l o : Int) else 0
def vi2 (n : Nat) (l : Nat → Stp) (o h : Int) : Int := if viB n l o h then (enF n l o h : Int) else 0
def eqK (a b : ByteArray) : Bool := a.toList == b.toList
/-- The first row with a key, or the number of rows. -/
def ixF (m : Nat) (l' : Nat → Stp) (k : ByteArray) : Nat := fsF (fun j => eqK (l' j).k k) m 0
def hasF (n m : Nat) (l l' : Nat → Stp) (i : Nat) : Bool := decide (ixF m l' (l i).k < m)
def hitF (n m : Nat) (l l' : Nat → Stp) (o : Int) (i : Nat) : Bool := hasF n m l l' i && decide (o < topF l (i + 1))
def anF (n m : Nat) (l l' : Nat → Stp) (o : Int) : Int := if fsF (hitF n m l l' o) n 0 < n then (fsF (hitF n m l l' o) n 0 : Int) else laF (hasF n m l l') n
def keF (n m : Nat) (l l' : Nat → Stp) (o : Int) : Int :=
  if (inRB o && rowsB n l) && rowsB m l' then (if anF n m l l' o < 0 then 0 else topF l' (ixF m l' (l (anF n m l l' o).toNat).k) + o - topF l (anF n m l l' o).toNat) else 0
def piB (n : Nat) (l : Nat → Sct) (o : Int) : Bool := (inRB o && decide (n ≤ 10000)) && alF (fun i => (inRB (l i).tp && szRB (l i).ht) && szRB (l i).hd) n
def piF (l : Nat → Sct) (o : Int) (i : Nat) : Int := max (l i).tp (min o ((l i).tp + (l i).ht - (l i).hd))
end Go.Proofs.Ytbmkamnjjfmdiaa
