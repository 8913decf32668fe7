/- Where the items of a grid are placed and where its tracks begin, in plain terms; what the laws of package grid ask of Place, Starts and Tracks, as definitions over a function's number; no condition. -/
import Derived.Test.YtdoenkngmgclmaaFxRefs2
import Derived.Test.YtdoenkngmgclmaaFxShare
import Derived.Test.YtdoenkngmgclmaaFlat
namespace Go.Proofs.Ytdoenkngmgclmaa
open Go.RowKit Go.Sort
set_option linter.unusedVariables false
set_option linter.unusedSimpArgs false

def spG (cols : Int) (f : Nat → Int) (i : Nat) : Int := clampS (f i) 1 cols
/-- The row and the column behind the first i items. -/
def stP (cols : Int) (f : Nat → Int) : Nat → Int × Int
  | 0 => (0, 0)
  | i + 1 => if cols < (stP cols f i).2 + spG cols f i then ((stP cols f i).1 + 1, spG cols f i) else ((stP cols f i).1, (stP cols f i).2 + spG cols f i)
def arR (cols : Int) (f : Nat → Int) (i : Nat) : Int := if cols < (stP cols f i).2 + spG cols f i then (stP cols f i).1 + 1 else (stP cols f i).1
def arC (cols : Int) (f : Nat → Int) (i : Nat) : Int := if cols < (stP cols f i).2 + spG cols f i then 0 else (stP cols f i).2
def arV (cols : Int) (f : Nat → Int) (i j : Nat) : Value := match j with
  | 0 => .int .i64 (arR cols f i)
  | 1 => .int .i64 (arC cols f i)
  | _ => .int .i64 (spG cols f i)
theorem sp_bd {cols : Int} (h : 1 ≤ cols) (f : Nat → Int) (i : Nat) : 1 ≤ spG cols f i ∧ spG cols f i ≤ cols := by
  unfold spG clampS
  split
  · omega
  · split <;> omega
theorem st_succ (cols : Int) (f : Nat → Int) (i : Nat) : (stP cols f (i + 1)).1 = arR cols f i ∧ (stP cols f (i + 1)).2 = arC cols f i + spG cols f i := by
  unfold arR arC
  simp only [stP]
  split <;> simp
theorem st_bd {cols : Int} (h : 1 ≤ cols) (f : Nat → Int) : ∀ i, (0 ≤ (stP cols f i).1 ∧ (stP cols f i).1 ≤ i) ∧ 0 ≤ (stP cols f i).2 ∧ (stP cols f i).2 ≤ cols
  | 0 => by simp [stP]; omega
  | i + 1 => by
    have ih := st_bd h f i
    have s := sp_bd h f i
    simp only [stP]
    split
    · simp only; omega
    · simp only; omega
theorem ar_bd {cols : Int} (h : 1 ≤ cols) (f : Nat → Int) (i : Nat) : (0 ≤ arR cols f i ∧ arR cols f i ≤ i + 1) ∧ 0 ≤ arC cols f i ∧ arC cols f i + spG cols f i ≤ cols := by
  have a := st_bd h f i
  have s := sp_bd h f i
  unfold arR arC
  split <;> omega
/-- The first item lies at the beginning, each other one behind the one before it or in the next row. -/
theorem ar_zero {cols : Int} (h : 1 ≤ cols) (f : Nat → Int) : arR cols f 0 = 0 ∧ arC cols f 0 = 0 := by
  have s := sp_bd h f 0
  have z : ¬ cols < (stP cols f 0).2 + spG cols f 0 := by show ¬ cols < 0 + spG cols f 0; omega
  unfold arR arC
  rw [if_neg z, if_neg z]
  exact ⟨rfl, rfl⟩
theorem ar_next (cols : Int) (f : Nat → Int) (i : Nat) : (arR cols f (i + 1) = arR cols f i ∧ arC cols f (i + 1) = arC cols f i + spG cols f i) ∨ (arR cols f (i + 1) = arR cols f i + 1 ∧ arC cols f (i + 1) = 0 ∧ cols < arC cols f i + spG cols f i + spG cols f (i + 1)) := by
  obtain ⟨e1, e2⟩ := st_succ cols f i
  unfold arR arC at *
  by_cases q : cols < (stP cols f (i + 1)).2 + spG cols f (i + 1)
  · right
    rw [if_pos q, if_pos q]
    rw [e1, e2] at *
    exact ⟨rfl, rfl, q⟩
  · left
    rw [if_neg q, if_neg q, e1, e2]
    exact ⟨rfl, rfl⟩
/-- How many areas Place returns. -/
def plN (cols : Int) (n : Nat) : Nat := if 1 ≤ cols ∧ cols ≤ 24 ∧ n ≤ 100 then n else 0
def KPl (k : Nat) : Prop := ∀ (cols : Int) (p : Option Addr) (n c : Nat) (f : Nat → Int) (w : World), Reads w p n f → n ≤ 100000 →
  Calls Try.prog k #[.int .i64 cols, .slice p n c] w fun e w' => ∃ q d, e = .returned (.slice q (plN cols n) d) ∧ SRow w' q (plN cols n) 3 (arV cols f) ∧ Below w.heap.size w w'
/-- Where the tracks begin. -/
def stF (gap : Int) (f : Nat → Int) : Nat → Int
  | 0 => 0
  | i + 1 => stF gap f i + (f i + gap)
def KSt (k : Nat) : Prop := ∀ (gap : Int) (p : Option Addr) (n c : Nat) (f : Nat → Int) (w : World), Reads w p n f → n ≤ 1000 → (0 ≤ gap ∧ gap ≤ 1048576) → (∀ i, i < n → 0 ≤ f i ∧ f i ≤ 1048576) →
  Calls Try.prog k #[.int .i64 gap, .slice p n c] w fun e w' => ∃ q d, e = .returned (.slice q n d) ∧ Reads w' q n (stF gap f) ∧ Below w.heap.size w w'
theorem stF_bd {gap : Int} {f : Nat → Int} (hg : 0 ≤ gap ∧ gap ≤ 1048576) : ∀ {n : Nat}, (∀ i, i < n → 0 ≤ f i ∧ f i ≤ 1048576) → 0 ≤ stF gap f n ∧ stF gap f n ≤ n * 2097152
  | 0, _ => by simp [stF]
  | n + 1, h => by
    have ih := stF_bd hg (n := n) fun i hi => h i (by omega)
    have := h n (by omega)
    simp only [stF]
    omega
/-- The two tracks of the sanity check. -/
def trV (i j : Nat) : Value := if i = 0 then (if j = 0 then .int .i64 0 else .int .i64 30) else (if j = 0 then .int .i64 2 else .int .i64 1)
def KTr (k : Nat) : Prop := ∀ (p : Option Addr) (c : Nat) (w : World), SRow w p 2 2 trV → 2 ≤ c →
  Calls Try.prog k #[.int .i64 100, .int .i64 10, .slice p 2 c, .slice none 0 0] w fun e w' => ∃ q d, e = .returned (.tuple #[.slice q 2 d, .int .i64 0]) ∧ Reads w' q 2 (fun i => if i = 0 then 30 else 60) ∧ Below w.heap.size w w'
end Go.Proofs.Ytdoenkngmgclmaa
