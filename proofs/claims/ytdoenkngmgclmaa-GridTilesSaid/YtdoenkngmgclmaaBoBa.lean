/- append to a slice of integers of the call's own, where old memory alone is kept in sight; no condition. -/
import Derived.Test.YtdoenkngmgclmaaBoB
import Derived.OwnWalk
import Derived.Test.YtdoenkngmgclmaaApp
import Derived.Laws.CopyOwn
import Derived.Deep.Cut
import Derived.Deep.LoopGhost
namespace Go.Proofs.Ytdoenkngmgclmaa
open Go.RowKit Go.Sort
set_option linter.unusedVariables false
set_option linter.unusedSimpArgs false

def vals (n : Nat) (f : Nat → Int) : List Value := (List.range n).map fun i => .int .i64 (f i)
theorem vals_len (n : Nat) (f : Nat → Int) : (vals n f).length = n := by simp [vals]
theorem vals_succ (n : Nat) (f : Nat → Int) : vals (n + 1) f = vals n f ++ [.int .i64 (f n)] := by simp [vals, List.range_succ]
theorem vals_congr {n : Nat} {f g : Nat → Int} (h : ∀ i, i < n → f i = g i) : vals n f = vals n g := by
  unfold vals
  apply List.map_congr_left
  intro i hi
  rw [h i (List.mem_range.1 hi)]
theorem vals_get {n : Nat} (f : Nat → Int) {k : Nat} (hk : k < n) : (vals n f)[k]? = some (.int .i64 (f k)) := by simp [vals, hk]
theorem below_appended {w0 w w' : World} {row : Option Nat} (h : Below w0.heap.size w0 w) (hg : w.grownBy w' row) (hrow : ∀ k, row = some k → w0.heap.size ≤ k) : Below w0.heap.size w0 w' :=
  ⟨hg.os.trans h.os, hg.tape.trans h.tape, hg.output.trans h.output, Nat.le_trans h.size hg.size, fun k hk => (hg.block k (Nat.lt_of_lt_of_le hk h.size) (fun e => by have := hrow k e.symm; omega)).trans (h.block k hk)⟩
theorem own_vals {w : World} {base : Nat} {v : Value} {n : Nat} {f : Nat → Int} (h : w.ownsRow base 3 1 v n (vals n f)) : ∃ p c, v = .slice p n c ∧ Reads w p n f := by
  rcases h.2 with ⟨rfl, h0⟩ | ⟨g, cap, cur, rfl, hb, hg, hc, hm, hs, ht⟩
  · have hn : n = 0 := by simpa using h0
    subst hn
    exact ⟨none, 0, rfl, fun hn => absurd hn (Nat.lt_irrefl _)⟩
  · refine ⟨some ⟨g, 0, none⟩, cap, rfl, fun hn => ⟨g, 0, rfl, fun k hk => ?_⟩⟩
    have := vals_get f hk
    rw [← ht, List.getElem?_take, if_pos (by omega)] at this
    rw [Nat.zero_add, cell_of_row w g k cur _ (0, 0) hg]
    simpa using this
end Go.Proofs.Ytdoenkngmgclmaa
/- A row of zeros over whose places from 1 on a row is copied; no condition. -/
namespace Go.Proofs.Ytdoenkngmgclmaa
open Go.RowKit Go.Sort
theorem splice_ext {n m : Nat} {P E : Nat → Int} (hn : n = m + 1) (h0 : E 0 = 0) (h : ∀ j, j < m → P j = E (j + 1)) : (splice (ints n (fun _ => 0)).toList 1 (vals m P)).toArray = ints n E := by
  have hl : (ints n (fun _ => 0)).toList.length = n := by simp
  have hd : (ints n (fun _ => 0)).toList.drop (1 + (vals m P).length) = [] := List.drop_of_length_le (by rw [hl, vals_len]; omega)
  have hc : ∀ i, i < n → (ints n (fun _ => 0)).toList[i]? = some (.int .i64 0) := fun i hi => by
    have := ints_get (fun _ => 0) hi
    simpa using this
  apply Array.ext_getElem?
  intro j
  rw [List.getElem?_toArray]
  unfold splice
  rw [hd, List.append_nil]
  by_cases hj : j < n
  · rw [ints_get E hj]
    have ht : ((ints n (fun _ => 0)).toList.take 1).length = 1 := by rw [List.length_take, hl]; omega
    cases j with
    | zero =>
      rw [List.getElem?_append_left (by rw [ht]; omega), List.getElem?_take, if_pos (by omega), hc 0 hj, h0]
    | succ j =>
      rw [List.getElem?_append_right (by rw [ht]; omega), ht, Nat.add_sub_cancel, vals_get P (by omega), h j (by omega)]
  · rw [Array.getElem?_eq_none (by simp; omega), List.getElem?_eq_none (by
      rw [List.length_append, List.length_take, hl, vals_len]; omega)]
end Go.Proofs.Ytdoenkngmgclmaa
/- What Baseline of the reference of package box returns; the two slices read as integers. -/
namespace Go.Proofs.Ytdoenkngmgclmaa
open Go.RowKit Go.Sort
set_option linter.unusedVariables false
set_option linter.unusedSimpArgs false

/-- The greatest of the first numbers, 0 at least. -/
def maxF (f : Nat → Int) : Nat → Int
  | 0 => 0
  | n + 1 => max (maxF f n) (f n)
def basOk (n m : Nat) (f g : Nat → Int) : Prop := n = m ∧ n ≤ 100 ∧ ∀ i, i < n → (0 ≤ f i ∧ f i ≤ 1048576) ∧ (0 ≤ g i ∧ g i ≤ 1048576)
theorem maxF_bd {f : Nat → Int} {B : Int} (hB : 0 ≤ B) : ∀ {n : Nat}, (∀ i, i < n → f i ≤ B) → 0 ≤ maxF f n ∧ maxF f n ≤ B
  | 0, _ => ⟨Int.le_refl _, hB⟩
  | n + 1, h => by
    have a := maxF_bd hB (f := f) (n := n) fun i hi => h i (by omega)
    have b := h n (by omega)
    simp only [maxF]
    omega
theorem maxF_ge {f : Nat → Int} : ∀ {n i : Nat}, i < n → f i ≤ maxF f n
  | n + 1, i, hi => by
    simp only [maxF]
    rcases Nat.lt_or_ge i n with h | h
    · have := maxF_ge (f := f) h; omega
    · rw [show i = n by omega]; omega
theorem reads_at {w w' : World} {p : Option Addr} {n : Nat} {f : Nat → Int} (h : Reads w p n f) (hB : Below w.heap.size w w') {k : Nat} (hk : k < n) : ∃ b off, p = some ⟨b, off, none⟩ ∧ b < w.heap.size ∧ w'.cell? ⟨b, off + k, none⟩ = some (.int .i64 (f k)) := by
  obtain ⟨b, off, hp, hc⟩ := h (by omega)
  have hb := lt_of_cell (hc k hk)
  exact ⟨b, off, hp, hb, (hB.cell (p := ⟨b, off + k, none⟩) hb).trans (hc k hk)⟩

end Go.Proofs.Ytdoenkngmgclmaa
/- What Offsets of the reference of package box returns where all numbers are in range: the positions of the chapter; no other condition. -/
namespace Go.Proofs.Ytdoenkngmgclmaa
open Go.RowKit Go.Sort
set_option linter.unusedVariables false
set_option linter.unusedSimpArgs false

def ofOk (av gap ju : Int) (n : Nat) (f : Nat → Int) : Prop := (0 ≤ av ∧ av ≤ 1048576) ∧ (0 ≤ gap ∧ gap ≤ 1048576) ∧ (0 ≤ ju ∧ ju ≤ 3) ∧ ∀ i, i < n → 0 ≤ f i ∧ f i ≤ 1048576
def freO (av gap : Int) (n : Nat) (f : Nat → Int) : Int := spcF av gap n - sumF f n
theorem addr_add0 (g j : Nat) : (Addr.mk g 0 none).add j = ⟨g, j, none⟩ := by
  unfold Addr.add
  by_cases h : j = 0
  · simp [h]
  · simp [h]
def ones : Nat → Int := fun _ => 1
noncomputable def extO (av gap ju : Int) (n : Nat) (f : Nat → Int) (i : Nat) : Int := if ju = 3 ∧ 0 < freO av gap n f ∧ 1 < n ∧ 0 < i then shr (freO av gap n f) ones (n - 1) (i - 1) else 0
def at0 (ju free : Int) : Int := if ju = 1 then free else if ju = 2 then flr free 2 else 0
noncomputable def posO (av gap ju : Int) (n : Nat) (f : Nat → Int) : Nat → Int
  | 0 => at0 ju (freO av gap n f)
  | i + 1 => posO av gap ju n f i + f i + (gap + extO av gap ju n f (i + 1))
noncomputable def ofF (av gap ju : Int) (n : Nat) (f : Nat → Int) (r : Bool) (i : Nat) : Int := if r then av - f i - posO av gap ju n f i else posO av gap ju n f i
theorem ones_good (n : Nat) : Good ones n := fun k _ => ⟨by show (0 : Int) ≤ 1; omega, by show (1 : Int) ≤ _; omega⟩
theorem spc_bd {av gap : Int} {n : Nat} (h1 : 0 ≤ av ∧ av ≤ 1048576) (h2 : 0 ≤ gap ∧ gap ≤ 1048576) : -(n : Int) * 1048576 ≤ spcF av gap n ∧ spcF av gap n ≤ av := by
  unfold spcF
  split
  · omega
  · have a := Int.mul_le_mul h2.2 (show (n : Int) - 1 ≤ n by omega) (by omega) (by omega)
    have b := Int.mul_nonneg h2.1 (show 0 ≤ (n : Int) - 1 by omega)
    omega
theorem fre_bdO {av gap ju : Int} {n : Nat} {f : Nat → Int} (hn : n ≤ 100) (h : ofOk av gap ju n f) {k : Nat} (hk : k ≤ n) : -209715200 ≤ freO av gap k f ∧ freO av gap k f ≤ 1048576 := by
  obtain ⟨h1, h2, _, h4⟩ := h
  have a := spc_bd (n := k) h1 h2
  have b := sumF_bound (f := f) (B := 1048576) k fun i hi => h4 i (by omega)
  unfold freO
  omega
theorem ext_bd {av gap ju : Int} {n : Nat} {f : Nat → Int} (hn : n ≤ 100) (h : ofOk av gap ju n f) {i : Nat} (hi : i < n) : 0 ≤ extO av gap ju n f i ∧ extO av gap ju n f i ≤ 1048576 := by
  unfold extO
  split
  · rename_i hh
    have := shr_bd (T := freO av gap n f) (ones_good (n - 1)) (by omega) (i := i - 1) (by omega)
    have := fre_bdO hn h (Nat.le_refl n)
    omega
  · omega
theorem pos_bd {av gap ju : Int} {n : Nat} {f : Nat → Int} (hn : n ≤ 100) (h : ofOk av gap ju n f) : ∀ i, i < n → -209715200 ≤ posO av gap ju n f i ∧ posO av gap ju n f i ≤ 1048576 + i * 4000000
  | 0, _ => by
    have := fre_bdO hn h (Nat.le_refl n)
    show -209715200 ≤ at0 ju (freO av gap n f) ∧ at0 ju (freO av gap n f) ≤ _
    unfold at0 flr
    rw [Int.fdiv_eq_ediv_of_nonneg _ (by omega)]
    split
    · omega
    · split <;> omega
  | i + 1, hi => by
    have ih := pos_bd hn h i (by omega)
    have e := ext_bd hn h hi
    have h2 := h.2.1
    have h4 := h.2.2.2 i (by omega)
    show -209715200 ≤ posO av gap ju n f i + f i + (gap + extO av gap ju n f (i + 1)) ∧ posO av gap ju n f i + f i + (gap + extO av gap ju n f (i + 1)) ≤ _
    omega
/-- What 'at' holds at the head of round i. -/
noncomputable def atO (av gap ju : Int) (n : Nat) (f : Nat → Int) : Nat → Int
  | 0 => at0 ju (freO av gap n f)
  | i + 1 => posO av gap ju n f i + f i
theorem pos_at (av gap ju : Int) (n : Nat) (f : Nat → Int) (i : Nat) : posO av gap ju n f i = if i = 0 then atO av gap ju n f i else atO av gap ju n f i + (gap + extO av gap ju n f i) := by
  cases i with
  | zero => rfl
  | succ i => rfl
theorem at_bd {av gap ju : Int} {n : Nat} {f : Nat → Int} (hn : n ≤ 100) (h : ofOk av gap ju n f) : ∀ i, i ≤ n → -209715200 ≤ atO av gap ju n f i ∧ atO av gap ju n f i ≤ 8000000 + i * 4000000
  | 0, _ => by
    have := fre_bdO hn h (Nat.le_refl n)
    show -209715200 ≤ at0 ju (freO av gap n f) ∧ at0 ju (freO av gap n f) ≤ _
    unfold at0 flr
    rw [Int.fdiv_eq_ediv_of_nonneg _ (by omega)]
    split
    · omega
    · split <;> omega
  | i + 1, hi => by
    have ih := pos_bd hn h i (by omega)
    have h4 := h.2.2.2 i (by omega)
    show -209715200 ≤ posO av gap ju n f i + f i ∧ posO av gap ju n f i + f i ≤ _
    omega
end Go.Proofs.Ytdoenkngmgclmaa
/- What Align of the reference of package box returns; no condition. -/
namespace Go.Proofs.Ytdoenkngmgclmaa
open Go.RowKit Go.Sort
set_option linter.unusedVariables false
set_option linter.unusedSimpArgs false

def alX (al av sz : Int) : Int := if al = 3 then av else sz
def alP (al av sz : Int) : Int := if al = 1 then av - sz else if al = 2 then flr (av - sz) 2 else 0
def alOk (al av sz : Int) : Prop := (0 ≤ av ∧ av ≤ 1048576) ∧ (0 ≤ sz ∧ sz ≤ 1048576) ∧ 0 ≤ al ∧ al ≤ 4
def alA (al av sz : Int) (r : Bool) : Int := if r then av - alX al av sz - alP al av sz else alP al av sz
theorem half_bd {x : Int} (h1 : -1048576 ≤ x) (h2 : x ≤ 1048576) : -1048576 ≤ flr x 2 ∧ flr x 2 ≤ 1048576 := by
  unfold flr
  rw [Int.fdiv_eq_ediv_of_nonneg _ (by omega)]
  omega
end Go.Proofs.Ytdoenkngmgclmaa
