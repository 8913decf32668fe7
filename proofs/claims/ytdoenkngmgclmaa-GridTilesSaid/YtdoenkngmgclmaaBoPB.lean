/- Package box's Baseline and Align answer as its laws ask; no condition. -/
import Derived.Test.YtdoenkngmgclmaaBoPA
import Derived.Test.YtdoenkngmgclmaaBoC
namespace Go.Proofs.Ytdoenkngmgclmaa
open Go.RowKit Go.Sort
set_option linter.unusedVariables false
set_option linter.unusedSimpArgs false

/-! ### Align -/
theorem lens2 (a b : Int) (w : World) : Calls Try.prog 67 #[.slice (some ⟨w.heap.size, 0, none⟩) 2 2] (w.alloc (.cells #[.int .i64 a, .int .i64 b] 3)) fun e w' => e = .returned (.bool (lenB a && lenB b)) ∧ w.alloc (.cells #[.int .i64 a, .int .i64 b] 3) = w' := by
  have h := lengths_any (some ⟨w.heap.size, 0, none⟩) 2 2 (fun i => if i = 0 then a else b) (w.alloc (.cells #[.int .i64 a, .int .i64 b] 3)) (by omega) (IRow.new w 2 (fun i => if i = 0 then a else b)).reads
  have e : lensB (fun i => if i = 0 then a else b) 2 = (lenB a && lenB b) := by simp [lensB]
  rw [e] at h
  exact h
end Go.Proofs.Ytdoenkngmgclmaa
/- Package box's Offsets answers as its laws ask; no condition. -/
namespace Go.Proofs.Ytdoenkngmgclmaa
open Go.RowKit Go.Sort
set_option linter.unusedVariables false
set_option linter.unusedSimpArgs false

noncomputable def gapF (ju fr gap : Int) (n i : Nat) : Int := gap + if ju = 3 ∧ 0 < fr ∧ 1 < n ∧ i + 1 < n then shr fr ones (n - 1) i else 0
theorem gap_ext {av gap ju : Int} {n i : Nat} {f : Nat → Int} (hi : i + 1 < n) : gapF ju (freO av gap n f) gap n i = gap + extO av gap ju n f (i + 1) := by
  unfold gapF extO
  by_cases h : ju = 3 ∧ 0 < freO av gap n f ∧ 1 < n
  · obtain ⟨h1, h2, h3⟩ := h
    rw [if_pos ⟨h1, h2, h3, hi⟩, if_pos ⟨h1, h2, h3, by omega⟩, Nat.add_sub_cancel]
  · rw [if_neg (fun hh => h ⟨hh.1, hh.2.1, hh.2.2.1⟩), if_neg (fun hh => h ⟨hh.1, hh.2.1, hh.2.2.1⟩)]
theorem gap_bd {ju fr gap : Int} {n i : Nat} (h1 : fr ≤ 1048576) (h2 : 0 ≤ gap ∧ gap ≤ 1048576) : 0 ≤ gapF ju fr gap n i ∧ gapF ju fr gap n i ≤ 2097152 := by
  unfold gapF
  split
  · rename_i hh
    have := shr_bd (T := fr) (ones_good (n - 1)) (by omega) (i := i) (by omega)
    omega
  · omega
end Go.Proofs.Ytdoenkngmgclmaa
/- Package box's Offsets answers as its laws ask; no condition. -/
namespace Go.Proofs.Ytdoenkngmgclmaa
open Go.RowKit Go.Sort
set_option linter.unusedVariables false
set_option linter.unusedSimpArgs false

theorem lensB_ofB {av gap ju : Int} {n : Nat} {f : Nat → Int} (hn : n ≤ 100) : ofB av gap ju n f = (inB ju 0 3 && (lenB av && lenB gap) && lensB f n) := by
  have e : lenA f 0 n = lensB f n := by
    by_cases h : ∀ i, i < n → 0 ≤ f i ∧ f i ≤ 1048576
    · rw [(lensB_iff f n).2 h, (lenA_iff f n 0).2 fun i _ hi => h i (by omega)]
    · have a : lensB f n = false := by
        cases hl : lensB f n with
        | false => rfl
        | true => exact absurd ((lensB_iff f n).1 hl) h
      have b : lenA f 0 n = false := by
        cases hl : lenA f 0 n with
        | false => rfl
        | true => exact absurd (fun i hi => (lenA_iff f n 0).1 hl i (Nat.zero_le _) (by omega)) h
      rw [a, b]
  unfold ofB inB
  rw [e, decide_eq_true (show n ≤ 100 from hn)]
  cases lenB av <;> cases lenB gap <;> cases lensB f n <;> simp
end Go.Proofs.Ytdoenkngmgclmaa
