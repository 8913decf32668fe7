/- What the laws of package box ask of Resolve, Offsets, Align and Baseline, as definitions over a function's number: the reference's own functions answer so; no condition. -/
import Derived.Test.YtjaapdkhjgolfaaBoRe
import Derived.Test.YtjaapdkhjgolfaaBoOe
import Derived.Test.YtjaapdkhjgolfaaBoAl
import Derived.Test.YtjaapdkhjgolfaaBoBa
import Derived.Test.YtjaapdkhjgolfaaBoM
namespace Go.Proofs.Ytjaapdkhjgolfaa
open Go.RowKit Go.Sort
set_option linter.unusedVariables false
set_option linter.unusedSimpArgs false

def erR (av gap : Int) (x : Nat → Fx) (n : Nat) : Int := if 100 < n then 2 else if (lenB av && lenB gap && okA x 0 n) = true then 0 else 1
def KRes (k : Nat) : Prop := ∀ (av gap : Int) (p : Option Addr) (n c : Nat) (x : Nat → Fx) (w : World), SRow w p n 5 (fxC x) → n ≤ 100000 →
  Calls Try.prog k #[.int .i64 av, .int .i64 gap, .slice p n c] w fun e w' => ∃ q d, e = .returned (.tuple #[.slice q (if erR av gap x n = 0 then n else 0) d, .int .i64 (erR av gap x n)]) ∧ Reads w' q (if erR av gap x n = 0 then n else 0) (resF av gap x n) ∧ Below w.heap.size w w'
def KOff (k : Nat) : Prop := ∀ (av gap ju : Int) (p : Option Addr) (n c : Nat) (f : Nat → Int) (r : Bool) (w : World), Reads w p n f → n ≤ 100000 →
  Calls Try.prog k #[.int .i64 av, .int .i64 gap, .int .i64 ju, .slice p n c, .bool r] w fun e w' => ∃ q d, e = .returned (.slice q (if ofB av gap ju n f = true then n else 0) d) ∧ Reads w' q (if ofB av gap ju n f = true then n else 0) (ofF av gap ju n f r) ∧ Below w.heap.size w w'
noncomputable def alV (al av sz : Int) (r : Bool) : Value := open Classical in if alOk al av sz then .tuple #[.int .i64 (alA al av sz r), .int .i64 (alX al av sz)] else .tuple #[.int .i64 0, .int .i64 0]
def KAlg (k : Nat) : Prop := ∀ (al av sz : Int) (r : Bool) (w : World), Calls Try.prog k #[.int .i64 al, .int .i64 av, .int .i64 sz, .bool r] w fun e w' => e = .returned (alV al av sz r) ∧ Below w.heap.size w w'
noncomputable def bsN (n m : Nat) (f g : Nat → Int) : Nat := open Classical in if basOk n m f g then n else 0
noncomputable def bsH (n m : Nat) (f g : Nat → Int) : Int := open Classical in if basOk n m f g then maxF (fun i => maxF g n - g i + f i) n else 0
def KBas (k : Nat) : Prop := ∀ (p q : Option Addr) (n m c d : Nat) (f g : Nat → Int) (w : World), Reads w p n f → Reads w q m g → n ≤ 100000 → m ≤ 100000 →
  Calls Try.prog k #[.slice p n c, .slice q m d] w fun e w' => ∃ u v, e = .returned (.tuple #[.slice u (bsN n m f g) v, .int .i64 (bsH n m f g)]) ∧ Reads w' u (bsN n m f g) (fun i => maxF g n - g i) ∧ Below w.heap.size w w'

theorem reads_none (w : World) (f : Nat → Int) : Reads w none 0 f := fun h => absurd h (Nat.lt_irrefl _)
theorem okA_iff (x : Nat → Fx) : ∀ m k, okA x k m = true ↔ ∀ i, k ≤ i → i < k + m → okF (x i)
  | 0, k => ⟨fun _ i h1 h2 => by omega, fun _ => rfl⟩
  | m + 1, k => by
    rw [okA, Bool.and_eq_true, okA_iff x m (k + 1), okB_iff]
    constructor
    · rintro ⟨h0, h⟩ i h1 h2
      rcases Nat.eq_or_lt_of_le h1 with e | e
      · rw [← e]; exact h0
      · exact h i (by omega) (by omega)
    · intro h
      exact ⟨h k (Nat.le_refl _) (by omega), fun i h1 h2 => h i (by omega) (by omega)⟩
theorem lenB_iff (x : Int) : lenB x = true ↔ 0 ≤ x ∧ x ≤ 1048576 := by simp [lenB]
theorem er_ok {av gap : Int} {x : Nat → Fx} {n : Nat} (hn : n ≤ 100) (ha : 0 ≤ av ∧ av ≤ 1048576) (hg : 0 ≤ gap ∧ gap ≤ 1048576) (hx : ∀ i, i < n → okF (x i)) : erR av gap x n = 0 := by
  unfold erR
  rw [if_neg (by omega), if_pos (by rw [(lenB_iff av).2 ha, (lenB_iff gap).2 hg, (okA_iff x n 0).2 fun i _ h => hx i (by omega)]; rfl)]
theorem rOff : KOff 21 := by
  intro av gap ju p n c f r w hf hn
  by_cases h : ofB av gap ju n f = true
  · have ⟨h1, h2⟩ := (ofB_iff av gap ju n f).1 h
    simp only [h, if_true]
    refine (rOffsets_ok av gap ju p n c f r w hf h1 h2).mono ?_
    rintro e w' ⟨b, rfl, hb, hi, hB⟩
    exact ⟨some ⟨b, 0, none⟩, n, rfl, hi.reads, hB⟩
  · have h' : ofB av gap ju n f = false := by simpa using h
    simp only [h', Bool.false_eq_true, if_false]
    refine (rOffsets_err av gap ju p n c f r w hf hn h').mono ?_
    rintro e w' ⟨rfl, rfl⟩
    exact ⟨none, 0, rfl, reads_none _ _, Below.refl _ _⟩
theorem rAlg : KAlg 23 := by
  intro al av sz r w
  unfold alV
  by_cases h : alOk al av sz
  · rw [if_pos h]
    exact (rAlign_ok al av sz r w h).mono (by rintro e w' ⟨rfl, rfl⟩; exact ⟨rfl, Below.refl _ _⟩)
  · rw [if_neg h]
    exact (rAlign_err al av sz r w h).mono (by rintro e w' ⟨rfl, rfl⟩; exact ⟨rfl, Below.refl _ _⟩)
theorem rBas : KBas 25 := by
  intro p q n m c d f g w hf hg hn hm
  unfold bsN bsH
  by_cases h : basOk n m f g
  · simp only [if_pos h]
    refine (rBas_ok p q n m c d f g w hf hg h).mono ?_
    rintro e w' ⟨rfl, hi, hG⟩
    exact ⟨_, n, rfl, hi.reads, hG.1⟩
  · simp only [if_neg h]
    refine (rBas_err p q n m c d f g w hf hg hn hm h).mono ?_
    rintro e w' ⟨rfl, rfl⟩
    exact ⟨none, 0, rfl, reads_none _ _, Below.refl _ _⟩
end Go.Proofs.Ytjaapdkhjgolfaa
