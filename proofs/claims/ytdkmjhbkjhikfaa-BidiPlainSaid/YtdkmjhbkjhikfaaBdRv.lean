/- What slices.Reverse does to a part of a row of integers of the call's own. -/
import Derived.Test.YtdkmjhbkjhikfaaBdB
import Derived.Deep.RegionLaw
import Derived.RegionTactic
namespace Go.Proofs.Ytdkmjhbkjhikfaa
open Go.RowKit Go.Sort
set_option linter.unusedVariables false
set_option linter.unusedSimpArgs false

/-- The part from a to b reversed. -/
def rev {α : Type} (a b : Nat) (x : Nat → α) : Nat → α := fun i => if a ≤ i ∧ i < b then x (a + b - 1 - i) else x i
theorem rev_in {α : Type} {a b i : Nat} (x : Nat → α) (h1 : a ≤ i) (h2 : i < b) : rev a b x i = x (a + b - 1 - i) := if_pos ⟨h1, h2⟩
theorem rev_out {α : Type} {a b i : Nat} (x : Nat → α) (h : i < a ∨ b ≤ i) : rev a b x i = x i := if_neg (by omega)
theorem rev_small {α : Type} {a b : Nat} (x : Nat → α) (h : b ≤ a + 1) : ∀ i, rev a b x i = x i := fun i => by
  by_cases e : a ≤ i ∧ i < b
  · rw [rev_in x e.1 e.2]; congr 1; omega
  · exact if_neg e
/-- Half way: the i outermost pairs have been exchanged. -/
def half {α : Type} (a b i : Nat) (x : Nat → α) : Nat → α := fun k => if (a ≤ k ∧ k < a + i) ∨ (b ≤ k + i ∧ k < b) then x (a + b - 1 - k) else x k
theorem half_step {a b i j : Nat} (x : Nat → Int) (hij : i < j) (hm : a + i + j + 1 = b) (k : Nat) :
    (if k = a + j then half a b i x (a + i) else if k = a + i then half a b i x (a + j) else half a b i x k) = half a b (i + 1) x k := by
  have e1 : half a b i x (a + i) = x (a + i) := if_neg (by omega)
  have e2 : half a b i x (a + j) = x (a + j) := if_neg (by omega)
  rw [e1, e2]
  unfold half
  by_cases h1 : k = a + j
  · rw [if_pos h1, if_pos (by omega)]; congr 1; omega
  · rw [if_neg h1]
    by_cases h2 : k = a + i
    · rw [if_pos h2, if_pos (by omega)]; congr 1; omega
    · rw [if_neg h2]
      by_cases h3 : (a ≤ k ∧ k < a + i) ∨ (b ≤ k + i ∧ k < b)
      · rw [if_pos h3, if_pos (by omega)]
      · rw [if_neg h3, if_neg (by omega)]
theorem half_end {a b i j : Nat} (x : Nat → Int) (hij : ¬ i < j) (hm : a + i + j + 1 = b) (k : Nat) : half a b i x k = rev a b x k := by
  unfold half rev
  by_cases h : a ≤ k ∧ k < b
  · rw [if_pos h]
    by_cases h3 : (a ≤ k ∧ k < a + i) ∨ (b ≤ k + i ∧ k < b)
    · rw [if_pos h3]
    · rw [if_neg h3]; congr 1; omega
  · rw [if_neg h, if_neg (by omega)]

theorem reverse_small (ad : Option Addr) (m c : Nat) (w : World) (hm : m ≤ 1) : Calls Try.prog 55 #[.slice ad m c] w fun e w' => e = .returned (.tuple #[]) ∧ w = w' := by
  rcases (show m = 0 ∨ m = 1 by omega) with rfl | rfl
  all_goals
    go_enter Try.func55, Try.ntmps55
    go_wp2
    refine wp_loop_rounds 1 ?_
    rw [rounds_succ]
    go_wp2
    go_end0
    exact ⟨rfl, rfl⟩

set_option maxHeartbeats 4000000 in
theorem reverse_any (ob n a m c : Nat) (X : Nat → Int) (w : World) (hr : IRow w ob n X) (hm : 2 ≤ m) (ham : a + m ≤ n) (hn : n ≤ 100000) :
    Calls Try.prog 55 #[.slice (some ⟨ob, a, none⟩) m c] w fun e w' => e = .returned (.tuple #[]) ∧ But ob w w' ∧ IRow w' ob n (rev a (a + m) X) := by
  have S0 : Hid (But ob w w ∧ IRow w ob n (half a (a + m) 0 X)) := ⟨But.refl _ _, hr.congr fun k _ => (if_neg (by omega)).symm⟩
  clear hr
  have hm1 : ((m : Int) - 1) = ((m - 1 : Nat) : Int) := by omega
  go_enter Try.func55, Try.ntmps55
  go_wp2
  go_loopg [2, 3] (m + 1) (fun gh s2 s3 wr => ∃ i j : Nat, s2 = .int .i64 (i : Int) ∧ s3 = .int .i64 (j : Int) ∧ i + j + 1 = m ∧ m - i < gh ∧ Hid (But ob w wr ∧ IRow wr ob n (half a (a + m) i X)))
  case atStart => exact ⟨0, m - 1, by go_num, by go_num, by omega, by omega, S0⟩
  case round =>
    clear S0 hm1
    obtain ⟨wo, rfl⟩ : ∃ wo : World, wo = wr := ⟨_, rfl⟩
    obtain ⟨i, j, rfl, rfl, hij, hg, S⟩ := hrel
    by_cases hlt : i < j
    · have hltz : (i : Int) < (j : Int) := by omega
      have hi0 : (0 : Int) ≤ (i : Int) := by omega
      have hj0 : (0 : Int) ≤ (j : Int) := by omega
      have him : (i : Int) < (m : Int) := by omega
      have hjm : (j : Int) < (m : Int) := by omega
      have ci := S.out.2.cell (i := a + i) (by omega)
      have cj := S.out.2.cell (i := a + j) (by omega)
      have fi := S.out.2.frozen (a + i)
      have fj := S.out.2.frozen (a + j)
      have ne : ¬ i = j := by omega
      have ne' : ¬ j = i := by omega
      have hj1 : ((j : Int) - 1) = ((j - 1 : Nat) : Int) := by omega
      have NX : Hid (But ob w (((wo.setCell ⟨ob, a + i, none⟩ (.int .i64 (half a (a + m) i X (a + j)))).setCell ⟨ob, a + j, none⟩ (.int .i64 (half a (a + m) i X (a + i)))).drew) ∧
          IRow (((wo.setCell ⟨ob, a + i, none⟩ (.int .i64 (half a (a + m) i X (a + j)))).setCell ⟨ob, a + j, none⟩ (.int .i64 (half a (a + m) i X (a + i)))).drew) ob n (half a (a + m) (i + 1) X)) :=
        ⟨((S.out.1.setCell rfl _).setCell rfl _).drew, (show IRow ((wo.setCell ⟨ob, a + i, none⟩ (.int .i64 (half a (a + m) i X (a + j)))).setCell ⟨ob, a + j, none⟩ (.int .i64 (half a (a + m) i X (a + i)))) ob n (half a (a + m) (i + 1) X) from
          ((S.out.2.set_ (a + i) _).set_ (a + j) _).congr fun k hk => half_step X hlt (by omega) k)⟩
      clear S
      go_wp2
      go_region_law (fail)
      all_goals
        go_wp2
        go_roundg (m - i)
        case measure => omega
        case rel => exact ⟨i + 1, j - 1, by go_num, by go_num, by omega, by omega, NX⟩
    · have hltz : ¬ (i : Int) < (j : Int) := by omega
      go_wp2
      go_end0
      exact ⟨rfl, S.out.1, S.out.2.congr fun k _ => half_end X hlt (by omega) k⟩

/-- A maximal list of places whose level is at least L. -/
def Seg (f : Nat → Int) (n : Nat) (L : Int) (a b : Nat) : Prop := a < b ∧ b ≤ n ∧ (∀ k, a ≤ k → k < b → ¬ f k < L) ∧ (a = 0 ∨ f (a - 1) < L) ∧ (b = n ∨ f b < L)
/-- Each such list of o has been reversed. -/
def RevStep (f : Nat → Int) (n : Nat) (L : Int) (o x : Nat → Int) : Prop := ∀ i, i < n → (f i < L → x i = o i) ∧ ∀ a b, Seg f n L a b → a ≤ i → i < b → x i = o (a + b - 1 - i)
/-- .. up to m. -/
def PartO (f : Nat → Int) (n : Nat) (L : Int) (m : Nat) (o x : Nat → Int) : Prop := ∀ i, i < n → (i < m → (f i < L → x i = o i) ∧ ∀ a b, Seg f n L a b → a ≤ i → i < b → x i = o (a + b - 1 - i)) ∧ (m ≤ i → x i = o i)
theorem PartO.zero (f : Nat → Int) (n : Nat) (L : Int) (o : Nat → Int) : PartO f n L 0 o o := fun i hi => ⟨fun h => by omega, fun _ => rfl⟩
theorem PartO.all {f : Nat → Int} {n m : Nat} {L : Int} {o x : Nat → Int} (h : PartO f n L m o x) (hm : n ≤ m) : RevStep f n L o x := fun i hi => (h i hi).1 (by omega)
theorem PartO.skip {f : Nat → Int} {n m : Nat} {L : Int} {o x : Nat → Int} (h : PartO f n L m o x) (hm : f m < L) : PartO f n L (m + 1) o x := fun i hi => by
  refine ⟨fun q => ?_, fun q => (h i hi).2 (by omega)⟩
  by_cases e : i = m
  · subst e
    have := (h i hi).2 (Nat.le_refl _)
    exact ⟨fun _ => this, fun a b hs h1 h2 => absurd hm (hs.2.2.1 i h1 h2)⟩
  · exact (h i hi).1 (by omega)
theorem Seg.uniq {f : Nat → Int} {n : Nat} {L : Int} {a b a' b' i : Nat} (h : Seg f n L a b) (k : Seg f n L a' b') (h1 : a ≤ i) (h2 : i < b) (k1 : a' ≤ i) (k2 : i < b') : a = a' ∧ b = b' := by
  obtain ⟨p1, p2, p3, p4, p5⟩ := h
  obtain ⟨q1, q2, q3, q4, q5⟩ := k
  constructor
  · rcases Nat.lt_trichotomy a a' with e | e | e
    · rcases q4 with z | z
      · omega
      · exact absurd z (p3 (a' - 1) (by omega) (by omega))
    · exact e
    · rcases p4 with z | z
      · omega
      · exact absurd z (q3 (a - 1) (by omega) (by omega))
  · rcases Nat.lt_trichotomy b b' with e | e | e
    · rcases p5 with z | z
      · omega
      · exact absurd z (q3 b (by omega) (by omega))
    · exact e
    · rcases q5 with z | z
      · omega
      · exact absurd z (p3 b' (by omega) (by omega))
theorem PartO.seg {f : Nat → Int} {n m j : Nat} {L : Int} {o x : Nat → Int} (h : PartO f n L m o x) (hs : Seg f n L m j) : PartO f n L j o (rev m j x) := fun i hi => by
  refine ⟨fun q => ?_, fun q => ?_⟩
  · by_cases e : i < m
    · rw [rev_out x (Or.inl e)]; exact (h i hi).1 e
    · rw [rev_in x (by omega) q]
      have hx : x (m + j - 1 - i) = o (m + j - 1 - i) := (h (m + j - 1 - i) (by have := hs.2.1; omega)).2 (by omega)
      refine ⟨fun hf => absurd hf (hs.2.2.1 i (by omega) q), fun a b hab h1 h2 => ?_⟩
      obtain ⟨rfl, rfl⟩ := hs.uniq hab (by omega) q h1 h2
      exact hx
  · rw [rev_out x (Or.inr q)]; exact (h i hi).2 (by have := hs.1; omega)
theorem seg_exists {f : Nat → Int} {n : Nat} {L : Int} {i : Nat} (hi : i < n) (hf : ¬ f i < L) : ∃ a b, Seg f n L a b ∧ a ≤ i ∧ i < b := by
  have low : ∀ i, ¬ f i < L → ∃ a, a ≤ i ∧ (∀ k, a ≤ k → k ≤ i → ¬ f k < L) ∧ (a = 0 ∨ f (a - 1) < L) := fun i => by
    induction i with
    | zero => exact fun h => ⟨0, Nat.le_refl _, fun k _ hk => by obtain rfl : k = 0 := by omega
                                                                 exact h, Or.inl rfl⟩
    | succ i ih =>
      intro h
      by_cases e : f i < L
      · exact ⟨i + 1, Nat.le_refl _, fun k h1 h2 => by obtain rfl : k = i + 1 := by omega
                                                       exact h, Or.inr e⟩
      · obtain ⟨a, h1, h2, h3⟩ := ih e
        refine ⟨a, by omega, fun k k1 k2 => ?_, h3⟩
        by_cases e' : k = i + 1
        · subst e'; exact h
        · exact h2 k k1 (by omega)
  have high : ∀ d i, n - i = d → i < n → ¬ f i < L → ∃ b, i < b ∧ b ≤ n ∧ (∀ k, i ≤ k → k < b → ¬ f k < L) ∧ (b = n ∨ f b < L) := fun d => by
    induction d with
    | zero => intro i h1 h2; omega
    | succ d ih =>
      intro i h1 h2 h3
      by_cases e : i + 1 = n
      · exact ⟨n, by omega, Nat.le_refl _, fun k k1 k2 => by obtain rfl : k = i := by omega
                                                             exact h3, Or.inl rfl⟩
      · by_cases e' : f (i + 1) < L
        · exact ⟨i + 1, by omega, by omega, fun k k1 k2 => by obtain rfl : k = i := by omega
                                                              exact h3, Or.inr e'⟩
        · obtain ⟨b, b1, b2, b3, b4⟩ := ih (i + 1) (by omega) (by omega) e'
          refine ⟨b, by omega, b2, fun k k1 k2 => ?_, b4⟩
          by_cases e2 : k = i
          · subst e2; exact h3
          · exact b3 k (by omega) k2
  obtain ⟨a, a1, a2, a3⟩ := low i hf
  obtain ⟨b, b1, b2, b3, b4⟩ := high _ i rfl hi hf
  refine ⟨a, b, ⟨by omega, b2, fun k k1 k2 => ?_, a3, b4⟩, a1, b1⟩
  by_cases e : k ≤ i
  · exact a2 k k1 e
  · exact b3 k (by omega) k2
theorem RevStep.uniq {f : Nat → Int} {n : Nat} {L : Int} {o o' x y : Nat → Int} (h : RevStep f n L o x) (k : RevStep f n L o' y) (ho : ∀ i, i < n → o i = o' i) : ∀ i, i < n → x i = y i := fun i hi => by
  by_cases e : f i < L
  · rw [(h i hi).1 e, (k i hi).1 e, ho i hi]
  · obtain ⟨a, b, hs, h1, h2⟩ := seg_exists hi e
    rw [(h i hi).2 a b hs h1 h2, (k i hi).2 a b hs h1 h2, ho _ (by have := hs.2.1; omega)]

/-- The order when all lists of at least level L have been reversed, from level 127 down. -/
inductive OrdR (f : Nat → Int) (n : Nat) : Nat → (Nat → Int) → Prop
  | start (o : Nat → Int) (h : ∀ i, i < n → o i = (i : Int)) : OrdR f n 128 o
  | step (L : Nat) (o x : Nat → Int) (h : OrdR f n (L + 1) o) (hs : RevStep f n (L : Int) o x) : OrdR f n L x
theorem OrdR.le {f : Nat → Int} {n L : Nat} {x : Nat → Int} (h : OrdR f n L x) : L ≤ 128 := by
  induction h with
  | start => exact Nat.le_refl _
  | step L o x _ _ ih => omega
theorem OrdR.uniq {f : Nat → Int} {n : Nat} {L : Nat} {x : Nat → Int} (h : OrdR f n L x) : ∀ {y : Nat → Int}, OrdR f n L y → ∀ i, i < n → x i = y i := by
  induction h with
  | start o h =>
    intro y k
    cases k with
    | start _ k => exact fun i hi => by rw [h i hi, k i hi]
    | step _ o' _ k _ => have := k.le; omega
  | step L o x h hs ih =>
    intro y k
    cases k with
    | start _ k => have := h.le; omega
    | step _ o' _ k ks => exact hs.uniq ks (ih k)
/-- Places below the level are where they were; the others hold places of at least the level. -/
theorem OrdR.keeps {f : Nat → Int} {n L : Nat} {x : Nat → Int} (h : OrdR f n L x) (hf : ∀ i, i < n → f i < 128) : ∀ i, i < n → (f i < (L : Int) → x i = (i : Int)) ∧ (¬ f i < (L : Int) → ∃ k : Nat, x i = (k : Int) ∧ k < n ∧ ¬ f k < (L : Int)) := by
  induction h with
  | start o h => exact fun i hi => ⟨fun _ => h i hi, fun q => absurd (hf i hi) q⟩
  | step L o x h hs ih =>
    intro i hi
    refine ⟨fun q => ?_, fun q => ?_⟩
    · rw [(hs i hi).1 q]
      exact (ih i hi).1 (by push_cast; omega)
    · obtain ⟨a, b, sg, h1, h2⟩ := seg_exists hi q
      have hj : a + b - 1 - i < n := by have := sg.2.1; omega
      rw [(hs i hi).2 a b sg h1 h2]
      have hfj := sg.2.2.1 (a + b - 1 - i) (by omega) (by omega)
      by_cases e : f (a + b - 1 - i) < ((L + 1 : Nat) : Int)
      · exact ⟨a + b - 1 - i, (ih _ hj).1 e, hj, hfj⟩
      · obtain ⟨k, k1, k2, k3⟩ := (ih _ hj).2 e
        exact ⟨k, k1, k2, fun hk => k3 (by push_cast; omega)⟩
end Go.Proofs.Ytdkmjhbkjhikfaa
