/- Keeping a row's place in plain terms, where rows are inserted before it or removed there; no premise on the program. -/
import Derived.Test.YtbmkamnjjfmdiaaScL6
namespace Go.Proofs.Ytbmkamnjjfmdiaa
open Go.RowKit Go.Sort
set_option linter.unusedVariables false
set_option linter.unusedSimpArgs false

/-- New rows, then the old ones from a place on. -/
def kpB (k gone : Nat) (NB A : Nat → Stp) (j : Nat) : Stp := if j < k then NB j else A (gone + (j - k))
theorem ixk_at {m X : Nat} {l : Nat → Stp} {key : ByteArray} (hX : X < m) (h1 : eqK (l X).k key = true) (h2 : ∀ j, j < X → eqK (l j).k key = false) : ixF m l key = X := by
  unfold ixF
  exact fsF_eq (Nat.zero_le _) (by omega) (fun j _ hj => h2 j hj) (Or.inr h1)
theorem kp_key {n k gone first : Nat} {A NB : Nat → Stp} (hk : ∀ i j, i < n → j < n → eqK (A i).k (A j).k = decide (i = j)) (hn : ∀ i j, i < k → j < n → eqK (NB i).k (A j).k = false) (hf : first < n) (hg : gone ≤ first) :
    (∀ j, j < k + first - gone → eqK (kpB k gone NB A j).k (A first).k = false) ∧ eqK (kpB k gone NB A (k + first - gone)).k (A first).k = true := by
  constructor
  · intro j hj
    unfold kpB
    split
    · rename_i q; exact hn j first q hf
    · rename_i q
      rw [hk _ _ (by omega) hf]
      exact decide_eq_false (by omega)
  · unfold kpB
    rw [if_neg (by omega), hk _ _ (by omega) hf]
    exact decide_eq_true (by omega)
theorem ke_hit {n m first X : Nat} {A B : Nat → Stp} {o : Int} (hA : rowsB n A = true) (hB : rowsB m B = true) (ho : inRB o = true) (hf : first < n) (h1 : topF A first ≤ o) (h2 : o < topF A (first + 1)) (hX : ixF m B (A first).k = X) (hXm : X < m) :
    keF n m A B o = topF B X + o - topF A first := by
  have hr := rows_iff.1 hA
  have e : fsF (hitF n m A B o) n 0 = first := by
    refine fsF_eq (Nat.zero_le _) (by omega) (fun j _ hj => ?_) (Or.inr ?_)
    · unfold hitF
      have := top_mono' (n := n) (l := A) (fun i hi => (hr.2 i hi).1) (show j + 1 ≤ first by omega) (by omega)
      rw [show decide (o < topF A (j + 1)) = false from decide_eq_false (by omega), Bool.and_false]
    · unfold hitF hasF
      rw [hX, decide_eq_true hXm, decide_eq_true h2]; rfl
  unfold keF anF
  rw [ho, hA, hB, if_pos (show (true && true && true) = true from rfl), e, if_pos hf, if_neg (by omega), Int.toNat_natCast, hX]
theorem kp_law {n k gone first : Nat} {A NB : Nat → Stp} {o : Int} (hk : ∀ i j, i < n → j < n → eqK (A i).k (A j).k = decide (i = j)) (hn : ∀ i j, i < k → j < n → eqK (NB i).k (A j).k = false)
    (hf : first < n) (hg : gone ≤ first) (hA : rowsB n A = true) (hB : rowsB (k + n - gone) (kpB k gone NB A) = true) (ho : inRB o = true) (h1 : topF A first ≤ o) (h2 : o < topF A (first + 1)) :
    keF n (k + n - gone) A (kpB k gone NB A) o = topF (kpB k gone NB A) (k + first - gone) + o - topF A first ∧ keF n n A A o = o := by
  obtain ⟨a, b⟩ := kp_key hk hn hf hg
  refine ⟨ke_hit hA hB ho hf h1 h2 (ixk_at (by omega) b a) (by omega), ?_⟩
  rw [ke_hit hA hA ho hf h1 h2 (X := first) (ixk_at hf (by rw [hk _ _ hf hf]; exact decide_eq_true rfl) (fun j hj => by rw [hk _ _ (by omega) hf]; exact decide_eq_false (by omega))) hf]
  omega
/-! ### The rows that the law builds -/
def kaR (h : Nat → Int) (i : Nat) : Stp := ⟨⟨#[UInt8.ofNat (65 + i)]⟩, 1 + h i % 64⟩
def knR (h : Nat → Int) (i : Nat) : Stp := ⟨⟨#[110, 101, 119, UInt8.ofNat (97 + i)]⟩, h i % 64⟩
theorem ka_key {h : Nat → Int} {n : Nat} (hn : n ≤ 40) : ∀ i j, i < n → j < n → eqK (kaR h i).k (kaR h j).k = decide (i = j) := by
  have : ∀ i, i < 40 → ∀ j, j < 40 → ((⟨#[UInt8.ofNat (65 + i)]⟩ : ByteArray).toList == (⟨#[UInt8.ofNat (65 + j)]⟩ : ByteArray).toList) = decide (i = j) := by decide +kernel
  intro i j hi hj
  exact this i (by omega) j (by omega)
theorem ka_sz {h : Nat → Int} {i : Nat} : (kaR h i).k.size ≤ 9223372036854775807 := by show 1 ≤ _; omega
theorem kb_sz {h g : Nat → Int} {k gone j : Nat} : (kpB k gone (knR g) (kaR h) j).k.size ≤ 9223372036854775807 := by
  unfold kpB
  split
  · show 4 ≤ _; omega
  · exact ka_sz
theorem kn_key {h g : Nat → Int} {k n : Nat} (hk : k ≤ 20) (hn : n ≤ 40) : ∀ i j, i < k → j < n → eqK (knR g i).k (kaR h j).k = false := by
  have : ∀ i, i < 20 → ∀ j, j < 40 → ((⟨#[110, 101, 119, UInt8.ofNat (97 + i)]⟩ : ByteArray).toList == (⟨#[UInt8.ofNat (65 + j)]⟩ : ByteArray).toList) = false := by decide +kernel
  intro i j hi hj
  exact this i (by omega) j (by omega)
theorem ka_h (h : Nat → Int) (i : Nat) : 1 ≤ (kaR h i).h ∧ (kaR h i).h ≤ 64 := by show 1 ≤ 1 + h i % 64 ∧ 1 + h i % 64 ≤ 64; omega
theorem kn_h (h : Nat → Int) (i : Nat) : 0 ≤ (knR h i).h ∧ (knR h i).h ≤ 64 := by show 0 ≤ h i % 64 ∧ h i % 64 ≤ 64; omega
theorem kb_h (k gone : Nat) (g h : Nat → Int) (i : Nat) : 0 ≤ (kpB k gone (knR g) (kaR h) i).h ∧ (kpB k gone (knR g) (kaR h) i).h ≤ 64 := by
  unfold kpB
  split
  · exact kn_h g i
  · have := ka_h h (gone + (i - k)); omega
theorem top_lim {l : Nat → Stp} (h : ∀ i, 0 ≤ (l i).h ∧ (l i).h ≤ 64) : ∀ i : Nat, 0 ≤ topF l i ∧ topF l i ≤ 64 * (i : Int)
  | 0 => ⟨Int.le_refl _, by show (0 : Int) ≤ _; omega⟩
  | i + 1 => by
    have a := top_lim h i
    have b := h i
    rw [top_succ]
    omega
theorem rows_lim {l : Nat → Stp} (h : ∀ i, 0 ≤ (l i).h ∧ (l i).h ≤ 64) {m : Nat} (hm : m ≤ 60) : rowsB m l = true := rows_iff.2 ⟨by omega, fun i _ => by have := h i; omega⟩
theorem ka_top {h : Nat → Int} : ∀ n : Nat, 0 < n → 0 < topF (kaR h) n
  | 0, hn => absurd hn (Nat.lt_irrefl _)
  | n + 1, _ => by
    have a := top_lim (l := kaR h) (fun i => by have := ka_h h i; omega) n
    have b := ka_h h n
    rw [top_succ]; omega
end Go.Proofs.Ytbmkamnjjfmdiaa
