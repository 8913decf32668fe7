/- The library's insertion sort on a range, as this program bears it: the shelf's contract laid at this program's numbers. -/
import Derived.Test.YtbmkamnjjfmdiaaChecked
import Derived.Shelf.SlSortCmp.Insertion1
import Derived.Sort.LotA
import Derived.Deep.LoopGhost
namespace Go.Proofs.Ytbmkamnjjfmdiaa
open Go.Shelf
end Go.Proofs.Ytbmkamnjjfmdiaa
/- Plain facts on arrays whose elements are moved about: swaps, block swaps, rotations, permutations; no premise on the program. -/
namespace Go.Proofs.Ytbmkamnjjfmdiaa
open Go.Sort
variable {α : Type} [Inhabited α]

/-- The array that has at k what d has at f k. -/
def pick (d : Array α) (f : Nat → Nat) : Array α := Array.ofFn (n := d.size) fun i => d[f i]!
@[simp] theorem size_pick (d : Array α) (f : Nat → Nat) : (pick d f).size = d.size := by simp [pick]
theorem pick_get (d : Array α) (f : Nat → Nat) {k : Nat} (h : k < d.size) : (pick d f)[k]! = d[f k]! := by
  rw [getElem!_pos (pick d f) k (by simpa using h)]
  simp [pick]
theorem arr_ext {d e : Array α} (hs : d.size = e.size) (h : ∀ k, k < d.size → d[k]! = e[k]!) : d = e := by
  apply Array.ext hs
  intro i h1 h2
  have := h i h1
  rwa [getElem!_pos d i h1, getElem!_pos e i h2] at this
theorem pick_congr {d : Array α} {f g : Nat → Nat} (h : ∀ k, k < d.size → f k = g k) : pick d f = pick d g :=
  arr_ext (by simp) fun k hk => by
    simp only [size_pick] at hk
    rw [pick_get _ _ hk, pick_get _ _ hk, h k hk]
theorem pick_pick (d : Array α) (f g : Nat → Nat) (hg : ∀ k, k < d.size → g k < d.size) : pick (pick d f) g = pick d (fun k => f (g k)) :=
  arr_ext (by simp) fun k hk => by
    simp only [size_pick] at hk
    rw [pick_get _ _ (by simpa using hk), pick_get _ _ (hg k hk), pick_get _ _ hk]
theorem pick_id {d : Array α} {f : Nat → Nat} (h : ∀ k, k < d.size → f k = k) : pick d f = d :=
  arr_ext (by simp) fun k hk => by
    simp only [size_pick] at hk
    rw [pick_get _ _ hk, h k hk]

def swI (i j k : Nat) : Nat := if k = j then i else if k = i then j else k
def rotI (a m b k : Nat) : Nat := if a ≤ k ∧ k < a + (b - m) then k + (m - a) else if a + (b - m) ≤ k ∧ k < b then k - (b - m) else k
def swrI (a b n k : Nat) : Nat := if a ≤ k ∧ k < a + n then k - a + b else if b ≤ k ∧ k < b + n then k - b + a else k

theorem swp_pick (d : Array α) {i j : Nat} (hi : i < d.size) (hj : j < d.size) : swp d i j = pick d (swI i j) :=
  arr_ext (by simp [swp_size]) fun k hk => by
    rw [swp_size] at hk
    rw [swp_get d hi hj, pick_get _ _ hk]
    unfold swI
    split
    · rfl
    · split <;> rfl
def rot (d : Array α) (a m b : Nat) : Array α := pick d (rotI a m b)
def swr (d : Array α) (a b n : Nat) : Array α := pick d (swrI a b n)
@[simp] theorem size_rot (d : Array α) (a m b : Nat) : (rot d a m b).size = d.size := size_pick _ _
@[simp] theorem size_swr (d : Array α) (a b n : Nat) : (swr d a b n).size = d.size := size_pick _ _
theorem rot_get (d : Array α) (a m b : Nat) {k : Nat} (h : k < d.size) : (rot d a m b)[k]! = d[rotI a m b k]! := pick_get _ _ h

theorem swr_zero (d : Array α) (a b : Nat) : swr d a b 0 = d := pick_id fun k _ => by unfold swrI; (repeat' split) <;> omega
theorem swr_succ (d : Array α) (a b i : Nat) (h : a + (i + 1) ≤ b) (hb : b + i < d.size) : swp (swr d a b i) (a + i) (b + i) = swr d a b (i + 1) := by
  rw [swp_pick _ (by simp; omega) (by simpa using hb)]
  unfold swr
  rw [pick_pick _ _ _ (fun k hk => by unfold swI; (repeat' split) <;> omega)]
  exact pick_congr fun k _ => by unfold swrI swI; (repeat' split) <;> omega
theorem rot_eq (d : Array α) (m i : Nat) (hi : i ≤ m) : swr d (m - i) m i = rot d (m - i) m (m + i) :=
  pick_congr fun k _ => by unfold swrI rotI; (repeat' split) <;> omega
theorem rot_gt (d : Array α) (m i j : Nat) (hi : i ≤ m) (hj : j < i) (hs : m + j ≤ d.size) : rot (swr d (m - i) m j) (m - (i - j)) m (m + j) = rot d (m - i) m (m + j) := by
  unfold rot swr
  rw [pick_pick _ _ _ (fun k hk => by unfold rotI; (repeat' split) <;> omega)]
  exact pick_congr fun k _ => by unfold swrI rotI; (repeat' split) <;> omega
theorem rot_lt (d : Array α) (m i j : Nat) (hi : i ≤ m) (hj : i < j) (hs : m + j ≤ d.size) : rot (swr d (m - i) (m + j - i) i) (m - i) m (m + (j - i)) = rot d (m - i) m (m + j) := by
  unfold rot swr
  rw [pick_pick _ _ _ (fun k hk => by unfold rotI; (repeat' split) <;> omega)]
  exact pick_congr fun k _ => by unfold swrI rotI; (repeat' split) <;> omega
theorem rot_left (d : Array α) (a b : Nat) : rot d a a b = d := pick_id fun k _ => by unfold rotI; (repeat' split) <;> omega
theorem rot_right (d : Array α) (a b : Nat) : rot d a b b = d := pick_id fun k _ => by unfold rotI; (repeat' split) <;> omega
theorem rot_up (d : Array α) (a k : Nat) (h : a ≤ k) (hs : k + 1 < d.size) : swp (rot d a (a + 1) (k + 1)) k (k + 1) = rot d a (a + 1) (k + 2) := by
  rw [swp_pick _ (by simp; omega) (by simpa using hs)]
  unfold rot
  rw [pick_pick _ _ _ (fun k hk => by unfold swI; (repeat' split) <;> omega)]
  exact pick_congr fun k _ => by unfold rotI swI; (repeat' split) <;> omega
theorem rot_down (d : Array α) (k m : Nat) (h : k + 1 ≤ m) (hs : m < d.size) : swp (rot d (k + 1) m (m + 1)) (k + 1) k = rot d k m (m + 1) := by
  rw [swp_pick _ (by simp; omega) (by simp; omega)]
  unfold rot
  rw [pick_pick _ _ _ (fun k hk => by unfold swI; (repeat' split) <;> omega)]
  exact pick_congr fun k _ => by unfold rotI swI; (repeat' split) <;> omega

/-- e is d with the elements of [a, b) permuted. -/
def PermI (a b : Nat) (d e : Array α) : Prop :=
  ∃ f g : Nat → Nat, (∀ k, g (f k) = k) ∧ (∀ k, f (g k) = k) ∧ (∀ k, k < a ∨ b ≤ k → f k = k) ∧ e = pick d f
theorem PermI.refl (a b : Nat) (d : Array α) : PermI a b d d := ⟨id, id, fun _ => rfl, fun _ => rfl, fun _ _ => rfl, (pick_id fun _ _ => rfl).symm⟩
theorem into {a b : Nat} {f g : Nat → Nat} (h1 : ∀ k, g (f k) = k) (h3 : ∀ k, k < a ∨ b ≤ k → f k = k) {k : Nat} (ha : a ≤ k) (hb : k < b) : a ≤ f k ∧ f k < b := by
  rcases Nat.lt_or_ge (f k) a with h | h
  · have := h3 _ (Or.inl h)
    have e := congrArg g this
    rw [h1, h1] at e
    omega
  · rcases Nat.lt_or_ge (f k) b with h' | h'
    · exact ⟨h, h'⟩
    · have := h3 _ (Or.inr h')
      have e := congrArg g this
      rw [h1, h1] at e
      omega
theorem into_lt {a b n : Nat} {f g : Nat → Nat} (h1 : ∀ k, g (f k) = k) (h3 : ∀ k, k < a ∨ b ≤ k → f k = k) (hb : b ≤ n) {k : Nat} (hk : k < n) : f k < n := by
  by_cases h : a ≤ k ∧ k < b
  · have := into h1 h3 h.1 h.2; omega
  · rw [h3 k (by omega)]; exact hk
theorem PermI.size {a b : Nat} {d e : Array α} (h : PermI a b d e) : e.size = d.size := by
  obtain ⟨f, g, _, _, _, rfl⟩ := h; simp
theorem PermI.trans {a b : Nat} {d e x : Array α} (hb : b ≤ d.size) (h : PermI a b d e) (k : PermI a b e x) : PermI a b d x := by
  obtain ⟨f, g, h1, h2, h3, rfl⟩ := h
  obtain ⟨f', g', k1, k2, k3, rfl⟩ := k
  refine ⟨fun i => f (f' i), fun i => g' (g i), fun i => by simp only []; rw [h1, k1], fun i => by simp only []; rw [k2, h2], fun i hi => by simp only []; rw [k3 i hi, h3 i hi], ?_⟩
  exact pick_pick _ _ _ (fun i hi => into_lt k1 k3 hb hi)
theorem PermI.mono {a b a' b' : Nat} {d e : Array α} (h : PermI a b d e) (ha : a' ≤ a) (hb : b ≤ b') : PermI a' b' d e := by
  obtain ⟨f, g, h1, h2, h3, h4⟩ := h
  exact ⟨f, g, h1, h2, fun k hk => h3 k (by omega), h4⟩
theorem PermI.out {a b : Nat} {d e : Array α} (h : PermI a b d e) {k : Nat} (hk : k < a ∨ b ≤ k) : e[k]! = d[k]! := by
  obtain ⟨f, g, _, _, h3, rfl⟩ := h
  by_cases hs : k < d.size
  · rw [pick_get _ _ hs, h3 k hk]
  · rw [getElem!_neg _ _ (by simpa using hs), getElem!_neg _ _ (by simpa using hs)]
theorem PermI.src {a b : Nat} {d e : Array α} (h : PermI a b d e) (hb : b ≤ d.size) {k : Nat} (ha : a ≤ k) (hk : k < b) : ∃ j, a ≤ j ∧ j < b ∧ e[k]! = d[j]! := by
  obtain ⟨f, g, h1, _, h3, rfl⟩ := h
  have := into h1 h3 ha hk
  exact ⟨f k, this.1, this.2, pick_get _ _ (by omega)⟩
theorem PermI.swp {a b i j : Nat} {d : Array α} (hi : a ≤ i) (hi' : i < b) (hj : a ≤ j) (hj' : j < b) (hb : b ≤ d.size) : PermI a b d (swp d i j) :=
  ⟨swI i j, swI i j, fun k => by unfold swI; (repeat' split) <;> omega, fun k => by unfold swI; (repeat' split) <;> omega, fun k hk => by unfold swI; (repeat' split) <;> omega, swp_pick d (by omega) (by omega)⟩
theorem PermI.rot {a m b : Nat} {d : Array α} (h1 : a ≤ m) (h2 : m ≤ b) : PermI a b d (rot d a m b) :=
  ⟨rotI a m b, rotI a (a + (b - m)) b, fun k => by unfold rotI; (repeat' split) <;> omega, fun k => by unfold rotI; (repeat' split) <;> omega, fun k hk => by unfold rotI; (repeat' split) <;> omega, rfl⟩
end Go.Proofs.Ytbmkamnjjfmdiaa
/- Plain facts on a stable merge sort: a second, finer order that the first one decides wherever it is asked; no premise on the program. -/
namespace Go.Proofs.Ytbmkamnjjfmdiaa
open Go.Sort
variable {α : Type} [Inhabited α] {lt ls : α → α → Bool}

/-- lt is what the code asks; ls is the finer order in which equal elements keep their places. -/
structure Finer (lt ls : α → α → Bool) : Prop where
  swo : SWO ls
  sub : ∀ x y, lt x y = true → ls x y = true

/-- Wherever a later element of [a, b) is less than an earlier one in the finer order, it is so in the coarse one. -/
def Inv (lt ls : α → α → Bool) (a b : Nat) (d : Array α) : Prop := ∀ p q, a ≤ p → p < q → q < b → ls d[q]! d[p]! = true → lt d[q]! d[p]! = true
def Cross (lt ls : α → α → Bool) (a m b : Nat) (d : Array α) : Prop := ∀ p q, a ≤ p → p < m → m ≤ q → q < b → ls d[q]! d[p]! = true → lt d[q]! d[p]! = true
theorem Inv.cross {a m b n : Nat} {d : Array α} (h : Inv lt ls 0 n d) (hb : b ≤ n) : Cross lt ls a m b d := fun p q _ h2 h3 h4 h5 => h p q (Nat.zero_le _) (by omega) (by omega) h5

omit [Inhabited α] in
theorem asymm (F : Finer lt ls) {x y : α} (h : ls x y = true) : ls y x = false := F.swo.asymmA h
omit [Inhabited α] in
theorem not_lt {x y : α} (F : Finer lt ls) (h : ls x y = false) : lt x y = false := by
  cases e : lt x y with
  | false => rfl
  | true => rw [F.sub _ _ e] at h; cases h

/-! ### Insertion sort -/
theorem Inv.swp (F : Finer lt ls) {a b j : Nat} {d : Array α} (h : Inv lt ls a b d) (ha : a ≤ j) (hj : j + 1 < b) (hb : b ≤ d.size) (hl : ls d[j + 1]! d[j]! = true) : Inv lt ls a b (swp d (j + 1) j) := by
  have g := swp_get d (show j + 1 < d.size by omega) (show j < d.size by omega)
  intro p q hp hpq hq
  rw [g, g]
  by_cases e1 : p = j
  · by_cases e2 : q = j + 1
    · subst e1; subst e2
      simp only [if_true, show p + 1 ≠ p by omega, if_false]
      intro hc
      rw [asymm F hl] at hc; cases hc
    · subst e1
      simp only [if_true, show q ≠ p by omega, if_false, e2]
      exact h (p + 1) q (by omega) (by omega) hq
  · by_cases e2 : q = j
    · subst e2
      simp only [if_true, e1, show p ≠ q + 1 by omega, if_false]
      exact h _ _ hp (by omega) hj
    · by_cases e3 : p = j + 1
      · subst e3
        simp only [if_true, e1, e2, show q ≠ j + 1 by omega, if_false]
        exact h j q (by omega) (by omega) hq
      · by_cases e4 : q = j + 1
        · subst e4
          simp only [if_true, e1, e2, e3, if_false]
          exact h p j hp (by omega) (by omega)
        · simp only [e1, e2, e3, e4, if_false]
          exact h p q hp hpq hq

theorem insInner_same (F : Finer lt ls) (a b : Nat) : ∀ (j : Nat) (d : Array α), j < b → b ≤ d.size → a < b → Inv lt ls a b d →
    insInner lt a j d = insInner ls a j d ∧ Inv lt ls a b (insInner lt a j d) ∧ PermI a b d (insInner lt a j d) ∧ (insInner lt a j d).size = d.size
  | 0, d, _, _, _, h => by
    unfold insInner
    exact ⟨rfl, h, PermI.refl _ _ _, rfl⟩
  | j + 1, d, hj, hb, hab, h => by
    unfold insInner
    by_cases ha : j + 1 > a
    · cases hl : lt d[j + 1]! d[j]! with
      | true =>
        have hl' := F.sub _ _ hl
        have hs := h.swp F (by omega) hj hb hl'
        obtain ⟨i1, i2, i3, i4⟩ := insInner_same F a b j (swp d (j + 1) j) (by omega) (by rw [swp_size]; exact hb) hab hs
        simp only [ha, hl', decide_true, Bool.and_self, if_true]
        exact ⟨i1, i2, (PermI.swp (by omega) hj (by omega) (by omega) hb).trans hb i3, by rw [i4, swp_size]⟩
      | false =>
        have hl' : ls d[j + 1]! d[j]! = false := by
          cases e : ls d[j + 1]! d[j]! with
          | false => rfl
          | true => rw [h j (j + 1) (by omega) (by omega) hj e] at hl; cases hl
        simp only [hl', Bool.and_false, Bool.false_eq_true, if_false]
        exact ⟨by trivial, h, PermI.refl _ _ _, by trivial⟩
    · simp only [ha, decide_false, Bool.false_and, Bool.false_eq_true, if_false]
      exact ⟨by trivial, h, PermI.refl _ _ _, by trivial⟩

theorem insOuter_same (F : Finer lt ls) (a b : Nat) : ∀ (n i : Nat) (d : Array α), b - i = n → b ≤ d.size → a < b → Inv lt ls a b d →
    insOuter lt a b i d = insOuter ls a b i d ∧ PermI a b d (insOuter lt a b i d)
  | 0, i, d, hn, _, _, _ => by
    have e1 : insOuter lt a b i d = d := by rw [insOuter, if_neg (by omega)]
    have e2 : insOuter ls a b i d = d := by rw [insOuter, if_neg (by omega)]
    rw [e1, e2]
    exact ⟨rfl, PermI.refl _ _ _⟩
  | n + 1, i, d, hn, hb, hab, h => by
    have e1 : insOuter lt a b i d = insOuter lt a b (i + 1) (insInner lt a i d) := by rw [insOuter, if_pos (by omega)]
    have e2 : insOuter ls a b i d = insOuter ls a b (i + 1) (insInner ls a i d) := by rw [insOuter, if_pos (by omega)]
    obtain ⟨i1, i2, i3, i4⟩ := insInner_same F a b i d (by omega) hb hab h
    rw [e1, e2, ← i1]
    obtain ⟨o1, o2⟩ := insOuter_same F a b n (i + 1) (insInner lt a i d) (by omega) (by omega) hab i2
    exact ⟨o1, i3.trans hb o2⟩

/-- What the library's insertion sort makes of [a, b). -/
theorem ins_sorts (F : Finer lt ls) {a b : Nat} {d : Array α} (hab : a ≤ b) (hb : b ≤ d.size) (h : Inv lt ls a b d) :
    PermI a b d (insertionSort lt d a b) ∧ SortedIn ls a b (insertionSort lt d a b) := by
  rcases Nat.eq_or_lt_of_le hab with rfl | hlt
  · unfold insertionSort
    rw [insOuter, if_neg (by omega)]
    exact ⟨PermI.refl _ _ _, fun i j h1 h2 h3 => by omega⟩
  · obtain ⟨o1, o2⟩ := insOuter_same F a b _ (a + 1) d rfl hb hlt h
    refine ⟨o2, ?_⟩
    have e : insertionSort lt d a b = insertionSort ls d a b := o1
    rw [e]
    exact (insertionSort_holds F.swo d a b hab hb).2

/-! ### What a sorted part leaves of the invariant -/
theorem Inv.perm {a b n : Nat} {d e : Array α} (h : Inv lt ls 0 n d) (hP : PermI a b d e) (hS : SortedIn ls a b e) (hn : b ≤ n) (hs : n ≤ d.size) : Inv lt ls 0 n e := by
  intro p q _ hpq hq hl
  by_cases hp : a ≤ p ∧ p < b
  · by_cases hq' : q < b
    · rw [hS p q hp.1 hpq hq'] at hl; cases hl
    · obtain ⟨j, h1, h2, h3⟩ := hP.src (by omega) hp.1 hp.2
      have h4 := hP.out (k := q) (by omega)
      rw [h3, h4] at hl ⊢
      exact h j q (Nat.zero_le _) (by omega) hq hl
  · have h4 := hP.out (k := p) (by omega)
    by_cases hq' : a ≤ q ∧ q < b
    · obtain ⟨j, h1, h2, h3⟩ := hP.src (by omega) hq'.1 hq'.2
      rw [h3, h4] at hl ⊢
      exact h p j (Nat.zero_le _) (by omega) (by omega) hl
    · have h5 := hP.out (k := q) (by omega)
      rw [h4, h5] at hl ⊢
      exact h p q (Nat.zero_le _) hpq hq hl
theorem sorted_out {a b x y : Nat} {d e : Array α} (hP : PermI a b d e) (h : SortedIn ls x y d) (ho : y ≤ a ∨ b ≤ x) : SortedIn ls x y e := by
  intro p q h1 h2 h3
  rw [hP.out (k := p) (by omega), hP.out (k := q) (by omega)]
  exact h p q h1 h2 h3
end Go.Proofs.Ytbmkamnjjfmdiaa
/- Plain facts on merging two sorted parts in place by rotations; no premise on the program. -/
namespace Go.Proofs.Ytbmkamnjjfmdiaa
open Go.Sort
variable {α : Type} [Inhabited α] {lt ls : α → α → Bool}

/-- Elements of [x, y) are ascending: the later place is not less, equal places let in. -/
theorem le_of_sorted (F : Finer lt ls) {x y p q : Nat} {d : Array α} (h : SortedIn ls x y d) (hp : x ≤ p) (hpq : p ≤ q) (hq : q < y) : ls d[q]! d[p]! = false := by
  rcases Nat.eq_or_lt_of_le hpq with rfl | hlt
  · exact F.swo.irrefl _
  · exact h p q hp hlt hq
theorem of_cross {a m b p q : Nat} {d : Array α} (h : Cross lt ls a m b d) (h1 : a ≤ p) (h2 : p < m) (h3 : m ≤ q) (h4 : q < b) (hl : lt d[q]! d[p]! = false) : ls d[q]! d[p]! = false := by
  cases e : ls d[q]! d[p]! with
  | false => rfl
  | true => rw [h p q h1 h2 h3 h4 e] at hl; cases hl

theorem mergeL (F : Finer lt ls) {a i b : Nat} {d : Array α} (hb : b ≤ d.size) (hai : a + 1 ≤ i) (hib : i ≤ b) (hs : SortedIn ls (a + 1) b d) (hC : Cross lt ls a (a + 1) b d)
    (h1 : i = a + 1 ∨ lt d[i - 1]! d[a]! = true) (h2 : i = b ∨ lt d[i]! d[a]! = false) : PermI a b d (rot d a (a + 1) i) ∧ SortedIn ls a b (rot d a (a + 1) i) := by
  refine ⟨(PermI.rot (by omega) (by omega)).mono (Nat.le_refl _) hib, ?_⟩
  intro p q hp hpq hq
  have r1 : ∀ k, a ≤ k → k < i - 1 → (rot d a (a + 1) i)[k]! = d[k + 1]! := fun k h h' => by
    rw [rot_get _ _ _ _ (by omega)]; congr 1; unfold rotI; (repeat' split) <;> omega
  have r2 : (rot d a (a + 1) i)[i - 1]! = d[a]! := by
    rw [rot_get _ _ _ _ (by omega)]; congr 1; unfold rotI; (repeat' split) <;> omega
  have r3 : ∀ k, i ≤ k → k < b → (rot d a (a + 1) i)[k]! = d[k]! := fun k h h' => by
    rw [rot_get _ _ _ _ (by omega)]; congr 1; unfold rotI; (repeat' split) <;> omega
  have u1 : ∀ k, a ≤ k → k < i - 1 → ls d[a]! d[k + 1]! = false := fun k h h' => by
    have := asymm F (F.sub _ _ (h1.resolve_left (by omega)))
    exact F.swo.ntrans _ _ _ this (le_of_sorted F hs (by omega) (by omega) (by omega))
  have u2 : ∀ k, i ≤ k → k < b → ls d[k]! d[a]! = false := fun k h h' => by
    have := of_cross hC (Nat.le_refl _) (by omega) hai (by omega) (h2.resolve_left (by omega))
    exact F.swo.ntrans _ _ _ (le_of_sorted F hs (by omega) h h') this
  rcases Nat.lt_trichotomy q (i - 1) with hqi | hqi | hqi
  · rw [r1 p hp (by omega), r1 q (by omega) hqi]
    exact hs _ _ (by omega) (by omega) (by omega)
  · subst hqi
    rw [r1 p hp hpq, r2]
    exact u1 p hp hpq
  · rw [r3 q (by omega) hq]
    rcases Nat.lt_trichotomy p (i - 1) with hpi | hpi | hpi
    · rw [r1 p hp hpi]
      exact hs _ _ (by omega) (by omega) hq
    · subst hpi
      rw [r2]
      exact u2 q (by omega) hq
    · rw [r3 p (by omega) (by omega)]
      exact hs _ _ (by omega) hpq hq

theorem mergeR (F : Finer lt ls) {a m i : Nat} {d : Array α} (hm : m < d.size) (hai : a ≤ i) (him : i ≤ m) (hs : SortedIn ls a m d) (hC : Cross lt ls a m (m + 1) d)
    (h1 : i = a ∨ lt d[m]! d[i - 1]! = false) (h2 : i = m ∨ lt d[m]! d[i]! = true) : PermI a (m + 1) d (rot d i m (m + 1)) ∧ SortedIn ls a (m + 1) (rot d i m (m + 1)) := by
  refine ⟨(PermI.rot him (by omega)).mono hai (Nat.le_refl _), ?_⟩
  intro p q hp hpq hq
  have r1 : ∀ k, k < i → (rot d i m (m + 1))[k]! = d[k]! := fun k h => by
    rw [rot_get _ _ _ _ (by omega)]; congr 1; unfold rotI; (repeat' split) <;> omega
  have r2 : (rot d i m (m + 1))[i]! = d[m]! := by
    rw [rot_get _ _ _ _ (by omega)]; congr 1; unfold rotI; (repeat' split) <;> omega
  have r3 : ∀ k, i < k → k < m + 1 → (rot d i m (m + 1))[k]! = d[k - 1]! := fun k h h' => by
    rw [rot_get _ _ _ _ (by omega)]; congr 1; unfold rotI; (repeat' split) <;> omega
  have u1 : ∀ k, a ≤ k → k < i → ls d[m]! d[k]! = false := fun k h h' => by
    have := of_cross (p := i - 1) (q := m) hC (by omega) (by omega) (Nat.le_refl _) (by omega) (h1.resolve_left (by omega))
    exact F.swo.ntrans _ _ _ this (le_of_sorted F hs h (by omega) (by omega))
  have u2 : ∀ k, i ≤ k → k < m → ls d[k]! d[m]! = false := fun k h h' => by
    have := asymm F (F.sub _ _ (h2.resolve_left (by omega)))
    exact F.swo.ntrans _ _ _ (le_of_sorted F hs hai h h') this
  rcases Nat.lt_trichotomy q i with hqi | hqi | hqi
  · rw [r1 p (by omega), r1 q hqi]
    exact hs _ _ hp hpq (by omega)
  · subst hqi
    rw [r1 p hpq, r2]
    exact u1 p hp hpq
  · rw [r3 q hqi hq]
    rcases Nat.lt_trichotomy p i with hpi | hpi | hpi
    · rw [r1 p hpi]
      exact le_of_sorted F hs hp (by omega) (by omega)
    · subst hpi
      rw [r2]
      exact u2 (q - 1) (by omega) (by omega)
    · rw [r3 p hpi (by omega)]
      exact hs _ _ (by omega) (by omega) (by omega)

def Sep (ls : α → α → Bool) (a m b : Nat) (d : Array α) : Prop := ∀ p q, a ≤ p → p < m → m ≤ q → q < b → ls d[q]! d[p]! = false

/-- What the rotation of the middle leaves to the two halves. -/
structure Halves (lt ls : α → α → Bool) (a start mid en b : Nat) (d : Array α) : Prop where
  s1 : SortedIn ls a start d
  s2 : SortedIn ls start mid d
  s3 : SortedIn ls mid en d
  s4 : SortedIn ls en b d
  c1 : Cross lt ls a start mid d
  c2 : Cross lt ls mid en b d
  sep : Sep ls a mid b d

theorem halves (F : Finer lt ls) {a m b start mid en : Nat} {d : Array α} (hb : b ≤ d.size) (h1 : a ≤ start) (h2 : start ≤ m) (h3 : m ≤ en) (h4 : en ≤ b) (h5 : start ≤ mid) (h6 : en + start = mid + m)
    (s1 : SortedIn ls a m d) (s2 : SortedIn ls m b d) (hC : Cross lt ls a m b d)
    (k1 : (start = a ∨ en = b) ∨ lt d[en]! d[start - 1]! = false) (k2 : (start = m ∨ en = m) ∨ lt d[en - 1]! d[start]! = true) : Halves lt ls a start mid en b (rot d start m en) := by
  have r1 : ∀ k, k < start → (rot d start m en)[k]! = d[k]! := fun k h => by
    rw [rot_get _ _ _ _ (by omega)]; congr 1; unfold rotI; (repeat' split) <;> omega
  have r2 : ∀ k, start ≤ k → k < mid → (rot d start m en)[k]! = d[k + (m - start)]! := fun k h h' => by
    rw [rot_get _ _ _ _ (by omega)]; congr 1; unfold rotI; (repeat' split) <;> omega
  have r3 : ∀ k, mid ≤ k → k < en → (rot d start m en)[k]! = d[k - (en - m)]! := fun k h h' => by
    rw [rot_get _ _ _ _ (by omega)]; congr 1; unfold rotI; (repeat' split) <;> omega
  have r4 : ∀ k, en ≤ k → k < b → (rot d start m en)[k]! = d[k]! := fun k h h' => by
    rw [rot_get _ _ _ _ (by omega)]; congr 1; unfold rotI; (repeat' split) <;> omega
  refine ⟨?_, ?_, ?_, ?_, ?_, ?_, ?_⟩
  · intro p q hp hpq hq
    rw [r1 p (by omega), r1 q hq]; exact s1 _ _ hp hpq (by omega)
  · intro p q hp hpq hq
    rw [r2 p hp (by omega), r2 q (by omega) hq]; exact s2 _ _ (by omega) (by omega) (by omega)
  · intro p q hp hpq hq
    rw [r3 p hp (by omega), r3 q (by omega) hq]; exact s1 _ _ (by omega) (by omega) (by omega)
  · intro p q hp hpq hq
    rw [r4 p hp (by omega), r4 q (by omega) hq]; exact s2 _ _ (by omega) hpq hq
  · intro p q hp hp' hq hq'
    rw [r1 p hp', r2 q hq hq']; exact hC _ _ hp (by omega) (by omega) (by omega)
  · intro p q hp hp' hq hq'
    rw [r3 p hp hp', r4 q hq hq']; exact hC _ _ (by omega) (by omega) (by omega) hq'
  · intro p q hp hp' hq hq'
    by_cases hps : p < start
    · rw [r1 p hps]
      by_cases hqe : q < en
      · rw [r3 q hq hqe]
        exact le_of_sorted F s1 hp (by omega) (by omega)
      · rw [r4 q (by omega) hq']
        have := of_cross (p := start - 1) (q := en) hC (by omega) (by omega) h3 (by omega) (k1.resolve_left (by omega))
        exact F.swo.ntrans _ _ _ (le_of_sorted F s2 h3 (by omega) hq') (F.swo.ntrans _ _ _ this (le_of_sorted F s1 hp (by omega) (by omega)))
    · rw [r2 p (by omega) hp']
      by_cases hqe : q < en
      · rw [r3 q hq hqe]
        have := asymm F (F.sub _ _ (k2.resolve_left (by omega)))
        exact F.swo.ntrans _ _ _ (le_of_sorted F s1 h1 (by omega) (by omega)) (F.swo.ntrans _ _ _ this (le_of_sorted F s2 (by omega) (by omega) (by omega)))
      · rw [r4 q (by omega) hq']
        exact le_of_sorted F s2 (by omega) (by omega) hq'

theorem Sep.permL {a m b : Nat} {d e : Array α} (hm : m ≤ d.size) (h : Sep ls a m b d) (hP : PermI a m d e) : Sep ls a m b e := by
  intro p q hp hp' hq hq'
  obtain ⟨j, j1, j2, j3⟩ := hP.src hm hp hp'
  rw [j3, hP.out (Or.inr hq)]
  exact h _ _ j1 j2 hq hq'
theorem Sep.permR {a m b : Nat} {d e : Array α} (hb : b ≤ d.size) (h : Sep ls a m b d) (hP : PermI m b d e) : Sep ls a m b e := by
  intro p q hp hp' hq hq'
  obtain ⟨j, j1, j2, j3⟩ := hP.src hb hq hq'
  rw [j3, hP.out (Or.inl hp')]
  exact h _ _ hp hp' j1 j2
theorem joined {a m b : Nat} {d : Array α} (h1 : SortedIn ls a m d) (h2 : SortedIn ls m b d) (h : Sep ls a m b d) : SortedIn ls a b d := by
  intro p q hp hpq hq
  by_cases h3 : q < m
  · exact h1 _ _ hp hpq h3
  · by_cases h4 : p < m
    · exact h _ _ hp h4 (by omega) hq
    · exact h2 _ _ (by omega) hpq hq

/-- Both halves are merged: the whole is. -/
theorem combine {a mid b : Nat} {d1 d2 d3 : Array α} (hb : b ≤ d1.size) (h1 : a ≤ mid) (h2 : mid ≤ b) (hS : Sep ls a mid b d1) (p1 : PermI a mid d1 d2) (s1 : SortedIn ls a mid d2) (p2 : PermI mid b d2 d3) (s2 : SortedIn ls mid b d3) :
    PermI a b d1 d3 ∧ SortedIn ls a b d3 := by
  have z := p1.size
  refine ⟨(p1.mono (Nat.le_refl _) h2).trans hb (p2.mono h1 (Nat.le_refl _)), ?_⟩
  exact joined (sorted_out p2 s1 (Or.inl (Nat.le_refl _))) s2 ((hS.permL (by omega) p1).permR (by omega) p2)
/-- A half of which one part is empty is merged as it is. -/
theorem whole_left {a start mid : Nat} {d : Array α} (h : start = a ∨ start = mid) (s1 : SortedIn ls a start d) (s2 : SortedIn ls start mid d) : SortedIn ls a mid d := by
  rcases h with rfl | rfl
  · exact s2
  · exact s1
end Go.Proofs.Ytbmkamnjjfmdiaa
/- What the library's block swap and rotation make of a row of cells; the row is memory of the call's own. -/
namespace Go.Proofs.Ytbmkamnjjfmdiaa
open Go.Shelf Go.RowKit Go.Lib Go.Sort Go.Proofs
variable {α : Type} [Inhabited α]

theorem hide' {p : Prop} (h : p) : Hid p := h

end Go.Proofs.Ytbmkamnjjfmdiaa
