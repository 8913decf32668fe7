/- Plain facts on arrays whose elements are moved about: swaps, block swaps, rotations, permutations; no premise on the program. -/
import Derived.Sort.LotA
namespace Go.Proofs.Ytjaapdkhjgolfaa
open Go.Sort
variable {α : Type} [Inhabited α]

/-- The array that has at k what d has at f k. -/
def pick (d : Array α) (f : Nat → Nat) : Array α := Array.ofFn (n := d.size) fun i => d[f i]!
@[simp] theorem size_pick (d : Array α) (f : Nat → Nat) : (pick d f).size = d.size := by simp [pick]
theorem pick_get (d : Array α) (f : Nat → Nat) {k : Nat} (h : k < d.size) : (pick d f)[k]! = d[f k]! := by
  rw [getElem!_pos (pick d f) k (by simpa using h)]
  simp [pick]
theorem arr_ext {d e : Array α} (hs : d.size = e.size) (h : ∀ k, k < d.size → d[k]! = e[k]!) : d = e := by
  apply Array.ext hs
  intro i h1 h2
  have := h i h1
  rwa [getElem!_pos d i h1, getElem!_pos e i h2] at this
theorem pick_congr {d : Array α} {f g : Nat → Nat} (h : ∀ k, k < d.size → f k = g k) : pick d f = pick d g :=
  arr_ext (by simp) fun k hk => by
    simp only [size_pick] at hk
    rw [pick_get _ _ hk, pick_get _ _ hk, h k hk]
theorem pick_pick (d : Array α) (f g : Nat → Nat) (hg : ∀ k, k < d.size → g k < d.size) : pick (pick d f) g = pick d (fun k => f (g k)) :=
  arr_ext (by simp) fun k hk => by
    simp only [size_pick] at hk
    rw [pick_get _ _ (by simpa using hk), pick_get _ _ (hg k hk), pick_get _ _ hk]
theorem pick_id {d : Array α} {f : Nat → Nat} (h : ∀ k, k < d.size → f k = k) : pick d f = d :=
  arr_ext (by simp) fun k hk => by
    simp only [size_pick] at hk
    rw [pick_get _ _ hk, h k hk]

def swI (i j k : Nat) : Nat := if k = j then i else if k = i then j else k
def rotI (a m b k : Nat) : Nat := if a ≤ k ∧ k < a + (b - m) then k + (m - a) else if a + (b - m) ≤ k ∧ k < b then k - (b - m) else k
def swrI (a b n k : Nat) : Nat := if a ≤ k ∧ k < a + n then k - a + b else if b ≤ k ∧ k < b + n then k - b + a else k

theorem swp_pick (d : Array α) {i j : Nat} (hi : i < d.size) (hj : j < d.size) : swp d i j = pick d (swI i j) :=
  arr_ext (by simp [swp_size]) fun k hk => by
    rw [swp_size] at hk
    rw [swp_get d hi hj, pick_get _ _ hk]
    unfold swI
    split
    · rfl
    · split <;> rfl
def rot (d : Array α) (a m b : Nat) : Array α := pick d (rotI a m b)
def swr (d : Array α) (a b n : Nat) : Array α := pick d (swrI a b n)
@[simp] theorem size_rot (d : Array α) (a m b : Nat) : (rot d a m b).size = d.size := size_pick _ _
@[simp] theorem size_swr (d : Array α) (a b n : Nat) : (swr d a b n).size = d.size := size_pick _ _
theorem rot_get (d : Array α) (a m b : Nat) {k : Nat} (h : k < d.size) : (rot d a m b)[k]! = d[rotI a m b k]! := pick_get _ _ h

theorem swr_zero (d : Array α) (a b : Nat) : swr d a b 0 = d := pick_id fun k _ => by unfold swrI; (repeat' split) <;> omega
theorem swr_succ (d : Array α) (a b i : Nat) (h : a + (i + 1) ≤ b) (hb : b + i < d.size) : swp (swr d a b i) (a + i) (b + i) = swr d a b (i + 1) := by
  rw [swp_pick _ (by simp; omega) (by simpa using hb)]
  unfold swr
  rw [pick_pick _ _ _ (fun k hk => by unfold swI; (repeat' split) <;> omega)]
  exact pick_congr fun k _ => by unfold swrI swI; (repeat' split) <;> omega
theorem rot_eq (d : Array α) (m i : Nat) (hi : i ≤ m) : swr d (m - i) m i = rot d (m - i) m (m + i) :=
  pick_congr fun k _ => by unfold swrI rotI; (repeat' split) <;> omega
theorem rot_gt (d : Array α) (m i j : Nat) (hi : i ≤ m) (hj : j < i) (hs : m + j ≤ d.size) : rot (swr d (m - i) m j) (m - (i - j)) m (m + j) = rot d (m - i) m (m + j) := by
  unfold rot swr
  rw [pick_pick _ _ _ (fun k hk => by unfold rotI; (repeat' split) <;> omega)]
  exact pick_congr fun k _ => by unfold swrI rotI; (repeat' split) <;> omega
theorem rot_lt (d : Array α) (m i j : Nat) (hi : i ≤ m) (hj : i < j) (hs : m + j ≤ d.size) : rot (swr d (m - i) (m + j - i) i) (m - i) m (m + (j - i)) = rot d (m - i) m (m + j) := by
  unfold rot swr
  rw [pick_pick _ _ _ (fun k hk => by unfold rotI; (repeat' split) <;> omega)]
  exact pick_congr fun k _ => by unfold swrI rotI; (repeat' split) <;> omega
theorem rot_left (d : Array α) (a b : Nat) : rot d a a b = d := pick_id fun k _ => by unfold rotI; (repeat' split) <;> omega
theorem rot_right (d : Array α) (a b : Nat) : rot d a b b = d := pick_id fun k _ => by unfold rotI; (repeat' split) <;> omega
theorem rot_up (d : Array α) (a k : Nat) (h : a ≤ k) (hs : k + 1 < d.size) : swp (rot d a (a + 1) (k + 1)) k (k + 1) = rot d a (a + 1) (k + 2) := by
  rw [swp_pick _ (by simp; omega) (by simpa using hs)]
  unfold rot
  rw [pick_pick _ _ _ (fun k hk => by unfold swI; (repeat' split) <;> omega)]
  exact pick_congr fun k _ => by unfold rotI swI; (repeat' split) <;> omega
theorem rot_down (d : Array α) (k m : Nat) (h : k + 1 ≤ m) (hs : m < d.size) : swp (rot d (k + 1) m (m + 1)) (k + 1) k = rot d k m (m + 1) := by
  rw [swp_pick _ (by simp; omega) (by simp; omega)]
  unfold rot
  rw [pick_pick _ _ _ (fun k hk => by unfold swI; (repeat' split) <;> omega)]
  exact pick_congr fun k _ => by unfold rotI swI; (repeat' split) <;> omega

/-- e is d with the elements of [a, b) permuted. -/
def PermI (a b : Nat) (d e : Array α) : Prop :=
  ∃ f g : Nat → Nat, (∀ k, g (f k) = k) ∧ (∀ k, f (g k) = k) ∧ (∀ k, k < a ∨ b ≤ k → f k = k) ∧ e = pick d f
theorem PermI.refl (a b : Nat) (d : Array α) : PermI a b d d := ⟨id, id, fun _ => rfl, fun _ => rfl, fun _ _ => rfl, (pick_id fun _ _ => rfl).symm⟩
theorem into {a b : Nat} {f g : Nat → Nat} (h1 : ∀ k, g (f k) = k) (h3 : ∀ k, k < a ∨ b ≤ k → f k = k) {k : Nat} (ha : a ≤ k) (hb : k < b) : a ≤ f k ∧ f k < b := by
  rcases Nat.lt_or_ge (f k) a with h | h
  · have := h3 _ (Or.inl h)
    have e := congrArg g this
    rw [h1, h1] at e
    omega
  · rcases Nat.lt_or_ge (f k) b with h' | h'
    · exact ⟨h, h'⟩
    · have := h3 _ (Or.inr h')
      have e := congrArg g this
      rw [h1, h1] at e
      omega
theorem into_lt {a b n : Nat} {f g : Nat → Nat} (h1 : ∀ k, g (f k) = k) (h3 : ∀ k, k < a ∨ b ≤ k → f k = k) (hb : b ≤ n) {k : Nat} (hk : k < n) : f k < n := by
  by_cases h : a ≤ k ∧ k < b
  · have := into h1 h3 h.1 h.2; omega
  · rw [h3 k (by omega)]; exact hk
theorem PermI.size {a b : Nat} {d e : Array α} (h : PermI a b d e) : e.size = d.size := by
  obtain ⟨f, g, _, _, _, rfl⟩ := h; simp
theorem PermI.trans {a b : Nat} {d e x : Array α} (hb : b ≤ d.size) (h : PermI a b d e) (k : PermI a b e x) : PermI a b d x := by
  obtain ⟨f, g, h1, h2, h3, rfl⟩ := h
  obtain ⟨f', g', k1, k2, k3, rfl⟩ := k
  refine ⟨fun i => f (f' i), fun i => g' (g i), fun i => by simp only []; rw [h1, k1], fun i => by simp only []; rw [k2, h2], fun i hi => by simp only []; rw [k3 i hi, h3 i hi], ?_⟩
  exact pick_pick _ _ _ (fun i hi => into_lt k1 k3 hb hi)
theorem PermI.mono {a b a' b' : Nat} {d e : Array α} (h : PermI a b d e) (ha : a' ≤ a) (hb : b ≤ b') : PermI a' b' d e := by
  obtain ⟨f, g, h1, h2, h3, h4⟩ := h
  exact ⟨f, g, h1, h2, fun k hk => h3 k (by omega), h4⟩
theorem PermI.out {a b : Nat} {d e : Array α} (h : PermI a b d e) {k : Nat} (hk : k < a ∨ b ≤ k) : e[k]! = d[k]! := by
  obtain ⟨f, g, _, _, h3, rfl⟩ := h
  by_cases hs : k < d.size
  · rw [pick_get _ _ hs, h3 k hk]
  · rw [getElem!_neg _ _ (by simpa using hs), getElem!_neg _ _ (by simpa using hs)]
theorem PermI.src {a b : Nat} {d e : Array α} (h : PermI a b d e) (hb : b ≤ d.size) {k : Nat} (ha : a ≤ k) (hk : k < b) : ∃ j, a ≤ j ∧ j < b ∧ e[k]! = d[j]! := by
  obtain ⟨f, g, h1, _, h3, rfl⟩ := h
  have := into h1 h3 ha hk
  exact ⟨f k, this.1, this.2, pick_get _ _ (by omega)⟩
theorem PermI.swp {a b i j : Nat} {d : Array α} (hi : a ≤ i) (hi' : i < b) (hj : a ≤ j) (hj' : j < b) (hb : b ≤ d.size) : PermI a b d (swp d i j) :=
  ⟨swI i j, swI i j, fun k => by unfold swI; (repeat' split) <;> omega, fun k => by unfold swI; (repeat' split) <;> omega, fun k hk => by unfold swI; (repeat' split) <;> omega, swp_pick d (by omega) (by omega)⟩
theorem PermI.rot {a m b : Nat} {d : Array α} (h1 : a ≤ m) (h2 : m ≤ b) : PermI a b d (rot d a m b) :=
  ⟨rotI a m b, rotI a (a + (b - m)) b, fun k => by unfold rotI; (repeat' split) <;> omega, fun k => by unfold rotI; (repeat' split) <;> omega, fun k hk => by unfold rotI; (repeat' split) <;> omega, rfl⟩
end Go.Proofs.Ytjaapdkhjgolfaa
